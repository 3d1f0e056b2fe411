import Derived.Test.YtebpgfodelggoabGreatC28
import Derived.Test.YtebpgfodelggoabGreatC11
set_option linter.unusedVariables false
set_option linter.unusedSimpArgs false
namespace Mt
theorem vN:∀ (r:Re) (p d:Int) (x:Ins),x∈r.code p d→x.op=11→x.y≤p+r.len
 | .eps,p,d,x,h,ho=>by simp [Re.code] at h
 | .one s,p,d,x,h,ho=>by simp [Re.code] at h;subst h;simp at ho
 | .back s,p,d,x,h,ho=>by simp [Re.code] at h;subst h;simp at ho
 | .head,p,d,x,h,ho=>by simp [Re.code] at h;subst h;simp at ho
 | .tail,p,d,x,h,ho=>by simp [Re.code] at h;subst h;simp at ho
 | .cat a b,p,d,x,h,ho=>by
  simp only [Re.code,List.mem_append,Re.len] at *
  rcases h with h | h
  ·have:=vN a _ _ x h ho;omega
  ·have:=vN b _ _ x h ho;omega
 | .alt a b,p,d,x,h,ho=>by
  simp only [Re.code,List.mem_append,List.mem_cons,Re.len] at *
  rcases h with rfl | h | rfl | h
  ·simp at ho
  ·have:=vN a _ _ x h ho;omega
  ·simp at ho
  ·have:=vN b _ _ x h ho;omega
 | .cap k a,p,d,x,h,ho=>by
  simp only [Re.code,List.mem_append,List.mem_cons,List.not_mem_nil,or_false,Re.len] at *
  rcases h with rfl | h | rfl
  ·simp at ho
  ·have:=vN a _ _ x h ho;omega
  ·simp at ho
 | .sub s a,p,d,x,h,ho=>by
  simp only [Re.code,List.mem_append,List.mem_cons,List.not_mem_nil,or_false,Re.len] at *
  rcases h with rfl | h | rfl
  ·dsimp only;omega
  ·have:=vN a _ _ x h ho;omega
  ·simp at ho
 | .opt late a,p,d,x,h,ho=>by
  simp only [Re.code,List.mem_cons,Re.len] at *
  rcases h with rfl | h
  ·cases late <;> simp [spl] at ho
  ·have:=vN a _ _ x h ho;omega
 | .loop late a,p,d,x,h,ho=>by
  simp only [Re.code,List.mem_append,List.mem_cons,List.not_mem_nil,or_false,Re.len] at *
  rcases h with rfl | rfl | h | rfl
  ·cases late <;> simp [spl] at ho
  ·simp at ho
  ·have:=vN a _ _ x h ho;omega
  ·simp at ho
def zL8 (p:Int) (l:List Ins):Prop:=∀ (i j:Nat) (x y:Ins),i<j→l[i]?=some x→l[j]?=some y→x.op=11→y.op=11→p+j<x.y→y.y≤x.y
theorem zCW {p:Int} {a b:List Ins} (ha:zL8 p a) (hb:zL8 (p+a.length) b) (he:∀ x∈a,x.op=11→x.y≤p+a.length):zL8 p (a++b):=by
 intro i j x y hij hx hy ox oy hl
 rcases zCz hx with ⟨h1,h2⟩ | ⟨h1,h2⟩
 ·rcases zCz hy with ⟨g1,g2⟩ | ⟨g1,g2⟩
  ·exact ha i j x y hij h2 g2 ox oy hl
  ·have:=he x (List.mem_of_getElem? h2) ox;omega
 ·rcases zCz hy with ⟨g1,g2⟩ | ⟨g1,g2⟩
  ·omega
  ·exact hb _ _ x y (by omega) h2 g2 ox oy (by omega)
theorem zAY {p:Int} {c:Ins} {b:List Ins} (hb:zL8 (p+1) b) (he:c.op=11→∀ y∈b,y.op=11→y.y≤c.y):zL8 p (c::b):=by
 intro i j x y hij hx hy ox oy hl
 rcases yZ hy with ⟨h1,h2⟩ | ⟨j',rfl,h2⟩
 ·omega
 rcases yZ hx with ⟨g1,rfl⟩ | ⟨i',rfl,g2⟩
 ·exact he ox y (List.mem_of_getElem? h2) oy
 ·exact hb i' j' x y (by omega) g2 h2 ox oy (by omega)
theorem zAZ {p:Int} {c:Ins} (h:c.op≠11):zL8 p [c]:=zAY (fun i j x y _ hx=>by simp at hx) (fun e=>absurd e h)
theorem zAE:∀ (r:Re) (p d:Int),zL8 p (r.code p d)
 | .eps,p,d=>fun i j x y _ hx=>by simp [Re.code] at hx
 | .one s,p,d=>zAZ (by simp)
 | .back s,p,d=>zAZ (by simp)
 | .head,p,d=>zAZ (by simp)
 | .tail,p,d=>zAZ (by simp)
 | .cat a b,p,d=>zCW (zAE a p d) (by rw [Re.zH];exact zAE b _ d) (by rw [Re.zH];exact fun x hx ho=>vN a p d x hx ho)
 | .alt a b,p,d=>zAY (zCW (zAE a _ d) (zAY (by rw [Re.zH,show p+1+(a.len:Int)+1=p+a.len+2 by omega];exact zAE b _ d) (fun e=>by simp at e)) (by rw [Re.zH];exact fun x hx ho=>vN a _ d x hx ho)) (fun e=>by simp at e)
 | .cap k a,p,d=>zAY (zCW (zAE a _ d) (zAZ (by simp)) (by rw [Re.zH];exact fun x hx ho=>vN a _ d x hx ho)) (fun e=>by simp at e)
 | .sub s a,p,d=>zAY (zCW (zAE a _ d) (zAZ (by simp)) (by rw [Re.zH];exact fun x hx ho=>vN a _ d x hx ho)) (fun _ y hy oy=>by
   rcases List.mem_append.1 hy with hy | hy
   ·have:=vN a _ d y hy oy;dsimp only;omega
   ·simp at hy;subst hy;simp at oy)
 | .opt late a,p,d=>zAY (zAE a _ d) (fun e=>by cases late <;> simp [spl] at e)
 | .loop late a,p,d=>zAY (zAY (by rw [show p+1+1=p+2 by omega];exact zCW (zAE a _ _) (zAZ (by simp)) (by rw [Re.zH];exact fun x hx ho=>vN a _ _ x hx ho)) (fun e=>by simp at e)) (fun e=>by cases late <;> simp [spl] at e)
def bh (c:List Ins):Nat→Int
 | 0=>0
 | i+1=>if (i:Int)<bh c i then bh c i else if (c.getD i jB).op=11 then (c.getD i jB).y else bh c i
theorem zKb (c:List Ins):∀ i,bh c i=0∨∃ j,j<i∧(c.getD j jB).op=11∧bh c i=(c.getD j jB).y
 | 0=>.inl rfl
 | i+1=>by
  have ih:=zKb c i
  unfold bh
  split
  ·rcases ih with h | ⟨j,h1,h2⟩
   ·exact .inl h
   ·exact .inr ⟨j,by omega,h2⟩
  split
  ·rename_i h;exact .inr ⟨i,by omega,h,rfl⟩
  ·rcases ih with h | ⟨j,h1,h2⟩
   ·exact .inl h
   ·exact .inr ⟨j,by omega,h2⟩
theorem zSv (c:List Ins) (hN:zL8 0 c):∀ i,i≤c.length→∀ j,j<i→(c.getD j jB).op=11→(i:Int)<(c.getD j jB).y→(c.getD j jB).y≤bh c i
 | 0,_,j,h,_,_=>by omega
 | i+1,hi,j,hj,ho,hy=>by
  by_cases hji:j<i
  ·have:=zSv c hN i (by omega) j hji ho (by omega)
   rw [bh,if_pos (by omega)];exact this
  ·have e:j=i:=by omega
   subst e
   rw [bh]
   split
   ·rename_i hb
    rcases zKb c j with h | ⟨k,h1,h2,h3⟩
    ·omega
    ·rw [h3] at hb ⊢
     refine hN k j _ _ h1 (by rw [List.getD_eq_getElem?_getD,List.getElem?_eq_getElem (show k<c.length by omega)];rfl) (by rw [List.getD_eq_getElem?_getD,List.getElem?_eq_getElem (show j<c.length by omega)];rfl) h2 ho (by omega)
   ·first | exact Int.le_refl _ | (rw [if_pos ho];exact Int.le_refl _)
theorem zPV (c:List Ins) (hN:zL8 0 c) (i:Nat) (hi:i<c.length):decide ((i:Int)<bh c i)=zEE c i:=by
 unfold zEE
 rw [Bool.eq_iff_iff]
 simp only [decide_eq_true_eq,List.any_eq_true,zBp]
 constructor
 ·intro h
  rcases zKb c i with h0 | ⟨j,h1,h2,h3⟩
  ·omega
  ·refine ⟨c.getD j jB,?_,h2,by omega⟩
   rw [List.getD_eq_getElem?_getD,List.getElem?_eq_getElem (show j<c.length by omega)]
   simp only [Option.getD_some]
   rw [List.mem_take_iff_getElem]
   exact ⟨j,by omega,rfl⟩
 ·rintro ⟨x,hx,ho,hy⟩
  rw [List.mem_take_iff_getElem] at hx
  obtain ⟨j,hj,rfl⟩:=hx
  have e:c.getD j jB=c[j]:=by rw [List.getD_eq_getElem?_getD,List.getElem?_eq_getElem (show j<c.length by omega)];rfl
  have:=zSv c hN i (by omega) j (by omega) (by rw [e];exact ho) (by rw [e];exact hy)
  rw [e] at this;omega
theorem zI3 (p:ByteArray) (h:(jQ p).1=0):zL8 0 (kR p).1:=by
 obtain ⟨f,_,_,_,_,_,hc,_⟩:=zBt p h
 rw [hc]
 refine zCW (zAE f.re 0 0) (zAZ (by simp)) ?_
 rw [Re.zH];exact fun x hx ho=>vN f.re 0 0 x hx ho
end Mt
