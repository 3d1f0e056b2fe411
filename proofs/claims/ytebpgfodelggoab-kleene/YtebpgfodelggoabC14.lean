import Derived.Test.YtebpgfodelggoabC12
import Derived.Test.YtebpgfodelggoabC04
import Derived.Test.YtebpgfodelggoabC13
import Derived.Test.YtebpgfodelggoabC10
import Derived.Test.YtebpgfodelggoabC11
set_option linter.unusedVariables false
set_option linter.unusedSimpArgs false
namespace Mt
theorem subs_end:∀ (r:Re) (p d:Int) (x:Ins),x∈r.code p d→x.op=11→x.y≤p+r.len
 | .eps,p,d,x,h,ho=>by simp [Re.code] at h
 | .one s,p,d,x,h,ho=>by simp [Re.code] at h;subst h;simp at ho
 | .back s,p,d,x,h,ho=>by simp [Re.code] at h;subst h;simp at ho
 | .head,p,d,x,h,ho=>by simp [Re.code] at h;subst h;simp at ho
 | .tail,p,d,x,h,ho=>by simp [Re.code] at h;subst h;simp at ho
 | .cat a b,p,d,x,h,ho=>by
  simp only [Re.code,List.mem_append,Re.len] at *
  rcases h with h | h
  ·have:=subs_end a _ _ x h ho;omega
  ·have:=subs_end b _ _ x h ho;omega
 | .alt a b,p,d,x,h,ho=>by
  simp only [Re.code,List.mem_append,List.mem_cons,Re.len] at *
  rcases h with rfl | h | rfl | h
  ·simp at ho
  ·have:=subs_end a _ _ x h ho;omega
  ·simp at ho
  ·have:=subs_end b _ _ x h ho;omega
 | .cap k a,p,d,x,h,ho=>by
  simp only [Re.code,List.mem_append,List.mem_cons,List.not_mem_nil,or_false,Re.len] at *
  rcases h with rfl | h | rfl
  ·simp at ho
  ·have:=subs_end a _ _ x h ho;omega
  ·simp at ho
 | .sub s a,p,d,x,h,ho=>by
  simp only [Re.code,List.mem_append,List.mem_cons,List.not_mem_nil,or_false,Re.len] at *
  rcases h with rfl | h | rfl
  ·dsimp only;omega
  ·have:=subs_end a _ _ x h ho;omega
  ·simp at ho
 | .opt late a,p,d,x,h,ho=>by
  simp only [Re.code,List.mem_cons,Re.len] at *
  rcases h with rfl | h
  ·cases late <;> simp [spl] at ho
  ·have:=subs_end a _ _ x h ho;omega
 | .loop late a,p,d,x,h,ho=>by
  simp only [Re.code,List.mem_append,List.mem_cons,List.not_mem_nil,or_false,Re.len] at *
  rcases h with rfl | rfl | h | rfl
  ·cases late <;> simp [spl] at ho
  ·simp at ho
  ·have:=subs_end a _ _ x h ho;omega
  ·simp at ho
def Nest (p:Int) (l:List Ins):Prop:=∀ (i j:Nat) (x y:Ins),i<j→l[i]?=some x→l[j]?=some y→x.op=11→y.op=11→p+j<x.y→y.y≤x.y
theorem nest_app {p:Int} {a b:List Ins} (ha:Nest p a) (hb:Nest (p+a.length) b) (he:∀ x∈a,x.op=11→x.y≤p+a.length):Nest p (a++b):=by
 intro i j x y hij hx hy ox oy hl
 rcases get_app hx with ⟨h1,h2⟩ | ⟨h1,h2⟩
 ·rcases get_app hy with ⟨g1,g2⟩ | ⟨g1,g2⟩
  ·exact ha i j x y hij h2 g2 ox oy hl
  ·have:=he x (List.mem_of_getElem? h2) ox;omega
 ·rcases get_app hy with ⟨g1,g2⟩ | ⟨g1,g2⟩
  ·omega
  ·exact hb _ _ x y (by omega) h2 g2 ox oy (by omega)
theorem nest_cons {p:Int} {c:Ins} {b:List Ins} (hb:Nest (p+1) b) (he:c.op=11→∀ y∈b,y.op=11→y.y≤c.y):Nest p (c::b):=by
 intro i j x y hij hx hy ox oy hl
 rcases get_cons hy with ⟨h1,h2⟩ | ⟨j',rfl,h2⟩
 ·omega
 rcases get_cons hx with ⟨g1,rfl⟩ | ⟨i',rfl,g2⟩
 ·exact he ox y (List.mem_of_getElem? h2) oy
 ·exact hb i' j' x y (by omega) g2 h2 ox oy (by omega)
theorem nest_none {p:Int} {c:Ins} (h:c.op≠11):Nest p [c]:=nest_cons (fun i j x y _ hx=>by simp at hx) (fun e=>absurd e h)
theorem code_nest:∀ (r:Re) (p d:Int),Nest p (r.code p d)
 | .eps,p,d=>fun i j x y _ hx=>by simp [Re.code] at hx
 | .one s,p,d=>nest_none (by simp)
 | .back s,p,d=>nest_none (by simp)
 | .head,p,d=>nest_none (by simp)
 | .tail,p,d=>nest_none (by simp)
 | .cat a b,p,d=>nest_app (code_nest a p d) (by rw [Re.code_len];exact code_nest b _ d) (by rw [Re.code_len];exact fun x hx ho=>subs_end a p d x hx ho)
 | .alt a b,p,d=>nest_cons (nest_app (code_nest a _ d) (nest_cons (by rw [Re.code_len,show p+1+(a.len:Int)+1=p+a.len+2 by omega];exact code_nest b _ d) (fun e=>by simp at e)) (by rw [Re.code_len];exact fun x hx ho=>subs_end a _ d x hx ho)) (fun e=>by simp at e)
 | .cap k a,p,d=>nest_cons (nest_app (code_nest a _ d) (nest_none (by simp)) (by rw [Re.code_len];exact fun x hx ho=>subs_end a _ d x hx ho)) (fun e=>by simp at e)
 | .sub s a,p,d=>nest_cons (nest_app (code_nest a _ d) (nest_none (by simp)) (by rw [Re.code_len];exact fun x hx ho=>subs_end a _ d x hx ho)) (fun _ y hy oy=>by
   rcases List.mem_append.1 hy with hy | hy
   ·have:=subs_end a _ d y hy oy;dsimp only;omega
   ·simp at hy;subst hy;simp at oy)
 | .opt late a,p,d=>nest_cons (code_nest a _ d) (fun e=>by cases late <;> simp [spl] at e)
 | .loop late a,p,d=>nest_cons (nest_cons (by rw [show p+1+1=p+2 by omega];exact nest_app (code_nest a _ _) (nest_none (by simp)) (by rw [Re.code_len];exact fun x hx ho=>subs_end a _ _ x hx ho)) (fun e=>by simp at e)) (fun e=>by cases late <;> simp [spl] at e)
def bh (c:List Ins):Nat→Int
 | 0=>0
 | i+1=>if (i:Int)<bh c i then bh c i else if (c.getD i ins0).op=11 then (c.getD i ins0).y else bh c i
theorem bh_from (c:List Ins):∀ i,bh c i=0∨∃ j,j<i∧(c.getD j ins0).op=11∧bh c i=(c.getD j ins0).y
 | 0=>.inl rfl
 | i+1=>by
  have ih:=bh_from c i
  unfold bh
  split
  ·rcases ih with h | ⟨j,h1,h2⟩
   ·exact .inl h
   ·exact .inr ⟨j,by omega,h2⟩
  split
  ·rename_i h;exact .inr ⟨i,by omega,h,rfl⟩
  ·rcases ih with h | ⟨j,h1,h2⟩
   ·exact .inl h
   ·exact .inr ⟨j,by omega,h2⟩
theorem bh_to (c:List Ins) (hN:Nest 0 c):∀ i,i≤c.length→∀ j,j<i→(c.getD j ins0).op=11→(i:Int)<(c.getD j ins0).y→(c.getD j ins0).y≤bh c i
 | 0,_,j,h,_,_=>by omega
 | i+1,hi,j,hj,ho,hy=>by
  by_cases hji:j<i
  ·have:=bh_to c hN i (by omega) j hji ho (by omega)
   rw [bh,if_pos (by omega)];exact this
  ·have e:j=i:=by omega
   subst e
   rw [bh]
   split
   ·rename_i hb
    rcases bh_from c j with h | ⟨k,h1,h2,h3⟩
    ·omega
    ·rw [h3] at hb ⊢
     refine hN k j _ _ h1 (by rw [List.getD_eq_getElem?_getD,List.getElem?_eq_getElem (show k<c.length by omega)];rfl) (by rw [List.getD_eq_getElem?_getD,List.getElem?_eq_getElem (show j<c.length by omega)];rfl) h2 ho (by omega)
   ·first | exact Int.le_refl _ | (rw [if_pos ho];exact Int.le_refl _)
theorem bh_inSub (c:List Ins) (hN:Nest 0 c) (i:Nat) (hi:i<c.length):decide ((i:Int)<bh c i)=inSub c i:=by
 unfold inSub
 rw [Bool.eq_iff_iff]
 simp only [decide_eq_true_eq,List.any_eq_true,isOver]
 constructor
 ·intro h
  rcases bh_from c i with h0 | ⟨j,h1,h2,h3⟩
  ·omega
  ·refine ⟨c.getD j ins0,?_,h2,by omega⟩
   rw [List.getD_eq_getElem?_getD,List.getElem?_eq_getElem (show j<c.length by omega)]
   simp only [Option.getD_some]
   rw [List.mem_take_iff_getElem]
   exact ⟨j,by omega,rfl⟩
 ·rintro ⟨x,hx,ho,hy⟩
  rw [List.mem_take_iff_getElem] at hx
  obtain ⟨j,hj,rfl⟩:=hx
  have e:c.getD j ins0=c[j]:=by rw [List.getD_eq_getElem?_getD,List.getElem?_eq_getElem (show j<c.length by omega)];rfl
  have:=bh_to c hN i (by omega) j (by omega) (by rw [e];exact ho) (by rw [e];exact hy)
  rw [e] at this;omega
theorem pattern_nest (p:ByteArray) (h:(checkR p).1=0):Nest 0 (codeR p).1:=by
 obtain ⟨f,_,_,_,_,_,hc,_⟩:=pattern_tree p h
 rw [hc]
 refine nest_app (code_nest f.re 0 0) (nest_none (by simp)) ?_
 rw [Re.code_len];exact fun x hx ho=>subs_end f.re 0 0 x hx ho
def Fwd (q:Int) (x:Ins):Prop:=(x.op=2→q<x.x∧q<x.y)∧(x.op=3→q<x.x)∧(x.op=11→q<x.y)
theorem Fwd.at {q q':Int} {x:Ins} (h:Fwd q x) (e:q=q'):Fwd q' x:=e ▸ h
def SubAt (l:List Ins) (p:Int) (i:Nat):Prop:=∃ (j:Nat) (x:Ins),j<i∧l[j]?=some x∧x.op=11∧p+i<x.y
theorem SubAt.cons {l:List Ins} {p q:Int} {i:Nat} (c:Ins) (h:SubAt l q i) (e:q=p+1):SubAt (c::l) p (i+1):=by
 obtain ⟨j,x,h1,h2,h3,h4⟩:=h
 exact ⟨j+1,x,by omega,by rw [List.getElem?_cons_succ];exact h2,h3,by omega⟩
theorem SubAt.left {l:List Ins} {p:Int} {i:Nat} (m:List Ins) (h:SubAt l p i):SubAt (l++m) p i:=by
 obtain ⟨j,x,h1,h2,h3,h4⟩:=h
 exact ⟨j,x,h1,by rw [List.getElem?_append_left (List.getElem?_eq_some_iff.1 h2).1];exact h2,h3,h4⟩
theorem SubAt.right {m:List Ins} {p q:Int} {i:Nat} (l:List Ins) (h:SubAt m q i) (e:q=p+l.length):SubAt (l++m) p (l.length+i):=by
 obtain ⟨j,x,h1,h2,h3,h4⟩:=h
 exact ⟨l.length+j,x,by omega,by rw [List.getElem?_append_right (by omega),Nat.add_sub_cancel_left];exact h2,h3,by omega⟩
structure Kn (c:List Ins) (A:Int→Att):Prop where
 k:Known c A
 fwd:∀ q,q+1<c.length→Fwd q (c.getD q ins0)
 suby:∀ q:Nat,q<c.length→inSub c q=false→(A q).y=0
theorem gt_pc {s:Sta} {v:Int} {j:Nat} (h:j≠0):gt (s.set 0 v) j=gt s j:=gt_set_ne _ _ _ _ (by omega)
theorem gt_pc0 {s:Sta} {v:Int} (h:s.length=44):gt (s.set 0 v) 0=v:=gt_set_same _ _ _ (by omega)
def cnt (k:Nat) (s:Sta):Nat:=(List.range k).countP fun j=>gt s (32+j) != gt s 1
theorem cnt_succ (k:Nat) (s:Sta):cnt (k+1) s=cnt k s+if gt s (32+k) != gt s 1 then 1 else 0:=by
 unfold cnt;rw [List.range_succ,List.countP_append];simp [List.countP_cons]
theorem cnt_level (k:Nat) (s:Sta):levelTo s k+cnt k s=k:=by
 induction k with
 | zero=>rfl
 | succ k ih =>
  rw [levelTo_next,cnt_succ]
  by_cases e:gt s (32+k)=gt s 1
  ·simp [e];omega
  ·simp [e];omega
structure Nice (E:Env) (A:Int→Att) (s:Sta):Prop where
 g:Good E.c.length E.t.size s
 le:∀ j:Nat,(j:Int)<(A (gt s 0)).d→gt s (32+j)≤gt s 1
 mono:∀ i j:Nat,i≤j→(j:Int)<(A (gt s 0)).d→gt s (32+i)≤gt s (32+j)
def mOf (A:Int→Att) (s:Sta):Nat:=cnt (A (gt s 0)).d.toNat s
def mu (E:Env) (A:Int→Att) (s:Sta):Nat:=((E.t.size-posOf s)*13+mOf A s)*(E.c.length+1)+(E.c.length-pcOf s)
theorem Kn.dOk {c:List Ins} {A:Int→Att} (hK:Kn c A) {q:Int} (h0:0≤q) (h1:q<c.length):0≤(A q).d∧(A q).d≤11:=by
 obtain ⟨n,rfl⟩:∃ n:Nat,q=n:=⟨q.toNat,by omega⟩
 by_cases h:n+1<c.length
 ·exact (hK.k.rule n h).2.2.2.2.2.2.2.2.2.2.1
 ·have:((n:Nat):Int)=((c.length-1:Nat):Int):=by omega
  rw [this,hK.k.stop];decide
def Ended (E:Env) (A:Int→Att) (s r:Sta):Prop:=Nice E A r∧gt s 1≤gt r 1∧(gt r 1=gt s 1→∀ j,j<12→gt s (32+j)=gt s 1→gt r (32+j)=gt s 1)
variable {E:Env} {A:Int→Att}
theorem Ended.trans {s u r:Sta} (h1:Ended E A s u) (h2:Ended E A u r):Ended E A s r:=by
 obtain ⟨a1,a2,a3⟩:=h1
 obtain ⟨b1,b2,b3⟩:=h2
 refine ⟨b1,by omega,fun e j hj ee=>?_⟩
 have:=a3 (by omega) j hj ee
 have:=b3 (by omega) j hj (by omega)
 omega
theorem Nice.ended {s:Sta} (h:Nice E A s):Ended E A s s:=⟨h,Int.le_refl _,fun _ j _ e=>e⟩
end Mt
