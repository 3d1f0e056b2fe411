import Derived.Test.YtebpgfodelggoaaGreatDoorC15
import Derived.Test.YtebpgfodelggoaaGreatDoorC04
set_option linter.unusedVariables false
set_option linter.unusedSimpArgs false
namespace Mt
theorem subs_end:∀ (r:Re) (p d:Int) (x:Ins),x∈r.code p d→x.op=11→x.y≤p+r.len
 | .eps,p,d,x,h,ho=>by simp [Re.code] at h
 | .one s,p,d,x,h,ho=>by simp [Re.code] at h;subst h;simp at ho
 | .back s,p,d,x,h,ho=>by simp [Re.code] at h;subst h;simp at ho
 | .head,p,d,x,h,ho=>by simp [Re.code] at h;subst h;simp at ho
 | .tail,p,d,x,h,ho=>by simp [Re.code] at h;subst h;simp at ho
 | .cat a b,p,d,x,h,ho=>by
  simp only [Re.code,List.mem_append,Re.len] at *
  rcases h with h | h
  ·have:=subs_end a _ _ x h ho;omega
  ·have:=subs_end b _ _ x h ho;omega
 | .alt a b,p,d,x,h,ho=>by
  simp only [Re.code,List.mem_append,List.mem_cons,Re.len] at *
  rcases h with rfl | h | rfl | h
  ·simp at ho
  ·have:=subs_end a _ _ x h ho;omega
  ·simp at ho
  ·have:=subs_end b _ _ x h ho;omega
 | .cap k a,p,d,x,h,ho=>by
  simp only [Re.code,List.mem_append,List.mem_cons,List.not_mem_nil,or_false,Re.len] at *
  rcases h with rfl | h | rfl
  ·simp at ho
  ·have:=subs_end a _ _ x h ho;omega
  ·simp at ho
 | .sub s a,p,d,x,h,ho=>by
  simp only [Re.code,List.mem_append,List.mem_cons,List.not_mem_nil,or_false,Re.len] at *
  rcases h with rfl | h | rfl
  ·dsimp only;omega
  ·have:=subs_end a _ _ x h ho;omega
  ·simp at ho
 | .opt late a,p,d,x,h,ho=>by
  simp only [Re.code,List.mem_cons,Re.len] at *
  rcases h with rfl | h
  ·cases late <;> simp [spl] at ho
  ·have:=subs_end a _ _ x h ho;omega
 | .loop late a,p,d,x,h,ho=>by
  simp only [Re.code,List.mem_append,List.mem_cons,List.not_mem_nil,or_false,Re.len] at *
  rcases h with rfl | rfl | h | rfl
  ·cases late <;> simp [spl] at ho
  ·simp at ho
  ·have:=subs_end a _ _ x h ho;omega
  ·simp at ho
def Nest (p:Int) (l:List Ins):Prop:=∀ (i j:Nat) (x y:Ins),i<j→l[i]?=some x→l[j]?=some y→x.op=11→y.op=11→p+j<x.y→y.y≤x.y
theorem nest_app {p:Int} {a b:List Ins} (ha:Nest p a) (hb:Nest (p+a.length) b) (he:∀ x∈a,x.op=11→x.y≤p+a.length):Nest p (a++b):=by
 intro i j x y hij hx hy ox oy hl
 rcases get_app hx with ⟨h1,h2⟩ | ⟨h1,h2⟩
 ·rcases get_app hy with ⟨g1,g2⟩ | ⟨g1,g2⟩
  ·exact ha i j x y hij h2 g2 ox oy hl
  ·have:=he x (List.mem_of_getElem? h2) ox;omega
 ·rcases get_app hy with ⟨g1,g2⟩ | ⟨g1,g2⟩
  ·omega
  ·exact hb _ _ x y (by omega) h2 g2 ox oy (by omega)
theorem nest_cons {p:Int} {c:Ins} {b:List Ins} (hb:Nest (p+1) b) (he:c.op=11→∀ y∈b,y.op=11→y.y≤c.y):Nest p (c::b):=by
 intro i j x y hij hx hy ox oy hl
 rcases get_cons hy with ⟨h1,h2⟩ | ⟨j',rfl,h2⟩
 ·omega
 rcases get_cons hx with ⟨g1,rfl⟩ | ⟨i',rfl,g2⟩
 ·exact he ox y (List.mem_of_getElem? h2) oy
 ·exact hb i' j' x y (by omega) g2 h2 ox oy (by omega)
theorem nest_none {p:Int} {c:Ins} (h:c.op≠11):Nest p [c]:=nest_cons (fun i j x y _ hx=>by simp at hx) (fun e=>absurd e h)
theorem code_nest:∀ (r:Re) (p d:Int),Nest p (r.code p d)
 | .eps,p,d=>fun i j x y _ hx=>by simp [Re.code] at hx
 | .one s,p,d=>nest_none (by simp)
 | .back s,p,d=>nest_none (by simp)
 | .head,p,d=>nest_none (by simp)
 | .tail,p,d=>nest_none (by simp)
 | .cat a b,p,d=>nest_app (code_nest a p d) (by rw [Re.code_len];exact code_nest b _ d) (by rw [Re.code_len];exact fun x hx ho=>subs_end a p d x hx ho)
 | .alt a b,p,d=>nest_cons (nest_app (code_nest a _ d) (nest_cons (by rw [Re.code_len,show p+1+(a.len:Int)+1=p+a.len+2 by omega];exact code_nest b _ d) (fun e=>by simp at e)) (by rw [Re.code_len];exact fun x hx ho=>subs_end a _ d x hx ho)) (fun e=>by simp at e)
 | .cap k a,p,d=>nest_cons (nest_app (code_nest a _ d) (nest_none (by simp)) (by rw [Re.code_len];exact fun x hx ho=>subs_end a _ d x hx ho)) (fun e=>by simp at e)
 | .sub s a,p,d=>nest_cons (nest_app (code_nest a _ d) (nest_none (by simp)) (by rw [Re.code_len];exact fun x hx ho=>subs_end a _ d x hx ho)) (fun _ y hy oy=>by
   rcases List.mem_append.1 hy with hy | hy
   ·have:=subs_end a _ d y hy oy;dsimp only;omega
   ·simp at hy;subst hy;simp at oy)
 | .opt late a,p,d=>nest_cons (code_nest a _ d) (fun e=>by cases late <;> simp [spl] at e)
 | .loop late a,p,d=>nest_cons (nest_cons (by rw [show p+1+1=p+2 by omega];exact nest_app (code_nest a _ _) (nest_none (by simp)) (by rw [Re.code_len];exact fun x hx ho=>subs_end a _ _ x hx ho)) (fun e=>by simp at e)) (fun e=>by cases late <;> simp [spl] at e)
def bh (c:List Ins):Nat→Int
 | 0=>0
 | i+1=>if (i:Int)<bh c i then bh c i else if (c.getD i ins0).op=11 then (c.getD i ins0).y else bh c i
theorem bh_from (c:List Ins):∀ i,bh c i=0∨∃ j,j<i∧(c.getD j ins0).op=11∧bh c i=(c.getD j ins0).y
 | 0=>.inl rfl
 | i+1=>by
  have ih:=bh_from c i
  unfold bh
  split
  ·rcases ih with h | ⟨j,h1,h2⟩
   ·exact .inl h
   ·exact .inr ⟨j,by omega,h2⟩
  split
  ·rename_i h;exact .inr ⟨i,by omega,h,rfl⟩
  ·rcases ih with h | ⟨j,h1,h2⟩
   ·exact .inl h
   ·exact .inr ⟨j,by omega,h2⟩
theorem bh_to (c:List Ins) (hN:Nest 0 c):∀ i,i≤c.length→∀ j,j<i→(c.getD j ins0).op=11→(i:Int)<(c.getD j ins0).y→(c.getD j ins0).y≤bh c i
 | 0,_,j,h,_,_=>by omega
 | i+1,hi,j,hj,ho,hy=>by
  by_cases hji:j<i
  ·have:=bh_to c hN i (by omega) j hji ho (by omega)
   rw [bh,if_pos (by omega)];exact this
  ·have e:j=i:=by omega
   subst e
   rw [bh]
   split
   ·rename_i hb
    rcases bh_from c j with h | ⟨k,h1,h2,h3⟩
    ·omega
    ·rw [h3] at hb ⊢
     refine hN k j _ _ h1 (by rw [List.getD_eq_getElem?_getD,List.getElem?_eq_getElem (show k<c.length by omega)];rfl) (by rw [List.getD_eq_getElem?_getD,List.getElem?_eq_getElem (show j<c.length by omega)];rfl) h2 ho (by omega)
   ·first | exact Int.le_refl _ | (rw [if_pos ho];exact Int.le_refl _)
theorem bh_inSub (c:List Ins) (hN:Nest 0 c) (i:Nat) (hi:i<c.length):decide ((i:Int)<bh c i)=inSub c i:=by
 unfold inSub
 rw [Bool.eq_iff_iff]
 simp only [decide_eq_true_eq,List.any_eq_true,isOver]
 constructor
 ·intro h
  rcases bh_from c i with h0 | ⟨j,h1,h2,h3⟩
  ·omega
  ·refine ⟨c.getD j ins0,?_,h2,by omega⟩
   rw [List.getD_eq_getElem?_getD,List.getElem?_eq_getElem (show j<c.length by omega)]
   simp only [Option.getD_some]
   rw [List.mem_take_iff_getElem]
   exact ⟨j,by omega,rfl⟩
 ·rintro ⟨x,hx,ho,hy⟩
  rw [List.mem_take_iff_getElem] at hx
  obtain ⟨j,hj,rfl⟩:=hx
  have e:c.getD j ins0=c[j]:=by rw [List.getD_eq_getElem?_getD,List.getElem?_eq_getElem (show j<c.length by omega)];rfl
  have:=bh_to c hN i (by omega) j (by omega) (by rw [e];exact ho) (by rw [e];exact hy)
  rw [e] at this;omega
theorem pattern_nest (p:ByteArray) (h:(checkR p).1=0):Nest 0 (codeR p).1:=by
 obtain ⟨f,_,_,_,_,_,hc,_⟩:=pattern_tree p h
 rw [hc]
 refine nest_app (code_nest f.re 0 0) (nest_none (by simp)) ?_
 rw [Re.code_len];exact fun x hx ho=>subs_end f.re 0 0 x hx ho
def Fwd (q:Int) (x:Ins):Prop:=(x.op=2→q<x.x∧q<x.y)∧(x.op=3→q<x.x)∧(x.op=11→q<x.y)
theorem fwd_none {q:Int} {x:Ins} (h:x.op≠2∧x.op≠3∧x.op≠11):Fwd q x:=⟨fun e=>absurd e h.1,fun e=>absurd e h.2.1,fun e=>absurd e h.2.2⟩
theorem fwd_spl {q x y:Int} {late:Bool} (h:q<x∧q<y):Fwd q (spl x y late):=by
 cases late
 ·exact ⟨fun _=>h,fun e=>by simp [spl] at e,fun e=>by simp [spl] at e⟩
 ·exact ⟨fun _=>⟨h.2,h.1⟩,fun e=>by simp [spl] at e,fun e=>by simp [spl] at e⟩
theorem Fwd.at {q q':Int} {x:Ins} (h:Fwd q x) (e:q=q'):Fwd q' x:=e ▸ h
theorem code_fwd:∀ (r:Re) (p d:Int) (i:Nat) (x:Ins),(r.code p d)[i]?=some x→Fwd (p+i) x
 | .eps,p,d,i,x,h=>by simp [Re.code] at h
 | .one s,p,d,i,x,h=>by
  rcases get_cons h with ⟨rfl,rfl⟩ | ⟨j,rfl,h2⟩
  ·exact fwd_none (by simp)
  ·simp at h2
 | .back s,p,d,i,x,h=>by
  rcases get_cons h with ⟨rfl,rfl⟩ | ⟨j,rfl,h2⟩
  ·exact fwd_none (by simp)
  ·simp at h2
 | .head,p,d,i,x,h=>by
  rcases get_cons h with ⟨rfl,rfl⟩ | ⟨j,rfl,h2⟩
  ·exact fwd_none (by simp)
  ·simp at h2
 | .tail,p,d,i,x,h=>by
  rcases get_cons h with ⟨rfl,rfl⟩ | ⟨j,rfl,h2⟩
  ·exact fwd_none (by simp)
  ·simp at h2
 | .cat a b,p,d,i,x,h=>by
  rcases get_app h with ⟨_,h⟩ | ⟨hl,h⟩
  ·exact code_fwd a _ _ _ x h
  ·rw [Re.code_len] at h hl;exact (code_fwd b _ _ _ x h).at (by omega)
 | .alt a b,p,d,i,x,h=>by
  rcases get_cons h with ⟨rfl,rfl⟩ | ⟨j,rfl,h⟩
  ·exact ⟨fun _=>by dsimp only;omega,fun e=>by simp at e,fun e=>by simp at e⟩
  rcases get_app h with ⟨_,h⟩ | ⟨hl,h⟩
  ·exact (code_fwd a _ _ _ x h).at (by omega)
  rw [Re.code_len] at h hl
  rcases get_cons h with ⟨e,rfl⟩ | ⟨k,e,h⟩
  ·exact ⟨fun e=>by simp at e,fun _=>by dsimp only;omega,fun e=>by simp at e⟩
  ·exact (code_fwd b _ _ _ x h).at (by omega)
 | .cap k a,p,d,i,x,h=>by
  rcases get_cons h with ⟨rfl,rfl⟩ | ⟨j,rfl,h⟩
  ·exact fwd_none (by simp)
  rcases get_app h with ⟨_,h⟩ | ⟨hl,h⟩
  ·exact (code_fwd a _ _ _ x h).at (by omega)
  rcases get_cons h with ⟨e,rfl⟩ | ⟨k,e,h⟩
  ·exact fwd_none (by simp)
  ·simp at h
 | .sub s a,p,d,i,x,h=>by
  rcases get_cons h with ⟨rfl,rfl⟩ | ⟨j,rfl,h⟩
  ·exact ⟨fun e=>by simp at e,fun e=>by simp at e,fun _=>by dsimp only;omega⟩
  rcases get_app h with ⟨_,h⟩ | ⟨hl,h⟩
  ·exact (code_fwd a _ _ _ x h).at (by omega)
  rcases get_cons h with ⟨e,rfl⟩ | ⟨k,e,h⟩
  ·exact fwd_none (by simp)
  ·simp at h
 | .opt late a,p,d,i,x,h=>by
  rcases get_cons h with ⟨rfl,rfl⟩ | ⟨j,rfl,h⟩
  ·exact fwd_spl (by omega)
  ·exact (code_fwd a _ _ _ x h).at (by omega)
 | .loop late a,p,d,i,x,h=>by
  rcases get_cons h with ⟨rfl,rfl⟩ | ⟨j,rfl,h2⟩
  ·exact fwd_spl (by omega)
  rcases get_cons h2 with ⟨rfl,rfl⟩ | ⟨k,rfl,h3⟩
  ·exact fwd_none (by simp)
  rcases get_app h3 with ⟨_,h4⟩ | ⟨hl,h4⟩
  ·exact (code_fwd a _ _ _ x h4).at (by omega)
  rcases get_cons h4 with ⟨e,rfl⟩ | ⟨k,e,h5⟩
  ·exact fwd_none (by simp)
  ·simp at h5
def SubAt (l:List Ins) (p:Int) (i:Nat):Prop:=∃ (j:Nat) (x:Ins),j<i∧l[j]?=some x∧x.op=11∧p+i<x.y
theorem SubAt.cons {l:List Ins} {p q:Int} {i:Nat} (c:Ins) (h:SubAt l q i) (e:q=p+1):SubAt (c::l) p (i+1):=by
 obtain ⟨j,x,h1,h2,h3,h4⟩:=h
 exact ⟨j+1,x,by omega,by rw [List.getElem?_cons_succ];exact h2,h3,by omega⟩
theorem SubAt.left {l:List Ins} {p:Int} {i:Nat} (m:List Ins) (h:SubAt l p i):SubAt (l++m) p i:=by
 obtain ⟨j,x,h1,h2,h3,h4⟩:=h
 exact ⟨j,x,h1,by rw [List.getElem?_append_left (List.getElem?_eq_some_iff.1 h2).1];exact h2,h3,h4⟩
theorem SubAt.right {m:List Ins} {p q:Int} {i:Nat} (l:List Ins) (h:SubAt m q i) (e:q=p+l.length):SubAt (l++m) p (l.length+i):=by
 obtain ⟨j,x,h1,h2,h3,h4⟩:=h
 exact ⟨l.length+j,x,by omega,by rw [List.getElem?_append_right (by omega),Nat.add_sub_cancel_left];exact h2,h3,by omega⟩
theorem lies_y (A:Int→Att):∀ (r:Re) (p d:Int) (a:Att),Lies A r p a→∀ i:Nat,i<r.len→(A (p+i)).y=a.y∨SubAt (r.code p d) p i
 | .eps,p,d,a,h,i,hi=>by simp [Re.len] at hi
 | .one s,p,d,a,h,i,hi=>by
  obtain rfl:i=0:=by simp [Re.len] at hi;exact hi
  rw [show p+((0:Nat):Int)=p by omega,h.1];exact .inl rfl
 | .back s,p,d,a,h,i,hi=>by
  obtain rfl:i=0:=by simp [Re.len] at hi;exact hi
  rw [show p+((0:Nat):Int)=p by omega,h.1];exact .inl rfl
 | .head,p,d,a,h,i,hi=>by
  obtain rfl:i=0:=by simp [Re.len] at hi;exact hi
  rw [show p+((0:Nat):Int)=p by omega,h.1];exact .inl rfl
 | .tail,p,d,a,h,i,hi=>by
  obtain rfl:i=0:=by simp [Re.len] at hi;exact hi
  rw [show p+((0:Nat):Int)=p by omega,h.1];exact .inl rfl
 | .cat x y,p,d,a,h,i,hi=>by
  simp only [Re.len] at hi
  by_cases hx:i<x.len
  ·rcases lies_y A x p d a h.1 i hx with e | e
   ·exact .inl e
   ·exact .inr (e.left _)
  ·obtain ⟨k,rfl⟩:∃ k,i=x.len+k:=⟨i-x.len,by omega⟩
   rcases lies_y A y (p+x.len) d a h.2 k (by omega) with e | e
   ·left;rw [← e];congr 2;omega
   ·right;have:=e.right (x.code p d) (p:=p) (by rw [Re.code_len]);rw [Re.code_len] at this;exact this
 | .alt x y,p,d,a,h,i,hi=>by
  simp only [Re.len] at hi
  rcases i with _ | i
  ·rw [show p+((0:Nat):Int)=p by omega,h.1];exact .inl rfl
  by_cases hx:i<x.len
  ·rcases lies_y A x (p+1) d a h.2.1 i hx with e | e
   ·left;rw [← e];congr 2;omega
   ·exact .inr ((e.left _).cons _ rfl)
  by_cases hx2:i=x.len
  ·subst hx2
   left;rw [← Lies.last h.2.1];congr 2;omega
  ·obtain ⟨k,rfl⟩:∃ k,i=x.len+(k+1):=⟨i-x.len-1,by omega⟩
   rcases lies_y A y (p+x.len+2) d a h.2.2 k (by omega) with e | e
   ·left;rw [← e];congr 2;omega
   ·right
    have h1:=e.cons (p:=p+1+x.len) ⟨3,p+x.len+2+y.len,0,[]⟩ (by omega)
    have h2:=h1.right (p:=p+1) (x.code (p+1) d) (by rw [Re.code_len])
    rw [Re.code_len] at h2
    exact h2.cons _ rfl
 | .cap g x,p,d,a,h,i,hi=>by
  simp only [Re.len] at hi
  rcases i with _ | i
  ·rw [show p+((0:Nat):Int)=p by omega,h.1];exact .inl rfl
  by_cases hx:i<x.len
  ·rcases lies_y A x (p+1) d _ h.2.1 i hx with e | e
   ·left;rw [show p+((i+1:Nat):Int)=p+1+i by omega,e]
   ·exact .inr ((e.left _).cons _ rfl)
  ·left;rw [show p+((i+1:Nat):Int)=p+1+x.len by omega,Lies.last h.2.1]
 | .sub s x,p,d,a,h,i,hi=>by
  simp only [Re.len] at hi
  rcases i with _ | i
  ·rw [show p+((0:Nat):Int)=p by omega,h.1];exact .inl rfl
  ·exact .inr ⟨0,_,by omega,rfl,rfl,by dsimp only;omega⟩
 | .opt late x,p,d,a,h,i,hi=>by
  simp only [Re.len] at hi
  rcases i with _ | i
  ·rw [show p+((0:Nat):Int)=p by omega,h.1];exact .inl rfl
  rcases lies_y A x (p+1) d a h.2 i (by omega) with e | e
  ·left;rw [← e];congr 2;omega
  ·exact .inr (e.cons _ rfl)
 | .loop late x,p,d,a,h,i,hi=>by
  simp only [Re.len] at hi
  rcases i with _ | i
  ·rw [show p+((0:Nat):Int)=p by omega,h.1];exact .inl rfl
  rcases i with _ | i
  ·left;rw [show p+((0+1:Nat):Int)=p+1 by omega,h.2.1]
  by_cases hx:i<x.len
  ·rcases lies_y A x (p+2) (d+1) _ h.2.2.1 i hx with e | e
   ·left;rw [show p+((i+1+1:Nat):Int)=p+2+i by omega,e]
   ·exact .inr (((e.left _).cons (p:=p+1) _ (by omega)).cons _ rfl)
  ·left;rw [show p+((i+1+1:Nat):Int)=p+2+x.len by omega,Lies.last h.2.2.1]
structure Kn (c:List Ins) (A:Int→Att):Prop where
 k:Known c A
 fwd:∀ q,q+1<c.length→Fwd q (c.getD q ins0)
 suby:∀ q:Nat,q<c.length→inSub c q=false→(A q).y=0
theorem pattern_kn (p:ByteArray) (h:(checkR p).1=0):∃ A,Kn (codeR p).1 A:=by
 obtain ⟨A,f,hK,hA,hc⟩:=pattern_lies p h
 have hlen:(codeR p).1.length=f.len+1:=by rw [hc,List.length_append,Re.code_len];rfl
 refine ⟨A,hK,fun q hq=>?_,fun q hq hs=>?_⟩
 ·have hl:q<(f.code 0 0).length:=by rw [Re.code_len];omega
  have:=code_fwd f 0 0 q ((codeR p).1.getD q ins0) (by
   rw [hc,List.getD_eq_getElem?_getD,List.getElem?_append_left hl,List.getElem?_eq_getElem hl];rfl)
  exact this.at (by omega)
 ·by_cases hl:q<f.len
  ·rcases lies_y A f 0 0 _ hA q hl with e | ⟨j,x,h1,h2,h3,h4⟩
   ·rw [Int.zero_add] at e;exact e
   ·exfalso
    have hj:(codeR p).1.getD j ins0=x:=by
     rw [hc,List.getD_eq_getElem?_getD,List.getElem?_append_left (List.getElem?_eq_some_iff.1 h2).1,h2];rfl
    have:=any_of_take (codeR p).1 (isOver q) j q h1 (by omega) (by
     rw [hj];unfold isOver;rw [decide_eq_true_eq];exact ⟨h3,by omega⟩)
    unfold inSub at hs
    rw [this] at hs;cases hs
  ·have:(q:Int)=((codeR p).1.length-1:Nat):=by omega
   rw [this,hK.stop]
end Mt
