import Derived.Test.YtebpgfodelggoabD1
import Derived.Test.YtebpgfodelggoabC50
import Derived.Test.YtebpgfodelggoabC49
set_option linter.unusedVariables false
set_option linter.unusedSimpArgs false
namespace Go.Proofs.Ytebpgfodelggoab
open Go.RowKit
structure KOk (t:ByteArray) (T:Nat→Nat→Bool) (G:Mt.Fnd × Int):Prop where
 err:G.2=0
 len:G.1.at'.length=20
 wout:Without G.1 0
 hit:∀ i j:Nat,i≤j→j≤t.size→(∀ q v,q<i→q≤v→v≤t.size→T q v=false)→T i j=true→∃ e:Nat,Shown G.1 i e∧i≤e∧e≤t.size∧T i e=true∧G.1.at'.getD 1 0=(e:Int)
 miss:(∀ q v,q≤v→v≤t.size→T q v=false)→Shown G.1 (-1) (-1)
theorem rest_none {l:List Int} {a b:Int} (h:l=a::b::List.replicate 18 (-1)) (hl:l.length=20) {f:Mt.Fnd} (hf:f.at'=l):Without f 0:=by
 refine ⟨by rw [hf];exact hl,fun j j1 j2 j3=>?_⟩
 rw [hf,h]
 have hj:j=1∨j=2∨j=3∨j=4∨j=5∨j=6∨j=7∨j=8∨j=9:=by omega
 rcases hj with rfl | rfl | rfl | rfl | rfl | rfl | rfl | rfl | rfl <;> exact ⟨rfl,rfl⟩
theorem kleene_ok (t:ByteArray) (s:Sh) (hs:ShOk t s) (ht:t.size≤10):KOk t s.T (Mt.findR s.p t 0 1 0 5000 10000):=by
 obtain ⟨x,hp,hd,hT,ho,h48,h10⟩:=hs
 have K:=Mt.kleene_is x ho h10 h48 t ht
 rw [← hp] at K
 generalize Mt.findR s.p t 0 1 0 5000 10000=G at *
 have key:∀ q v,q≤t.size→(Mt.SFits t x q v↔(q≤v∧v≤t.size∧s.T q v=true)):=fun q v hq=>by
  constructor
  ·intro h
   have:=Mt.sfits_in t x q v hq h
   exact ⟨this.1,this.2,(hT q v (by omega) (by omega)).2 ⟨hq,h⟩⟩
  ·rintro ⟨h1,h2,h3⟩
   exact ((hT q v (by omega) (by omega)).1 h3).2
 have none_of:∀ i,(∀ q v,q<i→q≤v→v≤t.size→s.T q v=false)→∀ q,q<i→q≤t.size→¬ ∃ j,Mt.SFits t x q j:=fun i h q hq hq2 ⟨j,hj⟩=>by
  obtain ⟨a,b,c⟩:=(key q j hq2).1 hj
  rw [h q j hq a b] at c;cases c
 have fin:Without G.1 0:=by
  by_cases h:∃ i,i≤t.size∧(∀ q,q<i→¬ ∃ j,Mt.SFits t x q j)∧∃ j,Mt.SFits t x i j
  ·obtain ⟨i,hi,h1,h2⟩:=h
   obtain ⟨_,e,_,he⟩:=K.hit i hi h1 h2
   exact rest_none he K.len rfl
  ·have:∀ n,∀ q,q<n→q≤t.size→¬ ∃ j,Mt.SFits t x q j:=by
    intro n
    induction n with
    | zero=>intro q hq;omega
    | succ n ih =>
     intro q hq hq2 hj
     by_cases e:q<n
     ·exact ih q e hq2 hj
     ·have:q=n:=by omega
      subst this
      exact h ⟨q,hq2,fun u hu=>ih u hu (by omega),hj⟩
   obtain ⟨_,he⟩:=K.miss (fun q hq=>this (q+1) q (by omega) hq)
   exact rest_none he K.len rfl
 refine ⟨K.err,K.len,fin,fun i j hij hj hq h=>?_,fun hq=>?_⟩
 ·obtain ⟨e1,e,hf,he⟩:=K.hit i (by omega) (fun q hq2=>none_of i hq q hq2 (by omega)) ⟨j,(key i j (by omega)).2 ⟨hij,hj,h⟩⟩
  obtain ⟨a,b,c⟩:=(key i e (by omega)).1 hf
  refine ⟨e,⟨K.len,K.s1,K.s2,by rw [e1];simp,?_,?_⟩,a,b,c,by rw [he];rfl⟩
  ·rw [he,if_neg (by omega)];rfl
  ·rw [he,if_neg (by omega)];rfl
 ·obtain ⟨e1,he⟩:=K.miss (fun q hq2=>none_of (t.size+1) (fun q v _ h1 h2=>hq q v h1 h2) q (by omega) hq2)
  refine ⟨K.len,K.s1,K.s2,by rw [e1];rfl,?_,?_⟩
  ·rw [he];rfl
  ·rw [he];rfl
end Go.Proofs.Ytebpgfodelggoab
