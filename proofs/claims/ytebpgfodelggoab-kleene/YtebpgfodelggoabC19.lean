import Derived.Test.YtebpgfodelggoabC18
import Derived.Test.YtebpgfodelggoabC10
set_option linter.unusedVariables false
set_option linter.unusedSimpArgs false
namespace Mt
def cutL (u v w:List UInt8):List UInt8:=40::63::62::(quoteL u++124::(quoteL v++41::quoteL w))
def seeL (c:UInt8) (u v:List UInt8):List UInt8:=40::63::c::(quoteL u++41::quoteL v)
structure FirstIs (t:ByteArray) (f:Nat→Option Nat) (G:Fnd × Int):Prop where
 err:G.2=0
 len:G.1.at'.length=20
 s1:1≤G.1.steps
 s2:G.1.steps≤10000
 hit:∀ i,i≤t.size→(∀ q,q<i→f q=none)→∀ n,f i=some n→G.1.ok=true∧G.1.at'=(i:Int)::((i+n:Nat):Int)::List.replicate 18 (-1)
 miss:(∀ q,q≤t.size→f q=none)→G.1.ok=false∧G.1.at'=nowhere
variable {E:Env} {r:Option Sta} {R:List Int} {K L:Nat} {pc pos:Nat} {w:List UInt8}
def timesN (t:ByteArray) (w:List UInt8):Nat→Nat→Nat
 | 0,_=>0
 | f+1,i=>if standsB t i w then 1+timesN t w f (i+w.length) else 0
def standsN (t:ByteArray) (w:List UInt8):Nat→Nat→Bool
 | 0,_=>true
 | n+1,i=>standsB t i w&&standsN t w n (i+w.length)
def Alike20 (R R':List Int):Prop:=R'.length=R.length∧R'.take 20=R.take 20
theorem Alike20.refl (R:List Int):Alike20 R R:=⟨rfl,rfl⟩
theorem Alike20.trans {R S T:List Int} (h:Alike20 R S) (g:Alike20 S T):Alike20 R T:=⟨g.1.trans h.1,g.2.trans h.2⟩
theorem Alike20.set (R:List Int) (d:Nat) (x:Int):Alike20 R (R.set (30+d) x):=⟨by simp,by rw [List.take_set_of_le (by omega)]⟩
end Mt
namespace Mt
inductive Star (A:Nat→Nat→Prop):Nat→Nat→Prop
 | stop (i:Nat):Star A i i
 | more {i k j:Nat} (h:A i k) (g:Star A k j):Star A i j
def Fits (t:ByteArray):Re→Nat→Nat→Prop
 | .eps,i,j=>i=j
 | .one s,i,j=>j=i+1∧byteAt t i s=true
 | .cat a b,i,j=>∃ k,Fits t a i k∧Fits t b k j
 | .alt a b,i,j=>Fits t a i j∨Fits t b i j
 | .opt _ a,i,j=>Fits t a i j∨i=j
 | .loop _ a,i,j=>Star (Fits t a) i j
 | _,_,_=>False
theorem star_in {A:Nat→Nat→Prop} {n:Nat} (hA:∀ i j,i≤n→A i j→i≤j∧j≤n) {i j:Nat} (h:Star A i j):i≤n→i≤j∧j≤n:=by
 induction h with
 | stop i=>exact fun h=>⟨Nat.le_refl _,h⟩
 | more h g ih =>
  intro hi
  have a:=hA _ _ hi h
  have b:=ih a.2
  omega
theorem fits_in (t:ByteArray):∀ (r:Re) (i j:Nat),i≤t.size→Fits t r i j→i≤j∧j≤t.size
 | .eps,i,j,hi,h=>by have:i=j:=h;omega
 | .one s,i,j,hi,h=>by
  obtain ⟨rfl,hb⟩:j=i+1∧byteAt t i s=true:=h
  unfold byteAt at hb
  split at hb
  ·omega
  ·simp at hb
 | .cat a b,i,j,hi,h=>by
  obtain ⟨k,h1,h2⟩:∃ k,Fits t a i k∧Fits t b k j:=h
  have x:=fits_in t a i k hi h1
  have y:=fits_in t b k j x.2 h2
  omega
 | .alt a b,i,j,hi,h=>by
  rcases (h:Fits t a i j∨Fits t b i j) with h | h
  ·exact fits_in t a i j hi h
  ·exact fits_in t b i j hi h
 | .opt _ a,i,j,hi,h=>by
  rcases (h:Fits t a i j∨i=j) with h | h
  ·exact fits_in t a i j hi h
  ·omega
 | .loop _ a,i,j,hi,h=>star_in (fun i j hi h=>fits_in t a i j hi h) (h:Star (Fits t a) i j) hi
 | .back _,_,_,_,h=>h.elim
 | .head,_,_,_,h=>h.elim
 | .tail,_,_,_,h=>h.elim
 | .cap _ _,_,_,_,h=>h.elim
 | .sub _ _,_,_,_,h=>h.elim
def Re.plain:Re→Bool
 | .eps=>true
 | .one _=>true
 | .cat a b=>a.plain&&b.plain
 | .alt a b=>a.plain&&b.plain
 | .opt _ a=>a.plain
 | .loop _ a=>a.plain
 | _=>false
def Re.nest:Re→Nat
 | .cat a b=>max a.nest b.nest
 | .alt a b=>max a.nest b.nest
 | .opt _ a=>a.nest
 | .loop _ a=>a.nest+1
 | _=>0
def Agree (d:Nat) (R R':List Int):Prop:=R'.length=R.length∧R'.take (30+d)=R.take (30+d)
theorem Agree.refl (d:Nat) (R:List Int):Agree d R R:=⟨rfl,rfl⟩
theorem Agree.trans {d:Nat} {R S T:List Int} (h:Agree d R S) (g:Agree d S T):Agree d R T:=⟨g.1.trans h.1,g.2.trans h.2⟩
theorem Agree.less {d:Nat} {R S:List Int} (h:Agree (d+1) R S):Agree d R S:=by
 refine ⟨h.1,?_⟩
 have:=congrArg (List.take (30+d)) h.2
 rw [List.take_take,List.take_take,Nat.min_eq_left (by omega)] at this
 exact this
theorem Agree.set (d:Nat) (R:List Int) (x:Int):Agree d R (R.set (30+d) x):=⟨by simp,by rw [List.take_set_of_le (Nat.le_refl _)]⟩
theorem Agree.mark {d:Nat} {R S:List Int} {x:Int} (h:Agree (d+1) (R.set (30+d) x) S) (hR:30+d<R.length):S.getD (30+d) 0=x:=by
 have e:(S.take (30+(d+1)))[30+d]?=((R.set (30+d) x).take (30+(d+1)))[30+d]?:=by rw [h.2]
 rw [List.getElem?_take_of_lt (by omega),List.getElem?_take_of_lt (by omega),List.getElem?_set_self hR] at e
 rw [List.getD_eq_getElem?_getD,e];rfl
section
variable {E:Env}
def Ends (E:Env) (q j:Nat) (R:List Int) (S:Prop) (T:Sta→Prop):Prop :=
 (S→∃ K u,Within E K ((q:Int)::(j:Int)::R) (some u)∧T u)∧(¬ S→∃ K,Within E K ((q:Int)::(j:Int)::R) none)
theorem Ends.same {q j:Nat} {R:List Int} {S S':Prop} {T T':Sta→Prop} (h:Ends E q j R S T) (hs:S'↔S) (ht:∀ u,T u→T' u):Ends E q j R S' T':=by
 refine ⟨fun s=>?_,fun s=>h.2 (fun x=>s (hs.2 x))⟩
 obtain ⟨K,u,a,b⟩:=h.1 (hs.1 s)
 exact ⟨K,u,a,ht u b⟩
end
end Mt
