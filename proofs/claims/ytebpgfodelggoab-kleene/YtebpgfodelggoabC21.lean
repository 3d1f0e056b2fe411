import Derived.Test.YtebpgfodelggoabC20
set_option linter.unusedVariables false
set_option linter.unusedSimpArgs false
namespace Mt
def SFits (t:ByteArray):Shape→Nat→Nat→Prop
 | .byte c,i,j=>j=i+1∧byteAt t i [c]=true
 | .dot,i,j=>j=i+1∧i<t.size
 | .both x y,i,j=>∃ k,SFits t x i k∧SFits t y k j
 | .either x y,i,j=>SFits t x i j∨SFits t y i j
 | .star _ x,i,j=>Star (SFits t x) i j
 | .maybe _ x,i,j=>SFits t x i j∨i=j
theorem star_iff {A B:Nat→Nat→Prop} (h:∀ i j,A i j↔B i j) {i j:Nat}:Star A i j↔Star B i j:=by
 constructor
 ·intro g
  induction g with
  | stop i=>exact .stop i
  | more a _ ih=>exact .more ((h _ _).1 a) ih
 ·intro g
  induction g with
  | stop i=>exact .stop i
  | more a _ ih=>exact .more ((h _ _).2 a) ih
theorem fits_be (t:ByteArray):∀ (s:Shape) (r:Re) (i j:Nat),Fits t (s.be r) i j↔∃ k,SFits t s i k∧Fits t r k j
 | .byte c,r,i,j=>Iff.rfl
 | .dot,r,i,j=>by
  constructor
  ·rintro ⟨k,⟨rfl,h⟩,g⟩
   rw [byteAt_dot] at h
   exact ⟨_,⟨rfl,by simpa using h⟩,g⟩
  ·rintro ⟨k,⟨rfl,h⟩,g⟩
   exact ⟨_,⟨rfl,by rw [byteAt_dot];simpa using h⟩,g⟩
 | .both x y,r,i,j=>by
  simp only [Shape.be]
  rw [fits_be t x]
  constructor
  ·rintro ⟨k,h,g⟩
   obtain ⟨m,h2,g2⟩:=(fits_be t y r k j).1 g
   exact ⟨m,⟨k,h,h2⟩,g2⟩
  ·rintro ⟨m,⟨k,h,h2⟩,g2⟩
   exact ⟨k,h,(fits_be t y r k j).2 ⟨m,h2,g2⟩⟩
 | .either x y,r,i,j=>by
  constructor
  ·rintro ⟨k,h,g⟩
   refine ⟨k,?_,g⟩
   rcases (h:Fits t (x.be .eps) i k∨Fits t (y.be .eps) i k) with h | h
   ·obtain ⟨m,h3,h4⟩:=(fits_be t x .eps i k).1 h
    obtain rfl:m=k:=h4
    exact .inl h3
   ·obtain ⟨m,h3,h4⟩:=(fits_be t y .eps i k).1 h
    obtain rfl:m=k:=h4
    exact .inr h3
  ·rintro ⟨k,h,g⟩
   refine ⟨k,?_,g⟩
   rcases (h:SFits t x i k∨SFits t y i k) with h | h
   ·exact .inl ((fits_be t x .eps i k).2 ⟨k,h,rfl⟩)
   ·exact .inr ((fits_be t y .eps i k).2 ⟨k,h,rfl⟩)
 | .star l x,r,i,j=>by
  have e:∀ a b,Fits t (x.be .eps) a b↔SFits t x a b:=fun a b=>by
   rw [fits_be t x .eps a b]
   exact ⟨fun ⟨k,h,g⟩=>by obtain rfl:k=b:=g;exact h,fun h=>⟨b,h,rfl⟩⟩
  constructor
  ·rintro ⟨k,⟨m,h0,h⟩,g⟩
   obtain rfl:i=m:=h0
   exact ⟨k,(star_iff e).1 h,g⟩
  ·rintro ⟨k,h,g⟩
   exact ⟨k,⟨i,rfl,(star_iff e).2 h⟩,g⟩
 | .maybe l x,r,i,j=>by
  have e:∀ a b,Fits t (x.be .eps) a b↔SFits t x a b:=fun a b=>by
   rw [fits_be t x .eps a b]
   exact ⟨fun ⟨k,h,g⟩=>by obtain rfl:k=b:=g;exact h,fun h=>⟨b,h,rfl⟩⟩
  constructor
  ·rintro ⟨k,⟨m,h0,h⟩,g⟩
   obtain rfl:i=m:=h0
   refine ⟨k,?_,g⟩
   rcases (h:Fits t (.cat (x.be .eps) .eps) i k∨i=k) with ⟨n,h1,h2⟩ | h
   ·obtain rfl:n=k:=h2
    exact .inl ((e _ _).1 h1)
   ·exact .inr h
  ·rintro ⟨k,h,g⟩
   refine ⟨k,⟨i,rfl,?_⟩,g⟩
   rcases (h:SFits t x i k∨i=k) with h | h
   ·exact .inl ⟨k,(e _ _).2 h,rfl⟩
   ·exact .inr h
theorem fits_shape (t:ByteArray) (s:Shape) (i j:Nat):Fits t (s.be .eps) i j↔SFits t s i j:=by
 rw [fits_be]
 exact ⟨fun ⟨k,h,g⟩=>by obtain rfl:k=j:=g;exact h,fun h=>⟨j,h,rfl⟩⟩
def Re.nloops:Re→Nat
 | .cat a b=>a.nloops+b.nloops
 | .alt a b=>a.nloops+b.nloops
 | .opt _ a=>a.nloops
 | .loop _ a=>a.nloops+1
 | _=>0
def shapeC (s:Shape):List Ins:=(s.be .eps).code 0 0++[⟨13,0,0,[]⟩]
structure KleeneIs (t:ByteArray) (s:Shape) (G:Fnd × Int):Prop where
 err:G.2=0
 len:G.1.at'.length=20
 s1:1≤G.1.steps
 s2:G.1.steps≤10000
 hit:∀ i,i≤t.size→(∀ q,q<i→¬ ∃ j,SFits t s q j)→(∃ j,SFits t s i j)→G.1.ok=true∧∃ e:Nat,SFits t s i e∧G.1.at'=(i:Int)::(e:Int)::List.replicate 18 (-1)
 miss:(∀ q,q≤t.size→¬ ∃ j,SFits t s q j)→G.1.ok=false∧G.1.at'=nowhere
def Tbl (t:ByteArray) (s:Shape) (T:Nat→Nat→Bool):Prop:=∀ i j,i≤10→j≤10→(T i j=true↔i≤t.size∧SFits t s i j)
theorem sfits_in (t:ByteArray) (s:Shape) (i j:Nat) (hi:i≤t.size) (h:SFits t s i j):i≤j∧j≤t.size:=fits_in t _ i j hi ((fits_shape t s i j).2 h)
section
variable {t:ByteArray} {x y:Shape} {X Y C:Nat→Nat→Bool}
theorem Tbl.inn {s:Shape} {T:Nat→Nat→Bool} (h:Tbl t s T) {i j:Nat} (hi:i≤10) (hj:j≤10) (g:T i j=true):i≤j∧j≤t.size:=by
 obtain ⟨a,b⟩:=(h i j hi hj).1 g
 exact sfits_in t s i j a b
theorem tbl_byte {c:UInt8} (hT:t.size≤10) (h:∀ i j,i≤10→j≤10→(C i j=true↔i<t.size∧j=i+1∧byteAt t i [c]=true)):Tbl t (.byte c) C:=fun i j hi hj=>by
 rw [h i j hi hj]
 constructor
 ·rintro ⟨a,b,d⟩
  exact ⟨by omega,b,d⟩
 ·rintro ⟨a,b,d⟩
  refine ⟨?_,b,d⟩
  have:=sfits_in t (.byte c) i j a ⟨b,d⟩
  omega
theorem tbl_dot (hT:t.size≤10) (h:∀ i j,i≤10→j≤10→(C i j=true↔i<t.size∧j=i+1)):Tbl t .dot C:=fun i j hi hj=>by
 rw [h i j hi hj]
 exact ⟨fun ⟨a,b⟩=>⟨by omega,b,a⟩,fun ⟨a,b,d⟩=>⟨d,b⟩⟩
theorem tbl_both (hT:t.size≤10) (hx:Tbl t x X) (hy:Tbl t y Y) (h:∀ i j,i≤10→j≤10→(C i j=true↔∃ k,i≤k∧k≤j∧X i k=true∧Y k j=true)):Tbl t (.both x y) C:=fun i j hi hj=>by
 rw [h i j hi hj]
 constructor
 ·rintro ⟨k,h1,h2,h3,h4⟩
  obtain ⟨a,b⟩:=(hx i k hi (by omega)).1 h3
  obtain ⟨c,d⟩:=(hy k j (by omega) hj).1 h4
  exact ⟨a,k,b,d⟩
 ·rintro ⟨a,k,b,d⟩
  have p:=sfits_in t x i k a b
  have q:=sfits_in t y k j p.2 d
  exact ⟨k,p.1,q.1,(hx i k hi (by omega)).2 ⟨a,b⟩,(hy k j (by omega) hj).2 ⟨p.2,d⟩⟩
theorem tbl_either (hx:Tbl t x X) (hy:Tbl t y Y) (h:∀ i j,i≤10→j≤10→(C i j=true↔i≤j∧(X i j=true∨Y i j=true))):Tbl t (.either x y) C:=fun i j hi hj=>by
 rw [h i j hi hj]
 constructor
 ·rintro ⟨_,h | h⟩
  ·obtain ⟨a,b⟩:=(hx i j hi hj).1 h
   exact ⟨a,.inl b⟩
  ·obtain ⟨a,b⟩:=(hy i j hi hj).1 h
   exact ⟨a,.inr b⟩
 ·rintro ⟨a,b⟩
  refine ⟨(sfits_in t (.either x y) i j a b).1,?_⟩
  rcases (b:SFits t x i j∨SFits t y i j) with b | b
  ·exact .inl ((hx i j hi hj).2 ⟨a,b⟩)
  ·exact .inr ((hy i j hi hj).2 ⟨a,b⟩)
theorem tbl_maybe {l:Bool} (hx:Tbl t x X) (h:∀ i j,i≤10→j≤10→(C i j=true↔X i j=true∨(i=j∧i≤t.size))):Tbl t (.maybe l x) C:=fun i j hi hj=>by
 rw [h i j hi hj]
 constructor
 ·rintro (h | ⟨rfl,h⟩)
  ·obtain ⟨a,b⟩:=(hx i j hi hj).1 h
   exact ⟨a,.inl b⟩
  ·exact ⟨h,.inr rfl⟩
 ·rintro ⟨a,b⟩
  rcases (b:SFits t x i j∨i=j) with b | rfl
  ·exact .inl ((hx i j hi hj).2 ⟨a,b⟩)
  ·exact .inr ⟨rfl,a⟩
def Via (C:Nat→Nat→Bool):Nat→Nat→Nat→Prop
 | 0,i,j=>C i j=true
 | K+1,i,j=>Via C K i j∨(Via C K i K∧Via C K K j)
theorem via_col {C:Nat→Nat→Bool} {K i:Nat}:Via C (K+1) i K↔Via C K i K:=⟨fun h=>h.elim id (·.1),.inl⟩
theorem via_row {C:Nat→Nat→Bool} {K j:Nat}:Via C (K+1) K j↔Via C K K j:=⟨fun h=>h.elim id (·.2),.inl⟩
theorem via_up {C:Nat→Nat→Bool} (h:∀ i j,i≤10→j≤10→C i j=true→i≤j):∀ K,K≤11→∀ i j,i≤10→j≤10→Via C K i j→i≤j
 | 0,_,i,j,hi,hj,g=>h i j hi hj g
 | K+1,hK,i,j,hi,hj,g=>by
  rcases g with g | ⟨g1,g2⟩
  ·exact via_up h K (by omega) i j hi hj g
  ·exact Nat.le_trans (via_up h K (by omega) i K hi (by omega) g1) (via_up h K (by omega) K j (by omega) hj g2)
theorem via_trans {C:Nat→Nat→Bool}:∀ K i k j,k<K→Via C K i k→Via C K k j→Via C K i j
 | K+1,i,k,j,hk,a,b=>by
  by_cases e:k=K
  ·subst e
   exact .inr ⟨via_col.1 a,via_row.1 b⟩
  ·have hk':k<K:=by omega
   rcases a with a | ⟨a1,a2⟩
   ·rcases b with b | ⟨b1,b2⟩
    ·exact .inl (via_trans K i k j hk' a b)
    ·exact .inr ⟨via_trans K i k K hk' a b1,b2⟩
   ·rcases b with b | ⟨b1,b2⟩
    ·exact .inr ⟨a1,via_trans K K k j hk' a2 b⟩
    ·exact .inr ⟨a1,b2⟩
theorem via_mono {C:Nat→Nat→Bool} {i j:Nat} (h:C i j=true):∀ K,Via C K i j
 | 0=>h
 | K+1=>.inl (via_mono h K)
theorem star_trans {A:Nat→Nat→Prop} {i k j:Nat} (h:Star A i k) (g:Star A k j):Star A i j:=by
 induction h with
 | stop i=>exact g
 | more a _ ih=>exact .more a (ih g)
theorem via_star {A:Nat→Nat→Prop} {C:Nat→Nat→Bool} (h:∀ i j,i≤10→j≤10→C i j=true→Star A i j):∀ K,K≤11→∀ i j,i≤10→j≤10→Via C K i j→Star A i j
 | 0,_,i,j,hi,hj,g=>h i j hi hj g
 | K+1,hK,i,j,hi,hj,g=>by
  rcases g with g | ⟨g1,g2⟩
  ·exact via_star h K (by omega) i j hi hj g
  ·exact star_trans (via_star h K (by omega) i K hi (by omega) g1) (via_star h K (by omega) K j (by omega) hj g2)
theorem tbl_star {l:Bool} {M:Nat→Nat→Bool} (hT:t.size≤10) (hx:Tbl t (.maybe l x) M) (h:∀ i j,i≤10→j≤10→(C i j=true↔Via M 11 i j)):Tbl t (.star l x) C:=fun i j hi hj=>by
 rw [h i j hi hj]
 have base:∀ i j,i≤10→j≤10→M i j=true→i≤t.size∧Star (SFits t x) i j:=fun i j hi hj g=>by
  obtain ⟨a,b⟩:=(hx i j hi hj).1 g
  refine ⟨a,?_⟩
  rcases (b:SFits t x i j∨i=j) with b | rfl
  ·exact .more b (.stop _)
  ·exact .stop _
 constructor
 ·intro g
  have up:=via_up (C:=M) (fun i j hi hj g=>(hx.inn hi hj g).1) 11 (Nat.le_refl _) i j hi hj g
  have st:=via_star (fun i j hi hj g=>(base i j hi hj g).2) 11 (Nat.le_refl _) i j hi hj g
  refine ⟨?_,st⟩
  have:∀ K,K≤11→∀ i j,i≤10→j≤10→Via M K i j→i≤t.size:=by
   intro K
   induction K with
   | zero=>exact fun _ i j hi hj g=>(base i j hi hj g).1
   | succ K ih =>
    intro hK i j hi hj g
    rcases g with g | ⟨g1,_⟩
    ·exact ih (by omega) i j hi hj g
    ·exact ih (by omega) i K hi (by omega) g1
  exact this 11 (Nat.le_refl _) i j hi hj g
 ·rintro ⟨a,b⟩
  have hs:∀ i j,Star (SFits t x) i j→i≤t.size→Via M 11 i j:=by
   intro i j g
   induction g with
   | stop i=>exact fun hi=>via_mono ((hx i i (by omega) (by omega)).2 ⟨hi,.inr rfl⟩) 11
   | @more i k j g1 g2 ih =>
    intro hi
    have p:=sfits_in t x i k hi g1
    exact via_trans 11 i k j (by omega) (via_mono ((hx i k (by omega) (by omega)).2 ⟨hi,.inl g1⟩) 11) (ih p.2)
  exact hs i j b a
end
end Mt
