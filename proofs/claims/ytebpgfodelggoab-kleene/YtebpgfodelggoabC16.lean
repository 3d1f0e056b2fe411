import Derived.Test.YtebpgfodelggoabC15
set_option linter.unusedVariables false
set_option linter.unusedSimpArgs false
namespace Mt
variable {E:Env} {A:Int→Att}
theorem idle_room (E:Env) (kn:List Bool) (s:Sta):E.kn' s kn 0=kn∧E.room' s kn 0=0:=by
 unfold Env.kn' Env.room' deadKn deadRoom
 refine ⟨?_,?_⟩ <;> simp
theorem kn'_mem {s:Sta} {kn:List Bool} {room:Int} {j:Nat} (h:(E.kn' s kn room).getD j false=true):kn.getD j false=true∨(E.isIn s=true∧j=E.key s):=by
 unfold Env.kn' deadKn at h
 by_cases hi:E.isIn s=true
 ·rw [if_pos hi] at h
  split at h
  ·exact .inl h
  split at h
  ·rw [getD_set_b] at h
   split at h
   ·rename_i e;exact .inr ⟨hi,e.1.symm⟩
   ·exact .inl h
  ·exact .inl h
 ·rw [if_neg hi] at h;exact .inl h
theorem mem_kn' {s:Sta} {kn:List Bool} {room:Int} {j:Nat} (h:kn.getD j false=true):(E.kn' s kn room).getD j false=true:=by
 unfold Env.kn' deadKn
 split
 ·split
  ·exact h
  split
  ·rw [getD_set_b];split
   ·rfl
   ·exact h
  ·exact h
 ·exact h
def Fail (E:Env) (s:Sta):Prop:=∃ n,(look E n s [] 0).over=false∧(look E n s [] 0).ok=false
def KInv (E:Env) (A:Int→Att) (kn:List Bool) (s:Sta):Prop:=∀ u,Nice E A u→E.isIn u=true→kn.getD (E.key u) false=true→Fail E u∨mu E A s<mu E A u
def Adds (E:Env) (A:Int→Att) (kn kn2:List Bool):Prop:=∀ u,Nice E A u→E.isIn u=true→kn2.getD (E.key u) false=true→kn.getD (E.key u) false=true∨Fail E u
def Rel (kn1:List Bool) (room1:Int) (kn2:List Bool) (room2:Int):Prop:=(kn1=kn2∧0<room1∧room1≤room2)∨(room1=0∧∀ i,kn1.getD i false=true→kn2.getD i false=true)
structure Hy (E:Env) (A:Int→Att):Prop where
 k:Kn E.c A
 ar:∀ p,p<E.c.length→E.ar.getD p 0=loopsAt E.c p
 inn:∀ s,Good E.c.length E.t.size s→E.isIn s=true→(A (gt s 0)).y=0
 nb:∀ s,E.isIn s=true→∀ q,q<E.c.length→(E.c.getD q ins0).op≠8
theorem Adds.refl (kn:List Bool):Adds E A kn kn:=fun u _ _ h=>.inl h
theorem Adds.trans {a b c:List Bool} (h1:Adds E A a b) (h2:Adds E A b c):Adds E A a c:=fun u hu hi h=>by
 rcases h2 u hu hi h with h | h
 ·exact h1 u hu hi h
 ·exact .inr h
theorem KInv.adds {kn kn2:List Bool} {s:Sta} (h:KInv E A kn s) (ha:Adds E A kn kn2):KInv E A kn2 s:=fun u hu hi hk=>by
 rcases ha u hu hi hk with hk | hk
 ·exact h u hu hi hk
 ·exact .inl hk
theorem KInv.step (hy:Hy E A) {kn:List Bool} {room:Int} {s u:Sta} (hs:Nice E A s) (h:KInv E A kn s) (hm:mu E A u<mu E A s):KInv E A (E.kn' s kn room) u:=fun v hv hi hk=>by
 rcases kn'_mem hk with hk | ⟨_,e⟩
 ·rcases h v hv hi hk with a | a
  ·exact .inl a
  ·exact .inr (by omega)
 ·have:=(lk_of_key hy.k hy.ar hs hv e).2
  exact .inr (by omega)
theorem Rel.step {kn1 kn2:List Bool} {room1 room2:Int} {s:Sta} (h:Rel kn1 room1 kn2 room2) (d1:E.dead s kn1=false) (d2:E.dead s kn2=false):Rel (E.kn' s kn1 room1) (E.room' s kn1 room1) (E.kn' s kn2 room2) (E.room' s kn2 room2):=by
 rcases h with ⟨rfl,h1,h2⟩ | ⟨rfl,h⟩
 ·by_cases hi:E.isIn s=true
  ·unfold Env.dead at d1
   rw [if_pos hi] at d1
   unfold Env.kn' Env.room' deadKn deadRoom
   simp only [hi,d1,if_true,Bool.false_eq_true,if_false,if_pos h1,if_pos (show 0<room2 by omega)]
   by_cases e:room1=1
   ·exact .inr ⟨by omega,fun i h=>h⟩
   ·exact .inl ⟨rfl,by omega,by omega⟩
  ·unfold Env.kn' Env.room'
   rw [if_neg hi,if_neg hi,if_neg hi,if_neg hi]
   exact .inl ⟨rfl,h1,h2⟩
 ·obtain ⟨e1,e2⟩:=idle_room E kn1 s
  rw [e1,e2]
  exact .inr ⟨rfl,fun i hi=>mem_kn' (h i hi)⟩
def InR (room:Int):Prop:=0≤room∧room≤5000
end Mt
namespace Mt
variable {E:Env} {A:Int→Att}
def PNil (kn:List Bool) (room:Int):Prop:=kn=[]∧room=0
def KF (E:Env) (A:Int→Att) (kn:List Bool):Prop:=∀ u,Nice E A u→E.isIn u=true→kn.getD (E.key u) false=true→Fail E u
theorem KF.adds {kn kn2:List Bool} (h:KF E A kn) (ha:Adds E A kn kn2):KF E A kn2:=fun u hu hi hk=>by
 rcases ha u hu hi hk with hk | hk
 ·exact h u hu hi hk
 ·exact hk
end Mt
