import Derived.Test.YtebpgfodelggoaaDoorC19
set_option linter.unusedVariables false
set_option linter.unusedSimpArgs false
namespace Mt
variable {E:Env} {A:Int→Att}
theorem idle_nil (E:Env):Idle E [] 0:=fun s=>by
 unfold Env.dead Env.kn' Env.room' deadKn deadRoom
 refine ⟨?_,?_,?_⟩ <;> simp
theorem idle_room (E:Env) (kn:List Bool) (s:Sta):E.kn' s kn 0=kn∧E.room' s kn 0=0:=by
 unfold Env.kn' Env.room' deadKn deadRoom
 refine ⟨?_,?_⟩ <;> simp
theorem dead_idle {s:Sta} {kn:List Bool} (room:Int) (h:E.dead s kn=true):E.kn' s kn room=kn∧E.room' s kn room=room∧E.isIn s=true∧kn.getD (E.key s) false=true:=by
 unfold Env.dead at h
 by_cases hi:E.isIn s=true
 ·rw [if_pos hi] at h
  unfold Env.kn' Env.room' deadKn deadRoom
  rw [if_pos hi,if_pos hi,if_pos h,if_pos h];exact ⟨rfl,rfl,hi,h⟩
 ·rw [if_neg hi] at h;cases h
theorem kn'_mem {s:Sta} {kn:List Bool} {room:Int} {j:Nat} (h:(E.kn' s kn room).getD j false=true):kn.getD j false=true∨(E.isIn s=true∧j=E.key s):=by
 unfold Env.kn' deadKn at h
 by_cases hi:E.isIn s=true
 ·rw [if_pos hi] at h
  split at h
  ·exact .inl h
  split at h
  ·rw [getD_set_b] at h
   split at h
   ·rename_i e;exact .inr ⟨hi,e.1.symm⟩
   ·exact .inl h
  ·exact .inl h
 ·rw [if_neg hi] at h;exact .inl h
theorem mem_kn' {s:Sta} {kn:List Bool} {room:Int} {j:Nat} (h:kn.getD j false=true):(E.kn' s kn room).getD j false=true:=by
 unfold Env.kn' deadKn
 split
 ·split
  ·exact h
  split
  ·rw [getD_set_b];split
   ·rfl
   ·exact h
  ·exact h
 ·exact h
def Fail (E:Env) (s:Sta):Prop:=∃ n,(look E n s [] 0).over=false∧(look E n s [] 0).ok=false
def KInv (E:Env) (A:Int→Att) (kn:List Bool) (s:Sta):Prop:=∀ u,Nice E A u→E.isIn u=true→kn.getD (E.key u) false=true→Fail E u∨mu E A s<mu E A u
def Adds (E:Env) (A:Int→Att) (kn kn2:List Bool):Prop:=∀ u,Nice E A u→E.isIn u=true→kn2.getD (E.key u) false=true→kn.getD (E.key u) false=true∨Fail E u
def Rel (kn1:List Bool) (room1:Int) (kn2:List Bool) (room2:Int):Prop:=(kn1=kn2∧0<room1∧room1≤room2)∨(room1=0∧∀ i,kn1.getD i false=true→kn2.getD i false=true)
structure Hy (E:Env) (A:Int→Att):Prop where
 k:Kn E.c A
 ar:∀ p,p<E.c.length→E.ar.getD p 0=loopsAt E.c p
 inn:∀ s,Good E.c.length E.t.size s→E.isIn s=true→(A (gt s 0)).y=0
 nb:∀ s,E.isIn s=true→∀ q,q<E.c.length→(E.c.getD q ins0).op≠8
theorem Adds.refl (kn:List Bool):Adds E A kn kn:=fun u _ _ h=>.inl h
theorem Adds.trans {a b c:List Bool} (h1:Adds E A a b) (h2:Adds E A b c):Adds E A a c:=fun u hu hi h=>by
 rcases h2 u hu hi h with h | h
 ·exact h1 u hu hi h
 ·exact .inr h
theorem KInv.adds {kn kn2:List Bool} {s:Sta} (h:KInv E A kn s) (ha:Adds E A kn kn2):KInv E A kn2 s:=fun u hu hi hk=>by
 rcases ha u hu hi hk with hk | hk
 ·exact h u hu hi hk
 ·exact .inl hk
theorem KInv.step (hy:Hy E A) {kn:List Bool} {room:Int} {s u:Sta} (hs:Nice E A s) (h:KInv E A kn s) (hm:mu E A u<mu E A s):KInv E A (E.kn' s kn room) u:=fun v hv hi hk=>by
 rcases kn'_mem hk with hk | ⟨_,e⟩
 ·rcases h v hv hi hk with a | a
  ·exact .inl a
  ·exact .inr (by omega)
 ·have:=(lk_of_key hy.k hy.ar hs hv e).2
  exact .inr (by omega)
theorem fail_alike (hy:Hy E A) {s u:Sta} (hs:Nice E A s) (hu:Nice E A u) (hi:E.isIn s=true) (e:E.key u=E.key s) (h:Fail E s):Fail E u:=by
 obtain ⟨n,h1,h2⟩:=h
 obtain ⟨a,b,_⟩:=look_alike hy.k [] (idle_nil E) (hy.nb s hi) n n s u (Nat.le_refl _) hs hu (lk_of_key hy.k hy.ar hs hu e).1
 exact ⟨n,by rw [b];exact h1,by rw [a];exact h2⟩
theorem adds_kn' (hy:Hy E A) {kn:List Bool} {room:Int} {s:Sta} (hs:Nice E A s) (h:Fail E s):Adds E A kn (E.kn' s kn room):=fun u hu hi hk=>by
 rcases kn'_mem hk with hk | ⟨hi2,e⟩
 ·exact .inl hk
 ·exact .inr (fail_alike hy hs hu hi2 e h)
theorem Rel.step {kn1 kn2:List Bool} {room1 room2:Int} {s:Sta} (h:Rel kn1 room1 kn2 room2) (d1:E.dead s kn1=false) (d2:E.dead s kn2=false):Rel (E.kn' s kn1 room1) (E.room' s kn1 room1) (E.kn' s kn2 room2) (E.room' s kn2 room2):=by
 rcases h with ⟨rfl,h1,h2⟩ | ⟨rfl,h⟩
 ·by_cases hi:E.isIn s=true
  ·unfold Env.dead at d1
   rw [if_pos hi] at d1
   unfold Env.kn' Env.room' deadKn deadRoom
   simp only [hi,d1,if_true,Bool.false_eq_true,if_false,if_pos h1,if_pos (show 0<room2 by omega)]
   by_cases e:room1=1
   ·exact .inr ⟨by omega,fun i h=>h⟩
   ·exact .inl ⟨rfl,by omega,by omega⟩
  ·unfold Env.kn' Env.room'
   rw [if_neg hi,if_neg hi,if_neg hi,if_neg hi]
   exact .inl ⟨rfl,h1,h2⟩
 ·obtain ⟨e1,e2⟩:=idle_room E kn1 s
  rw [e1,e2]
  exact .inr ⟨rfl,fun i hi=>mem_kn' (h i hi)⟩
theorem look_closed (Pd:List Bool→Int→Prop) (hcl:∀ s kn room,Pd kn room→Pd (E.kn' s kn room) (E.room' s kn room)):∀ (N n:Nat) (s:Sta) (kn:List Bool) (room:Int),n≤N→Pd kn room→Pd (look E n s kn room).kn (look E n s kn room).room
 | N,0,s,kn,room,_,h=>h
 | 0,n+1,s,kn,room,hn,_=>by omega
 | N+1,n+1,s,kn,room,hn,h=>by
  have ih:=look_closed Pd hcl N
  have h':=hcl s kn room h
  cases hd:E.dead s kn with
  | true=>rw [look_d hd];exact h'
  | false =>
  by_cases h13:(E.ins s).op=13∨(E.ins s).op=12
  ·rw [look_f hd h13];exact h'
  by_cases o2:(E.ins s).op=2
  ·obtain ⟨r,hr⟩:∃ r,r=look E n (s.set 0 (E.ins s).x) (E.kn' s kn room) (E.room' s kn room):=⟨_,rfl⟩
   have n1:=look_n E n (s.set 0 (E.ins s).x) (E.kn' s kn room) (E.room' s kn room)
   have k1:=ih n (s.set 0 (E.ins s).x) _ _ (by omega) h'
   rw [← hr] at n1 k1
   rw [look_2 hd o2 hr]
   split
   ·exact k1
   ·exact ih _ _ _ _ (by omega) k1
  by_cases o11:(E.ins s).op=11
  ·obtain ⟨r,hr⟩:∃ r,r=look E n (s.set 0 (gt s 0+1)) (E.kn' s kn room) (E.room' s kn room):=⟨_,rfl⟩
   have n1:=look_n E n (s.set 0 (gt s 0+1)) (E.kn' s kn room) (E.room' s kn room)
   have k1:=ih n (s.set 0 (gt s 0+1)) _ _ (by omega) h'
   rw [← hr] at n1 k1
   rw [look_11 hd o11 hr]
   split
   ·exact k1
   split
   ·exact ih _ _ _ _ (by omega) k1
   ·exact k1
  rw [look_1 hd o2 o11 (fun e=>h13 (.inr e)) (fun e=>h13 (.inl e))]
  split
  ·exact ih _ _ _ _ (by omega) h'
  ·exact h'
theorem apart_eq (s:Sta) (x:Ins) (a b:Sta) (ok:Bool) (h:ok=true→b=a):(apartP s x b ok).2=(apartP s x a ok).2∧((apartP s x a ok).2=true→(apartP s x b ok).1=(apartP s x a ok).1):=by
 unfold apartP
 split
 ·exact ⟨rfl,fun e=>by rw [h e]⟩
 split
 ·exact ⟨rfl,fun e=>by rw [h e]⟩
 ·exact ⟨rfl,fun _=>rfl⟩
def InR (room:Int):Prop:=0≤room∧room≤5000
theorem look_fewer (hy:Hy E A) (Pd:List Bool→Int→Prop) (hcl:∀ s kn room,Pd kn room→Pd (E.kn' s kn room) (E.room' s kn room))
  (hF:∀ n s kn room,Pd kn room→InR room→Nice E A s→KInv E A kn s→Fail E s→(look E n s kn room).over=false→(look E n s kn room).ok=false)
  (hG:∀ n s kn room,Pd kn room→InR room→Nice E A s→KInv E A kn s→(look E n s kn room).over=false→(look E n s kn room).ok=false→Fail E s) :
  ∀ (N n1 n2:Nat) (s:Sta) (kn1:List Bool) (room1:Int) (kn2:List Bool) (room2:Int),n1≤N→n1≤n2→Nice E A s→InR room1→InR room2→Pd kn1 room1→KInv E A kn1 s→KInv E A kn2 s→Rel kn1 room1 kn2 room2→(look E n1 s kn1 room1).over=false →
  (look E n2 s kn2 room2).over=false∧(look E n2 s kn2 room2).ok=(look E n1 s kn1 room1).ok∧((look E n1 s kn1 room1).ok=true→(look E n2 s kn2 room2).st=(look E n1 s kn1 room1).st)∧n2+(look E n1 s kn1 room1).n≤n1+(look E n2 s kn2 room2).n ∧
  ((look E n1 s kn1 room1).ok=false→Rel (look E n1 s kn1 room1).kn (look E n1 s kn1 room1).room (look E n2 s kn2 room2).kn (look E n2 s kn2 room2).room∧Adds E A kn1 (look E n1 s kn1 room1).kn∧Adds E A kn2 (look E n2 s kn2 room2).kn)
 | N,0,n2,s,kn1,room1,kn2,room2,_,_,_,_,_,_,_,_,_,ho=>by rw [look_zero] at ho;cases ho
 | 0,n1+1,n2,s,kn1,room1,kn2,room2,hn,_,_,_,_,_,_,_,_,_=>by omega
 | N+1,n1+1,0,s,kn1,room1,kn2,room2,_,hn,_,_,_,_,_,_,_,_=>by omega
 | N+1,n1+1,n2+1,s,kn1,room1,kn2,room2,hn,hnn,hs,hr1,hr2,hp,k1,k2,hR,ho=>by
  have ih:=look_fewer hy Pd hcl hF hG N
  have hK:=hy.k
  have hp':=hcl s kn1 room1 hp
  have i1:=E.room'_in s kn1 room1 hr1
  have i2:=E.room'_in s kn2 room2 hr2
  have fin:(look E (n1+1) s kn1 room1).ok=false→Fail E s:=hG _ _ _ _ hp hr1 hs k1 ho
  cases d1:E.dead s kn1 with
  | true =>
   obtain ⟨a1,a2,a3,a4⟩:=dead_idle room1 d1
   have d2:E.dead s kn2=true:=by
    unfold Env.dead;rw [if_pos a3]
    rcases hR with ⟨rfl,_⟩ | ⟨_,h⟩
    ·exact a4
    ·exact h _ a4
   obtain ⟨b1,b2,b3,b4⟩:=dead_idle room2 d2
   rw [look_d d1,look_d d2,a1,a2,b1,b2]
   exact ⟨rfl,rfl,fun e=>(by cases e),by dsimp only;omega,fun _=>⟨hR,Adds.refl _,Adds.refl _⟩⟩
  | false =>
  cases d2:E.dead s kn2 with
  | true =>
   obtain ⟨b1,b2,b3,b4⟩:=dead_idle room2 d2
   have hfs:Fail E s:=by
    rcases k2 s hs b3 b4 with h | h
    ·exact h
    ·omega
   have hok:=hF _ _ _ _ hp hr1 hs k1 hfs ho
   have hr0:room1=0∧∀ i,kn1.getD i false=true→kn2.getD i false=true:=by
    rcases hR with ⟨rfl,_⟩ | h
    ·rw [d1] at d2;cases d2
    ·exact h
   have hc:=look_closed (E:=E) (fun kn room=>kn=kn1∧room=0) (fun s kn room h=>by rw [h.1,h.2];exact idle_room E kn1 s) (n1+1) (n1+1) s kn1 room1 (Nat.le_refl _) ⟨rfl,hr0.1⟩
   have hlt:=look_n_lt E n1 s kn1 room1
   rw [look_d d2,b1,b2,hc.1,hc.2,hok]
   exact ⟨rfl,rfl,fun e=>(by cases e),by dsimp only;omega,fun _=>⟨.inr ⟨rfl,hr0.2⟩,Adds.refl _,Adds.refl _⟩⟩
  | false =>
  have hR':=hR.step d1 d2
  by_cases h13:(E.ins s).op=13∨(E.ins s).op=12
  ·rw [look_f d1 h13,look_f d2 h13]
   exact ⟨rfl,rfl,fun _=>rfl,by dsimp only;omega,fun e=>by cases e⟩
  by_cases o2:(E.ins s).op=2
  ·obtain ⟨⟨x1,x2,x3⟩,⟨y1,y2,y3⟩⟩:=step_split hK hs o2
   obtain ⟨r,hr⟩:∃ r,r=look E n1 (s.set 0 (E.ins s).x) (E.kn' s kn1 room1) (E.room' s kn1 room1):=⟨_,rfl⟩
   obtain ⟨q,hq⟩:∃ q,q=look E n2 (s.set 0 (E.ins s).x) (E.kn' s kn2 room2) (E.room' s kn2 room2):=⟨_,rfl⟩
   have l1:=look_n E n1 (s.set 0 (E.ins s).x) (E.kn' s kn1 room1) (E.room' s kn1 room1)
   have g1:=(look_good E hK.k.ok N n1 _ (E.kn' s kn1 room1) (E.room' s kn1 room1) (by omega) x1.g i1).2.2.1
   have g2:=(look_good E hK.k.ok n2 n2 _ (E.kn' s kn2 room2) (E.room' s kn2 room2) (by omega) x1.g i2).2.2.1
   have c1:=look_closed Pd hcl n1 n1 (s.set 0 (E.ins s).x) _ _ (Nat.le_refl _) hp'
   have j:=ih n1 n2 (s.set 0 (E.ins s).x) (E.kn' s kn1 room1) (E.room' s kn1 room1) (E.kn' s kn2 room2) (E.room' s kn2 room2) (by omega) (by omega) x1 i1 i2 hp' (k1.step hy hs x2) (k2.step hy hs x2) hR'
   rw [look_2 d1 o2 hr] at ho fin ⊢
   rw [look_2 d2 o2 hq]
   rw [← hr] at l1 g1 c1 j
   rw [← hq] at g2 j
   by_cases hro:(r.ok||r.over)=true
   ·rw [if_pos hro] at ho fin ⊢
    obtain ⟨j1,j2,j3,j4,j5⟩:=j ho
    have hok:r.ok=true:=by simpa [ho] using hro
    rw [if_pos (by rw [j2,hok];rfl)]
    exact ⟨j1,j2,j3,by omega,fun e=>by rw [hok] at e;cases e⟩
   ·rw [if_neg hro] at ho fin ⊢
    have hr2:r.ok=false∧r.over=false:=by simpa using hro
    obtain ⟨j1,j2,j3,j4,j5⟩:=j hr2.2
    obtain ⟨v1,v2,v3⟩:=j5 hr2.1
    rw [if_neg (by rw [j2,j1,hr2.1];simp)]
    have k:=ih r.n q.n (s.set 0 (E.ins s).y) r.kn r.room q.kn q.room (by omega) (by omega) y1 g1 g2 c1 ((k1.step hy hs y2).adds v2) ((k2.step hy hs y2).adds v3) v1 ho
    obtain ⟨z1,z2,z3,z4,z5⟩:=k
    refine ⟨z1,z2,z3,by omega,fun e=>?_⟩
    obtain ⟨w1,w2,w3⟩:=z5 e
    have hf:=fin e
    exact ⟨w1,((adds_kn' hy hs hf).trans v2).trans w2,((adds_kn' hy hs hf).trans v3).trans w3⟩
  by_cases o11:(E.ins s).op=11
  ·obtain ⟨x1,x2,x3,x4⟩:=step_in hK hs o11
   obtain ⟨r,hr⟩:∃ r,r=look E n1 (s.set 0 (gt s 0+1)) (E.kn' s kn1 room1) (E.room' s kn1 room1):=⟨_,rfl⟩
   obtain ⟨q,hq⟩:∃ q,q=look E n2 (s.set 0 (gt s 0+1)) (E.kn' s kn2 room2) (E.room' s kn2 room2):=⟨_,rfl⟩
   have l1:=look_n E n1 (s.set 0 (gt s 0+1)) (E.kn' s kn1 room1) (E.room' s kn1 room1)
   have g1:=look_good E hK.k.ok N n1 _ (E.kn' s kn1 room1) (E.room' s kn1 room1) (by omega) x1.g i1
   have e1:=look_end hK n1 n1 _ (E.kn' s kn1 room1) (E.room' s kn1 room1) (by omega) x1 i1
   have s1:=sub_end hK (n:=n1) (kn:=E.kn' s kn1 room1) hs o11 i1
   have t1:=look_apart hK hy.inn n1 n1 _ (E.kn' s kn1 room1) (E.room' s kn1 room1) (by omega) x1 i1 (by rw [x3];omega)
   have t2:=look_apart hK hy.inn n2 n2 _ (E.kn' s kn2 room2) (E.room' s kn2 room2) (by omega) x1 i2 (by rw [x3];omega)
   have j:=ih n1 n2 (s.set 0 (gt s 0+1)) (E.kn' s kn1 room1) (E.room' s kn1 room1) (E.kn' s kn2 room2) (E.room' s kn2 room2) (by omega) (by omega) x1 i1 i2 hp' (k1.step hy hs x2) (k2.step hy hs x2) hR'
   rw [look_11 d1 o11 hr] at ho fin ⊢
   rw [look_11 d2 o11 hq]
   rw [← hr] at l1 g1 e1 s1 t1 j
   rw [← hq] at t2 j
   by_cases hov:r.over=true
   ·rw [if_pos hov] at ho;cases ho
   rw [if_neg hov] at ho fin ⊢
   have hov':r.over=false:=by simpa using hov
   obtain ⟨j1,j2,j3,j4,j5⟩:=j hov'
   rw [if_neg (by rw [j1];simp),j2]
   obtain ⟨p1,p2⟩:=apart_eq s (E.ins s) r.st q.st r.ok j3
   rw [p1]
   rw [t1.1,t1.2] at ho fin ⊢
   rw [t2.1,t2.2]
   by_cases hk:(apartP s (E.ins s) r.st r.ok).2=true
   ·rw [if_pos hk] at ho fin ⊢
    rw [if_pos hk,p2 hk]
    obtain ⟨z1,z2,z3⟩:=step_out hK hs o11 g1.2.2.2.1 (fun e=>⟨(ended_pc x1).trans (e1 e),s1 e⟩) hk
    have k:=ih r.n q.n _ (E.kn' s kn1 room1) (E.room' s kn1 room1) (E.kn' s kn2 room2) (E.room' s kn2 room2) (by omega) (by omega) z1.1 i1 i2 hp' (k1.step hy hs z2) (k2.step hy hs z2) hR' ho
    obtain ⟨y1,y2,y3,y4,y5⟩:=k
    refine ⟨y1,y2,y3,by omega,fun e=>?_⟩
    obtain ⟨w1,w2,w3⟩:=y5 e
    have hf:=fin e
    exact ⟨w1,(adds_kn' hy hs hf).trans w2,(adds_kn' hy hs hf).trans w3⟩
   ·rw [if_neg hk] at ho fin ⊢
    rw [if_neg hk]
    have hf:=fin rfl
    exact ⟨rfl,rfl,fun e=>(by cases e),by dsimp only;omega,fun _=>⟨hR',adds_kn' hy hs hf,adds_kn' hy hs hf⟩⟩
  have o12:(E.ins s).op≠12:=fun e=>h13 (.inr e)
  have o13:(E.ins s).op≠13:=fun e=>h13 (.inl e)
  rw [look_1 d1 o2 o11 o12 o13] at ho fin ⊢
  rw [look_1 d2 o2 o11 o12 o13]
  by_cases hk:(oneP E.t s (E.ins s)).2=true
  ·rw [if_pos hk] at ho fin ⊢
   rw [if_pos hk]
   obtain ⟨⟨z1,z2,z3,z4⟩,z5⟩:=step_one hK hs o2 o11 o12 o13 hk
   obtain ⟨y1,y2,y3,y4,y5⟩:=ih n1 n2 _ (E.kn' s kn1 room1) (E.room' s kn1 room1) (E.kn' s kn2 room2) (E.room' s kn2 room2) (by omega) (by omega) z1 i1 i2 hp' (k1.step hy hs z2) (k2.step hy hs z2) hR' ho
   refine ⟨y1,y2,y3,by omega,fun e=>?_⟩
   obtain ⟨w1,w2,w3⟩:=y5 e
   have hf:=fin e
   exact ⟨w1,(adds_kn' hy hs hf).trans w2,(adds_kn' hy hs hf).trans w3⟩
  ·rw [if_neg hk] at ho fin ⊢
   rw [if_neg hk]
   have hf:=fin rfl
   exact ⟨rfl,rfl,fun e=>(by cases e),by dsimp only;omega,fun _=>⟨hR',adds_kn' hy hs hf,adds_kn' hy hs hf⟩⟩
end Mt
namespace Mt
variable {E:Env} {A:Int→Att}
theorem kinv_nil (s:Sta):KInv E A [] s:=fun u _ _ h=>by simp at h
theorem rel_nil (kn:List Bool) (room:Int):Rel [] 0 kn room:=.inr ⟨rfl,fun i h=>by simp at h⟩
theorem inR0:InR 0:=by unfold InR;omega
def PNil (kn:List Bool) (room:Int):Prop:=kn=[]∧room=0
theorem nil_cl (s:Sta) (kn:List Bool) (room:Int) (h:PNil kn room):PNil (E.kn' s kn room) (E.room' s kn room):=by
 obtain ⟨rfl,rfl⟩:=h
 exact ⟨(idle_nil E s).2.1,(idle_nil E s).2.2⟩
theorem look_same {n m:Nat} {s:Sta} {kn:List Bool} {room:Int} (h1:(look E n s kn room).over=false) (h2:(look E m s kn room).over=false):(look E n s kn room).ok=(look E m s kn room).ok:=by
 have a:=look_more E m n n s kn room (Nat.le_refl _) h1
 have b:=look_more E n m m s kn room (Nat.le_refl _) h2
 rw [Nat.add_comm m n,a] at b
 injection b
theorem nil_F (n:Nat) (s:Sta) (kn:List Bool) (room:Int) (hp:PNil kn room) (_:InR room) (_:Nice E A s) (_:KInv E A kn s) (hf:Fail E s) (ho:(look E n s kn room).over=false):(look E n s kn room).ok=false:=by
 obtain ⟨rfl,rfl⟩:=hp
 obtain ⟨m,h1,h2⟩:=hf
 rw [look_same ho h1];exact h2
theorem nil_G (n:Nat) (s:Sta) (kn:List Bool) (room:Int) (hp:PNil kn room) (_:InR room) (_:Nice E A s) (_:KInv E A kn s) (ho:(look E n s kn room).over=false) (hk:(look E n s kn room).ok=false):Fail E s:=by
 obtain ⟨rfl,rfl⟩:=hp
 exact ⟨n,ho,hk⟩
theorem all_F (hy:Hy E A) (n:Nat) (s:Sta) (kn:List Bool) (room:Int) (_:True) (hr:InR room) (hs:Nice E A s) (hk:KInv E A kn s) (hf:Fail E s) (ho:(look E n s kn room).over=false):(look E n s kn room).ok=false:=by
 obtain ⟨m,h1,h2⟩:=hf
 obtain ⟨a,b,_⟩:=look_fewer hy PNil nil_cl nil_F nil_G m m (n+m) s [] 0 kn room (Nat.le_refl _) (by omega) hs inR0 hr ⟨rfl,rfl⟩ (kinv_nil s) hk (rel_nil _ _) h1
 rw [look_same ho a,b];exact h2
theorem all_G (hy:Hy E A) (n:Nat) (s:Sta) (kn:List Bool) (room:Int) (_:True) (hr:InR room) (hs:Nice E A s) (hk:KInv E A kn s) (ho:(look E n s kn room).over=false) (hok:(look E n s kn room).ok=false):Fail E s:=by
 obtain ⟨m,h1⟩:=look_ends hy.k (mu E A s+1) s [] 0 (by omega) hs inR0
 obtain ⟨a,b,_⟩:=look_fewer hy PNil nil_cl nil_F nil_G m m (n+m) s [] 0 kn room (Nat.le_refl _) (by omega) hs inR0 hr ⟨rfl,rfl⟩ (kinv_nil s) hk (rel_nil _ _) h1
 refine ⟨m,h1,?_⟩
 rw [← b,← look_same ho a];exact hok
def KF (E:Env) (A:Int→Att) (kn:List Bool):Prop:=∀ u,Nice E A u→E.isIn u=true→kn.getD (E.key u) false=true→Fail E u
theorem KF.inv {kn:List Bool} (h:KF E A kn) (s:Sta):KInv E A kn s:=fun u hu hi hk=>.inl (h u hu hi hk)
theorem KF.adds {kn kn2:List Bool} (h:KF E A kn) (ha:Adds E A kn kn2):KF E A kn2:=fun u hu hi hk=>by
 rcases ha u hu hi hk with hk | hk
 ·exact h u hu hi hk
 ·exact hk
theorem kf_new (n:Nat):KF E A (List.replicate n false):=fun u _ _ h=>by
 rw [List.getD_eq_getElem?_getD,List.getElem?_replicate] at h
 split at h <;> simp at h
theorem start_nice (hK:Kn E.c A) (p:Nat) (hp:p≤E.t.size):Nice E A (startSt p):=by
 have e0:gt (startSt p) 0=0:=rfl
 refine ⟨startSt_good _ _ p hK.k.pos hp,fun j hj=>?_,fun i j hij hj=>?_⟩
 ·rw [e0,hK.k.start] at hj;dsimp only at hj;omega
 ·rw [e0,hK.k.start] at hj;dsimp only at hj;omega
theorem search_fewer (hy:Hy E A) (Pd:List Bool→Int→Prop) (hcl:∀ s kn room,Pd kn room→Pd (E.kn' s kn room) (E.room' s kn room))
  (hF:∀ n s kn room,Pd kn room→InR room→Nice E A s→KInv E A kn s→Fail E s→(look E n s kn room).over=false→(look E n s kn room).ok=false)
  (hG:∀ n s kn room,Pd kn room→InR room→Nice E A s→KInv E A kn s→(look E n s kn room).over=false→(look E n s kn room).ok=false→Fail E s) (b1 b2:Int) :
  ∀ (f p n1 n2:Nat) (kn1:List Bool) (room1:Int) (kn2:List Bool) (room2:Int),p+f≤E.t.size+1→n1≤n2→InR room1→InR room2→Pd kn1 room1→KF E A kn1→KF E A kn2→Rel kn1 room1 kn2 room2→(search E b1 f p n1 kn1 room1).2=false →
  (search E b2 f p n2 kn2 room2).2=false∧(search E b2 f p n2 kn2 room2).1.ok=(search E b1 f p n1 kn1 room1).1.ok∧(search E b2 f p n2 kn2 room2).1.at'=(search E b1 f p n1 kn1 room1).1.at'∧(search E b2 f p n2 kn2 room2).1.steps+n2-b2≤(search E b1 f p n1 kn1 room1).1.steps+n1-b1
 | 0,p,n1,n2,kn1,room1,kn2,room2,_,hn,_,_,_,_,_,_,_=>by
  simp only [search]
  exact ⟨trivial,trivial,trivial,by omega⟩
 | f+1,p,n1,n2,kn1,room1,kn2,room2,hpf,hn,hr1,hr2,hp,k1,k2,hR,ho=>by
  have hs:=start_nice (E:=E) hy.k p (by omega)
  have j:=look_fewer hy Pd hcl hF hG n1 n1 n2 (startSt p) kn1 room1 kn2 room2 (Nat.le_refl _) hn hs hr1 hr2 hp (k1.inv _) (k2.inv _) hR
  have g1:=(look_good E hy.k.k.ok n1 n1 (startSt p) kn1 room1 (Nat.le_refl _) hs.g hr1).2.2.1
  have g2:=(look_good E hy.k.k.ok n2 n2 (startSt p) kn2 room2 (Nat.le_refl _) hs.g hr2).2.2.1
  have c1:=look_closed Pd hcl n1 n1 (startSt p) kn1 room1 (Nat.le_refl _) hp
  have l1:=look_n E n1 (startSt p) kn1 room1
  have l2:=look_n E n2 (startSt p) kn2 room2
  rw [search] at ho ⊢
  rw [search]
  generalize look E n1 (startSt p) kn1 room1=r at *
  generalize look E n2 (startSt p) kn2 room2=q at *
  by_cases hov:r.over=true
  ·rw [if_pos hov] at ho;cases ho
  have hov':r.over=false:=by simpa using hov
  obtain ⟨j1,j2,j3,j4,j5⟩:=j hov'
  rw [if_neg hov] at ho ⊢
  rw [if_neg (by rw [j1];simp)]
  by_cases hok:r.ok=true
  ·rw [if_pos hok,if_pos (by rw [j2];exact hok),j3 hok]
   refine ⟨rfl,rfl,rfl,?_⟩
   dsimp only;omega
  ·have hok':r.ok=false:=by simpa using hok
   obtain ⟨v1,v2,v3⟩:=j5 hok'
   rw [if_neg hok] at ho ⊢
   rw [if_neg (by rw [j2];exact hok)]
   obtain ⟨z1,z2,z3,z4⟩:=search_fewer hy Pd hcl hF hG b1 b2 f (p+1) r.n q.n r.kn r.room q.kn q.room (by omega) (by omega) g1 g2 c1 (k1.adds v2) (k2.adds v3) v1 ho
   exact ⟨z1,z2,z3,by omega⟩
theorem look_env {E':Env} (hc:E'.c=E.c) (ht:E'.t=E.t) {kn kn':List Bool} {room room':Int} (h:Idle E kn room) (h':Idle E' kn' room'):∀ (N n:Nat) (s:Sta),n≤N →
  (look E' n s kn' room').st=(look E n s kn room).st∧(look E' n s kn' room').ok=(look E n s kn room).ok∧(look E' n s kn' room').n=(look E n s kn room).n∧(look E' n s kn' room').over=(look E n s kn room).over∧(look E' n s kn' room').kn=kn'∧(look E' n s kn' room').room=room'∧(look E n s kn room).kn=kn∧(look E n s kn room).room=room
 | N,0,s,_=>⟨rfl,rfl,rfl,rfl,rfl,rfl,rfl,rfl⟩
 | 0,n+1,s,hn=>by omega
 | N+1,n+1,s,hn=>by
  have ih:=look_env hc ht h h' N
  obtain ⟨d,k,r⟩:=h s
  obtain ⟨d',k',r'⟩:=h' s
  have hx:E'.ins s=E.ins s:=by unfold Env.ins;rw [hc]
  by_cases h13:(E.ins s).op=13∨(E.ins s).op=12
  ·rw [look_f d h13,look_f d' (by rw [hx];exact h13)]
   exact ⟨rfl,rfl,rfl,rfl,k',r',k,r⟩
  by_cases o2:(E.ins s).op=2
  ·rw [look_2 d o2 rfl,look_2 d' (by rw [hx];exact o2) rfl,hx,k,r,k',r']
   have j:=ih n (s.set 0 (E.ins s).x) (by omega)
   have l:=look_n E n (s.set 0 (E.ins s).x) kn room
   generalize look E n (s.set 0 (E.ins s).x) kn room=q at *
   generalize look E' n (s.set 0 (E.ins s).x) kn' room'=q' at *
   obtain ⟨j1,j2,j3,j4,j5,j6,j7,j8⟩:=j
   rw [j2,j4]
   split
   ·exact ⟨j1,j2,j3,j4,j5,j6,j7,j8⟩
   ·rw [j3,j5,j6,j7,j8];exact ih _ _ (by omega)
  by_cases o11:(E.ins s).op=11
  ·rw [look_11 d o11 rfl,look_11 d' (by rw [hx];exact o11) rfl,hx,k,r,k',r']
   have j:=ih n (s.set 0 (gt s 0+1)) (by omega)
   have l:=look_n E n (s.set 0 (gt s 0+1)) kn room
   generalize look E n (s.set 0 (gt s 0+1)) kn room=q at *
   generalize look E' n (s.set 0 (gt s 0+1)) kn' room'=q' at *
   obtain ⟨j1,j2,j3,j4,j5,j6,j7,j8⟩:=j
   rw [j1,j2,j3,j4,j5,j6,j7,j8]
   split
   ·exact ⟨rfl,rfl,rfl,rfl,rfl,rfl,rfl,rfl⟩
   split
   ·exact ih _ _ (by omega)
   ·exact ⟨rfl,rfl,rfl,rfl,rfl,rfl,rfl,rfl⟩
  have o12:(E.ins s).op≠12:=fun e=>h13 (.inr e)
  have o13:(E.ins s).op≠13:=fun e=>h13 (.inl e)
  rw [look_1 d o2 o11 o12 o13,look_1 d' (by rw [hx];exact o2) (by rw [hx];exact o11) (by rw [hx];exact o12) (by rw [hx];exact o13),hx,ht,k,r,k',r']
  split
  ·exact ih _ _ (by omega)
  ·exact ⟨rfl,rfl,rfl,rfl,rfl,rfl,rfl,rfl⟩
theorem search_env {E':Env} (hc:E'.c=E.c) (ht:E'.t=E.t) {kn kn':List Bool} {room room':Int} (h:Idle E kn room) (h':Idle E' kn' room') (b:Int):∀ (f p n:Nat),search E' b f p n kn' room'=search E b f p n kn room
 | 0,p,n=>rfl
 | f+1,p,n=>by
  obtain ⟨j1,j2,j3,j4,j5,j6,j7,j8⟩:=look_env hc ht h h' n n (startSt p) (Nat.le_refl _)
  rw [search,search,j1,j2,j3,j4,j5,j6,j7,j8]
  rw [search_env hc ht h h' b f (p+1)]
theorem search_ends (hK:Kn E.c A):∀ (f p:Nat),p+f≤E.t.size+1→∃ n,∀ b,(search E b f p n [] 0).2=false
 | 0,p,_=>⟨0,fun b=>rfl⟩
 | f+1,p,hp=>by
  have hs:=start_nice (E:=E) hK p (by omega)
  obtain ⟨n1,h1⟩:=look_ends hK (mu E A (startSt p)+1) (startSt p) [] 0 (by omega) hs inR0
  obtain ⟨n2,h2⟩:=search_ends hK f (p+1) (by omega)
  refine ⟨n1+n2,fun b=>?_⟩
  have hc:=look_closed (E:=E) PNil nil_cl n1 n1 (startSt p) [] 0 (Nat.le_refl _) ⟨rfl,rfl⟩
  rw [search,look_more E n2 n1 n1 _ _ _ (Nat.le_refl _) h1]
  dsimp only
  rw [if_neg (by simp)]
  split
  ·rfl
  ·rw [hc.1,hc.2,Nat.add_comm _ n2]
   have:=search_more E (b-(look E n1 (startSt p) [] 0).n) (look E n1 (startSt p) [] 0).n f (p+1) n2 [] 0 (h2 _)
   rw [Int.sub_add_cancel] at this
   rw [this];exact h2 _
theorem env_hy {c:List Ins} {A:Int→Att} (hK:Kn c A) (t:ByteArray) (policy mask:Int):Hy (envOf c t policy mask) A:=by
 have key:∀ q,q<c.length→(chosen c policy mask).getD q false=true→hasBack c=false∧inSub c q=false:=fun q hq h=>by
  unfold chosen at h
  by_cases hb:hasBack c=true
  ·rw [if_pos hb,List.getD_eq_getElem?_getD,List.getElem?_replicate] at h
   split at h <;> simp at h
  ·rw [if_neg hb,List.getD_eq_getElem?_getD,List.getElem?_map,List.getElem?_range hq] at h
   refine ⟨by simpa using hb,?_⟩
   simp only [Option.map_some,Option.getD_some] at h
   unfold chosenAt at h
   cases e:inSub c q
   ·rfl
   ·rw [e] at h;simp at h
 have out:∀ q,(chosen c policy mask).getD q false=true→q<c.length:=fun q h=>by
  apply Classical.byContradiction
  intro hq
  rw [List.getD_eq_getElem?_getD,List.getElem?_eq_none (by rw [chosen_len];omega)] at h
  simp at h
 refine ⟨hK,fun p hp=>?_,fun s hg hi=>?_,fun s hi q hq=>?_⟩
 ·have hp:p<c.length:=hp
  show ((List.range c.length).map fun p=>(loopsAt c p:Int)).getD p 0=_
  rw [List.getD_eq_getElem?_getD,List.getElem?_map,List.getElem?_range hp];rfl
 ·have hpc:((pcOf s:Nat):Int)=gt s 0:=by have:=hg.pc0;unfold pcOf;omega
  rw [← hpc]
  exact hK.suby _ hg.pcOf_lt (key _ hg.pcOf_lt hi).2
 ·have hb:=(key _ (out _ hi) hi).1
  unfold hasBack at hb
  rw [List.any_eq_false] at hb
  have hq:q<c.length:=hq
  intro e
  have e:(c.getD q ins0).op=8:=e
  refine hb (c.getD q ins0) ?_ (by rw [decide_eq_true_eq];exact e)
  rw [List.getD_eq_getElem?_getD,List.getElem?_eq_getElem hq];exact List.getElem_mem hq
theorem none_idle (c:List Ins) (t:ByteArray) (mask:Int) (kn:List Bool) (room:Int):Idle (envOf c t 0 mask) kn room:=fun s=>by
 refine Env.not_in _ s kn room ?_
 show (chosen c 0 mask).getD (pcOf s) false=false
 rw [List.getD_eq_getElem?_getD]
 unfold chosen
 split
 ·rw [List.getElem?_replicate];split <;> rfl
 ·rw [List.getElem?_map]
  cases h:(List.range c.length)[pcOf s]? with
  | none=>rfl
  | some k =>
   simp only [Option.map_some,Option.getD_some]
   unfold chosenAt picked
   split
   ·rfl
   ·simp
theorem table_less {c:List Ins} {A:Int→Att} (hK:Kn c A) (t:ByteArray) (m r policy mask room budget:Int) (frm:Nat) (hf:frm≤t.size+1) (hr:InR room) (h:(searchAll c t 0 m r budget frm).2=false) :
  (searchAll c t policy mask room budget frm).2=false∧(searchAll c t policy mask room budget frm).1.ok=(searchAll c t 0 m r budget frm).1.ok∧(searchAll c t policy mask room budget frm).1.at'=(searchAll c t 0 m r budget frm).1.at'∧(searchAll c t policy mask room budget frm).1.steps≤(searchAll c t 0 m r budget frm).1.steps:=by
 unfold searchAll at h ⊢
 rw [search_env (E:=envOf c t policy mask) (E':=envOf c t 0 m) rfl rfl (idle_nil _) (none_idle c t m _ r)] at h ⊢
 obtain ⟨a1,a2,a3,a4⟩:=search_fewer (env_hy hK t policy mask) PNil nil_cl nil_F nil_G budget budget (t.size+1-frm) frm budget.toNat budget.toNat [] 0 (List.replicate (c.length*(t.size+1)*12) false) room (by show frm+(t.size+1-frm)≤t.size+1;omega) (Nat.le_refl _) inR0 hr ⟨rfl,rfl⟩ (fun u _ _ h=>by simp at h) (kf_new _) (rel_nil _ _) h
 exact ⟨a1,a2,a3,by omega⟩
theorem table_plain {c:List Ins} {A:Int→Att} (hK:Kn c A) (t:ByteArray) (policy mask room budget:Int) (frm n:Nat) (hf:frm≤t.size+1) (hr:InR room) (hb:0≤budget) (hn:(search (envOf c t policy mask) 0 (t.size+1-frm) frm n [] 0).2=false) (h:(searchAll c t policy mask room budget frm).2=false) :
  (searchAll c t policy mask room budget frm).1.ok=(search (envOf c t policy mask) 0 (t.size+1-frm) frm n [] 0).1.ok∧(searchAll c t policy mask room budget frm).1.at'=(search (envOf c t policy mask) 0 (t.size+1-frm) frm n [] 0).1.at':=by
 unfold searchAll at h ⊢
 have hm:=search_more _ budget n _ _ _ _ _ h
 obtain ⟨a1,a2,a3,a4⟩:=search_fewer (env_hy hK t policy mask) PNil nil_cl nil_F nil_G 0 (budget+n) (t.size+1-frm) frm n (budget.toNat+n) [] 0 (List.replicate (c.length*(t.size+1)*12) false) room (by show frm+(t.size+1-frm)≤t.size+1;omega) (by omega) inR0 hr ⟨rfl,rfl⟩ (fun u _ _ h=>by simp at h) (kf_new _) (rel_nil _ _) hn
 rw [hm] at a2 a3
 exact ⟨a2,a3⟩
theorem table_alike {c:List Ins} {A:Int→Att} (hK:Kn c A) (t:ByteArray) (p1 m1 r1 b1 p2 m2 r2 b2:Int) (frm:Nat) (hf:frm≤t.size+1) (hr1:InR r1) (hr2:InR r2) (hb1:0≤b1) (hb2:0≤b2) (h1:(searchAll c t p1 m1 r1 b1 frm).2=false) (h2:(searchAll c t p2 m2 r2 b2 frm).2=false) :
  (searchAll c t p1 m1 r1 b1 frm).1.ok=(searchAll c t p2 m2 r2 b2 frm).1.ok∧(searchAll c t p1 m1 r1 b1 frm).1.at'=(searchAll c t p2 m2 r2 b2 frm).1.at':=by
 obtain ⟨n,hn⟩:=search_ends (E:=envOf c t p1 m1) hK (t.size+1-frm) frm (by show frm+(t.size+1-frm)≤t.size+1;omega)
 have e:=search_env (E:=envOf c t p1 m1) (E':=envOf c t p2 m2) rfl rfl (idle_nil _) (idle_nil _) 0 (t.size+1-frm) frm n
 obtain ⟨a1,a2⟩:=table_plain hK t p1 m1 r1 b1 frm n hf hr1 hb1 (hn 0) h1
 obtain ⟨c1,c2⟩:=table_plain hK t p2 m2 r2 b2 frm n hf hr2 hb2 (by rw [e];exact hn 0) h2
 rw [e] at c1 c2
 exact ⟨a1.trans c1.symm,a2.trans c2.symm⟩
theorem room_less {c:List Ins} {A:Int→Att} (hK:Kn c A) (t:ByteArray) (policy mask r1 r2 budget:Int) (frm:Nat) (hf:frm≤t.size+1) (hr1:InR r1) (hr2:InR r2) (h12:r1≤r2) (h:(searchAll c t policy mask r1 budget frm).2=false) :
  (searchAll c t policy mask r2 budget frm).2=false∧(searchAll c t policy mask r2 budget frm).1.steps≤(searchAll c t policy mask r1 budget frm).1.steps:=by
 have hy:=env_hy hK t policy mask
 unfold searchAll at h ⊢
 have hR:Rel (List.replicate (c.length*(t.size+1)*12) false) r1 (List.replicate (c.length*(t.size+1)*12) false) r2:=by
  by_cases e:r1=0
  ·exact .inr ⟨e,fun i h=>h⟩
  ·exact .inl ⟨rfl,by unfold InR at hr1;omega,h12⟩
 obtain ⟨a1,a2,a3,a4⟩:=search_fewer hy (fun _ _=>True) (fun _ _ _ _=>trivial) (all_F hy) (all_G hy) budget budget (t.size+1-frm) frm budget.toNat budget.toNat _ r1 _ r2 (by show frm+(t.size+1-frm)≤t.size+1;omega) (Nat.le_refl _) hr1 hr2 trivial (kf_new _) (kf_new _) hR h
 exact ⟨a1,by omega⟩
end Mt
