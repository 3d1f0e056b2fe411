import Derived.Test.YtebpgfodelggoaaDoorC18
set_option linter.unusedVariables false
set_option linter.unusedSimpArgs false
namespace Mt
variable {E:Env} {A:Int→Att}
structure Lk (A:Int→Att) (s u:Sta):Prop where
 pc:gt u 0=gt s 0
 pos:gt u 1=gt s 1
 eq:∀ j:Nat,(j:Int)<(A (gt s 0)).d→(gt s (32+j)=gt s 1↔gt u (32+j)=gt s 1)
theorem Lk.ins {s u:Sta} (h:Lk A s u):E.ins u=E.ins s:=by unfold Env.ins pcOf;rw [h.pc]
theorem Lk.to {s u:Sta} {v:Int} (h:Lk A s u) (ls:s.length=44) (lu:u.length=44) (e:A v=A (gt s 0)):Lk A (s.set 0 v) (u.set 0 v):=by
 refine ⟨by rw [gt_pc0 ls,gt_pc0 lu],by rw [gt_pc (by omega),gt_pc (by omega)];exact h.pos,fun j hj=>?_⟩
 rw [gt_pc0 ls,e] at hj
 rw [gt_pc (by omega),gt_pc (by omega),gt_pc (by omega)]
 exact h.eq j hj
theorem Lk.to' {s u s' u':Sta} (h:Lk A s u) (pc:gt u' 0=gt s' 0) (ps:gt s' 1=gt s 1) (pu:gt u' 1=gt s 1) (hd:(A (gt s' 0)).d≤(A (gt s 0)).d) (hm:∀ j:Nat,j<12→gt s' (32+j)=gt s (32+j)∧gt u' (32+j)=gt u (32+j)) (h11:(A (gt s 0)).d≤11):Lk A s' u':=by
 refine ⟨pc,by rw [ps,pu],fun j hj=>?_⟩
 have:=hm j (by omega)
 rw [this.1,this.2,ps]
 exact h.eq j (by omega)
theorem lk_one (hK:Kn E.c A) (hB:∀ q,q<E.c.length→(E.c.getD q ins0).op≠8) {s u:Sta} (hs:Nice E A s) (hu:Nice E A u) (h:Lk A s u) (h2:(E.ins s).op≠2) (h11:(E.ins s).op≠11) (h12:(E.ins s).op≠12) (h13:(E.ins s).op≠13) :
  (oneP E.t u (E.ins s)).2=(oneP E.t s (E.ins s)).2∧((oneP E.t s (E.ins s)).2=true→Lk A (oneP E.t s (E.ins s)).1 (oneP E.t u (E.ins s)).1):=by
 have h8:(E.ins s).op≠8:=hB _ hs.g.pcOf_lt
 obtain ⟨hn1,hru⟩:=known_att hK.k hs.g.pcOf_lt h13
 have hi:=hK.k.ok (pcOf s) hs.g.pcOf_lt
 have hpc:((pcOf s:Nat):Int)=gt s 0:=by have:=hs.g.pc0;unfold pcOf;omega
 rw [hpc] at hru
 have hxe:E.ins s=E.c.getD (pcOf s) ins0:=rfl
 rw [← hxe] at hru hi
 have hd:=hK.dOk hs.g.pc0 hs.g.pc1
 generalize E.ins s=x at *
 obtain ⟨r1,r2,r3,r4,r5,r6,r7,r11,r12,rB,rd,rG,ro⟩:=hru
 have ls:=hs.g.len
 have lu:=hu.g.len
 have q0:∀ (s:Sta) (i:Nat) (u v:Int),s.length=44→gt ((s.set i u).set 0 v) 0=v:=fun s i u v hl=>gt_set_same _ _ _ (by rw [List.length_set];omega)
 unfold oneP
 by_cases o1:x.op=1
 ·rw [if_pos o1,if_pos o1];dsimp only
  refine ⟨by rw [h.pos],fun _=>?_⟩
  have e:=r1 (by omega)
  have p1:∀ (z:Sta) (y:Int),z.length=44→gt ((z.set 1 y).set 0 (gt z 0+1)) 1=y:=fun z y hz=>by rw [gt_pc (by omega),gt_set_same _ _ _ (by omega)]
  refine ⟨by rw [q0 _ _ _ _ ls,q0 _ _ _ _ lu,h.pc],by rw [p1 _ _ lu,p1 _ _ ls,h.pos],fun j hj=>?_⟩
  rw [q0 _ _ _ _ ls,e] at hj
  rw [p1 _ _ ls,gt_pc (by omega),gt_set_ne _ _ _ _ (by omega),gt_pc (by omega),gt_set_ne _ _ _ _ (by omega)]
  have a1:=hs.le j hj
  have a2:=hu.le j (by rw [h.pc];exact hj)
  have:=h.pos
  constructor <;> intro hh <;> omega
 rw [if_neg o1,if_neg o1]
 by_cases o3:x.op=3
 ·rw [if_pos o3,if_pos o3];dsimp only
  exact ⟨rfl,fun _=>h.to ls lu (r3 o3)⟩
 rw [if_neg o3,if_neg o3]
 by_cases o4:x.op=4
 ·rw [if_pos o4,if_pos o4];dsimp only
  obtain ⟨e1,e2,e3⟩:=r4 o4
  refine ⟨rfl,fun _=>⟨by rw [q0 _ _ _ _ ls,q0 _ _ _ _ lu,h.pc],?_,fun j hj=>?_⟩⟩
  ·rw [gt_pc (by omega),gt_set_ne _ _ _ _ (by omega),gt_pc (by omega),gt_set_ne _ _ _ _ (by omega)];exact h.pos
  ·rw [q0 _ _ _ _ ls,e2] at hj
   rw [show gt ((s.set (32+x.x.toNat) (gt s 1)).set 0 (gt s 0+1)) 1=gt s 1 by rw [gt_pc (by omega),gt_set_ne _ _ _ _ (by omega)],gt_pc (by omega),gt_pc (by omega)]
   by_cases ej:j=x.x.toNat
   ·subst ej
    rw [gt_set_same _ _ _ (by omega),gt_set_same _ _ _ (by omega),h.pos]
   ·rw [gt_set_ne _ _ _ _ (by omega),gt_set_ne _ _ _ _ (by omega)]
    exact h.eq j (by dsimp only at hj;omega)
 rw [if_neg o4,if_neg o4]
 by_cases o5:x.op=5
 ·rw [if_pos o5,if_pos o5];dsimp only
  obtain ⟨e1,e2,e3,e4⟩:=r5 o5
  have hm:=h.eq x.y.toNat (by omega)
  refine ⟨?_,fun _=>h.to' (by rw [gt_pc0 ls,gt_pc0 lu]) (gt_pc (by omega)) (by rw [gt_pc (by omega)];exact h.pos) (by rw [gt_pc0 ls,e1];dsimp only;omega) (fun j _=>⟨gt_pc (by omega),gt_pc (by omega)⟩) hd.2⟩
  rw [h.pos]
  by_cases e:gt s (32+x.y.toNat)=gt s 1
  ·rw [hm.1 e,e]
  ·have e':gt u (32+x.y.toNat)≠gt s 1:=fun he=>e (hm.2 he)
   rw [bne_iff_ne.2 e',bne_iff_ne.2 e]
 rw [if_neg o5,if_neg o5]
 by_cases o6:x.op=6
 ·rw [if_pos o6,if_pos o6];dsimp only
  have hi6:=hi.2.2.2.2.1 (by omega)
  obtain ⟨e,_⟩:=r6 o6
  refine ⟨rfl,fun _=>h.to' (by rw [q0 _ _ _ _ ls,q0 _ _ _ _ lu,h.pc]) ?_ ?_ (by rw [q0 _ _ _ _ ls,e];exact Int.le_refl _) (fun j hj=>⟨?_,?_⟩) hd.2⟩
  all_goals rw [gt_pc (by omega),gt_set_ne _ _ _ _ (by omega)]
  exact h.pos
 rw [if_neg o6,if_neg o6]
 by_cases o7:x.op=7
 ·rw [if_pos o7,if_pos o7];dsimp only
  have hi7:=hi.2.2.2.2.1 (by omega)
  obtain ⟨g,_,e⟩:=r7 o7
  have q1:∀ z:Sta,z.length=44→gt (((z.set (2+(2*x.x).toNat) (gt z (22+x.x.toNat))).set (2+(2*x.x+1).toNat) (gt z 1)).set 0 (gt z 0+1)) 0=gt z 0+1:=fun z hz=>gt_set_same _ _ _ (by simp [List.length_set];omega)
  refine ⟨rfl,fun _=>h.to' (by rw [q1 _ ls,q1 _ lu,h.pc]) ?_ ?_ (by rw [q1 _ ls,e];exact Int.le_refl _) (fun j hj=>⟨?_,?_⟩) hd.2⟩
  all_goals rw [gt_pc (by omega),gt_set_ne _ _ _ _ (by omega),gt_set_ne _ _ _ _ (by omega)]
  exact h.pos
 rw [if_neg o7,if_neg o7]
 rw [if_neg h8,if_neg h8]
 by_cases o9:x.op=9
 ·rw [if_pos o9,if_pos o9];dsimp only
  have e:=r1 (by omega)
  rw [h.pos,h.pc]
  exact ⟨rfl,fun _=>h.to ls lu e⟩
 rw [if_neg o9,if_neg o9]
 by_cases o10:x.op=10
 ·rw [if_pos o10,if_pos o10];dsimp only
  have e:=r1 (by omega)
  rw [h.pos,h.pc]
  exact ⟨rfl,fun _=>h.to ls lu e⟩
 ·exfalso;clear q0 hxe hpc hn1 hd rd rG rB r12 r11 r7 r6 r5 r4 r3 r2 r1 hi h hs hu hB hK ls lu;omega
theorem lk_apart (hK:Kn E.c A) {s u r q:Sta} {ok:Bool} (hs:Nice E A s) (hu:Nice E A u) (h:Lk A s u) (ho:(E.ins s).op=11) (lr:r.length=44) (lq:q.length=44) (hr:ok=true→Lk A r q∧gt r 0=(E.ins s).y-1) :
  (apartP u (E.ins s) q ok).2=(apartP s (E.ins s) r ok).2∧((apartP s (E.ins s) r ok).2=true→Lk A (apartP s (E.ins s) r ok).1 (apartP u (E.ins s) q ok).1):=by
 have h13:(E.ins s).op≠13:=by omega
 obtain ⟨hn1,hru⟩:=known_att hK.k hs.g.pcOf_lt h13
 have hpc:((pcOf s:Nat):Int)=gt s 0:=by have:=hs.g.pc0;unfold pcOf;omega
 rw [hpc] at hru
 have hxe:E.ins s=E.c.getD (pcOf s) ins0:=rfl
 rw [← hxe] at hru
 obtain ⟨a1,a2,a3,a4⟩:=hru.2.2.2.2.2.2.2.1 ho
 have ls:=hs.g.len
 have lu:=hu.g.len
 have hd:=hK.dOk hs.g.pc0 hs.g.pc1
 generalize E.ins s=x at *
 unfold apartP
 by_cases x0:x.x=0
 ·rw [if_pos x0,if_pos x0];dsimp only
  refine ⟨rfl,fun hk=>?_⟩
  obtain ⟨h1,h2⟩:=hr hk
  refine h1.to' (by rw [gt_pc0 lr,gt_pc0 lq]) (gt_pc (by omega)) (by rw [gt_pc (by omega)];exact h1.pos) (by rw [gt_pc0 lr,a2,h2,a3];exact Int.le_refl _) (fun j _=>⟨gt_pc (by omega),gt_pc (by omega)⟩) (by rw [h2,a3];exact hd.2)
 rw [if_neg x0,if_neg x0]
 by_cases x1:x.x=1
 ·rw [if_pos x1,if_pos x1];dsimp only
  refine ⟨rfl,fun hk=>?_⟩
  refine h.to' (by rw [gt_pc0 (withAt_len s r ls lr),gt_pc0 (withAt_len u q lu lq)]) (by rw [gt_pc (by omega),gt_withAt s r ls lr,if_neg (by omega)]) (by rw [gt_pc (by omega),gt_withAt u q lu lq,if_neg (by omega)];exact h.pos) (by rw [gt_pc0 (withAt_len s r ls lr),a2];exact Int.le_refl _) (fun j _=>⟨by rw [gt_pc (by omega),gt_withAt s r ls lr,if_neg (by omega)],by rw [gt_pc (by omega),gt_withAt u q lu lq,if_neg (by omega)]⟩) hd.2
 ·rw [if_neg x1,if_neg x1];dsimp only
  exact ⟨rfl,fun _=>h.to ls lu a2⟩
def Idle (E:Env) (kn:List Bool) (room:Int):Prop:=∀ s,E.dead s kn=false∧E.kn' s kn room=kn∧E.room' s kn room=room
theorem look_alike (hK:Kn E.c A) (kn:List Bool) (hin:Idle E kn 0) (hB:∀ q,q<E.c.length→(E.c.getD q ins0).op≠8):∀ (N n:Nat) (s u:Sta),n≤N→Nice E A s→Nice E A u→Lk A s u →
  (look E n u kn 0).ok=(look E n s kn 0).ok∧(look E n u kn 0).over=(look E n s kn 0).over∧(look E n u kn 0).n=(look E n s kn 0).n∧(look E n u kn 0).kn=kn∧(look E n s kn 0).kn=kn∧(look E n u kn 0).room=0∧(look E n s kn 0).room=0∧((look E n s kn 0).ok=true→Lk A (look E n s kn 0).st (look E n u kn 0).st)
 | N,0,s,u,_,hs,hu,h=>by rw [look_zero,look_zero];exact ⟨rfl,rfl,rfl,rfl,rfl,rfl,rfl,fun e=>by cases e⟩
 | 0,n+1,s,u,hn,_,_,_=>by omega
 | N+1,n+1,s,u,hn,hs,hu,h=>by
  have ih:=look_alike hK kn hin hB N
  obtain ⟨ds,ks,rs⟩:=hin s
  obtain ⟨du,ku,ru⟩:=hin u
  have hx:E.ins u=E.ins s:=h.ins
  have ls:=hs.g.len
  have lu:=hu.g.len
  have hR:(0:Int)≤0∧(0:Int)≤5000:=by omega
  by_cases h13:(E.ins s).op=13∨(E.ins s).op=12
  ·rw [look_f ds h13,look_f du (by rw [hx];exact h13),ks,ku,rs,ru]
   exact ⟨rfl,rfl,rfl,rfl,rfl,rfl,rfl,fun _=>h⟩
  by_cases o2:(E.ins s).op=2
  ·obtain ⟨⟨x1,x2,x3⟩,⟨y1,y2,y3⟩⟩:=step_split hK hs o2
   obtain ⟨⟨v1,v2,v3⟩,⟨w1,w2,w3⟩⟩:=step_split hK hu (by rw [hx];exact o2)
   rw [hx] at v1 w1
   have hn1:=known_att hK.k hs.g.pcOf_lt (show (E.ins s).op≠13 by omega)
   have hpc:((pcOf s:Nat):Int)=gt s 0:=by have:=hs.g.pc0;unfold pcOf;omega
   obtain ⟨a1,a2⟩:=hn1.2.2.1 o2
   rw [hpc] at a1 a2
   obtain ⟨r,hr⟩:∃ r,r=look E n (s.set 0 (E.ins s).x) (E.kn' s kn 0) (E.room' s kn 0):=⟨_,rfl⟩
   obtain ⟨q,hq⟩:∃ q,q=look E n (u.set 0 (E.ins u).x) (E.kn' u kn 0) (E.room' u kn 0):=⟨_,rfl⟩
   rw [look_2 ds o2 hr,look_2 du (by rw [hx];exact o2) hq,hx]
   have k1:=ih n _ _ (by omega) x1 v1 (h.to ls lu a1)
   have n1:=look_n E n (s.set 0 (E.ins s).x) kn 0
   rw [ks,rs] at hr
   rw [ku,ru,hx] at hq
   rw [← hr,← hq] at k1
   rw [← hr] at n1
   obtain ⟨e1,e2,e3,e4,e5,e6,e7,e8⟩:=k1
   rw [e1,e2,e3,e4,e5,e6,e7]
   by_cases hro:(r.ok||r.over)=true
   ·rw [if_pos hro,if_pos hro]
    exact ⟨e1,e2,e3,e4,e5,e6,e7,e8⟩
   ·rw [if_neg hro,if_neg hro]
    exact ih r.n _ _ (by omega) y1 w1 (h.to ls lu a2)
  by_cases o11:(E.ins s).op=11
  ·obtain ⟨x1,x2,x3,x4⟩:=step_in hK hs o11
   obtain ⟨v1,v2,v3,v4⟩:=step_in hK hu (by rw [hx];exact o11)
   have hn1:=known_att hK.k hs.g.pcOf_lt (show (E.ins s).op≠13 by omega)
   have hpc:((pcOf s:Nat):Int)=gt s 0:=by have:=hs.g.pc0;unfold pcOf;omega
   obtain ⟨a1,a2,a3,a4⟩:=hn1.2.2.2.2.2.2.2.2.1 o11
   rw [hpc] at a1
   obtain ⟨r,hr⟩:∃ r,r=look E n (s.set 0 (gt s 0+1)) (E.kn' s kn 0) (E.room' s kn 0):=⟨_,rfl⟩
   obtain ⟨q,hq⟩:∃ q,q=look E n (u.set 0 (gt u 0+1)) (E.kn' u kn 0) (E.room' u kn 0):=⟨_,rfl⟩
   rw [look_11 ds o11 hr,look_11 du (by rw [hx];exact o11) hq,hx]
   have hin':Lk A (s.set 0 (gt s 0+1)) (u.set 0 (gt u 0+1)):=by
    rw [h.pc]
    refine h.to' (by rw [gt_pc0 ls,gt_pc0 lu]) (gt_pc (by omega)) (by rw [gt_pc (by omega)];exact h.pos) (by rw [gt_pc0 ls,a1];exact Int.le_refl _) (fun j _=>⟨gt_pc (by omega),gt_pc (by omega)⟩) (hK.dOk hs.g.pc0 hs.g.pc1).2
   have k1:=ih n _ _ (by omega) x1 v1 hin'
   have n1:=look_n E n (s.set 0 (gt s 0+1)) kn 0
   have g1:=look_good E hK.k.ok N n _ kn 0 (by omega) x1.g hR
   have g2:=look_good E hK.k.ok N n _ kn 0 (by omega) v1.g hR
   have s1:=sub_end hK (n:=n) (kn:=kn) hs o11 hR
   have s2:=sub_end hK (n:=n) (kn:=kn) hu (by rw [hx];exact o11) hR
   have d1:=look_end hK N n _ kn 0 (by omega) x1 hR
   have d2:=look_end hK N n _ kn 0 (by omega) v1 hR
   rw [ks,rs] at hr
   rw [ku,ru] at hq
   rw [← hr,← hq] at k1
   rw [← hr] at n1 g1 s1 d1
   rw [← hq] at g2 s2 d2
   obtain ⟨e1,e2,e3,e4,e5,e6,e7,e8⟩:=k1
   rw [e1,e2,e3,e4,e5,e6,e7]
   by_cases hov:r.over=true
   ·rw [if_pos hov,if_pos hov]
    exact ⟨rfl,rfl,rfl,rfl,rfl,rfl,rfl,fun e=>by cases e⟩
   rw [if_neg hov,if_neg hov]
   obtain ⟨p1,p2⟩:=lk_apart hK (ok:=r.ok) hs hu h o11 g1.2.2.2.1 g2.2.2.2.1 (fun e=>⟨e8 e,s1 e⟩)
   rw [p1]
   by_cases hk:(apartP s (E.ins s) r.st r.ok).2=true
   ·rw [if_pos hk,if_pos hk]
    have z1:=(step_out hK hs o11 g1.2.2.2.1 (fun e=>⟨(ended_pc x1).trans (d1 e),s1 e⟩) hk).1.1
    have z2:=(step_out (r:=q.st) (ok:=r.ok) hK hu (by rw [hx];exact o11) g2.2.2.2.1 (fun e=>⟨(ended_pc v1).trans (d2 (by rw [e1];exact e)),s2 (by rw [e1];exact e)⟩) (by rw [hx,p1];exact hk)).1.1
    rw [hx] at z2
    exact ih r.n _ _ (by omega) z1 z2 (p2 hk)
   ·rw [if_neg hk,if_neg hk]
    exact ⟨rfl,rfl,rfl,rfl,rfl,rfl,rfl,fun e=>by cases e⟩
  have o12:(E.ins s).op≠12:=fun e=>h13 (.inr e)
  have o13:(E.ins s).op≠13:=fun e=>h13 (.inl e)
  obtain ⟨p1,p2⟩:=lk_one hK hB hs hu h o2 o11 o12 o13
  rw [look_1 ds o2 o11 o12 o13,look_1 du (by rw [hx];exact o2) (by rw [hx];exact o11) (by rw [hx];exact o12) (by rw [hx];exact o13),hx,p1,ks,ku,rs,ru]
  by_cases hk:(oneP E.t s (E.ins s)).2=true
  ·rw [if_pos hk,if_pos hk]
   have z1:=(step_one hK hs o2 o11 o12 o13 hk).1.1
   have z2:=(step_one hK hu (by rw [hx];exact o2) (by rw [hx];exact o11) (by rw [hx];exact o12) (by rw [hx];exact o13) (by rw [hx,p1];exact hk)).1.1
   rw [hx] at z2
   exact ih n _ _ (by omega) z1 z2 (p2 hk)
  ·rw [if_neg hk,if_neg hk]
   exact ⟨rfl,rfl,rfl,rfl,rfl,rfl,rfl,fun e=>by cases e⟩
theorem upward {p:Nat→Bool}:∀ (k:Nat),(∀ i j,i≤j→j<k→p i=true→p j=true)→∀ j,j<k→(p j=true↔k≤j+(List.range k).countP p)
 | 0,_,j,hj=>by omega
 | k+1,h,j,hj=>by
  have ih:=upward k fun i j hij hj=>h i j hij (by omega)
  rw [List.range_succ,List.countP_append]
  have hle:(List.range k).countP p≤k:=Nat.le_trans List.countP_le_length (by simp)
  have e1:[k].countP p=if p k=true then 1 else 0:=by simp [List.countP_cons]
  rw [e1]
  by_cases hk:p k=true
  ·rw [if_pos hk]
   by_cases ej:j=k
   ·subst ej;exact ⟨fun _=>by omega,fun _=>hk⟩
   ·rw [ih j (by omega)];omega
  ·rw [if_neg hk]
   have h0:(List.range k).countP p=0:=by
    rw [List.countP_eq_zero]
    intro a ha he
    rw [List.mem_range] at ha
    exact hk (h a k (by omega) (by omega) he)
   rw [h0]
   constructor
   ·intro he;exact absurd (h j k (by omega) (by omega) he) hk
   ·intro he;omega
theorem lk_of_key (hK:Kn E.c A) (har:∀ p,p<E.c.length→E.ar.getD p 0=loopsAt E.c p) {s u:Sta} (hs:Nice E A s) (hu:Nice E A u) (h:E.key u=E.key s):Lk A s u∧mu E A u=mu E A s:=by
 have ps:=hs.g.pcOf_lt
 have pu:=hu.g.pcOf_lt
 have a0:=hs.g.pc0;have a1:=hs.g.pos0;have a2:=hs.g.pos1
 have b0:=hu.g.pc0;have b1:=hu.g.pos0;have b2:=hu.g.pos1
 have cs:=hs.g.pc1;have cu:=hu.g.pc1
 have dsx:=hK.dOk a0 cs
 have dux:=hK.dOk b0 cu
 have hps:((pcOf s:Nat):Int)=gt s 0:=by unfold pcOf;omega
 have hpu:((pcOf u:Nat):Int)=gt u 0:=by unfold pcOf;omega
 have ds:=hK.k.loops _ ps
 have du:=hK.k.loops _ pu
 rw [hps] at ds
 rw [hpu] at du
 unfold Env.key keyOf at h
 rw [har _ ps,har _ pu,Int.toNat_natCast,Int.toNat_natCast] at h
 have l1:=lev_le s (loopsAt E.c (pcOf s))
 have l2:=lev_le u (loopsAt E.c (pcOf u))
 obtain ⟨e1,e2,e3⟩:=key_inj (T:=E.t.size) (by unfold posOf;omega) (by omega) (by unfold posOf;omega) (by omega) h
 have epc:gt u 0=gt s 0:=by omega
 have epos:gt u 1=gt s 1:=by unfold posOf at e2;omega
 have ed:(A (gt s 0)).d.toNat=min (loopsAt E.c (pcOf s)) 12:=by omega
 have ed':(A (gt s 0)).d.toNat=min (loopsAt E.c (pcOf u)) 12:=by rw [← epc];omega
 unfold lev at e3
 rw [← ed,← ed'] at e3
 have hcs:=cnt_level (A (gt s 0)).d.toNat s
 have hcu:=cnt_level (A (gt s 0)).d.toNat u
 refine ⟨⟨epc,epos,fun j hj=>?_⟩,?_⟩
 ·have u1:=upward (p:=fun j=>gt s (32+j)==gt s 1) (A (gt s 0)).d.toNat (fun i j hij hj e=>by
   have e':gt s (32+i)=gt s 1:=by simpa using e
   have m1:=hs.mono i j hij (by omega)
   have m2:=hs.le j (by omega)
   have:gt s (32+j)=gt s 1:=by omega
   simpa using this) j (by omega)
  have u2:=upward (p:=fun j=>gt u (32+j)==gt u 1) (A (gt s 0)).d.toNat (fun i j hij hj e=>by
   have e':gt u (32+i)=gt u 1:=by simpa using e
   have m1:=hu.mono i j hij (by rw [epc];omega)
   have m2:=hu.le j (by rw [epc];omega)
   have:gt u (32+j)=gt u 1:=by omega
   simpa using this) j (by omega)
  have v1:(gt s (32+j)=gt s 1)↔(A (gt s 0)).d.toNat≤j+levelTo s (A (gt s 0)).d.toNat:=by rw [show levelTo s (A (gt s 0)).d.toNat=(List.range (A (gt s 0)).d.toNat).countP fun j=>gt s (32+j)==gt s 1 from rfl,← u1];simp
  have v2:(gt u (32+j)=gt u 1)↔(A (gt s 0)).d.toNat≤j+levelTo u (A (gt s 0)).d.toNat:=by rw [show levelTo u (A (gt s 0)).d.toNat=(List.range (A (gt s 0)).d.toNat).countP fun j=>gt u (32+j)==gt u 1 from rfl,← u2];simp
  rw [← epos,v2,epos,v1]
  omega
 ·unfold mu mOf
  rw [epc,e1,e2]
  have:cnt (A (gt s 0)).d.toNat u=cnt (A (gt s 0)).d.toNat s:=by omega
  rw [this]
end Mt
