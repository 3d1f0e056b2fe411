import Derived.Test.YtebpgfodelggoaaGreatDoorC17
import Derived.Test.YtebpgfodelggoaaGreatDoorC15
import Derived.Test.YtebpgfodelggoaaGreatDoorC16
import Derived.Test.YtebpgfodelggoaaGreatDoorC13
import Derived.Test.YtebpgfodelggoaaGreatDoorC14
set_option linter.unusedVariables false
set_option linter.unusedSimpArgs false
namespace Mt
theorem gt_pc {s:Sta} {v:Int} {j:Nat} (h:j≠0):gt (s.set 0 v) j=gt s j:=gt_set_ne _ _ _ _ (by omega)
theorem gt_pc0 {s:Sta} {v:Int} (h:s.length=44):gt (s.set 0 v) 0=v:=gt_set_same _ _ _ (by omega)
def cnt (k:Nat) (s:Sta):Nat:=(List.range k).countP fun j=>gt s (32+j) != gt s 1
theorem cnt_le (k:Nat) (s:Sta):cnt k s≤k:=by
 unfold cnt;refine Nat.le_trans List.countP_le_length ?_;simp
theorem cnt_succ (k:Nat) (s:Sta):cnt (k+1) s=cnt k s+if gt s (32+k) != gt s 1 then 1 else 0:=by
 unfold cnt;rw [List.range_succ,List.countP_append];simp [List.countP_cons]
theorem cnt_congr {k:Nat} {s u:Sta} (h1:gt u 1=gt s 1) (h:∀ j,j<k→gt u (32+j)=gt s (32+j)):cnt k u=cnt k s:=by
 unfold cnt
 refine List.countP_congr fun j hj=>?_
 rw [List.mem_range] at hj
 rw [h1,h j hj]
theorem cnt_mono {k:Nat} {s u:Sta} (h1:gt u 1=gt s 1) (h:∀ j,j<k→gt s (32+j)=gt s 1→gt u (32+j)=gt s 1):cnt k u≤cnt k s:=by
 induction k with
 | zero=>exact Nat.le_refl _
 | succ k ih =>
  have:=ih fun j hj=>h j (by omega)
  have hk:=h k (by omega)
  rw [cnt_succ,cnt_succ,h1]
  by_cases e:gt s (32+k)=gt s 1
  ·rw [hk e,e];simpa using this
  ·have:(gt s (32+k) != gt s 1)=true:=by simpa using e
   rw [this];split <;> simp <;> omega
theorem cnt_level (k:Nat) (s:Sta):levelTo s k+cnt k s=k:=by
 induction k with
 | zero=>rfl
 | succ k ih =>
  rw [levelTo_next,cnt_succ]
  by_cases e:gt s (32+k)=gt s 1
  ·simp [e];omega
  ·simp [e];omega
structure Nice (E:Env) (A:Int→Att) (s:Sta):Prop where
 g:Good E.c.length E.t.size s
 le:∀ j:Nat,(j:Int)<(A (gt s 0)).d→gt s (32+j)≤gt s 1
 mono:∀ i j:Nat,i≤j→(j:Int)<(A (gt s 0)).d→gt s (32+i)≤gt s (32+j)
def mOf (A:Int→Att) (s:Sta):Nat:=cnt (A (gt s 0)).d.toNat s
def mu (E:Env) (A:Int→Att) (s:Sta):Nat:=((E.t.size-posOf s)*13+mOf A s)*(E.c.length+1)+(E.c.length-pcOf s)
theorem lex_lt {a b c d M:Nat} (h:a<c) (hb:b<M):a*M+b<c*M+d:=by
 have:=Nat.mul_le_mul_right M (show a+1≤c from h)
 rw [Nat.add_mul] at this
 omega
theorem mu_m {E:Env} {A:Int→Att} {s u:Sta} (hp:gt u 1=gt s 1) (hm:mOf A u<mOf A s):mu E A u<mu E A s:=by
 unfold mu
 have:posOf u=posOf s:=by unfold posOf;rw [hp]
 rw [this]
 exact lex_lt (by omega) (by omega)
theorem mu_pc {E:Env} {A:Int→Att} {s u:Sta} (hs:Good E.c.length E.t.size s) (hu:Good E.c.length E.t.size u) (hp:gt u 1=gt s 1) (hm:mOf A u≤mOf A s) (hpc:gt s 0<gt u 0):mu E A u<mu E A s:=by
 by_cases e:mOf A u<mOf A s
 ·exact mu_m hp e
 ·have e1:mOf A u=mOf A s:=by omega
  have:posOf u=posOf s:=by unfold posOf;rw [hp]
  unfold mu
  rw [this,e1]
  have a1:=hs.pc0;have a2:=hu.pc0;have a3:=hs.pc1;have a4:=hu.pc1
  unfold pcOf
  omega
theorem mu_pos {E:Env} {A:Int→Att} {s u:Sta} (hs:Good E.c.length E.t.size s) (hu:Good E.c.length E.t.size u) (hd:(A (gt u 0)).d≤11) (hp:gt s 1<gt u 1):mu E A u<mu E A s:=by
 have:=cnt_le (A (gt u 0)).d.toNat u
 unfold mu
 refine lex_lt ?_ (by omega)
 have a1:=hs.pos0;have a2:=hu.pos0;have a3:=hs.pos1;have a4:=hu.pos1
 unfold posOf mOf
 omega
theorem Kn.dOk {c:List Ins} {A:Int→Att} (hK:Kn c A) {q:Int} (h0:0≤q) (h1:q<c.length):0≤(A q).d∧(A q).d≤11:=by
 obtain ⟨n,rfl⟩:∃ n:Nat,q=n:=⟨q.toNat,by omega⟩
 by_cases h:n+1<c.length
 ·exact (hK.k.rule n h).2.2.2.2.2.2.2.2.2.2.1
 ·have:((n:Nat):Int)=((c.length-1:Nat):Int):=by omega
  rw [this,hK.k.stop];decide
theorem nice_keep {E:Env} {A:Int→Att} {s u:Sta} (hK:Kn E.c A) (h:Nice E A s) (gu:Good E.c.length E.t.size u) (hd:(A (gt u 0)).d=(A (gt s 0)).d) (hp:gt s 1≤gt u 1) (hpc:gt s 0<gt u 0) (hm:∀ j,j<12→gt u (32+j)=gt s (32+j)) :
  Nice E A u∧mu E A u<mu E A s∧gt s 1≤gt u 1∧(gt u 1=gt s 1→∀ j,j<12→gt s (32+j)=gt s 1→gt u (32+j)=gt s 1):=by
 have hd11:=hK.dOk gu.pc0 gu.pc1
 refine ⟨⟨gu,fun j hj=>?_,fun i j hij hj=>?_⟩,?_,hp,fun _ j hj e=>by rw [hm j hj];exact e⟩
 ·rw [hm j (by omega)];have:=h.le j (by omega);omega
 ·rw [hm j (by omega),hm i (by omega)];exact h.mono i j hij (by omega)
 ·by_cases e:gt u 1=gt s 1
  ·refine mu_pc h.g gu e ?_ hpc
   unfold mOf
   rw [hd]
   exact Nat.le_of_eq (cnt_congr e fun j hj=>hm j (by omega))
  ·exact mu_pos h.g gu hd11.2 (by omega)
theorem step_one {E:Env} {A:Int→Att} {s:Sta} (hK:Kn E.c A) (h:Nice E A s) (h2:(E.ins s).op≠2) (h11:(E.ins s).op≠11) (h12:(E.ins s).op≠12) (h13:(E.ins s).op≠13) (hk:(oneP E.t s (E.ins s)).2=true) :
  (Nice E A (oneP E.t s (E.ins s)).1∧mu E A (oneP E.t s (E.ins s)).1<mu E A s∧gt s 1≤gt (oneP E.t s (E.ins s)).1 1∧(gt (oneP E.t s (E.ins s)).1 1=gt s 1→∀ j,j<12→gt s (32+j)=gt s 1→gt (oneP E.t s (E.ins s)).1 (32+j)=gt s 1))
  ∧ (A (gt (oneP E.t s (E.ins s)).1 0)).y=(A (gt s 0)).y:=by
 have gg:=oneP_good hK.k.ok h.g h2 h11 h13 hk
 have hi:=hK.k.ok (pcOf s) h.g.pcOf_lt
 have hpp:=oneP_pos h.g (E.ins s) hi hk
 obtain ⟨hn1,hru⟩:=known_att hK.k h.g.pcOf_lt h13
 have hfw:=hK.fwd (pcOf s) hn1
 have hpc:((pcOf s:Nat):Int)=gt s 0:=by have:=h.g.pc0;unfold pcOf;omega
 rw [hpc] at hru hfw
 have hxe:E.ins s=E.c.getD (pcOf s) ins0:=rfl
 rw [← hxe] at hru hi hfw
 rw [← hxe] at gg
 generalize E.ins s=x at *
 obtain ⟨r1,r2,r3,r4,r5,r6,r7,r11,r12,rB,rd,rG,ro⟩:=hru
 have hl:=h.g.len
 have q0:∀ (i:Nat) (u v:Int),gt ((s.set i u).set 0 v) 0=v:=fun i u v=>gt_set_same _ _ _ (by rw [List.length_set];omega)
 unfold oneP at gg hk hpp ⊢
 by_cases o1:x.op=1
 ·rw [if_pos o1] at gg hpp ⊢;dsimp only at gg hpp ⊢
  have e:=r1 (by omega)
  refine ⟨nice_keep hK h gg (by rw [q0,e]) hpp (by rw [q0];omega) fun j hj=>?_,by rw [q0,e]⟩
  rw [gt_pc (by omega),gt_set_ne _ _ _ _ (by omega)]
 rw [if_neg o1] at gg hk hpp ⊢
 by_cases o3:x.op=3
 ·rw [if_pos o3] at gg hpp ⊢;dsimp only at gg hpp ⊢
  have e:=r3 o3
  refine ⟨nice_keep hK h gg (by rw [gt_pc0 hl,e]) hpp (by rw [gt_pc0 hl];exact hfw.2.1 o3) fun j hj=>gt_pc (by omega),by rw [gt_pc0 hl,e]⟩
 rw [if_neg o3] at gg hk hpp ⊢
 by_cases o4:x.op=4
 ·rw [if_pos o4] at gg hpp ⊢;dsimp only at gg hpp ⊢
  obtain ⟨e1,e2,e3⟩:=r4 o4
  have ed:(A (gt s 0+1)).d=(A (gt s 0)).d+1:=by rw [e2]
  have hp1:gt ((s.set (32+x.x.toNat) (gt s 1)).set 0 (gt s 0+1)) 1=gt s 1:=by rw [gt_pc (by omega),gt_set_ne _ _ _ _ (by omega)]
  have hm:∀ j,gt ((s.set (32+x.x.toNat) (gt s 1)).set 0 (gt s 0+1)) (32+j)=if j=x.x.toNat then gt s 1 else gt s (32+j):=fun j=>by
   rw [gt_pc (by omega),gt_set]
   by_cases ej:j=x.x.toNat
   ·rw [if_pos ⟨by omega,by omega⟩,if_pos ej]
   ·rw [if_neg (by omega),if_neg ej]
  have hsame:∀ j,j<12→gt s (32+j)=gt s 1→gt ((s.set (32+x.x.toNat) (gt s 1)).set 0 (gt s 0+1)) (32+j)=gt s 1:=fun j hj e=>by
   rw [hm];split
   ·rfl
   ·exact e
  refine ⟨⟨⟨gg,fun j hj=>?_,fun i j hij hj=>?_⟩,?_,hpp,fun _=>hsame⟩,by rw [q0,e2]⟩
  ·rw [q0,ed] at hj
   rw [hm,hp1]
   split
   ·omega
   ·exact h.le j (by omega)
  ·rw [q0,ed] at hj
   rw [hm,hm]
   by_cases ej:j=x.x.toNat
   ·rw [if_pos ej]
    split
    ·omega
    ·exact h.le i (by omega)
   ·rw [if_neg ej,if_neg (by omega)]
    exact h.mono i j hij (by omega)
  ·refine mu_pc h.g gg hp1 ?_ (by rw [q0];omega)
   unfold mOf
   rw [q0,ed,show ((A (gt s 0)).d+1).toNat=(A (gt s 0)).d.toNat+1 by omega,cnt_succ]
   have:gt ((s.set (32+x.x.toNat) (gt s 1)).set 0 (gt s 0+1)) (32+(A (gt s 0)).d.toNat)=gt s 1:=by rw [hm,if_pos (by omega)]
   rw [this,hp1]
   simp only [bne_self_eq_false,Bool.false_eq_true,if_false,Nat.add_zero]
   exact Nat.le_of_eq (cnt_congr hp1 fun j hj=>by rw [hm,if_neg (by omega)])
 rw [if_neg o4] at gg hk hpp ⊢
 by_cases o5:x.op=5
 ·rw [if_pos o5] at gg hk hpp ⊢;dsimp only at gg hk hpp ⊢
  obtain ⟨e1,e2,e3,e4⟩:=r5 o5
  have ed:(A x.x).d=(A (gt s 0)).d-1:=by rw [e1]
  have hne:gt s (32+x.y.toNat)≠gt s 1:=by simpa using hk
  refine ⟨⟨⟨gg,fun j hj=>?_,fun i j hij hj=>?_⟩,?_,hpp,fun _ j hj e=>by rw [gt_pc (by omega)];exact e⟩,by rw [gt_pc0 hl,e1]⟩
  ·rw [gt_pc0 hl,ed] at hj
   rw [gt_pc (by omega),gt_pc (by omega)];exact h.le j (by omega)
  ·rw [gt_pc0 hl,ed] at hj
   rw [gt_pc (by omega),gt_pc (by omega)];exact h.mono i j hij (by omega)
  ·refine mu_m (gt_pc (by omega)) ?_
   unfold mOf
   rw [gt_pc0 hl,ed,show (A (gt s 0)).d.toNat=((A (gt s 0)).d-1).toNat+1 by omega,cnt_succ]
   rw [cnt_congr (u:=s.set 0 x.x) (s:=s) (gt_pc (by omega)) fun j hj=>gt_pc (by omega)]
   have:(gt s (32+((A (gt s 0)).d-1).toNat) != gt s 1)=true:=by
    rw [show ((A (gt s 0)).d-1).toNat=x.y.toNat by omega];simpa using hne
   rw [this];simp
 rw [if_neg o5] at gg hk hpp ⊢
 by_cases o6:x.op=6
 ·rw [if_pos o6] at gg hpp ⊢;dsimp only at gg hpp ⊢
  have hi6:=hi.2.2.2.2.1 (by omega)
  obtain ⟨e,_⟩:=r6 o6
  refine ⟨nice_keep hK h gg (by rw [q0,e]) hpp (by rw [q0];omega) fun j hj=>?_,by rw [q0,e]⟩
  rw [gt_pc (by omega),gt_set_ne _ _ _ _ (by omega)]
 rw [if_neg o6] at gg hk hpp ⊢
 by_cases o7:x.op=7
 ·rw [if_pos o7] at gg hpp ⊢;dsimp only at gg hpp ⊢
  have hi7:=hi.2.2.2.2.1 (by omega)
  obtain ⟨g,_,e⟩:=r7 o7
  have q1:gt (((s.set (2+(2*x.x).toNat) (gt s (22+x.x.toNat))).set (2+(2*x.x+1).toNat) (gt s 1)).set 0 (gt s 0+1)) 0=gt s 0+1:=gt_set_same _ _ _ (by simp [List.length_set];omega)
  refine ⟨nice_keep hK h gg (by rw [q1,e]) hpp (by rw [q1];omega) fun j hj=>?_,by rw [q1,e]⟩
  rw [gt_pc (by omega),gt_set_ne _ _ _ _ (by omega),gt_set_ne _ _ _ _ (by omega)]
 rw [if_neg o7] at gg hk hpp ⊢
 by_cases o8:x.op=8
 ·rw [if_pos o8] at gg hk hpp ⊢
  have e:=r1 (by omega)
  unfold backP at gg hk hpp ⊢
  by_cases b1:gt s (2+(2*x.x).toNat)<0
  ·rw [if_pos b1] at hk;cases hk
  rw [if_neg b1] at gg hk hpp ⊢
  by_cases b2:(E.t.size:Int)<gt s 1+(gt s (2+(2*x.x+1).toNat)-gt s (2+(2*x.x).toNat))
  ·rw [if_pos b2] at hk;cases hk
  rw [if_neg b2] at gg hk hpp ⊢
  dsimp only at gg hk hpp ⊢
  refine ⟨nice_keep hK h gg (by rw [q0,e]) hpp (by rw [q0];omega) fun j hj=>?_,by rw [q0,e]⟩
  rw [gt_pc (by omega),gt_set_ne _ _ _ _ (by omega)]
 rw [if_neg o8] at gg hk hpp ⊢
 by_cases o9:x.op=9
 ·rw [if_pos o9] at gg hpp ⊢;dsimp only at gg hpp ⊢
  have e:=r1 (by omega)
  exact ⟨nice_keep hK h gg (by rw [gt_pc0 hl,e]) hpp (by rw [gt_pc0 hl];omega) fun j hj=>gt_pc (by omega),by rw [gt_pc0 hl,e]⟩
 rw [if_neg o9] at gg hk hpp ⊢
 by_cases o10:x.op=10
 ·rw [if_pos o10] at gg hpp ⊢;dsimp only at gg hpp ⊢
  have e:=r1 (by omega)
  exact ⟨nice_keep hK h gg (by rw [gt_pc0 hl,e]) hpp (by rw [gt_pc0 hl];omega) fun j hj=>gt_pc (by omega),by rw [gt_pc0 hl,e]⟩
 ·exfalso;omega
theorem step_split {E:Env} {A:Int→Att} {s:Sta} (hK:Kn E.c A) (h:Nice E A s) (h2:(E.ins s).op=2) :
  (Nice E A (s.set 0 (E.ins s).x)∧mu E A (s.set 0 (E.ins s).x)<mu E A s∧(A (gt (s.set 0 (E.ins s).x) 0)).y=(A (gt s 0)).y) ∧
  (Nice E A (s.set 0 (E.ins s).y)∧mu E A (s.set 0 (E.ins s).y)<mu E A s∧(A (gt (s.set 0 (E.ins s).y) 0)).y=(A (gt s 0)).y):=by
 have h13:(E.ins s).op≠13:=by omega
 obtain ⟨hn1,hru⟩:=known_att hK.k h.g.pcOf_lt h13
 have hfw:=hK.fwd (pcOf s) hn1
 have hi:=hK.k.ok (pcOf s) h.g.pcOf_lt
 have hpc:((pcOf s:Nat):Int)=gt s 0:=by have:=h.g.pc0;unfold pcOf;omega
 rw [hpc] at hru hfw
 have hxe:E.ins s=E.c.getD (pcOf s) ins0:=rfl
 rw [← hxe] at hru hi hfw
 have i2:=hi.1 h2
 obtain ⟨a1,a2⟩:=hru.2.1 h2
 obtain ⟨f1,f2⟩:=hfw.1 h2
 have hl:=h.g.len
 have key:∀ v:Int,0≤v→v<E.c.length→A v=A (gt s 0)→gt s 0<v→Nice E A (s.set 0 v)∧mu E A (s.set 0 v)<mu E A s∧(A (gt (s.set 0 v) 0)).y=(A (gt s 0)).y:=fun v v0 v1 e f=>by
  obtain ⟨x1,x2,_⟩:=nice_keep hK h (h.g.at_pc v v0 v1) (by rw [gt_pc0 hl,e]) (by rw [gt_pc (by omega)];omega) (by rw [gt_pc0 hl];exact f) fun j hj=>gt_pc (by omega)
  exact ⟨x1,x2,by rw [gt_pc0 hl,e]⟩
 exact ⟨key _ i2.1 i2.2.1 a1 f1,key _ i2.2.2.1 i2.2.2.2 a2 f2⟩
theorem step_in {E:Env} {A:Int→Att} {s:Sta} (hK:Kn E.c A) (h:Nice E A s) (ho:(E.ins s).op=11) :
  Nice E A (s.set 0 (gt s 0+1))∧mu E A (s.set 0 (gt s 0+1))<mu E A s∧(A (gt (s.set 0 (gt s 0+1)) 0)).y=(E.ins s).y∧0<(E.ins s).y:=by
 have h13:(E.ins s).op≠13:=by omega
 obtain ⟨hn1,hru⟩:=known_att hK.k h.g.pcOf_lt h13
 have hpc:((pcOf s:Nat):Int)=gt s 0:=by have:=h.g.pc0;unfold pcOf;omega
 rw [hpc] at hru
 have hxe:E.ins s=E.c.getD (pcOf s) ins0:=rfl
 rw [← hxe] at hru
 obtain ⟨a1,a2,a3,a4⟩:=hru.2.2.2.2.2.2.2.1 ho
 have hl:=h.g.len
 have h0:=h.g.pc0
 obtain ⟨x1,x2,_⟩:=nice_keep hK h (h.g.at_pc (gt s 0+1) (by omega) (by omega)) (by rw [gt_pc0 hl,a1]) (by rw [gt_pc (by omega)];omega) (by rw [gt_pc0 hl];omega) fun j hj=>gt_pc (by omega)
 exact ⟨x1,x2,by rw [gt_pc0 hl,a1],a4⟩
def Ended (E:Env) (A:Int→Att) (s r:Sta):Prop:=Nice E A r∧gt s 1≤gt r 1∧(gt r 1=gt s 1→∀ j,j<12→gt s (32+j)=gt s 1→gt r (32+j)=gt s 1)
theorem step_out {E:Env} {A:Int→Att} {s r:Sta} {ok:Bool} (hK:Kn E.c A) (h:Nice E A s) (ho:(E.ins s).op=11) (hl44:r.length=44) (hr:ok=true→Ended E A s r∧gt r 0=(E.ins s).y-1) (hk:(apartP s (E.ins s) r ok).2=true) :
  Ended E A s (apartP s (E.ins s) r ok).1∧mu E A (apartP s (E.ins s) r ok).1<mu E A s∧(A (gt (apartP s (E.ins s) r ok).1 0)).y=(A (gt s 0)).y∧gt (apartP s (E.ins s) r ok).1 0=(E.ins s).y:=by
 have h13:(E.ins s).op≠13:=by omega
 obtain ⟨hn1,hru⟩:=known_att hK.k h.g.pcOf_lt h13
 have hfw:=hK.fwd (pcOf s) hn1
 have hi:=hK.k.ok (pcOf s) h.g.pcOf_lt
 have hpc:((pcOf s:Nat):Int)=gt s 0:=by have:=h.g.pc0;unfold pcOf;omega
 rw [hpc] at hru hfw
 have hxe:E.ins s=E.c.getD (pcOf s) ins0:=rfl
 rw [← hxe] at hru hi hfw
 obtain ⟨a1,a2,a3,a4⟩:=hru.2.2.2.2.2.2.2.1 ho
 have f1:=hfw.2.2 ho
 have i11:=hi.2.2.2.2.2.1 ho
 have hl:=h.g.len
 have ga:=apartP_good h.g (fun e=>(hr e).1.1.g) (E.ins s) i11.1 i11.2.1 hk
 unfold apartP at hk ga ⊢
 by_cases x0:(E.ins s).x=0
 ·rw [if_pos x0] at hk ga ⊢
  dsimp only at hk ga ⊢
  obtain ⟨⟨hnr,hp,hm⟩,hre⟩:=hr hk
  have q0:gt (r.set 0 (E.ins s).y) 0=(E.ins s).y:=gt_pc0 hl44
  have q1:gt (r.set 0 (E.ins s).y) 1=gt r 1:=gt_pc (by omega)
  have ed:(A (gt r 0)).d=(A (gt s 0)).d:=by rw [hre,a3]
  have hd11:=hK.dOk h.g.pc0 h.g.pc1
  refine ⟨⟨⟨ga,fun j hj=>?_,fun i j hij hj=>?_⟩,by rw [q1];exact hp,fun e j hj ee=>?_⟩,?_,by rw [q0,a2],q0⟩
  ·rw [q0,a2] at hj
   rw [gt_pc (by omega),q1];exact hnr.le j (by omega)
  ·rw [q0,a2] at hj
   rw [gt_pc (by omega),gt_pc (by omega)];exact hnr.mono i j hij (by omega)
  ·rw [gt_pc (by omega)];exact hm (by rw [← e,q1]) j hj ee
  ·by_cases e:gt r 1=gt s 1
   ·refine mu_pc h.g ga (by rw [q1,e]) ?_ (by rw [q0];exact f1)
    unfold mOf
    rw [q0,a2]
    exact cnt_mono (by rw [q1,e]) fun j hj ee=>by rw [gt_pc (by omega)];exact hm e j (by omega) ee
   ·exact mu_pos h.g ga (by rw [q0,a2];exact hd11.2) (by rw [q1];omega)
 rw [if_neg x0] at hk ga ⊢
 by_cases x1:(E.ins s).x=1
 ·rw [if_pos x1] at hk ga ⊢
  dsimp only at hk ga ⊢
  have hl2:=withAt_len s r hl hl44
  have q0:gt ((withAt s r).set 0 (E.ins s).y) 0=(E.ins s).y:=gt_pc0 hl2
  have q1:gt ((withAt s r).set 0 (E.ins s).y) 1=gt s 1:=by rw [gt_pc (by omega),gt_withAt s r hl hl44,if_neg (by omega)]
  obtain ⟨b1,b2,b3,b4⟩:=nice_keep hK h ga (by rw [q0,a2]) (by rw [q1];omega) (by rw [q0];exact f1) fun j hj=>by
   rw [gt_pc (by omega),gt_withAt s r hl hl44,if_neg (by omega)]
  exact ⟨⟨b1,b3,b4⟩,b2,by rw [q0,a2],q0⟩
 ·rw [if_neg x1] at hk ga ⊢
  dsimp only at hk ga ⊢
  obtain ⟨b1,b2,b3,b4⟩:=nice_keep hK h ga (by rw [gt_pc0 hl,a2]) (by rw [gt_pc (by omega)];omega) (by rw [gt_pc0 hl];exact f1) fun j hj=>gt_pc (by omega)
  exact ⟨⟨b1,b3,b4⟩,b2,by rw [gt_pc0 hl,a2],gt_pc0 hl⟩
variable {E:Env} {A:Int→Att}
theorem look_d {n:Nat} {s:Sta} {kn:List Bool} {room:Int} (h:E.dead s kn=true):look E (n+1) s kn room=⟨s,false,n,E.kn' s kn room,E.room' s kn room,false⟩:=by rw [look_step,if_pos h]
theorem look_f {n:Nat} {s:Sta} {kn:List Bool} {room:Int} (h:E.dead s kn=false) (ho:(E.ins s).op=13∨(E.ins s).op=12):look E (n+1) s kn room=⟨s,true,n,E.kn' s kn room,E.room' s kn room,false⟩:=by
 rw [look_step,if_neg (by rw [h];exact Bool.false_ne_true),if_pos ho]
theorem look_2 {n:Nat} {s:Sta} {kn:List Bool} {room:Int} (h:E.dead s kn=false) (ho:(E.ins s).op=2) {r:Res} (hr:r=look E n (s.set 0 (E.ins s).x) (E.kn' s kn room) (E.room' s kn room)):look E (n+1) s kn room=if r.ok||r.over then r else look E r.n (s.set 0 (E.ins s).y) r.kn r.room:=by
 rw [look_step,if_neg (by rw [h];exact Bool.false_ne_true),if_neg (by omega),if_pos ho,hr]
theorem look_11 {n:Nat} {s:Sta} {kn:List Bool} {room:Int} (h:E.dead s kn=false) (ho:(E.ins s).op=11) {r:Res} (hr:r=look E n (s.set 0 (gt s 0+1)) (E.kn' s kn room) (E.room' s kn room)):look E (n+1) s kn room=if r.over then ⟨s,false,r.n,r.kn,r.room,true⟩ else if (apartP s (E.ins s) r.st r.ok).2 then look E r.n (apartP s (E.ins s) r.st r.ok).1 r.kn r.room else ⟨(apartP s (E.ins s) r.st r.ok).1,false,r.n,r.kn,r.room,false⟩:=by
 rw [look_step,if_neg (by rw [h];exact Bool.false_ne_true),if_neg (by omega),if_neg (by omega),if_pos ho,hr]
theorem look_1 {n:Nat} {s:Sta} {kn:List Bool} {room:Int} (h:E.dead s kn=false) (h2:(E.ins s).op≠2) (h11:(E.ins s).op≠11) (h12:(E.ins s).op≠12) (h13:(E.ins s).op≠13):look E (n+1) s kn room=if (oneP E.t s (E.ins s)).2 then look E n (oneP E.t s (E.ins s)).1 (E.kn' s kn room) (E.room' s kn room) else ⟨(oneP E.t s (E.ins s)).1,false,n,E.kn' s kn room,E.room' s kn room,false⟩:=by
 rw [look_step,if_neg (by rw [h];exact Bool.false_ne_true),if_neg (by omega),if_neg h2,if_neg h11]
theorem Ended.trans {s u r:Sta} (h1:Ended E A s u) (h2:Ended E A u r):Ended E A s r:=by
 obtain ⟨a1,a2,a3⟩:=h1
 obtain ⟨b1,b2,b3⟩:=h2
 refine ⟨b1,by omega,fun e j hj ee=>?_⟩
 have:=a3 (by omega) j hj ee
 have:=b3 (by omega) j hj (by omega)
 omega
theorem Nice.ended {s:Sta} (h:Nice E A s):Ended E A s s:=⟨h,Int.le_refl _,fun _ j _ e=>e⟩
theorem ended_pc {s:Sta} {v:Int} (h:Nice E A (s.set 0 v)):Ended E A s (s.set 0 v):=⟨h,by rw [gt_pc (by omega)];omega,fun _ j _ e=>by rw [gt_pc (by omega)];exact e⟩
theorem sub_end (hK:Kn E.c A) {n:Nat} {s:Sta} {kn:List Bool} {room:Int} (h:Nice E A s) (ho:(E.ins s).op=11) (hr:0≤room∧room≤5000) (hk:(look E n (s.set 0 (gt s 0+1)) kn room).ok=true):gt (look E n (s.set 0 (gt s 0+1)) kn room).st 0=(E.ins s).y-1:=by
 obtain ⟨h1,_,hy,hy0⟩:=step_in hK h ho
 obtain ⟨k1,_,k3⟩:=look_keeps E A hK.k n n _ kn room (Nat.le_refl _) h1.g hr hk
 have hg:=(look_good E hK.k.ok n n _ kn room (Nat.le_refl _) h1.g hr).1 hk
 generalize (look E n (s.set 0 (gt s 0+1)) kn room).st=u at *
 rw [hy] at k1
 have hpc:((pcOf u:Nat):Int)=gt u 0:=by have:=hg.pc0;unfold pcOf;omega
 by_cases hl:pcOf u+1<E.c.length
 ·have hru:=hK.k.rule (pcOf u) hl
  rw [hpc] at hru
  rcases k3 with k3 | k3
  ·have:=hru.2.2.2.2.2.2.2.2.1 k3;omega
  ·have:=hru.2.2.2.2.2.2.2.2.2.2.2.2;have e:(E.c.getD (pcOf u) ins0).op=13:=k3;omega
 ·have h1:=hg.pcOf_lt
  have e:gt u 0=((E.c.length-1:Nat):Int):=by omega
  have:=hK.k.stop
  rw [← e] at this
  rw [this] at k1
  dsimp only at k1;omega
theorem look_end (hK:Kn E.c A):∀ (N n:Nat) (s:Sta) (kn:List Bool) (room:Int),n≤N→Nice E A s→0≤room∧room≤5000→(look E n s kn room).ok=true→Ended E A s (look E n s kn room).st
 | N,0,s,kn,room,_,h,hr,ho=>by rw [look_zero] at ho;cases ho
 | 0,n+1,s,kn,room,hn,_,_,_=>by omega
 | N+1,n+1,s,kn,room,hn,h,hrm,ho=>by
  have ih:=look_end hK N
  have hR:=E.room'_in s kn room hrm
  cases hd:E.dead s kn with
  | true=>rw [look_d hd] at ho;cases ho
  | false =>
  by_cases h13:(E.ins s).op=13∨(E.ins s).op=12
  ·rw [look_f hd h13];exact h.ended
  by_cases o2:(E.ins s).op=2
  ·obtain ⟨⟨x1,x2,x3⟩,⟨y1,y2,y3⟩⟩:=step_split hK h o2
   obtain ⟨r,hr⟩:∃ r,r=look E n (s.set 0 (E.ins s).x) (E.kn' s kn room) (E.room' s kn room):=⟨_,rfl⟩
   have g1:=look_good E hK.k.ok N n _ (E.kn' s kn room) (E.room' s kn room) (by omega) x1.g hR
   have n1:=look_n E n (s.set 0 (E.ins s).x) (E.kn' s kn room) (E.room' s kn room)
   have k1:=ih n _ (E.kn' s kn room) (E.room' s kn room) (by omega) x1 hR
   rw [← hr] at g1 n1 k1
   rw [look_2 hd o2 hr] at ho ⊢
   by_cases hro:(r.ok||r.over)=true
   ·rw [if_pos hro] at ho ⊢
    exact (ended_pc x1).trans (k1 ho)
   ·rw [if_neg hro] at ho ⊢
    exact (ended_pc y1).trans (ih _ _ _ _ (by omega) y1 g1.2.2.1 ho)
  by_cases o11:(E.ins s).op=11
  ·obtain ⟨x1,x2,x3,x4⟩:=step_in hK h o11
   obtain ⟨r,hr⟩:∃ r,r=look E n (s.set 0 (gt s 0+1)) (E.kn' s kn room) (E.room' s kn room):=⟨_,rfl⟩
   have g1:=look_good E hK.k.ok N n _ (E.kn' s kn room) (E.room' s kn room) (by omega) x1.g hR
   have n1:=look_n E n (s.set 0 (gt s 0+1)) (E.kn' s kn room) (E.room' s kn room)
   have k1:=ih n _ (E.kn' s kn room) (E.room' s kn room) (by omega) x1 hR
   have e1:=sub_end hK (n:=n) (kn:=E.kn' s kn room) h o11 hR
   rw [← hr] at g1 n1 k1 e1
   rw [look_11 hd o11 hr] at ho ⊢
   by_cases hov:r.over=true
   ·rw [if_pos hov] at ho;cases ho
   rw [if_neg hov] at ho ⊢
   by_cases hk:(apartP s (E.ins s) r.st r.ok).2=true
   ·rw [if_pos hk] at ho ⊢
    obtain ⟨z1,z2,z3⟩:=step_out hK h o11 g1.2.2.2.1 (fun e=>⟨(ended_pc x1).trans (k1 e),e1 e⟩) hk
    exact z1.trans (ih _ _ _ _ (by omega) z1.1 g1.2.2.1 ho)
   ·rw [if_neg hk] at ho;cases ho
  have o12:(E.ins s).op≠12:=fun e=>h13 (.inr e)
  have o13:(E.ins s).op≠13:=fun e=>h13 (.inl e)
  rw [look_1 hd o2 o11 o12 o13] at ho ⊢
  by_cases hk:(oneP E.t s (E.ins s)).2=true
  ·rw [if_pos hk] at ho ⊢
   obtain ⟨⟨z1,z2,z3,z4⟩,z5⟩:=step_one hK h o2 o11 o12 o13 hk
   exact Ended.trans ⟨z1,z3,z4⟩ (ih _ _ _ _ (by omega) z1 hR ho)
  ·rw [if_neg hk] at ho;cases ho
theorem look_apart (hK:Kn E.c A) (hin:∀ s,Good E.c.length E.t.size s→E.isIn s=true→(A (gt s 0)).y=0):∀ (N n:Nat) (s:Sta) (kn:List Bool) (room:Int),n≤N→Nice E A s→0≤room∧room≤5000→(A (gt s 0)).y≠0→(look E n s kn room).kn=kn∧(look E n s kn room).room=room
 | N,0,s,kn,room,_,h,hr,ho=>by rw [look_zero];exact ⟨rfl,rfl⟩
 | 0,n+1,s,kn,room,hn,_,_,_=>by omega
 | N+1,n+1,s,kn,room,hn,h,hrm,hy=>by
  have ih:=look_apart hK hin N
  have hni:E.isIn s=false:=by
   cases e:E.isIn s
   ·rfl
   ·exact absurd (hin s h.g e) hy
  obtain ⟨hd,ek,er⟩:=E.not_in s kn room hni
  by_cases h13:(E.ins s).op=13∨(E.ins s).op=12
  ·rw [look_f hd h13];exact ⟨ek,er⟩
  by_cases o2:(E.ins s).op=2
  ·obtain ⟨⟨x1,x2,x3⟩,⟨y1,y2,y3⟩⟩:=step_split hK h o2
   obtain ⟨r,hr⟩:∃ r,r=look E n (s.set 0 (E.ins s).x) (E.kn' s kn room) (E.room' s kn room):=⟨_,rfl⟩
   have n1:=look_n E n (s.set 0 (E.ins s).x) (E.kn' s kn room) (E.room' s kn room)
   have k1:=ih n (s.set 0 (E.ins s).x) (E.kn' s kn room) (E.room' s kn room) (by omega) x1 (by rw [er];exact hrm) (by rw [x3];exact hy)
   rw [← hr] at n1 k1
   rw [look_2 hd o2 hr]
   rw [ek,er] at k1
   by_cases hro:(r.ok||r.over)=true
   ·rw [if_pos hro];exact k1
   ·rw [if_neg hro]
    have:=ih r.n (s.set 0 (E.ins s).y) r.kn r.room (by omega) y1 (by rw [k1.2];exact hrm) (by rw [y3];exact hy)
    rw [k1.1,k1.2] at this
    rw [k1.1,k1.2];exact this
  by_cases o11:(E.ins s).op=11
  ·obtain ⟨x1,x2,x3,x4⟩:=step_in hK h o11
   have hR:=E.room'_in s kn room hrm
   obtain ⟨r,hr⟩:∃ r,r=look E n (s.set 0 (gt s 0+1)) (E.kn' s kn room) (E.room' s kn room):=⟨_,rfl⟩
   have g1:=look_good E hK.k.ok N n _ (E.kn' s kn room) (E.room' s kn room) (by omega) x1.g hR
   have n1:=look_n E n (s.set 0 (gt s 0+1)) (E.kn' s kn room) (E.room' s kn room)
   have k1:=ih n _ (E.kn' s kn room) (E.room' s kn room) (by omega) x1 hR (by rw [x3];omega)
   have e1:=sub_end hK (n:=n) (kn:=E.kn' s kn room) h o11 hR
   have k2:=look_end hK N n _ (E.kn' s kn room) (E.room' s kn room) (by omega) x1 hR
   rw [← hr] at g1 n1 k1 e1 k2
   rw [ek,er] at k1
   rw [look_11 hd o11 hr]
   by_cases hov:r.over=true
   ·rw [if_pos hov];exact k1
   rw [if_neg hov]
   by_cases hk:(apartP s (E.ins s) r.st r.ok).2=true
   ·rw [if_pos hk]
    obtain ⟨z1,z2,z3,z4⟩:=step_out hK h o11 g1.2.2.2.1 (fun e=>⟨(ended_pc x1).trans (k2 e),e1 e⟩) hk
    have:=ih r.n _ r.kn r.room (by omega) z1.1 (by rw [k1.2];exact hrm) (by rw [z3];exact hy)
    rw [k1.1,k1.2] at this
    rw [k1.1,k1.2];exact this
   ·rw [if_neg hk];exact k1
  have o12:(E.ins s).op≠12:=fun e=>h13 (.inr e)
  have o13:(E.ins s).op≠13:=fun e=>h13 (.inl e)
  rw [look_1 hd o2 o11 o12 o13,ek,er]
  by_cases hk:(oneP E.t s (E.ins s)).2=true
  ·rw [if_pos hk]
   obtain ⟨⟨z1,z2,z3,z4⟩,z5⟩:=step_one hK h o2 o11 o12 o13 hk
   exact ih _ _ _ _ (by omega) z1 hrm (by rw [z5];exact hy)
  ·rw [if_neg hk];exact ⟨rfl,rfl⟩
theorem look_ends (hK:Kn E.c A):∀ (M:Nat) (s:Sta) (kn:List Bool) (room:Int),mu E A s<M→Nice E A s→0≤room∧room≤5000→∃ n,(look E n s kn room).over=false
 | 0,s,kn,room,hm,_,_=>by omega
 | M+1,s,kn,room,hm,h,hrm=>by
  have ih:=look_ends hK M
  have hR:=E.room'_in s kn room hrm
  cases hd:E.dead s kn with
  | true=>exact ⟨0+1,by rw [look_d hd]⟩
  | false =>
  by_cases h13:(E.ins s).op=13∨(E.ins s).op=12
  ·exact ⟨0+1,by rw [look_f hd h13]⟩
  by_cases o2:(E.ins s).op=2
  ·obtain ⟨⟨x1,x2,x3⟩,⟨y1,y2,y3⟩⟩:=step_split hK h o2
   obtain ⟨n1,e1⟩:=ih (s.set 0 (E.ins s).x) (E.kn' s kn room) (E.room' s kn room) (by omega) x1 hR
   have g1:=look_good E hK.k.ok n1 n1 _ (E.kn' s kn room) (E.room' s kn room) (by omega) x1.g hR
   obtain ⟨n2,e2⟩:=ih (s.set 0 (E.ins s).y) (look E n1 (s.set 0 (E.ins s).x) (E.kn' s kn room) (E.room' s kn room)).kn (look E n1 (s.set 0 (E.ins s).x) (E.kn' s kn room) (E.room' s kn room)).room (by omega) y1 g1.2.2.1
   refine ⟨n1+n2+1,?_⟩
   rw [look_2 hd o2 rfl,look_more E n2 n1 n1 _ _ _ (Nat.le_refl _) e1]
   dsimp only
   split
   ·rfl
   ·rw [Nat.add_comm _ n2,look_more E _ n2 n2 _ _ _ (Nat.le_refl _) e2]
  by_cases o11:(E.ins s).op=11
  ·obtain ⟨x1,x2,x3,x4⟩:=step_in hK h o11
   obtain ⟨n1,e1⟩:=ih (s.set 0 (gt s 0+1)) (E.kn' s kn room) (E.room' s kn room) (by omega) x1 hR
   have g1:=look_good E hK.k.ok n1 n1 _ (E.kn' s kn room) (E.room' s kn room) (by omega) x1.g hR
   have k1:=look_end hK n1 n1 _ (E.kn' s kn room) (E.room' s kn room) (by omega) x1 hR
   have s1:=sub_end hK (n:=n1) (kn:=E.kn' s kn room) h o11 hR
   obtain ⟨r,hr⟩:∃ r,r=look E n1 (s.set 0 (gt s 0+1)) (E.kn' s kn room) (E.room' s kn room):=⟨_,rfl⟩
   rw [← hr] at g1 k1 s1 e1
   by_cases hk:(apartP s (E.ins s) r.st r.ok).2=true
   ·obtain ⟨z1,z2,z3⟩:=step_out hK h o11 g1.2.2.2.1 (fun e=>⟨(ended_pc x1).trans (k1 e),s1 e⟩) hk
    obtain ⟨n2,e2⟩:=ih _ r.kn r.room (by omega) z1.1 g1.2.2.1
    refine ⟨n1+n2+1,?_⟩
    rw [look_11 hd o11 rfl,look_more E n2 n1 n1 _ _ _ (Nat.le_refl _) (by rw [← hr];exact e1),← hr]
    dsimp only
    rw [if_neg (by simp),if_pos hk,Nat.add_comm _ n2,look_more E _ n2 n2 _ _ _ (Nat.le_refl _) e2]
   ·refine ⟨n1+1,?_⟩
    rw [look_11 hd o11 hr,if_neg (by rw [e1];simp),if_neg hk]
  have o12:(E.ins s).op≠12:=fun e=>h13 (.inr e)
  have o13:(E.ins s).op≠13:=fun e=>h13 (.inl e)
  by_cases hk:(oneP E.t s (E.ins s)).2=true
  ·obtain ⟨⟨z1,z2,z3,z4⟩,z5⟩:=step_one hK h o2 o11 o12 o13 hk
   obtain ⟨n1,e1⟩:=ih _ (E.kn' s kn room) (E.room' s kn room) (by omega) z1 hR
   exact ⟨n1+1,by rw [look_1 hd o2 o11 o12 o13,if_pos hk];exact e1⟩
  ·exact ⟨0+1,by rw [look_1 hd o2 o11 o12 o13,if_neg hk]⟩
end Mt
