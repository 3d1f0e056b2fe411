import Derived.Test.YtebpgfodelggoabGreatC52
import Derived.Test.YtebpgfodelggoabGreatC24
import Derived.Test.YtebpgfodelggoabGreatC28
import Derived.Great.BuildSlice
import Derived.Test.YtebpgfodelggoabGreatC46
import Derived.Test.YtebpgfodelggoabGreatC51
import Derived.Test.YtebpgfodelggoabGreatC08
import Derived.Test.YtebpgfodelggoabGreatC12
import Derived.Test.YtebpgfodelggoabGreatC25
import Derived.Test.YtebpgfodelggoabGreatC35
set_option linter.unusedVariables false
set_option linter.unusedSimpArgs false
set_option maxRecDepth 100000
set_option maxHeartbeats 16000000
namespace Go.Proofs.YtebpgfodelggoabGreat
open Go.RowKit
theorem zRv {z z':World} {L b:Nat} {A:Array Value} {t:TypeId} (h:z.heap[b]?=some (.cells A t (0,0))) (hb:Below L z z') (hl:b<L):z'.heap[b]?=some (.cells A t (0,0)):=(hb.block b hl).trans h
theorem zHI {c:List Mt.Ins} {A:Int→Mt.Att} (hK:Mt.Known c A) (t:ByteArray) (policy mask room b:Int) (frm:Nat) (hf:frm≤t.size) (hr:0≤room∧room≤5000):(Mt.zX c t policy mask room b frm).1.at'.length=20:=by
 have key:∀ (f p n:Nat) (kn:List Bool) (room:Int),(0≤room∧room≤5000)→p+f≤t.size+1→(Mt.search (Mt.zDh c t policy mask) b f p n kn room).1.at'.length=20:=by
  intro f
  induction f with
  | zero=>intro p n kn room _ _;simp [Mt.search,Mt.nowhere]
  | succ f ih =>
   intro p n kn room hr hpf
   have hg:=Mt.yC (Mt.zDh c t policy mask) hK.ok n n (Mt.kH p) kn room (Nat.le_refl _) (Mt.zAm _ _ p hK.pos (by show p≤t.size;omega)) hr
   rw [Mt.search]
   split
   ·rfl
   split
   ·exact Mt.zDg _ _ hg.2.2.2.1
   ·exact ih (p+1) _ _ _ hg.2.2.1 (by omega)
 exact key _ _ _ _ _ hr (by omega)
def zTf (w1:World) (c:List Mt.Ins) (text:ByteArray) (policy mask room budget:Int) (R:List Mt.Fnd × Int × Int) (v u i:Value) (wr:World):Prop :=
 ∃ (F frm:Nat) (used:Int) (l:List Mt.Fnd),i=.int .i64 frm∧u=.int .i64 used∧frm≤text.size+1∧text.size+2≤frm+F∧l.length≤frm∧(0≤used∧used≤budget)∧zCj wr w1.heap.size v l∧Below w1.heap.size w1 wr
  ∧ R=Mt.yU c text policy mask room budget F frm used l
theorem zHJ (E:Mt.Env) (A:Int→Mt.Att) (hT:zGP E) (hK:Mt.Known E.c A) (har:∀ p,p<E.c.length→E.ar.getD p 0=Mt.kS E.c p) (policy mask:Int) (hEv:E=Mt.zDh E.c E.t policy mask) (g cap q nq cq:Nat) (room budget:Int) (hr:0≤room∧room≤5000) (hb:0≤budget∧budget≤10000) (zRD:E.t.size≤60) (w:World)
  (h:zB w 0 (.slice (some ⟨g,0,none⟩) E.c.length cap) E.c) (hq:jO w 0 (.slice (some ⟨q,0,none⟩) nq cq) (Mt.kL E.inn E.c.length)) (hnq:nq=(Mt.kL E.inn E.c.length).length) (R:List Mt.Fnd × Int × Int) (hR:R=Mt.yU E.c E.t policy mask room budget (E.t.size+2) 0 0 []) :
  Calls Tryz.prog 53 #[.agg #[.slice (some ⟨g,0,none⟩) E.c.length cap,.slice (some ⟨q,0,none⟩) nq cq,.string E.t,.int .i64 room],.int .i64 budget] w fun e w'=>∃ v,e=.returned (.tuple #[v,.int .i64 R.2.1,.int .i64 R.2.2])∧zCj w' w.heap.size v R.1∧Below w.heap.size w w':=by
 obtain ⟨V,hV⟩:∃ V:Array Value,V=#[.slice (some ⟨g,0,none⟩) E.c.length cap,.slice (some ⟨q,0,none⟩) nq cq,.string E.t,.int .i64 room]:=⟨_,rfl⟩
 have KS:Hid (∀ (b:Int) (frm:Nat) (z:World),0≤b→b≤10000→frm≤E.t.size→Below w.heap.size w z→Calls Tryz.prog 48 #[.agg V,.int .i64 (frm:Int),.int .i64 b] z fun e w'=>e=.returned (.tuple #[.agg (fpA (Mt.zX E.c E.t policy mask room b frm).1),.int .i64 (zKa (Mt.zX E.c E.t policy mask room b frm).2)])∧Below z.heap.size z w'):=fun b frm z h0 h1 hf hbz=>by
  rw [hV]
  exact zL7 E A hT hK har g cap q nq cq frm room b hr ⟨h0,h1⟩ hf z (h.below hbz) (hq.below hbz) hnq (Mt.zX E.c E.t policy mask room b frm) (by unfold Mt.zX;rw [← hEv])
 have HLn:Hid (∀ (b:Int) (frm:Nat),frm≤E.t.size→(Mt.zX E.c E.t policy mask room b frm).1.at'.length=20):=fun b frm hf=>zHI hK E.t policy mask room b frm hf hr
 have HIn:Hid (∀ (b:Int) (frm:Nat),0≤b→frm≤E.t.size→(Mt.zX E.c E.t policy mask room b frm).2=false→(0≤(Mt.zX E.c E.t policy mask room b frm).1.steps∧(Mt.zX E.c E.t policy mask room b frm).1.steps≤b)∧((Mt.zX E.c E.t policy mask room b frm).1.ok=true→∃ x y:Nat,(Mt.zX E.c E.t policy mask room b frm).1.at'.getD 0 0=(x:Int)∧(Mt.zX E.c E.t policy mask room b frm).1.at'.getD 1 0=(y:Int)∧frm≤x∧x≤y∧y≤E.t.size)):=fun b frm h0 hf ho=>Mt.zDC (Mt.zDh E.c E.t policy mask) hK.ok hK.pos b (E.t.size+1-frm) frm b.toNat _ room (by show frm+(E.t.size+1-frm)≤E.t.size+1;omega) hr (by omega) ho
 have hV2:V[2]?=some (.string E.t):=by rw [hV];rfl
 have hVs:V.size=4:=by rw [hV];rfl
 rw [← hV]
 have HV2:Hid (V[2]?=some (.string E.t)):=hV2
 have HR:Hid (R=Mt.yU E.c E.t policy mask room budget (E.t.size+2) 0 0 []):=hR
 clear hV hV2 hR hq hnq h hT hK har hEv
 generalize E.t=text at *
 generalize E.c=C at *
 clear E A
 obtain ⟨w1,hw1⟩:∃ w1,w1=w.alloc (.cells V 84):=⟨_,rfl⟩
 have T1:Hid (w1.heap[w.heap.size]?=some (.cells V 84 (0,0))):=by rw [hw1];exact kX _ _
 have HB1:Hid (Below w.heap.size w w1):=by rw [hw1];exact (Below.refl _ _).alloc (Nat.le_refl _) _
 have HZ1:Hid (w1.heap.size=w.heap.size+1):=by rw [hw1];show _=_;simp
 go_enter Tryz.func53,Tryz.ntmps53
 go_upto_region 1 with fail
 show Code.wp _ _ _ _ (w.alloc (.cells V 84))
 rw [← hw1]
 clear hw1
 generalize hn:w.heap.size=n at *
 go_wp2_with fail
 obtain ⟨i0,hi,hz0,hz1,hz2⟩:=info_parts Tryz.infoFp
 have HIF:Hid (Tryz.prog.info? 57=some i0∧i0.zero=some (.agg (fpA Mt.zAL))∧i0.size=22∧i0.bytes=176):=⟨hi,hz0,hz1,hz2⟩
 clear hi hz0 hz1 hz2
 go_loopw [7,8,9] (fun v u i wr=>zTf w1 C text policy mask room budget R v u i wr) (fun _ _ i _=>text.size+2-(intOf i).toNat)
 case atStart=>exact ⟨text.size+2,0,0,[],rfl,rfl,by omega,by omega,by simp,⟨by omega,hb.1⟩,zHH (kX _ _) (Nat.le_refl _),(Below.refl _ _).alloc (Nat.le_refl _) _,HR.out⟩
 case round =>
  clear HR
  obtain ⟨F,frm,used,l,rfl,rfl,hfr,hF,hll,hus,hown,hbr,hRa⟩:=hrel
  have HOW:Hid (zCj wr w1.heap.size u7 l):=hown
  have HBR:Hid (Below w1.heap.size w1 wr):=hbr
  have HRA:Hid (R=Mt.yU C text policy mask room budget F frm used l):=hRa
  have TR:Hid (wr.heap[n]?=some (.cells V 84 (0,0))):=zRv T1.out hbr (by have:=HZ1.out;omega)
  have c2:wr.cell? ⟨n,2,none⟩=some (.string text):=((zA TR.out).1 2).trans HV2.out
  have ln:n<wr.heap.size:=(Array.getElem?_eq_some_iff.1 TR.out).1
  have HBW:Hid (Below n w wr):=HB1.out.trans (hbr.mono (by have:=HZ1.out;omega))
  have zT1:=hus.1
  have zT2:=hus.2
  have hb0:=hb.1
  have hb1:=hb.2
  clear hown hbr hRa hus
  obtain ⟨F,rfl⟩:∃ F',F=F'+1:=⟨F-1,by omega⟩
  by_cases hlt:text.size<frm
  ·have HRR:Hid (R=(l,used,0)):=by show _=_;rw [HRA.out,Mt.yU,if_pos hlt]
   have d1:decide ((frm:Int)≤(text.size:Int))=false:=by rw [decide_eq_false_iff_not];omega
   have d2:decide (frm≤text.size)=false:=by rw [decide_eq_false_iff_not];omega
   clear HRA hlt
   go_wp2_with fail
   go_ret3
   rw [HRR.out]
   exact ⟨_,rfl,kQ HOW.out (by have:=HZ1.out;omega),by first | exact HBW.out | (rw [hn];exact HBW.out)⟩
  ·have hfT:frm≤text.size:=by omega
   have d1:decide ((frm:Int)≤(text.size:Int))=true:=by rw [decide_eq_true_eq];omega
   have d2:decide (frm≤text.size)=true:=by rw [decide_eq_true_eq];omega
   have hRR:=HRA.out
   rw [Mt.yU,if_neg hlt] at hRR
   have hS4:=HLn.out (budget-used) frm hfT
   have hS5:=HIn.out (budget-used) frm (by omega) hfT
   have hS6:=KS.out (budget-used) frm wr (by omega) (by omega) hfT HBW.out
   generalize Mt.zX C text policy mask room (budget-used) frm=S at *
   have HRR:Hid (R=_):=hRR
   have HL:Hid (S.1.at'.length=20):=hS4
   have HI:Hid (S.2=false→(0≤S.1.steps∧S.1.steps≤budget-used)∧(S.1.ok=true→∃ x y:Nat,S.1.at'.getD 0 0=(x:Int)∧S.1.at'.getD 1 0=(y:Int)∧frm≤x∧x≤y∧y≤text.size)):=hS5
   have HS6:Hid (Calls Tryz.prog 48 #[.agg V,.int .i64 (frm:Int),.int .i64 (budget-used)] wr fun e w'=>e=.returned (.tuple #[.agg (fpA S.1),.int .i64 (zKa S.2)])∧Below wr.heap.size wr w'):=hS6
   have zs:=zAc S.1 hS4
   have za:=zDo S.1
   clear hRR hS4 hS5 hS6 HRA hlt
   go_wp2_with (refine zW 84 4 Tryz.underlying84 rfl Tryz.sizeTk (by rfl) (.tmp 2) (by rfl) n (by rfl) TR.out hVs ?_)
   refine HS6.out.mono ?_
   rintro e w3 ⟨rfl,hb3⟩
   have HB3:Hid (Below wr.heap.size wr w3):=hb3
   clear hb3 c2 HS6
   go_upto_region 6 with (refine zK 57 22 Tryz.sizeFd (by rfl) (.tmp 10) (.tmp 25) (by rfl) w3.heap.size (fpA S.1) (by rfl) (by rfl) (by exact kX _ _) (by rfl) zs za ?_;intro w4 r1 r2 r3 r4)
   have B4:Below wr.heap.size wr w4:=HB3.out.trans ((((Below.refl _ _).alloc (Nat.le_refl _) _).trans (r4 _ (Nat.le_refl _))).mono HB3.out.size)
   have HB4:Hid (Below wr.heap.size wr w4):=B4
   have V4:Hid (w4.heap[w3.heap.size]?=some (.cells (fpA S.1) 57 (0,0))):=r1
   have d0:w4.cell? ⟨w3.heap.size,0,none⟩=some (.bool S.1.ok):=((zA r1).1 _).trans (zSs _)
   have d21:w4.cell? ⟨w3.heap.size,21,none⟩=some (.int .i64 S.1.steps):=((zA r1).1 _).trans (zN9 _ HL.out)
   have l4:w3.heap.size<w4.heap.size:=(Array.getElem?_eq_some_iff.1 r1).1
   have zUs:Hid (wr.heap.size≤w3.heap.size):=HB3.out.size
   clear r1 r2 r3 r4 B4 HB3
   generalize hm3:w3.heap.size=m at *
   have hcs:(S.2=true)∨(S.2=false∧S.1.ok=false)∨(S.2=false∧S.1.ok=true):=by cases S.2 <;> cases S.1.ok <;> simp
   rcases hcs with ov | ⟨ov,ok⟩ | ⟨ov,ok⟩
   ·have HRH:Hid (R=([],0,14)):=by show _=_;rw [HRR.out,ov];rfl
    have HB5:Hid (Below n w w4):=HBW.out.trans (HB4.out.mono (by omega))
    have he:(zKa S.2 != 0)=true:=by rw [ov];rfl
    have he2:zKa S.2=14:=by rw [ov];rfl
    rw [he2] at *
    clear HRR d0 d21
    go_wp2_with fail
    go_ret3
    rw [HRH.out]
    exact ⟨_,rfl,World.ownsRow_nil _ _ _ _,by first | exact HB5.out | (rw [hn];exact HB5.out)⟩
   ·have HRH:Hid (R=(l,used+S.1.steps,0)):=by show _=_;rw [HRR.out,ov,ok];rfl
    have hst:=(HI.out ov).1
    have zQL:=hst.1
    have zSX:=hst.2
    have he2:zKa S.2=0:=by rw [ov];rfl
    rw [he2] at *
    rw [ok] at d0
    have HB5:Hid (Below n w w4):=HBW.out.trans (HB4.out.mono (by omega))
    have O5:Hid (zCj w4 w1.heap.size u7 l):=jT HOW.out HB4.out
    clear HRR hst
    generalize S.1.steps=st at *
    go_wp2_with fail
    go_ret3
    rw [HRH.out]
    exact ⟨_,rfl,kQ O5.out (by have:=HZ1.out;omega),by first | exact HB5.out | (rw [hn];exact HB5.out)⟩
   ·have HRH:Hid (R=Mt.yU C text policy mask room budget F (Mt.qX S.1) (used+S.1.steps) (l++[S.1])):=by show _=_;rw [HRR.out,ov,ok];rfl
    have hst:=HI.out ov
    have zQL:=hst.1.1
    have zSX:=hst.1.2
    obtain ⟨x,y,hx,hy,hxf,hxy,hyT⟩:=hst.2 ok
    have HNX:Hid (Mt.qX S.1≤text.size+1∧frm+1≤Mt.qX S.1∧frm≤Mt.qX S.1):=by
     show _∧_
     unfold Mt.qX;rw [hx,hy]
     split
     ·exact ⟨by omega,by omega,by omega⟩
     ·exact ⟨by omega,by omega,by omega⟩
    have KN:Hid (∀ z:World,Calls Tryz.prog 83 #[.agg (fpA S.1)] z fun e w'=>e=.returned (.int .i64 (Mt.qX S.1:Nat))∧Below z.heap.size z w'):=fun z=>zI9 S.1 x y HL.out hx hy (by omega) z
    have he2:zKa S.2=0:=by rw [ov];rfl
    rw [he2] at *
    rw [ok] at d0
    have O5:Hid (w4.ownsRow w1.heap.size 57 22 u7 l.length (l.flatMap fpL)):=jT HOW.out HB4.out
    have zSz:∀ k,u7.ownBlock=some k→w1.heap.size≤k∧k<wr.heap.size:=fun k hk=>World.ownsRow.lt HOW.out k hk
    have HO7:Hid (∀ k,u7.ownBlock=some k→w1.heap.size≤k∧k<wr.heap.size):=zSz
    have HFL:Hid ((fpL S.1).length=1*22):=by show _=_;rw [zRs _ HL.out]
    have hw4:w1.heap.size≤w4.heap.size:=by have:=HBR.out.size;have:=HB4.out.size;omega
    clear HRR hst hx hy zSz
    generalize hst':S.1.steps=st at *
    generalize hnf:Mt.qX S.1=nf at *
    go_wp2_with (first | (refine zW 57 22 Tryz.underlying57 rfl Tryz.sizeFd (by rfl) (.tmp 10) (by rfl) m (by rfl) V4.out zs ?_) | (refine zFZ (by rfl) (.tmp 38) (by rfl) S.1 HL.out (by rfl) ?_) | (at_builtin;refine wpList_append_lies _ rfl _ _ 64 rfl w1.heap.size 57 i0 _ 22 176 Tryz.underlying64 HIF.out.1 HIF.out.2.1 HIF.out.2.2.1 HIF.out.2.2.2 rfl (by decide) _ l.length _ rfl (World.ownsRow.alloc O5.out _) ⟨w4.heap.size,0,none⟩ 1 1 (fpL S.1) rfl HFL.out (vS _ _ _) (zRt _) (by decide) (by unfold maxLen;omega) (by omega) (by simp;omega) (w4.heap.size+1) (by simp) ?_))
    intro q' cap' w5 hown5 hgrow hqq zLJ
    have O6:Hid (zCj w5 w1.heap.size (.slice (some ⟨q',0,none⟩) (l.length+1) cap') (l++[S.1])):=zI8 hown5
    have B5:Hid (Below w1.heap.size w1 w5):=((HBR.out.trans (HB4.out.mono HBR.out.size)).alloc (by omega) _).grown hgrow (by simp;omega) (fun k hk=>(HO7.out k hk).1)
    have V5:Hid (w5.heap[m]?=some (.cells (fpA S.1) 57 (0,0))):=by
     have hm4:m<w4.heap.size:=l4
     have e1:(w4.alloc (.cells (fpL S.1).toArray 57)).heap[m]?=some (.cells (fpA S.1) 57 (0,0)):=(kG _ _ _ hm4).trans V4.out
     have:=hgrow.block m (by simp;omega) (fun e=>by have:=(HO7.out m e.symm).2;have:=zUs.out;omega)
     exact this.trans e1
    clear hown5 hgrow hqq zLJ d0 d21 l4
    go_wp2_with (refine zW 57 22 Tryz.underlying57 rfl Tryz.sizeFd (by rfl) (.tmp 10) (by rfl) m (by rfl) V5.out zs ?_)
    refine (KN.out _).mono ?_
    rintro e w6 ⟨rfl,hb6⟩
    have O7:Hid (zCj w6 w1.heap.size (.slice (some ⟨q',0,none⟩) (l.length+1) cap') (l++[S.1])):=jT O6.out hb6
    have B6:Hid (Below w1.heap.size w1 w6):=B5.out.trans (hb6.mono B5.out.size)
    clear hb6
    obtain ⟨n1,n2,n3⟩:=HNX.out
    go_wp2_with fail
    go_roundw
    case rel=>exact ⟨F,nf,used+st,l++[S.1],rfl,rfl,by omega,by omega,by rw [List.length_append];simp;omega,⟨by omega,by omega⟩,O7.out,B6.out,HRH.out⟩
    case measure=>simp [intOf];omega
theorem zKh (p t:ByteArray) (policy mask room budget:Int) (w:World) (hm:p.size≤maxLen) (hmt:t.size≤maxLen) :
  Calls Tryz.prog 30 #[.string p,.string t,.agg #[.int .i64 policy,.int .i64 mask,.int .i64 room,.int .i64 budget]] w fun e w'=>∃ v,e=.returned (.tuple #[v,.int .i64 (Mt.jI p t policy mask room budget).2.1,.int .i64 (Mt.jI p t policy mask room budget).2.2])∧zCj w' w.heap.size v (Mt.jI p t policy mask room budget).1∧Below w.heap.size w w':=by
 obtain ⟨W1,hW1⟩:∃ W1,W1=w.alloc (.cells #[.int .i64 policy,.int .i64 mask,.int .i64 room,.int .i64 budget] 61):=⟨_,rfl⟩
 have T1:Hid (W1.heap[w.heap.size]?=some (.cells #[.int .i64 policy,.int .i64 mask,.int .i64 room,.int .i64 budget] 61 (0,0))):=by rw [hW1];exact kX _ _
 have HB1:Hid (Below w.heap.size w W1):=by rw [hW1];exact (Below.refl _ _).alloc (Nat.le_refl _) _
 have HC:Hid (Calls Tryz.prog 47 #[.string p,.string t,.agg #[.int .i64 policy,.int .i64 mask,.int .i64 room,.int .i64 budget]] W1 fun e w'=>∃ v er,e=.returned (.tuple #[.agg v,.int .i64 er])∧zOh p t policy mask room budget W1.heap.size v er w'∧Below W1.heap.size W1 w'):=zKg p t policy mask room budget W1 hm hmt
 have zTN:Hid (_∧_):=zP0 t.size 0 policy mask room budget
 obtain ⟨RR,hRR⟩:∃ RR,RR=Mt.jI p t policy mask room budget:=⟨_,rfl⟩
 rw [← hRR]
 have HRR:Hid (RR=Mt.jI p t policy mask room budget):=hRR
 clear hRR
 go_enter Tryz.func30,Tryz.ntmps30
 go_upto_region 1 with fail
 show Code.wp _ _ _ _ (w.alloc (.cells #[.int .i64 policy,.int .i64 mask,.int .i64 room,.int .i64 budget] 61))
 rw [← hW1]
 clear hW1
 generalize hnn:w.heap.size=n at *
 go_wp2_with (refine zW 61 4 Tryz.underlying61 rfl Tryz.sizeOpt (by rfl) (.tmp 5) (by rfl) n (by rfl) T1.out (by rfl) ?_)
 refine HC.out.mono ?_
 rintro e w3 ⟨v,er,rfl,hPr,hb3⟩
 have HPR:Hid (zOh p t policy mask room budget W1.heap.size v er w3):=hPr
 have hvs:v.size=4:=hPr.1
 have hva:v.all (·.oneCell')=true:=hPr.2.1
 have T3:Hid (w3.heap[n]?=some (.cells #[.int .i64 policy,.int .i64 mask,.int .i64 room,.int .i64 budget] 61 (0,0))):=(hb3.block n (Array.getElem?_eq_some_iff.1 T1.out).1).trans T1.out
 have HB3:Hid (Below n w w3):=HB1.out.trans (hb3.mono (Nat.le_of_lt (Array.getElem?_eq_some_iff.1 T1.out).1))
 clear hPr hb3 HC
 go_upto_region 2 with (refine zK 84 4 Tryz.sizeTk (by rfl) (.tmp 9) (.tmp 16) (by rfl) w3.heap.size v (by rfl) (by rfl) (by exact kX _ _) (by rfl) hvs hva ?_;intro w5 r1 r2 r3 r4)
 have B5:Below w3.heap.size w3 w5:=((Below.refl _ _).alloc (Nat.le_refl _) _).trans (r4 _ (Nat.le_refl _))
 have T5:=(B5.block n (Array.getElem?_eq_some_iff.1 T3.out).1).trans T3.out
 have HB5:Hid (Below n w w5):=HB3.out.trans (B5.mono (Nat.le_of_lt (Array.getElem?_eq_some_iff.1 T3.out).1))
 have o3:w5.cell? ⟨n,3,none⟩=some (.int .i64 budget):=(zA T5).1 3
 have l5:n<w5.heap.size:=(Array.getElem?_eq_some_iff.1 T5).1
 have V5:Hid (w5.heap[w3.heap.size]?=some (.cells v 84 (0,0))):=r1
 have HKP:Hid (Below w3.heap.size w3 w5):=B5
 clear r1 r2 r3 r4 B5 T5 HB1 HB3
 generalize hm3:w3.heap.size=m3 at *
 rcases HPR.out.2.2 with ⟨hk,rfl⟩ | ⟨hk,hmp,rfl⟩ | ⟨hk,hmp,rfl,g,cap,q,nq,cq,hv,hci,hri,hnq⟩
 ·have HE:Hid (RR=([],0,(Mt.kR p).2)):=by show _=_;rw [HRR.out];unfold Mt.jI;rw [if_pos hk]
  have hne:((Mt.kR p).2 != 0)=true:=by simpa using hk
  clear hk
  generalize (Mt.kR p).2=er at *
  go_wp2_with fail
  go_ret3
  rw [HE.out]
  exact ⟨_,rfl,World.ownsRow_nil _ _ _ _,by first | exact HB5.out | (rw [hnn];exact HB5.out)⟩
 ·have HE:Hid (RR=([],0,qO t.size policy mask room budget)):=by
   show _=_;rw [HRR.out];unfold Mt.jI;rw [if_neg (by omega),zTN.out.1 hmp,if_pos hmp]
  have hne:(qO t.size policy mask room budget != 0)=true:=by simpa using hmp
  clear hk hmp
  generalize qO t.size policy mask room budget=er at *
  go_wp2_with fail
  go_ret3
  rw [HE.out]
  exact ⟨_,rfl,World.ownsRow_nil _ _ _ _,by first | exact HB5.out | (rw [hnn];exact HB5.out)⟩
 ·have h0:=(zTN.out.2 hmp).1 ⟨by omega,by omega⟩
  obtain ⟨zRD,hrm,hbd⟩:=zRr hmp
  obtain ⟨A,hK⟩:=Mt.zB7 p (zCf p hk)
  have hTC:=zRq p t policy mask hk A hK zRD
  obtain ⟨S,hS⟩:∃ S,S=Mt.yU (Mt.kR p).1 t policy mask room budget (t.size+2) 0 0 []:=⟨_,rfl⟩
  have HE:Hid (RR=S):=by show _=_;rw [HRR.out];unfold Mt.jI;rw [if_neg (by omega),h0,if_neg (by omega),← hS]
  have zTg:=HKP.out
  have HSR:Hid (Calls Tryz.prog 53 #[.agg v,.int .i64 budget] w5 fun e w'=>∃ u,e=.returned (.tuple #[u,.int .i64 S.2.1,.int .i64 S.2.2])∧zCj w' w5.heap.size u S.1∧Below w5.heap.size w5 w'):=by
   rw [hv]
   exact zHJ (Mt.zDh (Mt.kR p).1 t policy mask) A hTC hK (fun q hq=>zOi _ t policy mask q hq) policy mask rfl g cap q nq cq room budget hrm hbd zRD w5 ((hci.below (by rw [hm3];exact zTg)).base (Nat.zero_le _)) (kQ (hri.below (by rw [hm3];exact zTg)) (Nat.zero_le _)) hnq S hS
  have hz0:((0:Int) != 0)=false:=rfl
  clear hv hci hri hnq hTC hK hS h0 hmp hk zTg
  go_wp2_with (refine zW 84 4 Tryz.underlying84 rfl Tryz.sizeTk (by rfl) (.tmp 9) (by rfl) m3 (by rfl) V5.out hvs ?_)
  refine HSR.out.mono ?_
  rintro e w7 ⟨u,rfl,ho7,hb7⟩
  have HO7:Hid (zCj w7 n u S.1):=kQ ho7 (by omega)
  have HB7:Hid (Below n w w7):=HB5.out.trans (hb7.mono (by omega))
  clear hb7 ho7 o3
  go_wp2_with fail
  go_ret3
  rw [HE.out]
  exact ⟨_,rfl,by first | exact HO7.out | (rw [hnn];exact HO7.out),by first | exact HB7.out | (rw [hnn];exact HB7.out)⟩
theorem Tryz.sizeOpL:(Tryz.prog.info? 26).map (·.size)=some 8:=by kernel_rfl
def zF0:Prop:=∀ (p t:ByteArray) (policy mask room budget:Int) (z:World),p.size≤maxLen→t.size≤maxLen→Calls Tryz.prog 30 #[.string p,.string t,.agg #[.int .i64 policy,.int .i64 mask,.int .i64 room,.int .i64 budget]] z fun e w'=>∃ v,e=.returned (.tuple #[v,.int .i64 (Mt.jI p t policy mask room budget).2.1,.int .i64 (Mt.jI p t policy mask room budget).2.2])∧vQ w' z.heap.size v (Mt.jI p t policy mask room budget).1∧Below z.heap.size z w'
theorem zL9:zF0:=fun p t policy mask room budget z hp ht=>zKh p t policy mask room budget z hp ht
theorem zOj {w:World} {base g cap n:Nat} {xs:List Value} (h:w.ownsRow base 57 22 (.slice (some ⟨g,0,none⟩) n cap) n xs) (k:Nat) (hk:k<n):w.there g (k*22) 22:=by
 intro j hj
 have hl:=h.1
 have hlt:k*22+j<n*22:=by
  have:(k+1)*22≤n*22:=Nat.mul_le_mul_right _ hk
  rw [Nat.add_mul] at this;omega
 have:=World.ownsRow.cellAt h (k*22+j) (by omega)
 rw [this]
 exact ⟨by rw [List.getElem?_eq_getElem (by omega)];rfl,World.ownsRow.frozenAt h (k*22+j)⟩
theorem zKi (KP:zF0) (o:Stp) (w:World) (hp:o.p.size≤maxLen) (ht:o.t.size≤maxLen) :
  Calls Tryz.prog 14 #[opV o] w fun e w'=>e=.returned (.bool true)∧Below w.heap.size w w':=by
 have KO:Hid (∀ z:World,Calls Tryz.prog 27 #[opV o] z fun e w'=>e=.returned (.agg #[.int .i64 o.policy,.int .i64 o.mask,.int .i64 o.room,.int .i64 o.budget])∧Below z.heap.size z w'):=fun z=>zJE o z
 have K1:Hid (∀ z:World,Calls Tryz.prog 30 #[.string o.p,.string o.t,.agg #[.int .i64 o.policy,.int .i64 o.mask,.int .i64 o.room,.int .i64 o.budget]] z fun e w'=>∃ v,e=.returned (.tuple #[v,.int .i64 (Mt.jI o.p o.t o.policy o.mask o.room o.budget).2.1,.int .i64 (Mt.jI o.p o.t o.policy o.mask o.room o.budget).2.2])∧vQ w' z.heap.size v (Mt.jI o.p o.t o.policy o.mask o.room o.budget).1∧Below z.heap.size z w'):=fun z=>KP o.p o.t o.policy o.mask o.room o.budget z hp ht
 have K2:Hid (∀ z:World,Calls Tryz.prog 31 #[.string o.p,.string o.t,.agg #[.int .i64 o.policy,.int .i64 o.mask,.int .i64 o.room,.int .i64 o.budget]] z fun e w'=>∃ v,e=.returned (.tuple #[v,.int .i64 (Mt.jI o.p o.t o.policy o.mask o.room o.budget).2.1,.int .i64 (Mt.jI o.p o.t o.policy o.mask o.room o.budget).2.2])∧vQ w' z.heap.size v (Mt.jI o.p o.t o.policy o.mask o.room o.budget).1∧Below z.heap.size z w'):=fun z=>zF8 o.p o.t o.policy o.mask o.room o.budget z hp ht
 obtain ⟨zOn,zTh⟩:=Mt.zHg o.p o.t o.policy o.mask o.room o.budget
 have KS:Hid (∀ (va vb:Value) (z:World),vQ z 0 va (Mt.jI o.p o.t o.policy o.mask o.room o.budget).1→vQ z 0 vb (Mt.jI o.p o.t o.policy o.mask o.room o.budget).1→Calls Tryz.prog 32 #[va,vb] z fun e w'=>e=.returned (.bool true)∧Below z.heap.size z w'):=fun va vb z ha hb=>zHa _ zOn va vb z ha hb zTh
 have zUt:Hid (∀ f∈(Mt.jI o.p o.t o.policy o.mask o.room o.budget).1,f.at'.length=20):=zOn
 clear zOn
 generalize Mt.jI o.p o.t o.policy o.mask o.room o.budget=R at *
 have HN:Hid ((w.alloc (.cells (opA o) 26 (0,0))).heap[w.heap.size]?=some (.cells (opA o) 26 (0,0))):=heap_alloc_new _ _
 have HB:Below w.heap.size w (w.alloc (.cells (opA o) 26 (0,0))):=(Below.refl _ _).alloc (Nat.le_refl _) _
 have HSz:w.heap.size<(w.alloc (.cells (opA o) 26 (0,0))).heap.size:=by simp
 unfold opV
 go_enter Tryz.func14,Tryz.ntmps14
 go_upto_region 1 with fail
 generalize hW0:w.alloc (.cells (opA o) 26 (0,0))=W0 at *
 have SD:w.heap.size<W0.drew.heap.size:=HSz
 have ND:W0.drew.heap[w.heap.size]?=some (.cells (opA o) 26 (0,0)):=HN.out
 have BD:Below w.heap.size w W0.drew:=HB.drew
 go_cut [3,4,5] (fun s3 s4 s5 wx=>s4=.int .i64 R.2.1∧s5=.int .i64 R.2.2∧vQ wx (w.heap.size+1) s3 R.1∧wx.heap[w.heap.size]?=some (.cells (opA o) 26 (0,0))∧Below w.heap.size w wx)
 case first =>
  have hc1:∀ z:World,z.heap[w.heap.size]?=some (.cells (opA o) 26 (0,0))→z.cell? ⟨w.heap.size,1,none⟩=some (.string o.p):=fun z hz=>(zA hz).1 1
  have hc2:∀ z:World,z.heap[w.heap.size]?=some (.cells (opA o) 26 (0,0))→z.cell? ⟨w.heap.size,2,none⟩=some (.string o.t):=fun z hz=>(zA hz).1 2
  have hcr:∀ z:World,z.heap[w.heap.size]?=some (.cells (opA o) 26 (0,0))→z.rangeAt w.heap.size 0 (opA o).toList:=fun z hz=>yP hz
  refine wp_region_held_drew (S:=fun z:World=>z.heap[w.heap.size]?=some (.cells (opA o) 26 (0,0))) (by kernel_rfl) HN.out (fun hHeld=>?_)
  refine zP 0 12 (.pointer (some ⟨w.heap.size,1,none⟩)) rfl rfl (by kernel_rfl) (by kernel_rfl) (by kernel_rfl) (fun _ _ _ h=>h) (Or.inl ⟨by rfl,fun z hz=>by clear hz;try clear hHeld;try clear hc1 hc2 hcr;go_simp⟩) (by assumption) ?_
  simp only [Act.put,List.setIfInBounds_toArray,List.set_cons_zero,List.set_cons_succ]
  refine zP 1 13 (.string o.p) rfl rfl (by kernel_rfl) (by kernel_rfl) (by kernel_rfl) (fun _ _ _ h=>h) (Or.inl ⟨by rfl,fun z hz=>by have h1:=hc1 z hz;have h2:=hc2 z hz;clear hz;try clear hHeld;try clear hc1 hc2 hcr;go_simp⟩) (by assumption) ?_
  simp only [Act.put,List.setIfInBounds_toArray,List.set_cons_zero,List.set_cons_succ]
  refine zP 2 14 (.pointer (some ⟨w.heap.size,2,none⟩)) rfl rfl (by kernel_rfl) (by kernel_rfl) (by kernel_rfl) (fun _ _ _ h=>h) (Or.inl ⟨by rfl,fun z hz=>by clear hz;try clear hHeld;try clear hc1 hc2 hcr;go_simp⟩) (by assumption) ?_
  simp only [Act.put,List.setIfInBounds_toArray,List.set_cons_zero,List.set_cons_succ]
  refine zP 3 15 (.string o.t) rfl rfl (by kernel_rfl) (by kernel_rfl) (by kernel_rfl) (fun _ _ _ h=>h) (Or.inl ⟨by rfl,fun z hz=>by have h1:=hc1 z hz;have h2:=hc2 z hz;clear hz;try clear hHeld;try clear hc1 hc2 hcr;go_simp⟩) (by assumption) ?_
  simp only [Act.put,List.setIfInBounds_toArray,List.set_cons_zero,List.set_cons_succ]
  refine zP 4 16 (opV o) rfl rfl (by kernel_rfl) (by kernel_rfl) (by kernel_rfl) (fun _ _ _ h=>h) (yieldsIf_load_mid (by rfl) _ _ rfl _ _ rfl _ _ hcr Tryz.underlying26 rfl (by rw [Tryz.sizeOpL];rfl)) (by assumption) ?_
  simp only [Act.put,List.setIfInBounds_toArray,List.set_cons_zero,List.set_cons_succ]
  clear hc1 hc2 hcr hHeld
  refine wpAnyH_ready (rs:=[5]) (by kernel_rfl) (by simp) ?_
  refine AllReadyH.cons rfl (fun K hK=>?_) AllReadyH.nil
  go_simp
  refine (KO.out _).mono ?_
  rintro e w1 ⟨rfl,hb⟩
  have Nw1:w1.heap[w.heap.size]?=some (.cells (opA o) 26 (0,0)):=(hb.block _ SD).trans ND
  have Sw1:w.heap.size<w1.heap.size:=Nat.lt_of_lt_of_le SD hb.size
  have Bw1:Below w.heap.size w w1:=BD.trans (hb.mono (Nat.le_of_lt SD))
  clear hb
  go_simp
  refine hK.out _ _ Nw1 (fun hH=>?_)
  clear hK K hH
  refine wpAnyH_ready (rs:=[6]) (by kernel_rfl) (by simp) ?_
  refine AllReadyH.cons rfl (fun K hK=>?_) AllReadyH.nil
  go_simp
  refine (K1.out w1).mono ?_
  rintro e w2 ⟨v,rfl,ov,hb⟩
  have Nw2:w2.heap[w.heap.size]?=some (.cells (opA o) 26 (0,0)):=(hb.block _ Sw1).trans Nw1
  have Bw2:Below w.heap.size w w2:=Bw1.trans (hb.mono (Nat.le_of_lt Sw1))
  have OV:Hid (vQ w2 (w.heap.size+1) v R.1):=kQ ov Sw1
  clear hb ov
  go_simp
  refine hK.out _ _ Nw2 (fun hH=>?_)
  clear hK K
  refine zP 7 11 (.tuple #[v,.int .i64 R.2.1,.int .i64 R.2.2]) rfl rfl (by kernel_rfl) (by kernel_rfl) (by kernel_rfl) (fun _ _ _ h=>h) (Or.inl ⟨by rfl,fun z hz=>by clear hz hH;go_simp⟩) (by assumption) ?_
  simp only [Act.put,List.setIfInBounds_toArray,List.set_cons_zero,List.set_cons_succ]
  refine zP 8 19 v rfl rfl (by kernel_rfl) (by kernel_rfl) (by kernel_rfl) (fun _ _ _ h=>h) (Or.inl ⟨by rfl,fun z hz=>by clear hz hH;go_simp⟩) (by assumption) ?_
  simp only [Act.put,List.setIfInBounds_toArray,List.set_cons_zero,List.set_cons_succ]
  refine zP 9 20 (.int .i64 R.2.1) rfl rfl (by kernel_rfl) (by kernel_rfl) (by kernel_rfl) (fun _ _ _ h=>h) (Or.inl ⟨by rfl,fun z hz=>by clear hz hH;go_simp⟩) (by assumption) ?_
  simp only [Act.put,List.setIfInBounds_toArray,List.set_cons_zero,List.set_cons_succ]
  refine zP 10 21 (.int .i64 R.2.2) rfl rfl (by kernel_rfl) (by kernel_rfl) (by kernel_rfl) (fun _ _ _ h=>h) (Or.inl ⟨by rfl,fun z hz=>by clear hz hH;go_simp⟩) (by assumption) ?_
  simp only [Act.put,List.setIfInBounds_toArray,List.set_cons_zero,List.set_cons_succ]
  refine zP 11 3 v rfl rfl (by kernel_rfl) (by kernel_rfl) (by kernel_rfl) (fun _ _ _ h=>h) (Or.inl ⟨by rfl,fun z hz=>by clear hz hH;go_simp⟩) (by assumption) ?_
  simp only [Act.put,List.setIfInBounds_toArray,List.set_cons_zero,List.set_cons_succ]
  refine zP 12 4 (.int .i64 R.2.1) rfl rfl (by kernel_rfl) (by kernel_rfl) (by kernel_rfl) (fun _ _ _ h=>h) (Or.inl ⟨by rfl,fun z hz=>by clear hz hH;go_simp⟩) (by assumption) ?_
  simp only [Act.put,List.setIfInBounds_toArray,List.set_cons_zero,List.set_cons_succ]
  refine zP 13 5 (.int .i64 R.2.2) rfl rfl (by kernel_rfl) (by kernel_rfl) (by kernel_rfl) (fun _ _ _ h=>h) (Or.inl ⟨by rfl,fun z hz=>by clear hz hH;go_simp⟩) (by assumption) ?_
  simp only [Act.put,List.setIfInBounds_toArray,List.set_cons_zero,List.set_cons_succ]
  refine wpAnyH_done (by kernel_rfl) ?_ _
  go_wp2_with fail
  go_meet
  case rel=>exact ⟨rfl,rfl,OV.out,Nw2,Bw2⟩
 case rest =>
  obtain ⟨rfl,rfl,oa,nx,bx⟩:=hcut
  have SX:w.heap.size<wc.drew.heap.size:=(Array.getElem?_eq_some_iff.1 nx).1
  have NX:wc.drew.heap[w.heap.size]?=some (.cells (opA o) 26 (0,0)):=nx
  have BX:Below w.heap.size w wc.drew:=bx.drew
  have OA:Hid (vQ wc (w.heap.size+1) u3 R.1):=oa
  have HNX:Hid (wc.heap[w.heap.size]?=some (.cells (opA o) 26 (0,0))):=nx
  clear oa nx bx SD ND BD HB HSz HN hW0
  go_upto_region 2 with fail
  go_cut [6,7,8] (fun s6 s7 s8 wx=>s7=.int .i64 R.2.1∧s8=.int .i64 R.2.2∧vQ wx (w.heap.size+1) s6 R.1∧vQ wx (w.heap.size+1) u3 R.1∧Below w.heap.size w wx)
  case first =>
   have hc1:∀ z:World,z.heap[w.heap.size]?=some (.cells (opA o) 26 (0,0))→z.cell? ⟨w.heap.size,1,none⟩=some (.string o.p):=fun z hz=>(zA hz).1 1
   have hc2:∀ z:World,z.heap[w.heap.size]?=some (.cells (opA o) 26 (0,0))→z.cell? ⟨w.heap.size,2,none⟩=some (.string o.t):=fun z hz=>(zA hz).1 2
   have hcr:∀ z:World,z.heap[w.heap.size]?=some (.cells (opA o) 26 (0,0))→z.rangeAt w.heap.size 0 (opA o).toList:=fun z hz=>yP hz
   refine wp_region_held_drew (S:=fun z:World=>z.heap[w.heap.size]?=some (.cells (opA o) 26 (0,0))) (by kernel_rfl) HNX.out (fun hHeld=>?_)
   refine zP 0 23 (.pointer (some ⟨w.heap.size,1,none⟩)) rfl rfl (by kernel_rfl) (by kernel_rfl) (by kernel_rfl) (fun _ _ _ h=>h) (Or.inl ⟨by rfl,fun z hz=>by clear hz;try clear hHeld;try clear hc1 hc2 hcr;go_simp⟩) (by assumption) ?_
   simp only [Act.put,List.setIfInBounds_toArray,List.set_cons_zero,List.set_cons_succ]
   refine zP 1 24 (.string o.p) rfl rfl (by kernel_rfl) (by kernel_rfl) (by kernel_rfl) (fun _ _ _ h=>h) (Or.inl ⟨by rfl,fun z hz=>by have h1:=hc1 z hz;have h2:=hc2 z hz;clear hz;try clear hHeld;try clear hc1 hc2 hcr;go_simp⟩) (by assumption) ?_
   simp only [Act.put,List.setIfInBounds_toArray,List.set_cons_zero,List.set_cons_succ]
   refine zP 2 25 (.pointer (some ⟨w.heap.size,2,none⟩)) rfl rfl (by kernel_rfl) (by kernel_rfl) (by kernel_rfl) (fun _ _ _ h=>h) (Or.inl ⟨by rfl,fun z hz=>by clear hz;try clear hHeld;try clear hc1 hc2 hcr;go_simp⟩) (by assumption) ?_
   simp only [Act.put,List.setIfInBounds_toArray,List.set_cons_zero,List.set_cons_succ]
   refine zP 3 26 (.string o.t) rfl rfl (by kernel_rfl) (by kernel_rfl) (by kernel_rfl) (fun _ _ _ h=>h) (Or.inl ⟨by rfl,fun z hz=>by have h1:=hc1 z hz;have h2:=hc2 z hz;clear hz;try clear hHeld;try clear hc1 hc2 hcr;go_simp⟩) (by assumption) ?_
   simp only [Act.put,List.setIfInBounds_toArray,List.set_cons_zero,List.set_cons_succ]
   refine zP 4 27 (opV o) rfl rfl (by kernel_rfl) (by kernel_rfl) (by kernel_rfl) (fun _ _ _ h=>h) (yieldsIf_load_mid (by rfl) _ _ rfl _ _ rfl _ _ hcr Tryz.underlying26 rfl (by rw [Tryz.sizeOpL];rfl)) (by assumption) ?_
   simp only [Act.put,List.setIfInBounds_toArray,List.set_cons_zero,List.set_cons_succ]
   clear hc1 hc2 hcr hHeld
   refine wpAnyH_ready (rs:=[5]) (by kernel_rfl) (by simp) ?_
   refine AllReadyH.cons rfl (fun K hK=>?_) AllReadyH.nil
   go_simp
   refine (KO.out _).mono ?_
   rintro e w1 ⟨rfl,hb⟩
   have Nw1:w1.heap[w.heap.size]?=some (.cells (opA o) 26 (0,0)):=(hb.block _ SX).trans NX
   have Sw1:w.heap.size<w1.heap.size:=Nat.lt_of_lt_of_le SX hb.size
   have Bw1:Below w.heap.size w w1:=BX.trans (hb.mono (Nat.le_of_lt SX))
   have OA1:Hid (vQ w1 (w.heap.size+1) u3 R.1):=jT (jT OA.out (Below.refl _ _).drew) hb
   clear hb
   go_simp
   refine hK.out _ _ Nw1 (fun hH=>?_)
   clear hK K hH
   refine wpAnyH_ready (rs:=[6]) (by kernel_rfl) (by simp) ?_
   refine AllReadyH.cons rfl (fun K hK=>?_) AllReadyH.nil
   go_simp
   refine (K2.out w1).mono ?_
   rintro e w2 ⟨v,rfl,ov,hb⟩
   have Nw2:w2.heap[w.heap.size]?=some (.cells (opA o) 26 (0,0)):=(hb.block _ Sw1).trans Nw1
   have Bw2:Below w.heap.size w w2:=Bw1.trans (hb.mono (Nat.le_of_lt Sw1))
   have OV:Hid (vQ w2 (w.heap.size+1) v R.1):=kQ ov Sw1
   have OA2:Hid (vQ w2 (w.heap.size+1) u3 R.1):=jT OA1.out hb
   clear hb ov
   go_simp
   refine hK.out _ _ Nw2 (fun hH=>?_)
   clear hK K
   refine zP 7 22 (.tuple #[v,.int .i64 R.2.1,.int .i64 R.2.2]) rfl rfl (by kernel_rfl) (by kernel_rfl) (by kernel_rfl) (fun _ _ _ h=>h) (Or.inl ⟨by rfl,fun z hz=>by clear hz hH;go_simp⟩) (by assumption) ?_
   simp only [Act.put,List.setIfInBounds_toArray,List.set_cons_zero,List.set_cons_succ]
   refine zP 8 30 v rfl rfl (by kernel_rfl) (by kernel_rfl) (by kernel_rfl) (fun _ _ _ h=>h) (Or.inl ⟨by rfl,fun z hz=>by clear hz hH;go_simp⟩) (by assumption) ?_
   simp only [Act.put,List.setIfInBounds_toArray,List.set_cons_zero,List.set_cons_succ]
   refine zP 9 31 (.int .i64 R.2.1) rfl rfl (by kernel_rfl) (by kernel_rfl) (by kernel_rfl) (fun _ _ _ h=>h) (Or.inl ⟨by rfl,fun z hz=>by clear hz hH;go_simp⟩) (by assumption) ?_
   simp only [Act.put,List.setIfInBounds_toArray,List.set_cons_zero,List.set_cons_succ]
   refine zP 10 32 (.int .i64 R.2.2) rfl rfl (by kernel_rfl) (by kernel_rfl) (by kernel_rfl) (fun _ _ _ h=>h) (Or.inl ⟨by rfl,fun z hz=>by clear hz hH;go_simp⟩) (by assumption) ?_
   simp only [Act.put,List.setIfInBounds_toArray,List.set_cons_zero,List.set_cons_succ]
   refine zP 11 6 v rfl rfl (by kernel_rfl) (by kernel_rfl) (by kernel_rfl) (fun _ _ _ h=>h) (Or.inl ⟨by rfl,fun z hz=>by clear hz hH;go_simp⟩) (by assumption) ?_
   simp only [Act.put,List.setIfInBounds_toArray,List.set_cons_zero,List.set_cons_succ]
   refine zP 12 7 (.int .i64 R.2.1) rfl rfl (by kernel_rfl) (by kernel_rfl) (by kernel_rfl) (fun _ _ _ h=>h) (Or.inl ⟨by rfl,fun z hz=>by clear hz hH;go_simp⟩) (by assumption) ?_
   simp only [Act.put,List.setIfInBounds_toArray,List.set_cons_zero,List.set_cons_succ]
   refine zP 13 8 (.int .i64 R.2.2) rfl rfl (by kernel_rfl) (by kernel_rfl) (by kernel_rfl) (fun _ _ _ h=>h) (Or.inl ⟨by rfl,fun z hz=>by clear hz hH;go_simp⟩) (by assumption) ?_
   simp only [Act.put,List.setIfInBounds_toArray,List.set_cons_zero,List.set_cons_succ]
   refine wpAnyH_done (by kernel_rfl) ?_ _
   go_wp2_with fail
   go_meet
   case rel=>exact ⟨rfl,rfl,OV.out,OA2.out,Bw2⟩
  case rest =>
   rename World=>wd
   obtain ⟨rfl,rfl,ob,oa,bx⟩:=hcut
   have OA3:Hid (vQ wd (w.heap.size+1) u3 R.1):=oa
   have BX3:Hid (Below w.heap.size w wd):=bx
   have KSS:Hid (Calls Tryz.prog 32 #[u3,u6] wd fun e w'=>e=.returned (.bool true)∧Below wd.heap.size wd w'):=KS.out u3 u6 wd (kQ oa (Nat.zero_le _)) (kQ ob (Nat.zero_le _))
   clear oa ob bx SX NX BX OA HNX K1 K2 KO KS
   go_wp2_with fail
   refine KSS.out.mono ?_
   rintro e w3 ⟨rfl,hb3⟩
   have hB3:Below w.heap.size w w3:=BX3.out.trans (hb3.mono BX3.out.size)
   have Q3:Hid (vQ w3 (w.heap.size+1) u3 R.1):=jT OA3.out hb3
   clear hb3 KSS OA3 BX3
   have e1:(R.2.1==R.2.1)=true:=by simp
   have e2:(R.2.2==R.2.2)=true:=by simp
   rcases zDD Q3.out zUt.out with ⟨e0,ao,zSY,rfl⟩ | ⟨hpos,g,cap,rfl,hca,hg,_⟩
   ·go_wp2_with fail
    refine wp_loop_rounds 1 ?_
    rw [rounds_succ]
    go_wp2_with fail
    go_ret
    exact ⟨kM (by simp),hB3⟩
   ·go_wp2_with fail
    go_loopw [10] (fun i wr=>∃ (k:Nat) (xs:List Value),k≤R.1.length∧i=.int .i64 k∧wr.ownsRow (w.heap.size+1) 57 22 (.slice (some ⟨g,0,none⟩) R.1.length cap) R.1.length xs∧Below w.heap.size w wr) (fun i _=>R.1.length-(intOf i).toNat)
    case atStart=>exact ⟨0,_,Nat.zero_le _,rfl,Q3.out,hB3⟩
    case round =>
     obtain ⟨k,xs,hk,rfl,hown,hbr⟩:=hrel
     by_cases hlt:k<R.1.length
     ·have hth:=zOj hown k hlt
      obtain ⟨ZA,hZA⟩:∃ ZA,ZA=fdA Mt.zAL:=⟨_,rfl⟩
      have HO:Hid _:=zBu ZA.toList (k*22) wr xs hown
      have hgl:=World.ownsRow.lt hown g rfl
      have HBB:Hid (Below w.heap.size w (wr.setCells g (k*22) ZA.toList)):=hbr.trans ((below_setCells g ZA.toList (k*22) wr w.heap.size (by omega)).1)
      have HTH:Hid (wr.there g (k*22) ZA.size):=by show World.there _ _ _ _;rw [hZA,qG Mt.zAL rfl];exact hth
      have HZB:Hid (Tryz.prog.built 57 []=some ZA):=by show _=_;rw [hZA];kernel_rfl
      have HZS:Hid ((Tryz.prog.info? 57).map (·.size)=some ZA.size):=by show _=_;rw [Tryz.size57,hZA,qG Mt.zAL rfl]
      have HZ1:Hid (ZA.all (·.oneCell')=true):=by show _=_;rw [hZA];exact zEt _
      have i0:(0:Int)≤(k:Int):=by omega
      have i1:(k:Int)<(R.1.length:Int):=by omega
      clear hown hbr hth hZA
      go_upto_region 7 with fail
      refine wp_region_lit ?_
      refine wpList_plain (by rfl) (fun K hK=>?_)
      go_simp
      refine hK _ _ ?_
      clear hK K
      refine wpList_plain (by rfl) (fun K hK=>?_)
      go_simp
      refine hK _ _ ?_
      clear hK K
      refine wpList_buildTo (by rfl) 57 #[] (by rfl) (some 44) rfl ZA (by first | (simp only [List.map_toArray,List.map_nil];exact HZB.out) | simpa using HZB.out) ?_
      simp only [Act.put,List.setIfInBounds_toArray,List.set_cons_zero,List.set_cons_succ]
      go_upto_region 6 with (refine wpList_store_mid (by rfl) 57 (.tmp 45) (.tmp 44) (by rfl) g (k*22) ZA (by rfl) (by rfl) HTH.out HZS.out HZ1.out ?_)
      generalize wr.setCells g (k*22) ZA.toList=w5 at *
      go_wp2_with fail
      go_roundw
      case rel=>exact ⟨k+1,_,by omega,by go_num,HO.out,HBB.out⟩
      case measure=>simp [intOf];omega
     ·go_wp2_with fail
      go_ret
      exact ⟨kM (by simp),hbr⟩
theorem zMa (KP:zF0) (o:Stp) (w:World) (hp:o.p.size≤maxLen) (ht:o.t.size≤maxLen) (k1:(o.kind==1)=false) (k2:(o.kind==2)=false) (k3:(o.kind==3)=false) (k4:(o.kind==4)=false) (k5:(o.kind==5)=false) (k6:(o.kind==6)=true) :
  Calls Tryz.prog 6 #[opV o] w fun e w'=>e=.returned (.bool true)∧Below w.heap.size w w':=by
 have K1:Hid (∀ z:World,Calls Tryz.prog 14 #[opV o] z fun e w'=>e=.returned (.bool true)∧Below z.heap.size z w'):=fun z=>zKi KP o z hp ht
 unfold opV opA at *
 go_enter Tryz.func6,Tryz.ntmps6
 go_wp2_with fail
 refine (K1.out _).mono ?_
 rintro e w1 ⟨rfl,hb1⟩
 have hB1:Below w.heap.size w w1:=((Below.refl _ _).alloc (Nat.le_refl _) _).trans (hb1.mono (by simp))
 clear hb1
 go_wp2_with fail
 go_ret
 exact ⟨rfl,hB1⟩
open Go.ChangeShapes Go.WideShapes Go.ChangeAt Go.RowKit
theorem zOk (o:Stp) (z:World) (hp:o.p.size≤maxLen) (ht:o.t.size≤maxLen) (e:o.kind=6) :
  Calls Tryz.prog 6 #[opV o] z fun e w'=>e=.returned (.bool true)∧Below z.heap.size z w' :=
 zMa zL9 o z hp ht (by rw [e];rfl) (by rw [e];rfl) (by rw [e];rfl) (by rw [e];rfl) (by rw [e];rfl) (by rw [e];rfl)
theorem zMb (l:List Stp) (v:Value) (w:World) (h:Script w v l) (hn:l.length≤maxLen) (hs:∀ o∈l,o.p.size≤maxLen∧o.t.size≤maxLen) :
  Calls Tryz.prog 3 #[v] w fun e w'=>e=.returned (.bool true)∧Below w.heap.size w w':=by
 have HC:Hid (Calls Tryz.prog 5 #[v,.int .i64 6,.int .i64 6] w _):=zME 6 6 l v w h (by unfold maxLen at hn;omega) (fun o ho k1 k2 z=>zOk o z (hs o ho).1 (hs o ho).2 (by omega))
 go_enter Tryz.func3,Tryz.ntmps3
 go_wp2_with fail
 refine HC.out.mono ?_
 rintro e w1 ⟨rfl,b1⟩
 have HB:Hid (Below w.heap.size w w1):=b1
 clear b1
 go_wp2_with fail
 go_ret
 exact ⟨rfl,HB.out⟩
theorem zGi (H:Type) (enc:TypeId × Value→H) (W:World) (base:Nat) (args:Array Value) (ds gs:List (DataW H)) (before:List MemPlace)
  (hval:∀ (j:Nat) t v,Tryz.f3.params[j]?=some t→args[j]?=some v→Value.okWide Tryz.prog W .any base t v)
  (hW:DataW.Whole enc Tryz.prog Tryz.f3.params.toList Rows.listsSpec.vars false W args.toList ds gs before) :
  Calls Tryz.prog 3 args W fun e W'=>∃ v,e=.returned v∧Rows.listsSpec.post enc Tryz.prog Tryz.f3 false true false false W args v W':=by
 have hW':=hW
 have hlt:=hW.lt
 obtain ⟨p,q,hA0,hV,rfl,hfz,hnd⟩:=hW
 have hA:DataW.TrodAll enc Tryz.prog W 0 (fun _=>true) true Tryz.f3.params.toList args.toList ds p:=hA0
 rw [Tryz.params3] at hA hval
 obtain ⟨v0,d0,rfl,rfl,h0⟩:=trodAll_one hA
 obtain ⟨rfl,rfl⟩:=trodVars_none hV
 obtain ⟨a0,len,cap,rfl⟩:=okWide_slice Tryz.underlying22 (hval 0 22 v0 rfl rfl)
 have h0':=h0
 obtain ⟨fuel,hf⟩:=h0
 obtain ⟨l,hS,hn,hs⟩:=zJp hf
 clear hA0
 simp only [List.append_nil] at hW' hlt
 refine (zMb l _ W hS hn hs).mono fun e W' ⟨he,hb⟩=>?_
 subst he
 refine ⟨_,rfl,zLg (pa:=p) (pv:=[]) hW' (fun _ _ _=>trodAll_cons_mk (shut_bool Tryz.underlying4 _) trodAll_mk0) (fun sp hsp=>?_) (fun _ _=>rfl) (by simp) hb (ok_one (by kernel_rfl) rfl (okWide_bool_mk Tryz.underlying4 _))⟩
 have:=WideElems.Trod_stays (W':=W') (sp':=sp) Tryz.laid Tryz.recOps Tryz.rowOps h0' (fun x hx=>hb.same (hlt x hx)) hsp
 exact ⟨p,[],this,rfl,by simp⟩
theorem zJa (os:Os) (started:os.Started) (H:Type) (enc:TypeId × Value→H) :
  ReturnsInHanded {} Tryz.checked os 3 .any (Rows.listsSpec.pre6 enc Tryz.prog Tryz.f3 Rows.listsRow.domain false) (Rows.listsSpec.post enc Tryz.prog Tryz.f3 false true false false):=by
 refine returnsInHanded_of_change (C:=Tryz.checked) Tryz.ownK started (by kernel_rfl) Tryz.func3
  (ChangeSpec.witness6 (enc:=enc) (C:=Tryz.checked) false ⟨#[],#[.slice none 0 0],[]⟩ 8 (by kernel_rfl) (by kernel_rfl) (by kernel_rfl) (by kernel_rfl)) ?_
 intro W base args ds gs before hval hW _ _
 exact zGi H enc W base args ds gs before hval hW
theorem lists_holds:Rows.ListsSaid :=
 OpenClaim.holds_of_wide 3 Tryz.f3 rfl rfl rfl rfl rfl rfl rfl ⟨rfl,rfl,rfl,rfl,rfl⟩ rfl rfl rfl rfl rfl (by kernel_rfl) Tryz.func3 (by kernel_rfl)
  (of_decide_eq_true (by kernel_rfl)) (by unfold Func.isWrapper;first | (rw [if_pos (by decide +kernel)];kernel_rfl) | (rw [if_neg (by decide +kernel)];exact ⟨rfl,rfl⟩))
  (fun os started H enc _=>zJa os started H enc)
end Go.Proofs.YtebpgfodelggoabGreat
