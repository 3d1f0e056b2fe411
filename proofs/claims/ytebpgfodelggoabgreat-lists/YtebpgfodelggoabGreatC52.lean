import Derived.Test.YtebpgfodelggoabGreatC48
import Derived.Test.YtebpgfodelggoabGreatC51
import Derived.Test.YtebpgfodelggoabGreatC23
import Derived.Test.YtebpgfodelggoabGreatC31
import Derived.Test.YtebpgfodelggoabGreatC46
import Derived.Deep.DeepCutAuto
import Derived.Great.BuildSlice
set_option linter.unusedVariables false
set_option linter.unusedSimpArgs false
set_option maxRecDepth 100000
set_option maxHeartbeats 8000000
namespace Go.Proofs.YtebpgfodelggoabGreat
open Go.RowKit
def qO (T:Nat) (policy mask room budget:Int):Int :=
 if 60<T then 1 else if Mt.kF policy mask=true∧0≤room∧room≤5000∧0≤budget∧budget≤10000 then 0 else 13
def tk0:Array Value:=#[.slice none 0 0,.slice none 0 0,.string ⟨#[]⟩,.int .i64 0]
theorem Tryz.sizeTk:(Tryz.prog.info? 84).map (·.size)=some 4:=by kernel_rfl
def zOh (p t:ByteArray) (policy mask room budget:Int) (n0:Nat) (v:Array Value) (e:Int) (w:World):Prop :=
 v.size=4∧v.all (·.oneCell')=true∧(((Mt.kR p).2≠0∧e=(Mt.kR p).2)∨((Mt.kR p).2=0∧qO t.size policy mask room budget≠0∧e=qO t.size policy mask room budget) ∨
  ((Mt.kR p).2=0∧qO t.size policy mask room budget=0∧e=0∧∃ g cap q nq cq,v=#[.slice (some ⟨g,0,none⟩) (Mt.kR p).1.length cap,.slice (some ⟨q,0,none⟩) nq cq,.string t,.int .i64 room]∧zB w n0 (.slice (some ⟨g,0,none⟩) (Mt.kR p).1.length cap) (Mt.kR p).1∧jO w n0 (.slice (some ⟨q,0,none⟩) nq cq) (Mt.kL (Mt.chosen (Mt.kR p).1 policy mask) (Mt.kR p).1.length)∧nq=(Mt.kL (Mt.chosen (Mt.kR p).1 policy mask) (Mt.kR p).1.length).length))
theorem zDS (T:Nat) (policy mask room budget:Int):(decide ((T:Int)>60)=true∧qO T policy mask room budget=1)∨(decide ((T:Int)>60)=false∧Mt.kF policy mask=false∧qO T policy mask room budget=13)∨(decide ((T:Int)>60)=false∧Mt.kF policy mask=true∧decide (room<0)=true∧qO T policy mask room budget=13)∨(decide ((T:Int)>60)=false∧Mt.kF policy mask=true∧decide (room<0)=false∧decide (room>5000)=true∧qO T policy mask room budget=13)∨(decide ((T:Int)>60)=false∧Mt.kF policy mask=true∧decide (room<0)=false∧decide (room>5000)=false∧decide (budget<0)=true∧qO T policy mask room budget=13)∨(decide ((T:Int)>60)=false∧Mt.kF policy mask=true∧decide (room<0)=false∧decide (room>5000)=false∧decide (budget<0)=false∧decide (budget>10000)=true∧qO T policy mask room budget=13)∨(decide ((T:Int)>60)=false∧Mt.kF policy mask=true∧decide (room<0)=false∧decide (room>5000)=false∧decide (budget<0)=false∧decide (budget>10000)=false∧qO T policy mask room budget=0∧T≤60∧(0≤room∧room≤5000)∧(0≤budget∧budget≤10000)):=by
 unfold qO
 simp only [decide_eq_true_eq,decide_eq_false_iff_not]
 by_cases h1:60<T
 ·rw [if_pos h1];left;exact ⟨by omega,rfl⟩
 rw [if_neg h1]
 right
 cases hs:Mt.kF policy mask
 ·left
  exact ⟨by omega,rfl,if_neg (fun x=>by cases x.1)⟩
 right
 by_cases h2:room<0
 ·left;exact ⟨by omega,rfl,h2,if_neg (by omega)⟩
 right
 by_cases h3:room>5000
 ·left;exact ⟨by omega,rfl,h2,h3,if_neg (by omega)⟩
 right
 by_cases h4:budget<0
 ·left;exact ⟨by omega,rfl,h2,by omega,h4,if_neg (by omega)⟩
 right
 by_cases h5:budget>10000
 ·left;exact ⟨by omega,rfl,h2,by omega,h4,h5,if_neg (by omega)⟩
 right
 exact ⟨by omega,rfl,h2,by omega,h4,by omega,if_pos ⟨rfl,by omega,by omega,by omega,by omega⟩,by omega,by omega,by omega⟩
theorem zKg (p t:ByteArray) (policy mask room budget:Int) (w:World) (hm:p.size≤maxLen) (hmt:t.size≤maxLen):Calls Tryz.prog 47 #[.string p,.string t,.agg #[.int .i64 policy,.int .i64 mask,.int .i64 room,.int .i64 budget]] w fun e w'=>∃ v er,e=.returned (.tuple #[.agg v,.int .i64 er])∧zOh p t policy mask room budget w.heap.size v er w'∧Below w.heap.size w w':=by
 obtain ⟨W1,hW1⟩:∃ W1,W1=(w.alloc (.cells #[.int .i64 policy,.int .i64 mask,.int .i64 room,.int .i64 budget] 61)).alloc (.cells tk0 84):=⟨_,rfl⟩
 have B1:Below w.heap.size w W1:=by rw [hW1];exact ((Below.refl _ _).alloc (Nat.le_refl _) _).alloc (by simp) _
 have T1:W1.heap[w.heap.size]?=some (.cells #[.int .i64 policy,.int .i64 mask,.int .i64 room,.int .i64 budget] 61 (0,0)):=by rw [hW1];exact zBj _ _ _
 have U1:W1.heap[w.heap.size+1]?=some (.cells tk0 84 (0,0)):=by rw [hW1];exact zA2 _ _ _
 have Z1:W1.heap.size=w.heap.size+2:=by rw [hW1];simp
 have HC:Hid (Calls Tryz.prog 18 #[.string p] W1 fun e w'=>∃ v,e=.returned (.tuple #[v,.int .i64 (Mt.kR p).2])∧zB w' W1.heap.size v (Mt.kR p).1∧Below W1.heap.size W1 w'):=zPS p W1 hm
 have HIC:Hid (∀ z:World,Calls Tryz.prog 43 #[.int .i64 policy,.int .i64 mask] z fun e w'=>e=.returned (.bool (Mt.kF policy mask))∧z=w'):=fun z=>zI6 policy mask z
 have hl:=(Mt.zH8 p).2
 have HKN:Hid (∀ h0:(Mt.kR p).2=0,(∃ A,Mt.Known (Mt.kR p).1 A)∧Mt.zL8 0 (Mt.kR p).1):=fun h0=>⟨Mt.zB7 p (zCf p h0),Mt.zI3 p (zCf p h0)⟩
 have HMS:Hid (Mt.kF policy mask=true→0≤policy∧policy≤4∧0≤mask∧mask≤4294967295):=fun hms=>by unfold Mt.kF at hms;simpa using hms
 have HB1:Hid (Below w.heap.size w W1):=B1
 have HT1:Hid (W1.heap[w.heap.size]?=some (.cells #[.int .i64 policy,.int .i64 mask,.int .i64 room,.int .i64 budget] 61 (0,0))∧W1.heap[w.heap.size+1]?=some (.cells tk0 84 (0,0))∧W1.heap.size=w.heap.size+2):=⟨T1,U1,Z1⟩
 have zU9:(t.size:Int)≤9223372036854775807:=by unfold maxLen at hmt;omega
 clear B1 T1 U1 Z1
 go_enter Tryz.func47,Tryz.ntmps47
 go_upto_region 1 with fail
 show Code.wp _ _ _ _ ((w.alloc (.cells #[.int .i64 policy,.int .i64 mask,.int .i64 room,.int .i64 budget] 61)).alloc (.cells tk0 84))
 rw [← hW1]
 clear hW1
 generalize hnn:w.heap.size=n at *
 generalize hKK:Mt.kR p=K at *
 go_wp2_with fail
 refine HC.out.mono ?_
 rintro e w2 ⟨v,rfl,ho,hb2⟩
 have hz:=HT1.out.2.2
 have T2:w2.heap[n]?=some (.cells #[.int .i64 policy,.int .i64 mask,.int .i64 room,.int .i64 budget] 61 (0,0)):=(hb2.block n (by omega)).trans HT1.out.1
 have U2:w2.heap[n+1]?=some (.cells tk0 84 (0,0)):=(hb2.block (n+1) (by omega)).trans HT1.out.2.1
 have HB2:Hid (Below n w w2):=HB1.out.trans (hb2.mono (by omega))
 have HO:Hid (zB w2 (n+2) v K.1):=ho.base (by omega)
 have o0:w2.cell? ⟨n,0,none⟩=some (.int .i64 policy):=(zA T2).1 0
 have o1:w2.cell? ⟨n,1,none⟩=some (.int .i64 mask):=(zA T2).1 1
 have o2:w2.cell? ⟨n,2,none⟩=some (.int .i64 room):=(zA T2).1 2
 have o3:w2.cell? ⟨n,3,none⟩=some (.int .i64 budget):=(zA T2).1 3
 have HT2:Hid (w2.heap[n]?=some (.cells #[.int .i64 policy,.int .i64 mask,.int .i64 room,.int .i64 budget] 61 (0,0))∧n+1<w2.heap.size):=⟨T2,(Array.getElem?_eq_some_iff.1 U2).1⟩
 clear ho hb2 HC HT1 HB1 hz T2
 cases he:(K.2 != 0)
 ·have h0:K.2=0:=by simpa using he
  rcases zDS t.size policy mask room budget with ⟨m1,me⟩ | ⟨m1,m2,me⟩ | ⟨m1,m2,m3,me⟩ | ⟨m1,m2,m3,m4,me⟩ | ⟨m1,m2,m3,m4,m5,me⟩ | ⟨m1,m2,m3,m4,m5,m6,me⟩ | ⟨m1,m2,m3,m4,m5,m6,me,zRD,hrr,hbb⟩
  ·have m1':decide (60<t.size)=true:=by rw [decide_eq_true_eq] at m1 ⊢;omega
   have HME:Hid (qO t.size policy mask room budget=1∧K.2=0):=⟨me,h0⟩
   clear me h0
   go_wp2_with (refine zK 84 4 Tryz.sizeTk (by rfl) (.tmp 6) (.tmp 23) (by rfl) (n+1) tk0 (by rfl) (by rfl) U2 (by rfl) (by rfl) (by simp [tk0,Value.oneCell']) ?_;intro w9 q1 q2 q3 q4)
   refine bodyPost_ret (kW 84 4 Tryz.underlying84 rfl Tryz.sizeTk rfl (by rfl) q1 (by rfl)) rfl ⟨_,_,rfl,?_,?_⟩
   ·rw [← hKK] at HME
    exact ⟨rfl,by simp [tk0,Value.oneCell'],Or.inr (Or.inl ⟨HME.out.2,by rw [HME.out.1];omega,HME.out.1.symm⟩)⟩
   ·first | exact HB2.out.trans (q4 n (by omega)) | (rw [hnn];exact HB2.out.trans (q4 n (by omega)))
  ·have m1':decide (60<t.size)=false:=by rw [decide_eq_false_iff_not] at m1 ⊢;omega
   have HME:Hid (qO t.size policy mask room budget=13∧K.2=0):=⟨me,h0⟩
   rw [m2] at HIC
   clear me h0
   go_wp2_with fail
   refine (HIC.out w2).mono ?_
   rintro e w3 ⟨rfl,rfl⟩
   go_wp2_with (refine zK 84 4 Tryz.sizeTk (by rfl) (.tmp 6) (.tmp 50) (by rfl) (n+1) tk0 (by rfl) (by rfl) U2 (by rfl) (by rfl) (by simp [tk0,Value.oneCell']) ?_;intro w9 q1 q2 q3 q4)
   refine bodyPost_ret (kW 84 4 Tryz.underlying84 rfl Tryz.sizeTk rfl (by rfl) q1 (by rfl)) rfl ⟨_,_,rfl,?_,?_⟩
   ·rw [← hKK] at HME
    exact ⟨rfl,by simp [tk0,Value.oneCell'],Or.inr (Or.inl ⟨HME.out.2,by rw [HME.out.1];omega,HME.out.1.symm⟩)⟩
   ·first | exact HB2.out.trans (q4 n (by omega)) | (rw [hnn];exact HB2.out.trans (q4 n (by omega)))
  ·have m1':decide (60<t.size)=false:=by rw [decide_eq_false_iff_not] at m1 ⊢;omega
   have HME:Hid (qO t.size policy mask room budget=13∧K.2=0):=⟨me,h0⟩
   rw [m2] at HIC
   clear me h0
   go_wp2_with fail
   refine (HIC.out w2).mono ?_
   rintro e w3 ⟨rfl,rfl⟩
   go_wp2_with (refine zK 84 4 Tryz.sizeTk (by rfl) (.tmp 6) (.tmp 50) (by rfl) (n+1) tk0 (by rfl) (by rfl) U2 (by rfl) (by rfl) (by simp [tk0,Value.oneCell']) ?_;intro w9 q1 q2 q3 q4)
   refine bodyPost_ret (kW 84 4 Tryz.underlying84 rfl Tryz.sizeTk rfl (by rfl) q1 (by rfl)) rfl ⟨_,_,rfl,?_,?_⟩
   ·rw [← hKK] at HME
    exact ⟨rfl,by simp [tk0,Value.oneCell'],Or.inr (Or.inl ⟨HME.out.2,by rw [HME.out.1];omega,HME.out.1.symm⟩)⟩
   ·first | exact HB2.out.trans (q4 n (by omega)) | (rw [hnn];exact HB2.out.trans (q4 n (by omega)))
  ·have m1':decide (60<t.size)=false:=by rw [decide_eq_false_iff_not] at m1 ⊢;omega
   have HME:Hid (qO t.size policy mask room budget=13∧K.2=0):=⟨me,h0⟩
   rw [m2] at HIC
   clear me h0
   go_wp2_with fail
   refine (HIC.out w2).mono ?_
   rintro e w3 ⟨rfl,rfl⟩
   go_wp2_with (refine zK 84 4 Tryz.sizeTk (by rfl) (.tmp 6) (.tmp 50) (by rfl) (n+1) tk0 (by rfl) (by rfl) U2 (by rfl) (by rfl) (by simp [tk0,Value.oneCell']) ?_;intro w9 q1 q2 q3 q4)
   refine bodyPost_ret (kW 84 4 Tryz.underlying84 rfl Tryz.sizeTk rfl (by rfl) q1 (by rfl)) rfl ⟨_,_,rfl,?_,?_⟩
   ·rw [← hKK] at HME
    exact ⟨rfl,by simp [tk0,Value.oneCell'],Or.inr (Or.inl ⟨HME.out.2,by rw [HME.out.1];omega,HME.out.1.symm⟩)⟩
   ·first | exact HB2.out.trans (q4 n (by omega)) | (rw [hnn];exact HB2.out.trans (q4 n (by omega)))
  ·have m1':decide (60<t.size)=false:=by rw [decide_eq_false_iff_not] at m1 ⊢;omega
   have HME:Hid (qO t.size policy mask room budget=13∧K.2=0):=⟨me,h0⟩
   rw [m2] at HIC
   clear me h0
   go_wp2_with fail
   refine (HIC.out w2).mono ?_
   rintro e w3 ⟨rfl,rfl⟩
   go_wp2_with (refine zK 84 4 Tryz.sizeTk (by rfl) (.tmp 6) (.tmp 50) (by rfl) (n+1) tk0 (by rfl) (by rfl) U2 (by rfl) (by rfl) (by simp [tk0,Value.oneCell']) ?_;intro w9 q1 q2 q3 q4)
   refine bodyPost_ret (kW 84 4 Tryz.underlying84 rfl Tryz.sizeTk rfl (by rfl) q1 (by rfl)) rfl ⟨_,_,rfl,?_,?_⟩
   ·rw [← hKK] at HME
    exact ⟨rfl,by simp [tk0,Value.oneCell'],Or.inr (Or.inl ⟨HME.out.2,by rw [HME.out.1];omega,HME.out.1.symm⟩)⟩
   ·first | exact HB2.out.trans (q4 n (by omega)) | (rw [hnn];exact HB2.out.trans (q4 n (by omega)))
  ·have m1':decide (60<t.size)=false:=by rw [decide_eq_false_iff_not] at m1 ⊢;omega
   have HME:Hid (qO t.size policy mask room budget=13∧K.2=0):=⟨me,h0⟩
   rw [m2] at HIC
   clear me h0
   go_wp2_with fail
   refine (HIC.out w2).mono ?_
   rintro e w3 ⟨rfl,rfl⟩
   go_wp2_with (refine zK 84 4 Tryz.sizeTk (by rfl) (.tmp 6) (.tmp 50) (by rfl) (n+1) tk0 (by rfl) (by rfl) U2 (by rfl) (by rfl) (by simp [tk0,Value.oneCell']) ?_;intro w9 q1 q2 q3 q4)
   refine bodyPost_ret (kW 84 4 Tryz.underlying84 rfl Tryz.sizeTk rfl (by rfl) q1 (by rfl)) rfl ⟨_,_,rfl,?_,?_⟩
   ·rw [← hKK] at HME
    exact ⟨rfl,by simp [tk0,Value.oneCell'],Or.inr (Or.inl ⟨HME.out.2,by rw [HME.out.1];omega,HME.out.1.symm⟩)⟩
   ·first | exact HB2.out.trans (q4 n (by omega)) | (rw [hnn];exact HB2.out.trans (q4 n (by omega)))
  ·have m1':decide (60<t.size)=false:=by rw [decide_eq_false_iff_not] at m1 ⊢;omega
   have HME:Hid (qO t.size policy mask room budget=0∧K.2=0):=⟨me,h0⟩
   obtain ⟨⟨A,hKn⟩,hN⟩:=HKN.out h0
   have zSy:=HMS.out m2
   rw [m2] at HIC
   obtain ⟨g,cap,rfl,_,_⟩:=World.ownsRow.form HO.out hKn.pos
   have HCC:Hid (Calls Tryz.prog 44 #[.slice (some ⟨g,0,none⟩) K.1.length cap,.int .i64 policy,.int .i64 mask] w2 fun e w'=>∃ q nq cp,e=.returned (.slice (some ⟨q,0,none⟩) nq cp)∧nq=(Mt.kL (Mt.chosen K.1 policy mask) K.1.length).length∧jO w' w2.heap.size (.slice (some ⟨q,0,none⟩) nq cp) (Mt.kL (Mt.chosen K.1 policy mask) K.1.length)∧Below w2.heap.size w2 w'):=zGh _ hKn.ok hN policy mask ⟨zSy.1,zSy.2.1⟩ zSy.2.2.1 zSy.2.2.2 hl g cap w2 (HO.out.base (Nat.zero_le _))
   have hpos:=hKn.pos
   clear me h0 hKn hN zSy HKN
   go_wp2_with fail
   refine (HIC.out w2).mono ?_
   rintro e w3 ⟨rfl,rfl⟩
   go_wp2_with fail
   refine HCC.out.mono ?_
   rintro e w4 ⟨q,nq,cq,rfl,hn,hrq,hb4⟩
   have T4:w4.heap[n]?=some (.cells #[.int .i64 policy,.int .i64 mask,.int .i64 room,.int .i64 budget] 61 (0,0)):=(hb4.block n (by have:=HT2.out.2;omega)).trans HT2.out.1
   have U4:w4.heap[n+1]?=some (.cells tk0 84 (0,0)):=(hb4.block (n+1) HT2.out.2).trans U2
   have p2:w4.cell? ⟨n,2,none⟩=some (.int .i64 room):=(zA T4).1 2
   have HB4:Hid (Below n w w4):=HB2.out.trans (hb4.mono (by have:=HT2.out.2;omega))
   have HR4:Hid (zB w4 n (.slice (some ⟨g,0,none⟩) K.1.length cap) K.1∧jO w4 n (.slice (some ⟨q,0,none⟩) nq cq) (Mt.kL (Mt.chosen K.1 policy mask) K.1.length)∧nq=(Mt.kL (Mt.chosen K.1 policy mask) K.1.length).length∧g≠n+1∧q≠n+1):=by
    have h1:=(World.ownsRow.lt HO.out g rfl).1
    have h2:=(World.ownsRow.lt hrq q rfl).1
    have h3:=HT2.out.2
    exact ⟨(HO.out.below hb4).base (by omega),kQ hrq (by omega),hn,by omega,by omega⟩
   clear hb4 hrq hn T4 U2 o0 o1 o2 o3 HCC HIC
   go_wp2_with (refine zK 84 4 Tryz.sizeTk (by rfl) (.tmp 6) (.tmp 62) (by rfl) (n+1) #[.slice (some ⟨g,0,none⟩) K.1.length cap,.slice (some ⟨q,0,none⟩) nq cq,.string t,.int .i64 room] (by rfl) (by rfl) U4 (by rfl) (by rfl) (by simp [tk0,Value.oneCell']) ?_;intro w9 q1 q2 q3 q4)
   refine bodyPost_ret (kW 84 4 Tryz.underlying84 rfl Tryz.sizeTk rfl (by rfl) q1 (by rfl)) rfl ⟨_,_,rfl,?_,?_⟩
   ·rw [← hKK] at HME HR4
    obtain ⟨h1,h2,h3,h4,h5⟩:=HR4.out
    have k1:zB w9 n (.slice (some ⟨g,0,none⟩) (Mt.kR p).1.length cap) (Mt.kR p).1:=zJ h1 (fun i hi=>by cases hi;exact q2 g h4)
    have k2:jO w9 n (.slice (some ⟨q,0,none⟩) nq cq) (Mt.kL (Mt.chosen (Mt.kR p).1 policy mask) (Mt.kR p).1.length):=by
     unfold jO at h2 ⊢
     rw [← h3] at h2 ⊢
     exact zJ h2 (fun i hi=>by cases hi;exact q2 q h5)
    refine ⟨rfl,by simp [Value.oneCell'],Or.inr (Or.inr ⟨HME.out.2,HME.out.1,rfl,g,cap,q,nq,cq,by rw [hKK],?_,?_,h3⟩)⟩
    ·first | exact k1 | (rw [hnn];exact k1)
    ·first | exact k2 | (rw [hnn];exact k2)
   ·first | exact HB4.out.trans (q4 n (by omega)) | (rw [hnn];exact HB4.out.trans (q4 n (by omega)))
 ·have HKE:Hid (K.2≠0):=by show _≠_;simpa using he
  go_wp2_with (refine zK 84 4 Tryz.sizeTk (by rfl) (.tmp 6) (.tmp 18) (by rfl) (n+1) tk0 (by rfl) (by rfl) U2 (by rfl) (by rfl) (by simp [tk0,Value.oneCell']) ?_;intro w9 q1 q2 q3 q4)
  refine bodyPost_ret (kW 84 4 Tryz.underlying84 rfl Tryz.sizeTk rfl (by rfl) q1 (by rfl)) rfl ⟨_,_,rfl,?_,?_⟩
  ·rw [← hKK] at HKE
   exact ⟨rfl,by simp [tk0,Value.oneCell'],Or.inl ⟨HKE.out,by rw [hKK]⟩⟩
  ·first | exact HB2.out.trans (q4 n (by omega)) | (rw [hnn];exact HB2.out.trans (q4 n (by omega)))
theorem zPZ (p:ByteArray) (h:(Mt.kR p).2=0) (k:Nat):((Mt.kR p).1.take k).countP Mt.yD=((Mt.kR p).1.take k).countP Mt.vD+Mt.kS (Mt.kR p).1 k:=by
 obtain ⟨f,_,_,_,_,_,hc,_⟩:=Mt.zBt p (zCf p h)
 exact Mt.zGC f.re _ hc k
theorem zOi (c:List Mt.Ins) (t:ByteArray) (policy mask:Int) (p:Nat) (hp:p<c.length):(Mt.zDh c t policy mask).ar.getD p 0=Mt.kS c p:=by
 unfold Mt.zDh
 dsimp only
 rw [List.getD_eq_getElem?_getD,List.getElem?_map,List.getElem?_range hp];rfl
theorem zI7 {c:List Mt.Ins} {A:Int→Mt.Att} (hK:Mt.Known c A) (p:Nat) (hp:p<c.length):Mt.kS c p≤11:=by
 have h1:=hK.loops p hp
 rcases Nat.lt_or_ge (p+1) c.length with h | h
 ·have:=(hK.rule p h).2.2.2.2.2.2.2.2.2.2.1
  omega
 ·have e:p=c.length-1:=by omega
  have st:=hK.stop
  rw [← e] at st
  rw [st] at h1
  dsimp only at h1
  omega
theorem zRq (p t:ByteArray) (policy mask:Int) (h0:(Mt.kR p).2=0) (A:Int→Mt.Att) (hK:Mt.Known (Mt.kR p).1 A) (ht:t.size≤60):zGP (Mt.zDh (Mt.kR p).1 t policy mask):=by
 refine ⟨zPZ p h0,hK.len,fun q hq=>?_,fun q=>?_,ht⟩
 ·unfold Mt.Env.arN
  rw [zOi (Mt.kR p).1 t policy mask q hq];show (Mt.kS (Mt.kR p).1 q:Int).toNat=Mt.kS (Mt.kR p).1 q;omega
 ·unfold Mt.Env.arN
  rcases Nat.lt_or_ge q (Mt.kR p).1.length with h | h
  ·rw [zOi _ t policy mask q h]
   have:=zI7 hK q h
   omega
  ·have:(Mt.zDh (Mt.kR p).1 t policy mask).ar.getD q 0=0:=by
    unfold Mt.zDh
    dsimp only
    rw [List.getD_eq_getElem?_getD,List.getElem?_eq_none (by simp;omega)];rfl
   rw [this];omega
theorem zP0 (T:Nat) (frm policy mask room budget:Int):(qO T policy mask room budget≠0→Mt.zAx T frm policy mask room budget=qO T policy mask room budget)∧(qO T policy mask room budget=0→(0≤frm∧frm≤T→Mt.zAx T frm policy mask room budget=0)∧(¬ (0≤frm∧frm≤T)→Mt.zAx T frm policy mask room budget=13)):=by
 unfold qO Mt.zAx
 by_cases h1:60<T
 ·rw [if_pos h1,if_pos h1];exact ⟨fun _=>rfl,fun h=>by omega⟩
 rw [if_neg h1,if_neg h1]
 by_cases h2:Mt.kF policy mask=true∧0≤room∧room≤5000∧0≤budget∧budget≤10000
 ·rw [if_pos h2]
  refine ⟨fun h=>absurd rfl h,fun _=>⟨fun hf=>if_pos ⟨h2.1,hf.1,hf.2,h2.2⟩,fun hf=>if_neg (fun x=>hf ⟨x.2.1,x.2.2.1⟩)⟩⟩
 ·rw [if_neg h2]
  refine ⟨fun _=>if_neg (fun x=>h2 ⟨x.1,x.2.2.2⟩),fun h=>by omega⟩
theorem zRr {T:Nat} {policy mask room budget:Int} (h:qO T policy mask room budget=0):T≤60∧(0≤room∧room≤5000)∧(0≤budget∧budget≤10000):=by
 rcases zDS T policy mask room budget with ⟨_,e⟩ | ⟨_,_,e⟩ | ⟨_,_,_,e⟩ | ⟨_,_,_,_,e⟩ | ⟨_,_,_,_,_,e⟩ | ⟨_,_,_,_,_,_,e⟩ | ⟨_,_,_,_,_,_,_,a,b,c⟩
 all_goals first | exact ⟨a,b,c⟩ | (exfalso;omega)
theorem Tryz.sizeOpt:(Tryz.prog.info? 61).map (·.size)=some 4:=by kernel_rfl
theorem Tryz.infoFp:(Tryz.prog.info? 57).map (fun i=>(i.zero,i.size,i.bytes))=some (some (.agg (fpA Mt.zAL)),22,176):=by kernel_rfl
def fpL (f:Mt.Fnd):List Value:=(fpA f).toList
theorem zRs (f:Mt.Fnd) (h:f.at'.length=20):(fpL f).length=22:=by have:=zAc f h;simpa [fpL] using this
theorem zRt (f:Mt.Fnd):∀ u∈fpL f,u.oneCell'=true:=by
 have:=zDo f
 intro u hu
 rw [Array.all_eq_true_iff_forall_mem] at this
 exact this u (by simpa [fpL] using hu)
def zCj (w:World) (base:Nat) (v:Value) (l:List Mt.Fnd):Prop:=w.ownsRow base 57 22 v l.length (l.flatMap fpL)
theorem zRu (f:Mt.Fnd) (h:f.at'.length=20):Instr.fill (fun i=>some (i*22,22)) ((Array.range (1*22)).map ((Value.agg (fpA Mt.zAL)).cells[· % (Value.agg (fpA Mt.zAL)).cells.size]!)) [(0,.agg (fpA f))]=some (fpA f):=by
 obtain ⟨a0,a1,a2,a3,a4,a5,a6,a7,a8,a9,a10,a11,a12,a13,a14,a15,a16,a17,a18,a19,e⟩:=twenty h
 obtain ⟨ok,l,st⟩:=f
 dsimp only at e
 subst e
 kernel_rfl
theorem zFZ {ops:Array Oper} {rest:List Oper} {o:Oper} {a:Act} {w:World} {Q:Exit→Act→World→Prop} (hg:o.guard=none) (x:Operand) (ho:o.op=.buildSlice 64 1 #[(0,x)]) (f:Mt.Fnd) (hf:f.at'.length=20) (hx:a.eval x=.agg (fpA f))
  (h:wpList Tryz.prog ops Q rest (a.put o.dst (.slice (some ⟨w.heap.size,0,none⟩) 1 1)) (w.alloc (.cells (fpL f).toArray 57))):wpList Tryz.prog ops Q (o::rest) a w:=by
 obtain ⟨i0,hi,hz0,hz1,hz2⟩:=info_parts Tryz.infoFp
 refine wpList_buildSlice hg 64 57 1 _ ho (fpA f) i0 _ Tryz.underlying64 hi hz0 (by rw [hz1];decide) (by rw [hz1];decide) ?_ h
 rw [hz1]
 simp only [List.map_toArray,List.map_cons,List.map_nil,hx]
 exact zRu f hf
theorem zI8 {w:World} {base:Nat} {v:Value} {l:List Mt.Fnd} {t:Mt.Fnd} (h:w.ownsRow base 57 22 v (l.length+1) (l.flatMap fpL++fpL t)):zCj w base v (l++[t]):=by
 unfold zCj
 rw [List.length_append,List.flatMap_append]
 simpa using h
theorem zHH {w:World} {base g:Nat} (h:w.heap[g]?=some (.cells #[] 57 (0,0))) (hb:base≤g):zCj w base (.slice (some ⟨g,0,none⟩) 0 0) [] :=
 ⟨rfl,.inr ⟨g,0,#[],rfl,hb,h,Nat.le_refl _,by unfold maxLen;omega,rfl,rfl⟩⟩
theorem zI9 (f:Mt.Fnd) (x y:Nat) (h:f.at'.length=20) (hx:f.at'.getD 0 0=(x:Int)) (hy:f.at'.getD 1 0=(y:Int)) (hy2:y≤1000) (w:World) :
  Calls Tryz.prog 83 #[.agg (fpA f)] w fun e w'=>e=.returned (.int .i64 (Mt.qX f:Nat))∧Below w.heap.size w w':=by
 have hN:Mt.qX f=if x=y then y+1 else y:=by
  unfold Mt.qX
  rw [hx,hy]
  by_cases e:x=y
  ·rw [if_pos (by omega),if_pos e];simp
  ·rw [if_neg (by omega),if_neg e];simp
 rw [hN]
 obtain ⟨z,hz⟩:∃ z,z=w.alloc (.cells (fpA f) 57):=⟨_,rfl⟩
 have q1:z.heap[w.heap.size]?=some (.cells (fpA f) 57 (0,0)):=by rw [hz];exact kX _ _
 have HB:Hid (Below w.heap.size w z):=by rw [hz];exact (Below.refl _ _).alloc (Nat.le_refl _) _
 have l1:w.heap.size<z.heap.size:=by rw [hz];simp
 have c1:z.cell? ⟨w.heap.size,1,none⟩=some (.int .i64 (x:Int)):=by rw [← hx];exact ((zA q1).1 _).trans (zN8 f h 0 (by omega))
 have c2:z.cell? ⟨w.heap.size,2,none⟩=some (.int .i64 (y:Int)):=by rw [← hy];exact ((zA q1).1 _).trans (zN8 f h 1 (by omega))
 clear q1 h hx hy hN
 by_cases e:x=y
 ·have m1:((x:Int)==(y:Int))=true:=by rw [e];simp
  rw [if_pos e]
  clear e
  go_enter Tryz.func83,Tryz.ntmps83
  go_upto_region 1 with fail
  show Code.wp _ _ _ _ (w.alloc (.cells (fpA f) 57))
  rw [← hz]
  clear hz
  generalize hn:w.heap.size=n at *
  go_wp2_with fail
  go_ret
  exact ⟨by go_num,by rw [hn];exact HB.out⟩
 ·have m1:((x:Int)==(y:Int))=false:=by rw [beq_eq_false_iff_ne];omega
  rw [if_neg e]
  clear e
  go_enter Tryz.func83,Tryz.ntmps83
  go_upto_region 1 with fail
  show Code.wp _ _ _ _ (w.alloc (.cells (fpA f) 57))
  rw [← hz]
  clear hz
  generalize hn:w.heap.size=n at *
  go_wp2_with fail
  go_ret
  exact ⟨rfl,by rw [hn];exact HB.out⟩
end Go.Proofs.YtebpgfodelggoabGreat
