import Derived.Test.YtebpgfodelggoaaDoorC49
import Derived.Test.YtebpgfodelggoaaDoorC51
set_option linter.unusedVariables false
set_option linter.unusedSimpArgs false
set_option maxRecDepth 100000
set_option maxHeartbeats 8000000
namespace Go.Proofs.YtebpgfodelggoaaDoor
open Go.RowKit
def mayPrep (T:Nat) (policy mask room budget:Int):Int :=
 if 60<T then 1 else if Mt.maySelect policy mask=true∧0≤room∧room≤5000∧0≤budget∧budget≤10000 then 0 else 13
def tk0:Array Value:=#[.slice none 0 0,.slice none 0 0,.string ⟨#[]⟩,.int .i64 0]
theorem Tryd.sizeTk:(Tryd.prog.info? 41).map (·.size)=some 4:=by kernel_rfl
def PrepIs (p t:ByteArray) (policy mask room budget:Int) (n0:Nat) (v:Array Value) (e:Int) (w:World):Prop :=
 v.size=4∧v.all (·.oneCell')=true∧(((Mt.codeR p).2≠0∧e=(Mt.codeR p).2)∨((Mt.codeR p).2=0∧mayPrep t.size policy mask room budget≠0∧e=mayPrep t.size policy mask room budget) ∨
  ((Mt.codeR p).2=0∧mayPrep t.size policy mask room budget=0∧e=0∧∃ g cap q nq cq,v=#[.slice (some ⟨g,0,none⟩) (Mt.codeR p).1.length cap,.slice (some ⟨q,0,none⟩) nq cq,.string t,.int .i64 room]∧ownIns w n0 (.slice (some ⟨g,0,none⟩) (Mt.codeR p).1.length cap) (Mt.codeR p).1∧rInts w n0 (.slice (some ⟨q,0,none⟩) nq cq) (Mt.numsTo (Mt.chosen (Mt.codeR p).1 policy mask) (Mt.codeR p).1.length)∧nq=(Mt.numsTo (Mt.chosen (Mt.codeR p).1 policy mask) (Mt.codeR p).1.length).length))
theorem mayPrep_cases (T:Nat) (policy mask room budget:Int):(decide ((T:Int)>60)=true∧mayPrep T policy mask room budget=1)∨(decide ((T:Int)>60)=false∧Mt.maySelect policy mask=false∧mayPrep T policy mask room budget=13)∨(decide ((T:Int)>60)=false∧Mt.maySelect policy mask=true∧decide (room<0)=true∧mayPrep T policy mask room budget=13)∨(decide ((T:Int)>60)=false∧Mt.maySelect policy mask=true∧decide (room<0)=false∧decide (room>5000)=true∧mayPrep T policy mask room budget=13)∨(decide ((T:Int)>60)=false∧Mt.maySelect policy mask=true∧decide (room<0)=false∧decide (room>5000)=false∧decide (budget<0)=true∧mayPrep T policy mask room budget=13)∨(decide ((T:Int)>60)=false∧Mt.maySelect policy mask=true∧decide (room<0)=false∧decide (room>5000)=false∧decide (budget<0)=false∧decide (budget>10000)=true∧mayPrep T policy mask room budget=13)∨(decide ((T:Int)>60)=false∧Mt.maySelect policy mask=true∧decide (room<0)=false∧decide (room>5000)=false∧decide (budget<0)=false∧decide (budget>10000)=false∧mayPrep T policy mask room budget=0∧T≤60∧(0≤room∧room≤5000)∧(0≤budget∧budget≤10000)):=by
 unfold mayPrep
 simp only [decide_eq_true_eq,decide_eq_false_iff_not]
 by_cases h1:60<T
 ·rw [if_pos h1];left;exact ⟨by omega,rfl⟩
 rw [if_neg h1]
 right
 cases hs:Mt.maySelect policy mask
 ·left
  exact ⟨by omega,rfl,if_neg (fun x=>by cases x.1)⟩
 right
 by_cases h2:room<0
 ·left;exact ⟨by omega,rfl,h2,if_neg (by omega)⟩
 right
 by_cases h3:room>5000
 ·left;exact ⟨by omega,rfl,h2,h3,if_neg (by omega)⟩
 right
 by_cases h4:budget<0
 ·left;exact ⟨by omega,rfl,h2,by omega,h4,if_neg (by omega)⟩
 right
 by_cases h5:budget>10000
 ·left;exact ⟨by omega,rfl,h2,by omega,h4,h5,if_neg (by omega)⟩
 right
 exact ⟨by omega,rfl,h2,by omega,h4,by omega,if_pos ⟨rfl,by omega,by omega,by omega,by omega⟩,by omega,by omega,by omega⟩
theorem prepare_any (p t:ByteArray) (policy mask room budget:Int) (w:World) (hm:p.size≤maxLen) (hmt:t.size≤maxLen):Calls Tryd.prog 12 #[.string p,.string t,.agg #[.int .i64 policy,.int .i64 mask,.int .i64 room,.int .i64 budget]] w fun e w'=>∃ v er,e=.returned (.tuple #[.agg v,.int .i64 er])∧PrepIs p t policy mask room budget w.heap.size v er w'∧Below w.heap.size w w':=by
 obtain ⟨W1,hW1⟩:∃ W1,W1=(w.alloc (.cells #[.int .i64 policy,.int .i64 mask,.int .i64 room,.int .i64 budget] 32)).alloc (.cells tk0 41):=⟨_,rfl⟩
 have B1:Below w.heap.size w W1:=by rw [hW1];exact ((Below.refl _ _).alloc (Nat.le_refl _) _).alloc (by simp) _
 have T1:W1.heap[w.heap.size]?=some (.cells #[.int .i64 policy,.int .i64 mask,.int .i64 room,.int .i64 budget] 32 (0,0)):=by rw [hW1];exact heap_b2 _ _ _
 have U1:W1.heap[w.heap.size+1]?=some (.cells tk0 41 (0,0)):=by rw [hW1];exact heap_b3 _ _ _
 have Z1:W1.heap.size=w.heap.size+2:=by rw [hW1];simp
 have HC:Hid (Calls Tryd.prog 15 #[.string p] W1 fun e w'=>∃ v,e=.returned (.tuple #[v,.int .i64 (Mt.codeR p).2])∧ownIns w' W1.heap.size v (Mt.codeR p).1∧Below W1.heap.size W1 w'):=Code_any p W1 hm
 have HIC:Hid (∀ z:World,Calls Tryd.prog 16 #[.int .i64 policy,.int .i64 mask] z fun e w'=>e=.returned (.bool (Mt.maySelect policy mask))∧z=w'):=fun z=>isChoice_any policy mask z
 have hl:=(Mt.codeR_fit p).2
 have HKN:Hid (∀ h0:(Mt.codeR p).2=0,(∃ A,Mt.Known (Mt.codeR p).1 A)∧Mt.Nest 0 (Mt.codeR p).1):=fun h0=>⟨Mt.pattern_known p (codeR_check p h0),Mt.pattern_nest p (codeR_check p h0)⟩
 have HMS:Hid (Mt.maySelect policy mask=true→0≤policy∧policy≤4∧0≤mask∧mask≤4294967295):=fun hms=>by unfold Mt.maySelect at hms;simpa using hms
 have HB1:Hid (Below w.heap.size w W1):=B1
 have HT1:Hid (W1.heap[w.heap.size]?=some (.cells #[.int .i64 policy,.int .i64 mask,.int .i64 room,.int .i64 budget] 32 (0,0))∧W1.heap[w.heap.size+1]?=some (.cells tk0 41 (0,0))∧W1.heap.size=w.heap.size+2):=⟨T1,U1,Z1⟩
 have hmt2:(t.size:Int)≤9223372036854775807:=by unfold maxLen at hmt;omega
 clear B1 T1 U1 Z1
 go_enter Tryd.func12,Tryd.ntmps12
 go_upto_region 1 with fail
 show Code.wp _ _ _ _ ((w.alloc (.cells #[.int .i64 policy,.int .i64 mask,.int .i64 room,.int .i64 budget] 32)).alloc (.cells tk0 41))
 rw [← hW1]
 clear hW1
 generalize hnn:w.heap.size=n at *
 generalize hKK:Mt.codeR p=K at *
 go_wp2_with fail
 refine HC.out.mono ?_
 rintro e w2 ⟨v,rfl,ho,hb2⟩
 have hz:=HT1.out.2.2
 have T2:w2.heap[n]?=some (.cells #[.int .i64 policy,.int .i64 mask,.int .i64 room,.int .i64 budget] 32 (0,0)):=(hb2.block n (by omega)).trans HT1.out.1
 have U2:w2.heap[n+1]?=some (.cells tk0 41 (0,0)):=(hb2.block (n+1) (by omega)).trans HT1.out.2.1
 have HB2:Hid (Below n w w2):=HB1.out.trans (hb2.mono (by omega))
 have HO:Hid (ownIns w2 (n+2) v K.1):=ho.base (by omega)
 have o0:w2.cell? ⟨n,0,none⟩=some (.int .i64 policy):=(cell_block T2).1 0
 have o1:w2.cell? ⟨n,1,none⟩=some (.int .i64 mask):=(cell_block T2).1 1
 have o2:w2.cell? ⟨n,2,none⟩=some (.int .i64 room):=(cell_block T2).1 2
 have o3:w2.cell? ⟨n,3,none⟩=some (.int .i64 budget):=(cell_block T2).1 3
 have HT2:Hid (w2.heap[n]?=some (.cells #[.int .i64 policy,.int .i64 mask,.int .i64 room,.int .i64 budget] 32 (0,0))∧n+1<w2.heap.size):=⟨T2,(Array.getElem?_eq_some_iff.1 U2).1⟩
 clear ho hb2 HC HT1 HB1 hz T2
 cases he:(K.2 != 0)
 ·have h0:K.2=0:=by simpa using he
  rcases mayPrep_cases t.size policy mask room budget with ⟨m1,me⟩ | ⟨m1,m2,me⟩ | ⟨m1,m2,m3,me⟩ | ⟨m1,m2,m3,m4,me⟩ | ⟨m1,m2,m3,m4,m5,me⟩ | ⟨m1,m2,m3,m4,m5,m6,me⟩ | ⟨m1,m2,m3,m4,m5,m6,me,ht60,hrr,hbb⟩
  ·have m1':decide (60<t.size)=true:=by rw [decide_eq_true_eq] at m1 ⊢;omega
   have HME:Hid (mayPrep t.size policy mask room budget=1∧K.2=0):=⟨me,h0⟩
   clear me h0
   go_wp2_with (refine store_blk 41 4 Tryd.sizeTk (by rfl) (.tmp 6) (.tmp 23) (by rfl) (n+1) tk0 (by rfl) (by rfl) U2 (by rfl) (by rfl) (by simp [tk0,Value.oneCell']) ?_;intro w9 q1 q2 q3 q4)
   refine bodyPost_ret (ret_blk2 41 4 Tryd.underlying41 rfl Tryd.sizeTk rfl (by rfl) q1 (by rfl)) rfl ⟨_,_,rfl,?_,?_⟩
   ·rw [← hKK] at HME
    exact ⟨rfl,by simp [tk0,Value.oneCell'],Or.inr (Or.inl ⟨HME.out.2,by rw [HME.out.1];omega,HME.out.1.symm⟩)⟩
   ·first | exact HB2.out.trans (q4 n (by omega)) | (rw [hnn];exact HB2.out.trans (q4 n (by omega)))
  ·have m1':decide (60<t.size)=false:=by rw [decide_eq_false_iff_not] at m1 ⊢;omega
   have HME:Hid (mayPrep t.size policy mask room budget=13∧K.2=0):=⟨me,h0⟩
   rw [m2] at HIC
   clear me h0
   go_wp2_with fail
   refine (HIC.out w2).mono ?_
   rintro e w3 ⟨rfl,rfl⟩
   go_wp2_with (refine store_blk 41 4 Tryd.sizeTk (by rfl) (.tmp 6) (.tmp 50) (by rfl) (n+1) tk0 (by rfl) (by rfl) U2 (by rfl) (by rfl) (by simp [tk0,Value.oneCell']) ?_;intro w9 q1 q2 q3 q4)
   refine bodyPost_ret (ret_blk2 41 4 Tryd.underlying41 rfl Tryd.sizeTk rfl (by rfl) q1 (by rfl)) rfl ⟨_,_,rfl,?_,?_⟩
   ·rw [← hKK] at HME
    exact ⟨rfl,by simp [tk0,Value.oneCell'],Or.inr (Or.inl ⟨HME.out.2,by rw [HME.out.1];omega,HME.out.1.symm⟩)⟩
   ·first | exact HB2.out.trans (q4 n (by omega)) | (rw [hnn];exact HB2.out.trans (q4 n (by omega)))
  ·have m1':decide (60<t.size)=false:=by rw [decide_eq_false_iff_not] at m1 ⊢;omega
   have HME:Hid (mayPrep t.size policy mask room budget=13∧K.2=0):=⟨me,h0⟩
   rw [m2] at HIC
   clear me h0
   go_wp2_with fail
   refine (HIC.out w2).mono ?_
   rintro e w3 ⟨rfl,rfl⟩
   go_wp2_with (refine store_blk 41 4 Tryd.sizeTk (by rfl) (.tmp 6) (.tmp 50) (by rfl) (n+1) tk0 (by rfl) (by rfl) U2 (by rfl) (by rfl) (by simp [tk0,Value.oneCell']) ?_;intro w9 q1 q2 q3 q4)
   refine bodyPost_ret (ret_blk2 41 4 Tryd.underlying41 rfl Tryd.sizeTk rfl (by rfl) q1 (by rfl)) rfl ⟨_,_,rfl,?_,?_⟩
   ·rw [← hKK] at HME
    exact ⟨rfl,by simp [tk0,Value.oneCell'],Or.inr (Or.inl ⟨HME.out.2,by rw [HME.out.1];omega,HME.out.1.symm⟩)⟩
   ·first | exact HB2.out.trans (q4 n (by omega)) | (rw [hnn];exact HB2.out.trans (q4 n (by omega)))
  ·have m1':decide (60<t.size)=false:=by rw [decide_eq_false_iff_not] at m1 ⊢;omega
   have HME:Hid (mayPrep t.size policy mask room budget=13∧K.2=0):=⟨me,h0⟩
   rw [m2] at HIC
   clear me h0
   go_wp2_with fail
   refine (HIC.out w2).mono ?_
   rintro e w3 ⟨rfl,rfl⟩
   go_wp2_with (refine store_blk 41 4 Tryd.sizeTk (by rfl) (.tmp 6) (.tmp 50) (by rfl) (n+1) tk0 (by rfl) (by rfl) U2 (by rfl) (by rfl) (by simp [tk0,Value.oneCell']) ?_;intro w9 q1 q2 q3 q4)
   refine bodyPost_ret (ret_blk2 41 4 Tryd.underlying41 rfl Tryd.sizeTk rfl (by rfl) q1 (by rfl)) rfl ⟨_,_,rfl,?_,?_⟩
   ·rw [← hKK] at HME
    exact ⟨rfl,by simp [tk0,Value.oneCell'],Or.inr (Or.inl ⟨HME.out.2,by rw [HME.out.1];omega,HME.out.1.symm⟩)⟩
   ·first | exact HB2.out.trans (q4 n (by omega)) | (rw [hnn];exact HB2.out.trans (q4 n (by omega)))
  ·have m1':decide (60<t.size)=false:=by rw [decide_eq_false_iff_not] at m1 ⊢;omega
   have HME:Hid (mayPrep t.size policy mask room budget=13∧K.2=0):=⟨me,h0⟩
   rw [m2] at HIC
   clear me h0
   go_wp2_with fail
   refine (HIC.out w2).mono ?_
   rintro e w3 ⟨rfl,rfl⟩
   go_wp2_with (refine store_blk 41 4 Tryd.sizeTk (by rfl) (.tmp 6) (.tmp 50) (by rfl) (n+1) tk0 (by rfl) (by rfl) U2 (by rfl) (by rfl) (by simp [tk0,Value.oneCell']) ?_;intro w9 q1 q2 q3 q4)
   refine bodyPost_ret (ret_blk2 41 4 Tryd.underlying41 rfl Tryd.sizeTk rfl (by rfl) q1 (by rfl)) rfl ⟨_,_,rfl,?_,?_⟩
   ·rw [← hKK] at HME
    exact ⟨rfl,by simp [tk0,Value.oneCell'],Or.inr (Or.inl ⟨HME.out.2,by rw [HME.out.1];omega,HME.out.1.symm⟩)⟩
   ·first | exact HB2.out.trans (q4 n (by omega)) | (rw [hnn];exact HB2.out.trans (q4 n (by omega)))
  ·have m1':decide (60<t.size)=false:=by rw [decide_eq_false_iff_not] at m1 ⊢;omega
   have HME:Hid (mayPrep t.size policy mask room budget=13∧K.2=0):=⟨me,h0⟩
   rw [m2] at HIC
   clear me h0
   go_wp2_with fail
   refine (HIC.out w2).mono ?_
   rintro e w3 ⟨rfl,rfl⟩
   go_wp2_with (refine store_blk 41 4 Tryd.sizeTk (by rfl) (.tmp 6) (.tmp 50) (by rfl) (n+1) tk0 (by rfl) (by rfl) U2 (by rfl) (by rfl) (by simp [tk0,Value.oneCell']) ?_;intro w9 q1 q2 q3 q4)
   refine bodyPost_ret (ret_blk2 41 4 Tryd.underlying41 rfl Tryd.sizeTk rfl (by rfl) q1 (by rfl)) rfl ⟨_,_,rfl,?_,?_⟩
   ·rw [← hKK] at HME
    exact ⟨rfl,by simp [tk0,Value.oneCell'],Or.inr (Or.inl ⟨HME.out.2,by rw [HME.out.1];omega,HME.out.1.symm⟩)⟩
   ·first | exact HB2.out.trans (q4 n (by omega)) | (rw [hnn];exact HB2.out.trans (q4 n (by omega)))
  ·have m1':decide (60<t.size)=false:=by rw [decide_eq_false_iff_not] at m1 ⊢;omega
   have HME:Hid (mayPrep t.size policy mask room budget=0∧K.2=0):=⟨me,h0⟩
   obtain ⟨⟨A,hKn⟩,hN⟩:=HKN.out h0
   have hms':=HMS.out m2
   rw [m2] at HIC
   obtain ⟨g,cap,rfl,_,_⟩:=World.ownsRow.form HO.out hKn.pos
   have HCC:Hid (Calls Tryd.prog 17 #[.slice (some ⟨g,0,none⟩) K.1.length cap,.int .i64 policy,.int .i64 mask] w2 fun e w'=>∃ q nq cp,e=.returned (.slice (some ⟨q,0,none⟩) nq cp)∧nq=(Mt.numsTo (Mt.chosen K.1 policy mask) K.1.length).length∧rInts w' w2.heap.size (.slice (some ⟨q,0,none⟩) nq cp) (Mt.numsTo (Mt.chosen K.1 policy mask) K.1.length)∧Below w2.heap.size w2 w'):=codeChosen_any _ hKn.ok hN policy mask ⟨hms'.1,hms'.2.1⟩ hms'.2.2.1 hms'.2.2.2 hl g cap w2 (HO.out.base (Nat.zero_le _))
   have hpos:=hKn.pos
   clear me h0 hKn hN hms' HKN
   go_wp2_with fail
   refine (HIC.out w2).mono ?_
   rintro e w3 ⟨rfl,rfl⟩
   go_wp2_with fail
   refine HCC.out.mono ?_
   rintro e w4 ⟨q,nq,cq,rfl,hn,hrq,hb4⟩
   have T4:w4.heap[n]?=some (.cells #[.int .i64 policy,.int .i64 mask,.int .i64 room,.int .i64 budget] 32 (0,0)):=(hb4.block n (by have:=HT2.out.2;omega)).trans HT2.out.1
   have U4:w4.heap[n+1]?=some (.cells tk0 41 (0,0)):=(hb4.block (n+1) HT2.out.2).trans U2
   have p2:w4.cell? ⟨n,2,none⟩=some (.int .i64 room):=(cell_block T4).1 2
   have HB4:Hid (Below n w w4):=HB2.out.trans (hb4.mono (by have:=HT2.out.2;omega))
   have HR4:Hid (ownIns w4 n (.slice (some ⟨g,0,none⟩) K.1.length cap) K.1∧rInts w4 n (.slice (some ⟨q,0,none⟩) nq cq) (Mt.numsTo (Mt.chosen K.1 policy mask) K.1.length)∧nq=(Mt.numsTo (Mt.chosen K.1 policy mask) K.1.length).length∧g≠n+1∧q≠n+1):=by
    have h1:=(World.ownsRow.lt HO.out g rfl).1
    have h2:=(World.ownsRow.lt hrq q rfl).1
    have h3:=HT2.out.2
    exact ⟨(HO.out.below hb4).base (by omega),owns_base hrq (by omega),hn,by omega,by omega⟩
   clear hb4 hrq hn T4 U2 o0 o1 o2 o3 HCC HIC
   go_wp2_with (refine store_blk 41 4 Tryd.sizeTk (by rfl) (.tmp 6) (.tmp 62) (by rfl) (n+1) #[.slice (some ⟨g,0,none⟩) K.1.length cap,.slice (some ⟨q,0,none⟩) nq cq,.string t,.int .i64 room] (by rfl) (by rfl) U4 (by rfl) (by rfl) (by simp [tk0,Value.oneCell']) ?_;intro w9 q1 q2 q3 q4)
   refine bodyPost_ret (ret_blk2 41 4 Tryd.underlying41 rfl Tryd.sizeTk rfl (by rfl) q1 (by rfl)) rfl ⟨_,_,rfl,?_,?_⟩
   ·rw [← hKK] at HME HR4
    obtain ⟨h1,h2,h3,h4,h5⟩:=HR4.out
    have k1:ownIns w9 n (.slice (some ⟨g,0,none⟩) (Mt.codeR p).1.length cap) (Mt.codeR p).1:=row_keep h1 (fun i hi=>by cases hi;exact q2 g h4)
    have k2:rInts w9 n (.slice (some ⟨q,0,none⟩) nq cq) (Mt.numsTo (Mt.chosen (Mt.codeR p).1 policy mask) (Mt.codeR p).1.length):=by
     unfold rInts at h2 ⊢
     rw [← h3] at h2 ⊢
     exact row_keep h2 (fun i hi=>by cases hi;exact q2 q h5)
    refine ⟨rfl,by simp [Value.oneCell'],Or.inr (Or.inr ⟨HME.out.2,HME.out.1,rfl,g,cap,q,nq,cq,by rw [hKK],?_,?_,h3⟩)⟩
    ·first | exact k1 | (rw [hnn];exact k1)
    ·first | exact k2 | (rw [hnn];exact k2)
   ·first | exact HB4.out.trans (q4 n (by omega)) | (rw [hnn];exact HB4.out.trans (q4 n (by omega)))
 ·have HKE:Hid (K.2≠0):=by show _≠_;simpa using he
  go_wp2_with (refine store_blk 41 4 Tryd.sizeTk (by rfl) (.tmp 6) (.tmp 18) (by rfl) (n+1) tk0 (by rfl) (by rfl) U2 (by rfl) (by rfl) (by simp [tk0,Value.oneCell']) ?_;intro w9 q1 q2 q3 q4)
  refine bodyPost_ret (ret_blk2 41 4 Tryd.underlying41 rfl Tryd.sizeTk rfl (by rfl) q1 (by rfl)) rfl ⟨_,_,rfl,?_,?_⟩
  ·rw [← hKK] at HKE
   exact ⟨rfl,by simp [tk0,Value.oneCell'],Or.inl ⟨HKE.out,by rw [hKK]⟩⟩
  ·first | exact HB2.out.trans (q4 n (by omega)) | (rw [hnn];exact HB2.out.trans (q4 n (by omega)))
theorem loops_of (p:ByteArray) (h:(Mt.codeR p).2=0) (k:Nat):((Mt.codeR p).1.take k).countP Mt.isMark=((Mt.codeR p).1.take k).countP Mt.isAgain+Mt.loopsAt (Mt.codeR p).1 k:=by
 obtain ⟨f,_,_,_,_,_,hc,_⟩:=Mt.pattern_tree p (codeR_check p h)
 exact Mt.code_loops f.re _ hc k
theorem env_ar (c:List Mt.Ins) (t:ByteArray) (policy mask:Int) (p:Nat) (hp:p<c.length):(Mt.envOf c t policy mask).ar.getD p 0=Mt.loopsAt c p:=by
 unfold Mt.envOf
 dsimp only
 rw [List.getD_eq_getElem?_getD,List.getElem?_map,List.getElem?_range hp];rfl
theorem known_eleven {c:List Mt.Ins} {A:Int→Mt.Att} (hK:Mt.Known c A) (p:Nat) (hp:p<c.length):Mt.loopsAt c p≤11:=by
 have h1:=hK.loops p hp
 rcases Nat.lt_or_ge (p+1) c.length with h | h
 ·have:=(hK.rule p h).2.2.2.2.2.2.2.2.2.2.1
  omega
 ·have e:p=c.length-1:=by omega
  have st:=hK.stop
  rw [← e] at st
  rw [st] at h1
  dsimp only at h1
  omega
theorem env_tab (p t:ByteArray) (policy mask:Int) (h0:(Mt.codeR p).2=0) (A:Int→Mt.Att) (hK:Mt.Known (Mt.codeR p).1 A) (ht:t.size≤60):TabCtx (Mt.envOf (Mt.codeR p).1 t policy mask):=by
 refine ⟨loops_of p h0,hK.len,fun q hq=>?_,fun q=>?_,ht⟩
 ·unfold Mt.Env.arN
  rw [env_ar (Mt.codeR p).1 t policy mask q hq];show (Mt.loopsAt (Mt.codeR p).1 q:Int).toNat=Mt.loopsAt (Mt.codeR p).1 q;omega
 ·unfold Mt.Env.arN
  rcases Nat.lt_or_ge q (Mt.codeR p).1.length with h | h
  ·rw [env_ar _ t policy mask q h]
   have:=known_eleven hK q h
   omega
  ·have:(Mt.envOf (Mt.codeR p).1 t policy mask).ar.getD q 0=0:=by
    unfold Mt.envOf
    dsimp only
    rw [List.getD_eq_getElem?_getD,List.getElem?_eq_none (by simp;omega)];rfl
   rw [this];omega
theorem may_find (T:Nat) (frm policy mask room budget:Int):(mayPrep T policy mask room budget≠0→Mt.mayFind T frm policy mask room budget=mayPrep T policy mask room budget)∧(mayPrep T policy mask room budget=0→(0≤frm∧frm≤T→Mt.mayFind T frm policy mask room budget=0)∧(¬ (0≤frm∧frm≤T)→Mt.mayFind T frm policy mask room budget=13)):=by
 unfold mayPrep Mt.mayFind
 by_cases h1:60<T
 ·rw [if_pos h1,if_pos h1];exact ⟨fun _=>rfl,fun h=>by omega⟩
 rw [if_neg h1,if_neg h1]
 by_cases h2:Mt.maySelect policy mask=true∧0≤room∧room≤5000∧0≤budget∧budget≤10000
 ·rw [if_pos h2]
  refine ⟨fun h=>absurd rfl h,fun _=>⟨fun hf=>if_pos ⟨h2.1,hf.1,hf.2,h2.2⟩,fun hf=>if_neg (fun x=>hf ⟨x.2.1,x.2.2.1⟩)⟩⟩
 ·rw [if_neg h2]
  refine ⟨fun _=>if_neg (fun x=>h2 ⟨x.1,x.2.2.2⟩),fun h=>by omega⟩
theorem prep_in {T:Nat} {policy mask room budget:Int} (h:mayPrep T policy mask room budget=0):T≤60∧(0≤room∧room≤5000)∧(0≤budget∧budget≤10000):=by
 rcases mayPrep_cases T policy mask room budget with ⟨_,e⟩ | ⟨_,_,e⟩ | ⟨_,_,_,e⟩ | ⟨_,_,_,_,e⟩ | ⟨_,_,_,_,_,e⟩ | ⟨_,_,_,_,_,_,e⟩ | ⟨_,_,_,_,_,_,_,a,b,c⟩
 all_goals first | exact ⟨a,b,c⟩ | (exfalso;omega)
theorem Tryd.sizeOpt:(Tryd.prog.info? 32).map (·.size)=some 4:=by kernel_rfl
theorem found_len (E:Mt.Env) (budget:Int):∀ (f p n:Nat) (kn:List Bool) (room:Int) (hc:Mt.codeOk E.c) (hp0:0<E.c.length) (hr:0≤room∧room≤5000) (hpf:p+f≤E.t.size+1),(Mt.search E budget f p n kn room).1.at'.length=20
 | 0,p,n,kn,room,_,_,_,_=>by simp [Mt.search,Mt.nowhere]
 | f+1,p,n,kn,room,hc,hp0,hr,hpf=>by
  have hg:=Mt.look_good E hc n n (Mt.startSt p) kn room (Nat.le_refl _) (Mt.startSt_good _ _ p hp0 (by omega)) hr
  rw [Mt.search]
  split
  ·rfl
  split
  ·exact Mt.foundAt_len _ _ hg.2.2.2.1
  ·exact found_len E budget f (p+1) _ _ _ hc hp0 hg.2.2.1 (by omega)
theorem search_over (E:Mt.Env) (budget:Int):∀ (f p n:Nat) (kn:List Bool) (room:Int),(Mt.search E budget f p n kn room).2=true→(Mt.search E budget f p n kn room).1=Mt.fnd0
 | 0,p,n,kn,room,h=>by simp [Mt.search] at h
 | f+1,p,n,kn,room,h=>by
  rw [Mt.search] at h ⊢
  by_cases a:(Mt.look E n (Mt.startSt p) kn room).over=true
  ·rw [if_pos a]
  ·rw [if_neg a] at h ⊢
   by_cases b:(Mt.look E n (Mt.startSt p) kn room).ok=true
   ·rw [if_pos b] at h;cases h
   ·rw [if_neg b] at h ⊢
    exact search_over E budget f (p+1) _ _ _ h
theorem Find_any (p t:ByteArray) (frm policy mask room budget:Int) (w:World) (hm:p.size≤maxLen) (hmt:t.size≤maxLen):Calls Tryd.prog 6 #[.string p,.string t,.int .i64 frm,.agg #[.int .i64 policy,.int .i64 mask,.int .i64 room,.int .i64 budget]] w fun e w'=>e=.returned (.tuple #[.agg (fpA (Mt.findR p t frm policy mask room budget).1),.int .i64 (Mt.findR p t frm policy mask room budget).2])∧Below w.heap.size w w':=by
 obtain ⟨W1,hW1⟩:∃ W1,W1=(w.alloc (.cells #[.int .i64 policy,.int .i64 mask,.int .i64 room,.int .i64 budget] 32)).alloc (.cells (fpA Mt.fnd0) 26):=⟨_,rfl⟩
 have B1:Below w.heap.size w W1:=by rw [hW1];exact ((Below.refl _ _).alloc (Nat.le_refl _) _).alloc (by simp) _
 have T1:W1.heap[w.heap.size]?=some (.cells #[.int .i64 policy,.int .i64 mask,.int .i64 room,.int .i64 budget] 32 (0,0)):=by rw [hW1];exact heap_b2 _ _ _
 have U1:W1.heap[w.heap.size+1]?=some (.cells (fpA Mt.fnd0) 26 (0,0)):=by rw [hW1];exact heap_b3 _ _ _
 have Z1:W1.heap.size=w.heap.size+2:=by rw [hW1];simp
 have HC:Hid (Calls Tryd.prog 12 #[.string p,.string t,.agg #[.int .i64 policy,.int .i64 mask,.int .i64 room,.int .i64 budget]] W1 fun e w'=>∃ v er,e=.returned (.tuple #[.agg v,.int .i64 er])∧PrepIs p t policy mask room budget W1.heap.size v er w'∧Below W1.heap.size W1 w'):=prepare_any p t policy mask room budget W1 hm hmt
 have HB1:Hid (Below w.heap.size w W1):=B1
 have HT1:Hid (W1.heap[w.heap.size]?=some (.cells #[.int .i64 policy,.int .i64 mask,.int .i64 room,.int .i64 budget] 32 (0,0))∧W1.heap[w.heap.size+1]?=some (.cells (fpA Mt.fnd0) 26 (0,0))∧W1.heap.size=w.heap.size+2):=⟨T1,U1,Z1⟩
 have hmt2:(t.size:Int)≤9223372036854775807:=by unfold maxLen at hmt;omega
 have HMF:=may_find t.size frm policy mask room budget
 have HMF':Hid (_∧_):=HMF
 clear B1 U1 Z1 HMF
 obtain ⟨RR,hRR⟩:∃ RR,RR=Mt.findR p t frm policy mask room budget:=⟨_,rfl⟩
 rw [← hRR]
 have HRR:Hid (RR=Mt.findR p t frm policy mask room budget):=hRR
 clear hRR
 go_enter Tryd.func6,Tryd.ntmps6
 go_upto_region 1 with fail
 show Code.wp _ _ _ _ ((w.alloc (.cells #[.int .i64 policy,.int .i64 mask,.int .i64 room,.int .i64 budget] 32)).alloc (.cells (fpA Mt.fnd0) 26))
 rw [← hW1]
 clear hW1
 generalize hnn:w.heap.size=n at *
 go_wp2_with (refine load_blk 32 4 Tryd.underlying32 rfl Tryd.sizeOpt (by rfl) (.tmp 7) (by rfl) n (by rfl) T1 (by rfl) ?_)
 refine HC.out.mono ?_
 rintro e w3 ⟨v,er,rfl,hPr,hb3⟩
 have HPR:Hid (PrepIs p t policy mask room budget W1.heap.size v er w3):=hPr
 have hvs:v.size=4:=hPr.1
 have hva:v.all (·.oneCell')=true:=hPr.2.1
 have HB3:Hid (Below W1.heap.size W1 w3):=hb3
 clear hPr hb3 HC T1
 go_upto_region 2 with (refine store_blk 41 4 Tryd.sizeTk (by rfl) (.tmp 10) (.tmp 17) (by rfl) w3.heap.size v (by rfl) (by rfl) (by exact heap_b1 _ _) (by rfl) hvs hva ?_;intro w5 r1 r2 r3 r4)
 have B5:Below w3.heap.size w3 w5:=((Below.refl _ _).alloc (Nat.le_refl _) _).trans (r4 _ (Nat.le_refl _))
 have hz:=HT1.out.2.2
 have hs3:=HB3.out.size
 have BW:Below W1.heap.size W1 w5:=HB3.out.trans (B5.mono hs3)
 have T5:w5.heap[n]?=some (.cells #[.int .i64 policy,.int .i64 mask,.int .i64 room,.int .i64 budget] 32 (0,0)):=(BW.block n (by omega)).trans HT1.out.1
 have U5:w5.heap[n+1]?=some (.cells (fpA Mt.fnd0) 26 (0,0)):=(BW.block (n+1) (by omega)).trans HT1.out.2.1
 have HB5:Hid (Below n w w5):=HB1.out.trans (BW.mono (by omega))
 have o3:w5.cell? ⟨n,3,none⟩=some (.int .i64 budget):=(cell_block T5).1 3
 have HKEEP:Hid (Below w3.heap.size w3 w5∧n+2≤w3.heap.size∧W1.heap.size=n+2):=⟨B5,by omega,hz⟩
 have V5:w5.heap[w3.heap.size]?=some (.cells v 41 (0,0)):=r1
 clear r1 r2 r3 r4 B5 hz hs3 BW HT1 HB1 HB3 T5
 generalize hm3:w3.heap.size=m3 at *
 rcases HPR.out.2.2 with ⟨hk,rfl⟩ | ⟨hk,hmp,rfl⟩ | ⟨hk,hmp,rfl,g,cap,q,nq,cq,hv,hci,hri,hnq⟩
 ·have HE:Hid (RR=(Mt.fnd0,(Mt.codeR p).2)):=by show _=_;rw [HRR.out];unfold Mt.findR;rw [if_pos hk]
  have hne:((Mt.codeR p).2 != 0)=true:=by simpa using hk
  clear hk
  generalize (Mt.codeR p).2=er at *
  go_wp2_with (refine store_blk 26 22 Tryd.sizeFd (by rfl) (.tmp 8) (.tmp 21) (by rfl) (n+1) (fpA Mt.fnd0) (by rfl) (by rfl) U5 (by rfl) (fpA_size _ rfl) (fpA_all _) ?_;intro w9 q1 q2 q3 q4)
  refine bodyPost_ret (ret_blk2 26 22 Tryd.underlying26 rfl Tryd.sizeFd rfl (by rfl) q1 (fpA_size _ rfl)) rfl ⟨?_,?_⟩
  ·rw [HE.out];rfl
  ·first | exact HB5.out.trans (q4 n (by omega)) | (rw [hnn];exact HB5.out.trans (q4 n (by omega)))
 ·have HE:Hid (RR=(Mt.fnd0,mayPrep t.size policy mask room budget)):=by
   show _=_;rw [HRR.out];unfold Mt.findR;rw [if_neg (by omega),HMF'.out.1 hmp,if_pos hmp]
  have hne:(mayPrep t.size policy mask room budget != 0)=true:=by simpa using hmp
  clear hk hmp
  generalize mayPrep t.size policy mask room budget=er at *
  go_wp2_with (refine store_blk 26 22 Tryd.sizeFd (by rfl) (.tmp 8) (.tmp 21) (by rfl) (n+1) (fpA Mt.fnd0) (by rfl) (by rfl) U5 (by rfl) (fpA_size _ rfl) (fpA_all _) ?_;intro w9 q1 q2 q3 q4)
  refine bodyPost_ret (ret_blk2 26 22 Tryd.underlying26 rfl Tryd.sizeFd rfl (by rfl) q1 (fpA_size _ rfl)) rfl ⟨?_,?_⟩
  ·rw [HE.out];rfl
  ·first | exact HB5.out.trans (q4 n (by omega)) | (rw [hnn];exact HB5.out.trans (q4 n (by omega)))
 ·by_cases hin:0≤frm∧frm≤t.size
  ·have h0:=(HMF'.out.2 hmp).1 hin
   obtain ⟨hin1,hin2⟩:=hin
   obtain ⟨F,rfl⟩:∃ F:Nat,frm=(F:Int):=⟨frm.toNat,by omega⟩
   obtain ⟨ht60,hrm,hbd⟩:=prep_in hmp
   obtain ⟨A,hK⟩:=Mt.pattern_known p (codeR_check p hk)
   have hTC:=env_tab p t policy mask hk A hK ht60
   have hc1:decide ((F:Int)<0)=false:=by rw [decide_eq_false_iff_not];omega
   have hc2:decide ((F:Int)>(t.size:Int))=false:=by rw [decide_eq_false_iff_not];omega
   have hc3:decide (t.size<F)=false:=by rw [decide_eq_false_iff_not];omega
   obtain ⟨S,hS⟩:∃ S,S=Mt.search (Mt.envOf (Mt.codeR p).1 t policy mask) budget (t.size+1-F) F budget.toNat (List.replicate ((Mt.codeR p).1.length*(t.size+1)*12) false) room:=⟨_,rfl⟩
   have hlS:S.1.at'.length=20:=by rw [hS];exact found_len (Mt.envOf (Mt.codeR p).1 t policy mask) budget _ _ _ _ _ hK.ok hK.pos hrm (by show F+(t.size+1-F)≤t.size+1;omega)
   have HE:Hid (RR=(if S.2=true then Mt.fnd0 else S.1,errOf S.2)):=by
    show _=_
    rw [HRR.out]
    unfold Mt.findR Mt.searchAll errOf
    have e1:((F:Int)).toNat=F:=by omega
    rw [if_neg (by omega),if_neg (by omega),e1,← hS]
    split <;> rfl
   have hSo:S.2=true→S.1=Mt.fnd0:=by rw [hS];exact search_over _ _ _ _ _ _ _
   have hB35:=HKEEP.out.1
   have HSR:Hid (Calls Tryd.prog 13 #[.agg v,.int .i64 (F:Int),.int .i64 budget] w5 fun e w'=>e=.returned (.tuple #[.agg (fpA S.1),.int .i64 (errOf S.2)])∧Below w5.heap.size w5 w'):=by
    rw [hv]
    exact Search_any (Mt.envOf (Mt.codeR p).1 t policy mask) A hTC hK (fun q hq=>env_ar _ t policy mask q hq) g cap q nq cq F room budget hrm hbd (by show F≤t.size;omega) w5 ((hci.below (by rw [hm3];exact hB35)).base (Nat.zero_le _)) (owns_base (hri.below (by rw [hm3];exact hB35)) (Nat.zero_le _)) hnq S hS
   have HN1:Hid (n+1<w5.heap.size):=(Array.getElem?_eq_some_iff.1 U5).1
   have HU5:Hid (w5.heap[n+1]?=some (.cells (fpA Mt.fnd0) 26 (0,0))):=U5
   have HES:Hid (RR=(S.1,errOf S.2)):=by
    show _=_;rw [HE.out]
    cases h2:S.2
    ·rfl
    ·rw [hSo h2];rfl
   clear hv hci hri hnq hTC hK hS h0 hmp hk hB35 U5 hSo HE
   have hz0:((0:Int) != 0)=false:=rfl
   generalize S.1=S1 at *
   generalize errOf S.2=S2 at *
   go_wp2_with (refine load_blk 41 4 Tryd.underlying41 rfl Tryd.sizeTk (by rfl) (.tmp 10) (by rfl) m3 (by rfl) V5 hvs ?_)
   refine HSR.out.mono ?_
   rintro e w7 ⟨rfl,hb7⟩
   have U7:w7.heap[n+1]?=some (.cells (fpA Mt.fnd0) 26 (0,0)):=(hb7.block (n+1) HN1.out).trans HU5.out
   have HB7:Hid (Below n w w7):=HB5.out.trans (hb7.mono (by have:=HN1.out;omega))
   clear hb7 V5 o3
   go_wp2_with (refine store_blk 26 22 Tryd.sizeFd (by rfl) (.tmp 8) (.tmp 37) (by rfl) (n+1) (fpA S1) (by rfl) (by rfl) U7 (by rfl) (fpA_size _ hlS) (fpA_all _) ?_;intro w9 q1 q2 q3 q4)
   refine bodyPost_ret (ret_blk2 26 22 Tryd.underlying26 rfl Tryd.sizeFd rfl (by rfl) q1 (fpA_size _ hlS)) rfl ⟨?_,?_⟩
   ·rw [HES.out];rfl
   ·first | exact HB7.out.trans (q4 n (by omega)) | (rw [hnn];exact HB7.out.trans (q4 n (by omega)))
  ·have h13:=(HMF'.out.2 hmp).2 hin
   have HE:Hid (RR=(Mt.fnd0,13)):=by show _=_;rw [HRR.out];unfold Mt.findR;rw [if_neg (by omega),h13,if_pos (by omega)]
   clear hv hci hri hnq hk hmp h13
   by_cases hneg:frm<0
   ·have hc1:decide (frm<0)=true:=by rw [decide_eq_true_eq];exact hneg
    go_wp2_with (refine store_blk 26 22 Tryd.sizeFd (by rfl) (.tmp 8) (.tmp 31) (by rfl) (n+1) (fpA Mt.fnd0) (by rfl) (by rfl) U5 (by rfl) (fpA_size _ rfl) (fpA_all _) ?_;intro w9 q1 q2 q3 q4)
    refine bodyPost_ret (ret_blk2 26 22 Tryd.underlying26 rfl Tryd.sizeFd rfl (by rfl) q1 (fpA_size _ rfl)) rfl ⟨?_,?_⟩
    ·rw [HE.out];rfl
    ·first | exact HB5.out.trans (q4 n (by omega)) | (rw [hnn];exact HB5.out.trans (q4 n (by omega)))
   ·have hc1:decide (frm<0)=false:=by rw [decide_eq_false_iff_not];exact hneg
    have hc2:decide (frm>(t.size:Int))=true:=by rw [decide_eq_true_eq];omega
    go_wp2_with (refine store_blk 26 22 Tryd.sizeFd (by rfl) (.tmp 8) (.tmp 31) (by rfl) (n+1) (fpA Mt.fnd0) (by rfl) (by rfl) U5 (by rfl) (fpA_size _ rfl) (fpA_all _) ?_;intro w9 q1 q2 q3 q4)
    refine bodyPost_ret (ret_blk2 26 22 Tryd.underlying26 rfl Tryd.sizeFd rfl (by rfl) q1 (fpA_size _ rfl)) rfl ⟨?_,?_⟩
    ·rw [HE.out];rfl
    ·first | exact HB5.out.trans (q4 n (by omega)) | (rw [hnn];exact HB5.out.trans (q4 n (by omega)))
end Go.Proofs.YtebpgfodelggoaaDoor
