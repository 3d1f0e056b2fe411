import Derived.Test.YtebpgfodelggoaaGreatDoorC52
import Derived.Test.YtebpgfodelggoaaGreatDoorC08
import Derived.Test.YtebpgfodelggoaaGreatDoorTie
import Derived.Test.YtebpgfodelggoaaGreatDoorCards
import Derived.LaidMore
import Derived.Stop.Joined
import Derived.SevenTiedAt
set_option linter.unusedVariables false
set_option linter.unusedSimpArgs false
set_option maxRecDepth 100000
set_option maxHeartbeats 8000000
namespace Go.Proofs.YtebpgfodelggoaaGreatDoor
open Go.RowKit
theorem blk_keep2 {z z':World} {b:Nat} {A:Array Value} {t:TypeId} (h:z.heap[b]?=some (.cells A t (0,0))) (hb:Below z.heap.size z z'):z'.heap[b]?=some (.cells A t (0,0)):=(hb.block b (Array.getElem?_eq_some_iff.1 h).1).trans h
theorem blk_lt2 {z:World} {b:Nat} {A:Array Value} {t:TypeId} (h:z.heap[b]?=some (.cells A t (0,0))):b<z.heap.size:=(Array.getElem?_eq_some_iff.1 h).1
theorem counted_any (q t:ByteArray) (n:Nat) (m how:Int) (w:World) (ht:t.size≤60) (hq:q.size≤6) (hq0:1≤q.size) (hn:n≤20) (hm:m<0∧m=-1∨(n:Int)≤m∧m≤20) (hh:how=0∨how=1∨how=2) :
  Calls Tryz.prog 6 #[.string q,.int .i64 (n:Int),.int .i64 m,.int .i64 how,.string t] w fun e w'=>∃ a b:Int,e=.returned (.tuple #[.string (Mt.bp (Mt.countL q.data.toList n m how)),.int .i64 a,.int .i64 b])∧FirstAB t (Mt.countAt t q.data.toList n m how) a b∧Below w.heap.size w w':=by
 rcases hm with ⟨_,rfl⟩ | ⟨h1,h2⟩
 ·rcases hh with rfl | rfl | rfl
  ·exact counted_o0 q t n w ht hq hq0 hn
  ·exact counted_o1 q t n w ht hq hq0 hn
  ·exact counted_o2 q t n w ht hq hq0 hn
 ·obtain ⟨M,rfl⟩:=Int.eq_ofNat_of_zero_le (show 0≤m by omega)
  rcases hh with rfl | rfl | rfl
  ·exact counted_m0 q t n M (by omega) (by omega) w ht hq hq0 hn
  ·exact counted_m1 q t n M (by omega) (by omega) w ht hq hq0 hn
  ·exact counted_m2 q t n M (by omega) (by omega) w ht hq hq0 hn
theorem Counted_from (a T:ByteArray) (n:Nat) (m how:Int) (P' M' R':Int) (hopt:Mt.Opt P' M' R' 10000) (ht:T.size≤60) (hq:a.size≤6) (hq0:1≤a.size) (hn:n≤20) (hm:m<0∧m=-1∨(n:Int)≤m∧m≤20) (hh:how=0∨how=1∨how=2) :
  ∃ (pt:ByteArray) (G:Mt.Fnd × Int),(∀ z:World,Calls Tryz.prog 6 #[.string a,.int .i64 (n:Int),.int .i64 m,.int .i64 how,.string T] z fun e w'=>∃ i j:Int,e=.returned (.tuple #[.string pt,.int .i64 i,.int .i64 j])∧(Shown G.1 i j∧Without G.1 0)∧Below z.heap.size z w')
   ∧ (∀ z:World,Calls Tryz.prog 7 #[.string pt,.string T,.int .i64 0,.agg #[.int .i64 P',.int .i64 M',.int .i64 R',.int .i64 10000]] z fun e w'=>e=.returned (.tuple #[.agg (fpA G.1),.int .i64 G.2])∧Below z.heap.size z w')
   ∧ G.2=0∧G.1.at'.length=20:=by
 have la:a.data.toList.length=a.size:=by simp
 have hne:a.data.toList≠[]:=fun e=>by rw [e] at la;simp at la;omega
 have o1:=Mt.count_first a.data.toList n m how T P' M' R' hne (by omega) hn hm hh ht hopt
 refine ⟨Mt.bp (Mt.countL a.data.toList n m how),Mt.findR (Mt.bp (Mt.countL a.data.toList n m how)) T 0 P' M' R' 10000,fun z=>?_,fun z=>?_,o1.err,o1.len⟩
 ·refine (counted_any a T n m how z ht hq hq0 hn hm hh).mono ?_
  rintro e w' ⟨i,j,rfl,hab,hb⟩
  exact ⟨i,j,rfl,first_shown o1 hab,hb⟩
 ·have qa:=Mt.quoteL_len a.data.toList
  have d1:=Mt.digL_len n
  have d2:(Mt.maxL m).length≤2:=by unfold Mt.maxL;split;simp;exact (Mt.digL_len _).2
  have d3:(Mt.moodL how).length≤1:=by unfold Mt.moodL;split;simp;split <;> simp
  exact Find_any _ T 0 P' M' R' 10000 z (by rw [Mt.bp_size,Mt.countL_len];unfold maxLen;omega) (by unfold maxLen;omega)
theorem Counted_any (q:ByteArray) (n0 m0 h0:Int) (t:ByteArray) (P M R:Int) (w:World) (hq:q.size≤maxLen) (ht:t.size≤maxLen) (hn0:I64 n0) (hm0:I64 m0) (hh0:I64 h0) (hP:I64 P) (hM:I64 M) (hR:I64 R) :
  Calls Tryz.prog 3 #[.string q,.int .i64 n0,.int .i64 m0,.int .i64 h0,.string t,.int .i64 P,.int .i64 M,.int .i64 R] w fun e w'=>e=.returned (.bool true)∧Below w.heap.size w w':=by
 have sq:=someB_size q 6
 have st:=someB_size t 60
 have K0:Hid (∀ z:World,Calls Tryz.prog 4 #[.string q,.int .i64 6] z fun e w'=>e=.returned (.string (someB q 6))∧z=w'):=fun z=>some_any q 6 z hq (by omega)
 have K1:Hid (∀ z:World,Calls Tryz.prog 4 #[.string t,.int .i64 60] z fun e w'=>e=.returned (.string (someB t 60))∧z=w'):=fun z=>some_any t 60 z ht (by omega)
 have K2:Hid (∀ z:World,Calls Tryz.prog 5 #[.int .i64 n0,.int .i64 21] z fun e w'=>e=.returned (.int .i64 (pickI n0 21))∧z=w'):=fun z=>kpick_any n0 21 z hn0 (by omega) (by omega)
 have K3:Hid (∀ z:World,Calls Tryz.prog 5 #[.int .i64 h0,.int .i64 3] z fun e w'=>e=.returned (.int .i64 (pickI h0 3))∧z=w'):=fun z=>kpick_any h0 3 z hh0 (by omega) (by omega)
 have hnn:=pickI_in n0 21 (by omega)
 have hhh:=pickI_in h0 3 (by omega)
 generalize someB q 6=a at *
 generalize someB t 60=T at *
 generalize pickI n0 21=nn at *
 generalize pickI h0 3=how at *
 obtain ⟨n,rfl⟩:=Int.eq_ofNat_of_zero_le hnn.1
 have hn20:n≤20:=by omega
 have K4:Hid (∀ z:World,Calls Tryz.prog 5 #[.int .i64 m0,.int .i64 (22-(n:Int))] z fun e w'=>e=.returned (.int .i64 (pickI m0 (22-n)))∧z=w'):=fun z=>by
  rw [show (22:Int)-(n:Int)=((22-n:Nat):Int) by omega]
  exact kpick_any m0 (22-n) z hm0 (by omega) (by omega)
 have hmm:=pickI_in m0 (22-n) (by omega)
 generalize pickI m0 (22-n)=mm at *
 have hmm2:0≤mm∧mm≤21-(n:Int):=by omega
 have K5:Hid (∀ z:World,Calls Tryz.prog 8 #[.int .i64 P,.int .i64 M,.int .i64 R] z fun e w'=>e=.returned (.agg #[.int .i64 (pickI P 5),.int .i64 (pickI M 4294967296),.int .i64 (pickI R 5001),.int .i64 10000])∧Below z.heap.size z w'):=fun z=>kset_any P M R z hP hM hR
 have hopt:=pick_opt P M R
 generalize pickI P 5=P' at *
 generalize pickI M 4294967296=M' at *
 generalize pickI R 5001=R' at *
 have hT60:=st.1
 have ha6:=sq.1
 have HFR:Hid (∀ (b:ByteArray) (m:Int),b.size≤6→1≤b.size→(m<0∧m=-1∨(n:Int)≤m∧m≤20)→∃ (pt:ByteArray) (G:Mt.Fnd × Int),(∀ z:World,Calls Tryz.prog 6 #[.string b,.int .i64 (n:Int),.int .i64 m,.int .i64 how,.string T] z fun e w'=>∃ i j:Int,e=.returned (.tuple #[.string pt,.int .i64 i,.int .i64 j])∧(Shown G.1 i j∧Without G.1 0)∧Below z.heap.size z w')
   ∧ (∀ z:World,Calls Tryz.prog 7 #[.string pt,.string T,.int .i64 0,.agg #[.int .i64 P',.int .i64 M',.int .i64 R',.int .i64 10000]] z fun e w'=>e=.returned (.tuple #[.agg (fpA G.1),.int .i64 G.2])∧Below z.heap.size z w')
   ∧ G.2=0∧G.1.at'.length=20):=fun b m hb hb0 hm=>Counted_from b T n m how P' M' R' hopt hT60 hb hb0 hn20 hm (by omega)
 clear hq ht hn0 hm0 hh0 hP hM hR sq st hopt hnn hhh hmm
 have fin:∀ (b:ByteArray) (m:Int),((a.size=0∧b=⟨#[97]⟩)∨(1≤a.size∧b=a))→((20<(n:Int)+mm∧m=-1)∨((n:Int)+mm≤20∧m=(n:Int)+mm))→Calls Tryz.prog 3 #[.string q,.int .i64 n0,.int .i64 m0,.int .i64 h0,.string t,.int .i64 P,.int .i64 M,.int .i64 R] w fun e w'=>e=.returned (.bool true)∧Below w.heap.size w w':=by
  intro b m hb hm
  obtain ⟨pt,G,KC,KF,herr,hlen⟩:=HFR.out b m (by rcases hb with ⟨_,rfl⟩ | ⟨_,rfl⟩;decide;exact ha6) (by rcases hb with ⟨_,rfl⟩ | ⟨h,rfl⟩;decide;exact h) (by omega)
  have HKC:Hid _:=KC
  have HKF:Hid _:=KF
  have z0:=fpA_size G.1 hlen
  have a0:=fpA_all G.1
  have HS:Hid (∀ (i j:Int) (z:World),Shown G.1 i j→Calls Tryz.prog 9 #[.agg (fpA G.1),.int .i64 G.2,.int .i64 i,.int .i64 j] z fun e w'=>e=.returned (.bool true)∧Below z.heap.size z w'):=fun i j z h=>by rw [herr];exact shown_true G.1 i j h z
  have HW:Hid (∀ (k:Nat) (z:World),Without G.1 k→Calls Tryz.prog 10 #[.agg (fpA G.1),.int .i64 (k:Int)] z fun e w'=>e=.returned (.bool true)∧Below z.heap.size z w'):=fun k z h=>without_true G.1 k h z
  clear KC KF HFR herr hlen
  rcases hb with ⟨h1,rfl⟩ | ⟨h1,rfl⟩
  ·obtain rfl:a=⟨#[]⟩:=ByteArray.ext (Array.eq_empty_of_size_eq_zero h1)
   rcases hm with ⟨h2,rfl⟩ | ⟨h2,rfl⟩
   ·have d2:decide ((20:Int)<(n:Int)+mm)=true:=by rw [decide_eq_true_eq];omega
    go_enter Tryz.func3,Tryz.ntmps3
    go_wp2_with fail
    refine (K0.out _).mono ?_
    rintro e w' ⟨rfl,rfl⟩
    go_wp2_with fail
    refine (K1.out _).mono ?_
    rintro e w' ⟨rfl,rfl⟩
    go_wp2_with fail
    refine (K2.out _).mono ?_
    rintro e w' ⟨rfl,rfl⟩
    go_wp2_with fail
    refine (K4.out _).mono ?_
    rintro e w' ⟨rfl,rfl⟩
    go_wp2_with fail
    refine (K3.out _).mono ?_
    rintro e w' ⟨rfl,rfl⟩
    go_wp2_with fail
    refine (HKC.out _).mono ?_
    rintro e w5 ⟨i,j,rfl,⟨g1,g2⟩,hb5⟩
    have G1:Hid (Shown G.1 i j):=g1
    have G2:Hid (Without G.1 0):=g2
    have B3:Hid (Below w.heap.size w w5):=hb5
    clear g1 g2 hb5
    go_wp2_with fail
    refine (K5.out _).mono ?_
    rintro e w6 ⟨rfl,hb6⟩
    have B4:Hid (Below w.heap.size w w6):=B3.out.trans (hb6.mono B3.out.size)
    clear hb6 B3
    go_wp2_with fail
    refine (HKF.out _).mono ?_
    rintro e w7 ⟨rfl,hb7⟩
    have B5:Hid (Below w.heap.size w w7):=B4.out.trans (hb7.mono B4.out.size)
    clear hb7 B4
    go_upto_region 11 with (refine store_blk 28 22 Tryz.sizeFd (by rfl) (.tmp 20) (.tmp 59) (by rfl) w7.heap.size (fpA G.1) (by rfl) (by rfl) (by exact heap_b1 _ _) (by rfl) z0 a0 ?_;intro w8 s1 s2 s3 s4)
    have HF6:Hid (w8.heap[w7.heap.size]?=some (.cells (fpA G.1) 28 (0,0))):=s1
    have B6:Hid (Below w.heap.size w w8):=B5.out.trans ((((Below.refl _ _).alloc (Nat.le_refl _) _).trans (s4 _ (Nat.le_refl _))).mono B5.out.size)
    have hwm:w.heap.size≤w7.heap.size:=B5.out.size
    clear s1 s2 s3 s4 B5
    generalize hm:w7.heap.size=mb at *
    clear hm
    go_wp2_with (refine load_blk 28 22 Tryz.underlying28 rfl Tryz.sizeFd (by rfl) (.tmp 20) (by rfl) mb (by rfl) HF6.out z0 ?_)
    refine (HS.out _ _ _ G1.out).mono ?_
    rintro e w9 ⟨rfl,hb9⟩
    have HF7:Hid _:=blk_keep2 HF6.out hb9
    have B7:Hid _:=B6.out.trans (hb9.mono (Nat.le_trans hwm (Nat.le_of_lt (blk_lt2 HF6.out))))
    clear hb9
    go_wp2_with (refine load_blk 28 22 Tryz.underlying28 rfl Tryz.sizeFd (by rfl) (.tmp 20) (by rfl) mb (by rfl) HF7.out z0 ?_)
    refine (HW.out 0 _ G2.out).mono ?_
    rintro e w10 ⟨rfl,hb10⟩
    have B8:Hid _:=B7.out.trans (hb10.mono (Nat.le_trans hwm (Nat.le_of_lt (blk_lt2 HF7.out))))
    clear hb10
    go_wp2_with fail
    go_ret
    exact ⟨rfl,B8.out⟩
   ·have d2:decide ((20:Int)<(n:Int)+mm)=false:=by rw [decide_eq_false_iff_not];omega
    go_enter Tryz.func3,Tryz.ntmps3
    go_wp2_with fail
    refine (K0.out _).mono ?_
    rintro e w' ⟨rfl,rfl⟩
    go_wp2_with fail
    refine (K1.out _).mono ?_
    rintro e w' ⟨rfl,rfl⟩
    go_wp2_with fail
    refine (K2.out _).mono ?_
    rintro e w' ⟨rfl,rfl⟩
    go_wp2_with fail
    refine (K4.out _).mono ?_
    rintro e w' ⟨rfl,rfl⟩
    go_wp2_with fail
    refine (K3.out _).mono ?_
    rintro e w' ⟨rfl,rfl⟩
    go_wp2_with fail
    refine (HKC.out _).mono ?_
    rintro e w5 ⟨i,j,rfl,⟨g1,g2⟩,hb5⟩
    have G1:Hid (Shown G.1 i j):=g1
    have G2:Hid (Without G.1 0):=g2
    have B3:Hid (Below w.heap.size w w5):=hb5
    clear g1 g2 hb5
    go_wp2_with fail
    refine (K5.out _).mono ?_
    rintro e w6 ⟨rfl,hb6⟩
    have B4:Hid (Below w.heap.size w w6):=B3.out.trans (hb6.mono B3.out.size)
    clear hb6 B3
    go_wp2_with fail
    refine (HKF.out _).mono ?_
    rintro e w7 ⟨rfl,hb7⟩
    have B5:Hid (Below w.heap.size w w7):=B4.out.trans (hb7.mono B4.out.size)
    clear hb7 B4
    go_upto_region 11 with (refine store_blk 28 22 Tryz.sizeFd (by rfl) (.tmp 20) (.tmp 59) (by rfl) w7.heap.size (fpA G.1) (by rfl) (by rfl) (by exact heap_b1 _ _) (by rfl) z0 a0 ?_;intro w8 s1 s2 s3 s4)
    have HF6:Hid (w8.heap[w7.heap.size]?=some (.cells (fpA G.1) 28 (0,0))):=s1
    have B6:Hid (Below w.heap.size w w8):=B5.out.trans ((((Below.refl _ _).alloc (Nat.le_refl _) _).trans (s4 _ (Nat.le_refl _))).mono B5.out.size)
    have hwm:w.heap.size≤w7.heap.size:=B5.out.size
    clear s1 s2 s3 s4 B5
    generalize hm:w7.heap.size=mb at *
    clear hm
    go_wp2_with (refine load_blk 28 22 Tryz.underlying28 rfl Tryz.sizeFd (by rfl) (.tmp 20) (by rfl) mb (by rfl) HF6.out z0 ?_)
    refine (HS.out _ _ _ G1.out).mono ?_
    rintro e w9 ⟨rfl,hb9⟩
    have HF7:Hid _:=blk_keep2 HF6.out hb9
    have B7:Hid _:=B6.out.trans (hb9.mono (Nat.le_trans hwm (Nat.le_of_lt (blk_lt2 HF6.out))))
    clear hb9
    go_wp2_with (refine load_blk 28 22 Tryz.underlying28 rfl Tryz.sizeFd (by rfl) (.tmp 20) (by rfl) mb (by rfl) HF7.out z0 ?_)
    refine (HW.out 0 _ G2.out).mono ?_
    rintro e w10 ⟨rfl,hb10⟩
    have B8:Hid _:=B7.out.trans (hb10.mono (Nat.le_trans hwm (Nat.le_of_lt (blk_lt2 HF7.out))))
    clear hb10
    go_wp2_with fail
    go_ret
    exact ⟨rfl,B8.out⟩
  ·have d1:(b.toList==[])=false:=by
    cases hl:b.toList with
    | nil =>
     rw [ba_toList] at hl
     have e:b.data.toList.length=b.size:=by simp
     rw [hl] at e
     have e2:(0:Nat)=b.size:=e
     omega
    | cons x r=>rfl
   rcases hm with ⟨h2,rfl⟩ | ⟨h2,rfl⟩
   ·have d2:decide ((20:Int)<(n:Int)+mm)=true:=by rw [decide_eq_true_eq];omega
    go_enter Tryz.func3,Tryz.ntmps3
    go_wp2_with fail
    refine (K0.out _).mono ?_
    rintro e w' ⟨rfl,rfl⟩
    go_wp2_with fail
    refine (K1.out _).mono ?_
    rintro e w' ⟨rfl,rfl⟩
    go_wp2_with fail
    refine (K2.out _).mono ?_
    rintro e w' ⟨rfl,rfl⟩
    go_wp2_with fail
    refine (K4.out _).mono ?_
    rintro e w' ⟨rfl,rfl⟩
    go_wp2_with fail
    refine (K3.out _).mono ?_
    rintro e w' ⟨rfl,rfl⟩
    go_wp2_with fail
    refine (HKC.out _).mono ?_
    rintro e w5 ⟨i,j,rfl,⟨g1,g2⟩,hb5⟩
    have G1:Hid (Shown G.1 i j):=g1
    have G2:Hid (Without G.1 0):=g2
    have B3:Hid (Below w.heap.size w w5):=hb5
    clear g1 g2 hb5
    go_wp2_with fail
    refine (K5.out _).mono ?_
    rintro e w6 ⟨rfl,hb6⟩
    have B4:Hid (Below w.heap.size w w6):=B3.out.trans (hb6.mono B3.out.size)
    clear hb6 B3
    go_wp2_with fail
    refine (HKF.out _).mono ?_
    rintro e w7 ⟨rfl,hb7⟩
    have B5:Hid (Below w.heap.size w w7):=B4.out.trans (hb7.mono B4.out.size)
    clear hb7 B4
    go_upto_region 11 with (refine store_blk 28 22 Tryz.sizeFd (by rfl) (.tmp 20) (.tmp 59) (by rfl) w7.heap.size (fpA G.1) (by rfl) (by rfl) (by exact heap_b1 _ _) (by rfl) z0 a0 ?_;intro w8 s1 s2 s3 s4)
    have HF6:Hid (w8.heap[w7.heap.size]?=some (.cells (fpA G.1) 28 (0,0))):=s1
    have B6:Hid (Below w.heap.size w w8):=B5.out.trans ((((Below.refl _ _).alloc (Nat.le_refl _) _).trans (s4 _ (Nat.le_refl _))).mono B5.out.size)
    have hwm:w.heap.size≤w7.heap.size:=B5.out.size
    clear s1 s2 s3 s4 B5
    generalize hm:w7.heap.size=mb at *
    clear hm
    go_wp2_with (refine load_blk 28 22 Tryz.underlying28 rfl Tryz.sizeFd (by rfl) (.tmp 20) (by rfl) mb (by rfl) HF6.out z0 ?_)
    refine (HS.out _ _ _ G1.out).mono ?_
    rintro e w9 ⟨rfl,hb9⟩
    have HF7:Hid _:=blk_keep2 HF6.out hb9
    have B7:Hid _:=B6.out.trans (hb9.mono (Nat.le_trans hwm (Nat.le_of_lt (blk_lt2 HF6.out))))
    clear hb9
    go_wp2_with (refine load_blk 28 22 Tryz.underlying28 rfl Tryz.sizeFd (by rfl) (.tmp 20) (by rfl) mb (by rfl) HF7.out z0 ?_)
    refine (HW.out 0 _ G2.out).mono ?_
    rintro e w10 ⟨rfl,hb10⟩
    have B8:Hid _:=B7.out.trans (hb10.mono (Nat.le_trans hwm (Nat.le_of_lt (blk_lt2 HF7.out))))
    clear hb10
    go_wp2_with fail
    go_ret
    exact ⟨rfl,B8.out⟩
   ·have d2:decide ((20:Int)<(n:Int)+mm)=false:=by rw [decide_eq_false_iff_not];omega
    go_enter Tryz.func3,Tryz.ntmps3
    go_wp2_with fail
    refine (K0.out _).mono ?_
    rintro e w' ⟨rfl,rfl⟩
    go_wp2_with fail
    refine (K1.out _).mono ?_
    rintro e w' ⟨rfl,rfl⟩
    go_wp2_with fail
    refine (K2.out _).mono ?_
    rintro e w' ⟨rfl,rfl⟩
    go_wp2_with fail
    refine (K4.out _).mono ?_
    rintro e w' ⟨rfl,rfl⟩
    go_wp2_with fail
    refine (K3.out _).mono ?_
    rintro e w' ⟨rfl,rfl⟩
    go_wp2_with fail
    refine (HKC.out _).mono ?_
    rintro e w5 ⟨i,j,rfl,⟨g1,g2⟩,hb5⟩
    have G1:Hid (Shown G.1 i j):=g1
    have G2:Hid (Without G.1 0):=g2
    have B3:Hid (Below w.heap.size w w5):=hb5
    clear g1 g2 hb5
    go_wp2_with fail
    refine (K5.out _).mono ?_
    rintro e w6 ⟨rfl,hb6⟩
    have B4:Hid (Below w.heap.size w w6):=B3.out.trans (hb6.mono B3.out.size)
    clear hb6 B3
    go_wp2_with fail
    refine (HKF.out _).mono ?_
    rintro e w7 ⟨rfl,hb7⟩
    have B5:Hid (Below w.heap.size w w7):=B4.out.trans (hb7.mono B4.out.size)
    clear hb7 B4
    go_upto_region 11 with (refine store_blk 28 22 Tryz.sizeFd (by rfl) (.tmp 20) (.tmp 59) (by rfl) w7.heap.size (fpA G.1) (by rfl) (by rfl) (by exact heap_b1 _ _) (by rfl) z0 a0 ?_;intro w8 s1 s2 s3 s4)
    have HF6:Hid (w8.heap[w7.heap.size]?=some (.cells (fpA G.1) 28 (0,0))):=s1
    have B6:Hid (Below w.heap.size w w8):=B5.out.trans ((((Below.refl _ _).alloc (Nat.le_refl _) _).trans (s4 _ (Nat.le_refl _))).mono B5.out.size)
    have hwm:w.heap.size≤w7.heap.size:=B5.out.size
    clear s1 s2 s3 s4 B5
    generalize hm:w7.heap.size=mb at *
    clear hm
    go_wp2_with (refine load_blk 28 22 Tryz.underlying28 rfl Tryz.sizeFd (by rfl) (.tmp 20) (by rfl) mb (by rfl) HF6.out z0 ?_)
    refine (HS.out _ _ _ G1.out).mono ?_
    rintro e w9 ⟨rfl,hb9⟩
    have HF7:Hid _:=blk_keep2 HF6.out hb9
    have B7:Hid _:=B6.out.trans (hb9.mono (Nat.le_trans hwm (Nat.le_of_lt (blk_lt2 HF6.out))))
    clear hb9
    go_wp2_with (refine load_blk 28 22 Tryz.underlying28 rfl Tryz.sizeFd (by rfl) (.tmp 20) (by rfl) mb (by rfl) HF7.out z0 ?_)
    refine (HW.out 0 _ G2.out).mono ?_
    rintro e w10 ⟨rfl,hb10⟩
    have B8:Hid _:=B7.out.trans (hb10.mono (Nat.le_trans hwm (Nat.le_of_lt (blk_lt2 HF7.out))))
    clear hb10
    go_wp2_with fail
    go_ret
    exact ⟨rfl,B8.out⟩
 by_cases h1:a.size=0
 ·by_cases h2:20<(n:Int)+mm
  ·exact fin ⟨#[97]⟩ (-1) (.inl ⟨h1,rfl⟩) (.inl ⟨h2,rfl⟩)
  ·exact fin ⟨#[97]⟩ _ (.inl ⟨h1,rfl⟩) (.inr ⟨by omega,rfl⟩)
 ·by_cases h2:20<(n:Int)+mm
  ·exact fin a (-1) (.inr ⟨by omega,rfl⟩) (.inl ⟨h2,rfl⟩)
  ·exact fin a _ (.inr ⟨by omega,rfl⟩) (.inr ⟨by omega,rfl⟩)
open Go.ChangeShapes Go.WideShapes Go.ChangeAt Go.WideMaps Go.WideElems Go.RowKit Go.ChangeMaps
theorem trodAll_counted {H:Type} {enc:TypeId × Value→H} {P:Program} {w:World} {base:Nat} {spare:Nat→Bool} {held:Bool} {t0 t1 t2 t3 t4 t5 t6 t7:TypeId} {args:Array Value} {ds:List (DataW H)} {ps:List MemPlace} (h:DataW.TrodAll enc P w base spare held [t0,t1,t2,t3,t4,t5,t6,t7] args.toList ds ps) :
  ∃ v0 v1 v2 v3 v4 v5 v6 v7 d0 d1 d2 d3 d4 d5 d6 d7 p0 p1 p2 p3 p4 p5 p6 p7,args=#[v0,v1,v2,v3,v4,v5,v6,v7]∧ds=[d0,d1,d2,d3,d4,d5,d6,d7]∧ps=p0++(p1++(p2++(p3++(p4++(p5++(p6++p7))))))∧DataW.Trod enc P w base spare held t0 v0 d0 p0∧DataW.Trod enc P w base spare held t1 v1 d1 p1∧DataW.Trod enc P w base spare held t2 v2 d2 p2∧DataW.Trod enc P w base spare held t3 v3 d3 p3∧DataW.Trod enc P w base spare held t4 v4 d4 p4∧DataW.Trod enc P w base spare held t5 v5 d5 p5∧DataW.Trod enc P w base spare held t6 v6 d6 p6∧DataW.Trod enc P w base spare held t7 v7 d7 p7:=by
 obtain ⟨v0,l0,d0,e0,p0,q0,ha,rfl,rfl,h0,h⟩:=trodAll_cons h
 obtain ⟨v1,l1,d1,e1,p1,q1,rfl,rfl,rfl,h1,h⟩:=trodAll_cons h
 obtain ⟨v2,l2,d2,e2,p2,q2,rfl,rfl,rfl,h2,h⟩:=trodAll_cons h
 obtain ⟨v3,l3,d3,e3,p3,q3,rfl,rfl,rfl,h3,h⟩:=trodAll_cons h
 obtain ⟨v4,l4,d4,e4,p4,q4,rfl,rfl,rfl,h4,h⟩:=trodAll_cons h
 obtain ⟨v5,l5,d5,e5,p5,q5,rfl,rfl,rfl,h5,h⟩:=trodAll_cons h
 obtain ⟨v6,l6,d6,e6,p6,q6,rfl,rfl,rfl,h6,h⟩:=trodAll_cons h
 obtain ⟨v7,l7,d7,e7,p7,q7,rfl,rfl,rfl,h7,h⟩:=trodAll_cons h
 obtain ⟨rfl,rfl,rfl⟩:=trodAll_nil h
 exact ⟨v0,v1,v2,v3,v4,v5,v6,v7,d0,d1,d2,d3,d4,d5,d6,d7,p0,p1,p2,p3,p4,p5,p6,p7,by cases args;simp_all,rfl,by simp,h0,h1,h2,h3,h4,h5,h6,h7⟩
theorem door_met (os:Os) (args:Array Value):laidMetH Tryz.prog Rows.countedRow.laid ((World.doorLaid Tryz.prog 400 os).forCall (fun _ _=>0) ⟨#[],args,[]⟩).memory :=
 laidMetH_of_parts3 (fuel:=8) (laidMet_of_run' 8 (by kernel_rfl) (by kernel_rfl)) (by kernel_rfl) (by kernel_rfl)
theorem counted_contract (H:Type) (enc:TypeId × Value→H) (W:World) (base:Nat) (args:Array Value) (ds gs:List (DataW H)) (before:List MemPlace)
  (hval:∀ (j:Nat) t v,Tryz.f3.params[j]?=some t→args[j]?=some v→Value.okWide Tryz.prog W .any base t v)
  (hW:DataW.Whole enc Tryz.prog Tryz.f3.params.toList Rows.countedSpec.vars false W args.toList ds gs before) :
  Calls Tryz.prog 3 args W fun e W'=>∃ v,e=.returned v∧Rows.countedSpec.post enc Tryz.prog Tryz.f3 false true false false W args v W':=by
 have hW':=hW
 obtain ⟨p,q,hA0,hV,rfl,hfz,hnd⟩:=hW
 have hA:DataW.TrodAll enc Tryz.prog W 0 (fun _=>true) true Tryz.f3.params.toList args.toList ds p:=hA0
 rw [Tryz.params3] at hA hval
 obtain ⟨v0,v1,v2,v3,v4,v5,v6,v7,d0,d1,d2,d3,d4,d5,d6,d7,p0,p1,p2,p3,p4,p5,p6,p7,rfl,rfl,rfl,h0,h1,h2,h3,h4,h5,h6,h7⟩:=trodAll_counted hA
 obtain ⟨rfl,rfl⟩:=trodVars_none hV
 obtain ⟨x0,rfl,rfl,rfl,hx0⟩:=open_string Tryz.underlying9 (hval 0 9 v0 rfl rfl) h0
 obtain ⟨x1,rfl,rfl,rfl,hx1⟩:=open_int Tryz.underlying3 (hval 1 3 v1 rfl rfl) h1
 obtain ⟨x2,rfl,rfl,rfl,hx2⟩:=open_int Tryz.underlying3 (hval 2 3 v2 rfl rfl) h2
 obtain ⟨x3,rfl,rfl,rfl,hx3⟩:=open_int Tryz.underlying3 (hval 3 3 v3 rfl rfl) h3
 obtain ⟨x4,rfl,rfl,rfl,hx4⟩:=open_string Tryz.underlying9 (hval 4 9 v4 rfl rfl) h4
 obtain ⟨x5,rfl,rfl,rfl,hx5⟩:=open_int Tryz.underlying3 (hval 5 3 v5 rfl rfl) h5
 obtain ⟨x6,rfl,rfl,rfl,hx6⟩:=open_int Tryz.underlying3 (hval 6 3 v6 rfl rfl) h6
 obtain ⟨x7,rfl,rfl,rfl,hx7⟩:=open_int Tryz.underlying3 (hval 7 3 v7 rfl rfl) h7
 clear hA0
 simp only [List.append_nil] at hW'
 refine (Counted_any x0 x1 x2 x3 x4 x5 x6 x7 W hx0 hx4 (wf_i64 hx1) (wf_i64 hx2) (wf_i64 hx3) (wf_i64 hx5) (wf_i64 hx6) (wf_i64 hx7)).mono fun e W' ⟨he,hb⟩=>?_
 subst he
 exact ⟨_,rfl,post_below (pa:=[]) (pv:=[]) hW' (fun _ _ _=>trodAll_cons_mk (shut_bool Tryz.underlying4 _) trodAll_mk0) (fun sp hsp=>trodAll_cons_mk (shut_string Tryz.underlying9 hx0) (trodAll_cons_mk (shut_int Tryz.underlying3 hx1) (trodAll_cons_mk (shut_int Tryz.underlying3 hx2) (trodAll_cons_mk (shut_int Tryz.underlying3 hx3) (trodAll_cons_mk (shut_string Tryz.underlying9 hx4) (trodAll_cons_mk (shut_int Tryz.underlying3 hx5) (trodAll_cons_mk (shut_int Tryz.underlying3 hx6) (trodAll_cons_mk (shut_int Tryz.underlying3 hx7) trodAll_mk0)))))))) (fun _ _=>rfl) rfl hb (ok_one (by kernel_rfl) rfl (okWide_bool_mk Tryz.underlying4 _))⟩
theorem counted_lifted (os:Os) (started:os.Started) (H:Type) (enc:TypeId × Value→H) :
  ReturnsInHanded {} Tryz.checked os 3 .any (fun w args=>(Rows.countedSpec.pre enc Tryz.prog Tryz.f3 [] false w args∧laidMetH Tryz.prog Rows.countedRow.laid w)∧sizedMet enc Tryz.prog Tryz.f3 (OpenSpec.ofChange Rows.countedSpec) false w args)
   (Rows.countedSpec.post enc Tryz.prog Tryz.f3 false true false false):=by
 refine returnsInHanded_of_change_and (C:=Tryz.checked) (X:=fun w _=>laidMetH Tryz.prog Rows.countedRow.laid w) (fun _ _ _ hh h=>h.of_heap hh) Tryz.ownK started (by kernel_rfl) Tryz.func3
  (ChangeSpec.witness_shaped (enc:=enc) (C:=Tryz.checked) (os:=os) (X:=fun w _=>laidMetH Tryz.prog Rows.countedRow.laid w) false (World.doorLaid Tryz.prog 400 os) #[.string ⟨#[]⟩,.int .i64 0,.int .i64 0,.int .i64 0,.string ⟨#[]⟩,.int .i64 0,.int .i64 0,.int .i64 0] 8 rfl (World.shaped_of_RefB (by kernel_rfl) (by kernel_rfl)) (by kernel_rfl) (by kernel_rfl) (by kernel_rfl) (door_met os _)) ?_
 intro W base args ds gs before hval hW _ _ hL _
 exact counted_contract H enc W base args ds gs before hval hW
theorem counted_holds:Rows.CountedSaid :=
 OpenClaim.holds_of_wide 3 Tryz.f3 rfl rfl rfl rfl rfl rfl rfl ⟨rfl,rfl,rfl,rfl,rfl⟩ rfl rfl rfl rfl rfl (by kernel_rfl) Tryz.func3 (by kernel_rfl)
  (of_decide_eq_true (by kernel_rfl)) (by unfold Func.isWrapper;first | (rw [if_pos (by decide +kernel)];kernel_rfl) | (rw [if_neg (by decide +kernel)];exact ⟨rfl,rfl⟩))
  (fun os started H enc _=>counted_lifted os started H enc)
theorem counted_card:Rows.CountedCardSaid :=
 Claim7.holds_tied_plain_at .later [] [.data,.data,.data] true (true,"8a2616939eb28baaaa38bfdb85576507c03afb198f3feb157424521f78f0f605") false
  counted_holds (fun _ h=>by cases h) (by kernel_rfl) (fun _ h=>by cases h) counted_row_tie rfl ⟨rfl,rfl⟩ (by kernel_rfl) rfl
  (fun f fn hf hfn=>by
   obtain rfl:f=3:=Option.some.inj ((show Tryz.prog.funcNamed "matcher/matcherkeep.Counted"=some 3 by kernel_rfl).symm.trans hf) |>.symm
   obtain rfl:fn=Tryz.f3:=(Option.some.inj (Tryz.func3.symm.trans hfn)).symm
   exact ⟨by kernel_rfl,fun j t ht=>by
    rw [Tryz.params3] at ht
    have hm:t∈[9,3,3,3,9,3,3,3]:=by simpa using Array.mem_of_getElem? ht
    have hall:([9,3,3,3,9,3,3,3].all fun u=>!Tryz.prog.wantsStandIn u)=true:=by kernel_rfl
    exact (show Tryz.prog.wantsStandIn t=false by simpa using List.all_eq_true.1 hall t hm)⟩)
  (by kernel_rfl)
end Go.Proofs.YtebpgfodelggoaaGreatDoor
