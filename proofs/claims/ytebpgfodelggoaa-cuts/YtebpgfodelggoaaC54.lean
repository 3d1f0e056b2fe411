import Derived.Test.YtebpgfodelggoaaC22
import Derived.Test.YtebpgfodelggoaaC53
import Derived.Test.YtebpgfodelggoaaC23
import Derived.Test.YtebpgfodelggoaaC38
import Derived.Test.YtebpgfodelggoaaC49
set_option linter.unusedVariables false
set_option linter.unusedSimpArgs false
set_option maxRecDepth 100000
set_option maxHeartbeats 16000000
namespace Go.Proofs.Ytebpgfodelggoaa
open Go.RowKit
theorem blk_keep {z z':World} {b:Nat} {A:Array Value} {t:TypeId} (h:z.heap[b]?=some (.cells A t (0,0))) (hb:Below z.heap.size z z'):z'.heap[b]?=some (.cells A t (0,0)):=(hb.block b (Array.getElem?_eq_some_iff.1 h).1).trans h
theorem blk_lt {z:World} {b:Nat} {A:Array Value} {t:TypeId} (h:z.heap[b]?=some (.cells A t (0,0))):b<z.heap.size:=(Array.getElem?_eq_some_iff.1 h).1
theorem cut_cat (a b c:List UInt8):(((((⟨#[40,63,62]⟩:ByteArray)++⟨(Mt.quoteL a).toArray⟩)++⟨#[124]⟩)++⟨(Mt.quoteL b).toArray⟩)++⟨#[41]⟩)++⟨(Mt.quoteL c).toArray⟩=Mt.bp (Mt.cutL a b c):=by
 apply ByteArray.ext
 simp [Mt.bp,Mt.cutL,ByteArray.data_append]
theorem see_cat (x:UInt8) (a b:List UInt8):(((⟨#[40,63,x]⟩:ByteArray)++⟨(Mt.quoteL a).toArray⟩)++⟨#[41]⟩)++⟨(Mt.quoteL b).toArray⟩=Mt.bp (Mt.seeL x a b):=by
 apply ByteArray.ext
 simp [Mt.bp,Mt.seeL,ByteArray.data_append]
def zF:Array Value:=#[.bool false,.int .i64 0,.int .i64 0,.int .i64 0,.int .i64 0,.int .i64 0,.int .i64 0,.int .i64 0,.int .i64 0,.int .i64 0,.int .i64 0,.int .i64 0,.int .i64 0,.int .i64 0,.int .i64 0,.int .i64 0,.int .i64 0,.int .i64 0,.int .i64 0,.int .i64 0,.int .i64 0,.int .i64 0]
theorem Cuts_any (u v x t:ByteArray) (P M R:Int) (w:World) (hu:u.size≤maxLen) (hv:v.size≤maxLen) (hx:x.size≤maxLen) (ht:t.size≤maxLen) (hP:I64 P) (hM:I64 M) (hR:I64 R) :
  Calls Try.prog 5 #[.string u,.string v,.string x,.string t,.int .i64 P,.int .i64 M,.int .i64 R] w fun e w'=>e=.returned (.bool true)∧Below w.heap.size w w':=by
 have su:=someB_size u 8
 have sv:=someB_size v 8
 have sx:=someB_size x 8
 have st:=someB_size t 60
 have K0:Hid (∀ z:World,Calls Try.prog 7 #[.string u,.int .i64 8] z fun e w'=>e=.returned (.string (someB u 8))∧z=w'):=fun z=>some_any u 8 z hu (by omega)
 have K1:Hid (∀ z:World,Calls Try.prog 7 #[.string v,.int .i64 8] z fun e w'=>e=.returned (.string (someB v 8))∧z=w'):=fun z=>some_any v 8 z hv (by omega)
 have K2:Hid (∀ z:World,Calls Try.prog 7 #[.string x,.int .i64 8] z fun e w'=>e=.returned (.string (someB x 8))∧z=w'):=fun z=>some_any x 8 z hx (by omega)
 have K3:Hid (∀ z:World,Calls Try.prog 7 #[.string t,.int .i64 60] z fun e w'=>e=.returned (.string (someB t 60))∧z=w'):=fun z=>some_any t 60 z ht (by omega)
 generalize someB u 8=a at *
 generalize someB v 8=b at *
 generalize someB x 8=c at *
 generalize someB t 60=T at *
 have K4:Hid (∀ z:World,Calls Try.prog 16 #[.int .i64 P,.int .i64 M,.int .i64 R] z fun e w'=>e=.returned (.agg #[.int .i64 (pickI P 5),.int .i64 (pickI M 4294967296),.int .i64 (pickI R 5001),.int .i64 10000])∧Below z.heap.size z w'):=fun z=>kset_any P M R z hP hM hR
 have hopt:=pick_opt P M R
 generalize pickI P 5=P' at *
 generalize pickI M 4294967296=M' at *
 generalize pickI R 5001=R' at *
 have la:a.data.toList.length=a.size:=by simp
 have lb:b.data.toList.length=b.size:=by simp
 have lc:c.data.toList.length=c.size:=by simp
 have ha8:=su.1
 have hb8:=sv.1
 have hc8:=sx.1
 have hT60:=st.1
 have qa:=Mt.quoteL_len a.data.toList
 have qb:=Mt.quoteL_len b.data.toList
 have qc:=Mt.quoteL_len c.data.toList
 have hTm:T.size≤maxLen:=by unfold maxLen;omega
 have o1:=Mt.cut_first a.data.toList b.data.toList c.data.toList T P' M' R' (by omega) (by omega) (by omega) st.1 hopt
 have o2:=Mt.see_first a.data.toList b.data.toList T P' M' R' 61 1 true (.inl ⟨rfl,rfl⟩) (.inl ⟨rfl,rfl⟩) (by omega) (by omega) st.1 hopt
 have o3:=Mt.see_first a.data.toList b.data.toList T P' M' R' 33 2 false (.inr ⟨rfl,rfl⟩) (.inr ⟨rfl,rfl⟩) (by omega) (by omega) st.1 hopt
 have e1:=cut_cat a.data.toList b.data.toList c.data.toList
 have e2:=see_cat 61 a.data.toList b.data.toList
 have e3:=see_cat 33 a.data.toList b.data.toList
 have m1:(Mt.bp (Mt.cutL a.data.toList b.data.toList c.data.toList)).size≤maxLen:=by rw [Mt.bp_size,Mt.cutL_len];unfold maxLen;omega
 have m2:(Mt.bp (Mt.seeL 61 a.data.toList b.data.toList)).size≤maxLen:=by rw [Mt.bp_size,Mt.seeL_len];unfold maxLen;omega
 have m3:(Mt.bp (Mt.seeL 33 a.data.toList b.data.toList)).size≤maxLen:=by rw [Mt.bp_size,Mt.seeL_len];unfold maxLen;omega
 generalize Mt.bp (Mt.cutL a.data.toList b.data.toList c.data.toList)=p1 at *
 generalize Mt.bp (Mt.seeL 61 a.data.toList b.data.toList)=p2 at *
 generalize Mt.bp (Mt.seeL 33 a.data.toList b.data.toList)=p3 at *
 have KF1:Hid (∀ z:World,Calls Try.prog 15 #[.string p1,.string T,.int .i64 0,.agg #[.int .i64 P',.int .i64 M',.int .i64 R',.int .i64 10000]] z fun e w'=>e=.returned (.tuple #[.agg (fpA (Mt.findR p1 T 0 P' M' R' 10000).1),.int .i64 (Mt.findR p1 T 0 P' M' R' 10000).2])∧Below z.heap.size z w'):=fun z=>Find_any p1 T 0 P' M' R' 10000 z m1 hTm
 have KF2:Hid (∀ z:World,Calls Try.prog 15 #[.string p2,.string T,.int .i64 0,.agg #[.int .i64 P',.int .i64 M',.int .i64 R',.int .i64 10000]] z fun e w'=>e=.returned (.tuple #[.agg (fpA (Mt.findR p2 T 0 P' M' R' 10000).1),.int .i64 (Mt.findR p2 T 0 P' M' R' 10000).2])∧Below z.heap.size z w'):=fun z=>Find_any p2 T 0 P' M' R' 10000 z m2 hTm
 have KF3:Hid (∀ z:World,Calls Try.prog 15 #[.string p3,.string T,.int .i64 0,.agg #[.int .i64 P',.int .i64 M',.int .i64 R',.int .i64 10000]] z fun e w'=>e=.returned (.tuple #[.agg (fpA (Mt.findR p3 T 0 P' M' R' 10000).1),.int .i64 (Mt.findR p3 T 0 P' M' R' 10000).2])∧Below z.heap.size z w'):=fun z=>Find_any p3 T 0 P' M' R' 10000 z m3 hTm
 generalize hG1:Mt.findR p1 T 0 P' M' R' 10000=G1 at *
 generalize hG2:Mt.findR p2 T 0 P' M' R' 10000=G2 at *
 generalize hG3:Mt.findR p3 T 0 P' M' R' 10000=G3 at *
 obtain ⟨OA,hOA0⟩:∃ OA:Array Value,OA=#[.int .i64 P',.int .i64 M',.int .i64 R',.int .i64 10000]:=⟨_,rfl⟩
 have hOA:OA.size=4:=by rw [hOA0];rfl
 have hOC:OA.all (·.oneCell')=true:=by rw [hOA0];simp [Value.oneCell']
 rw [← hOA0] at K4 KF1 KF2 KF3
 have KC1:Hid (∀ z:World,Calls Try.prog 20 #[.string T,.string a,.string b,.string c] z fun e w'=>∃ i j:Int,e=.returned (.tuple #[.int .i64 i,.int .i64 j])∧FirstAB T (Mt.cutAt T a.data.toList b.data.toList c.data.toList) i j∧Below z.heap.size z w'):=fun z=>cut_any T a b c z st.1 ha8 hb8 hc8
 have KC2:Hid (∀ z:World,Calls Try.prog 21 #[.string T,.string a,.string b,.bool true] z fun e w'=>∃ i j:Int,e=.returned (.tuple #[.int .i64 i,.int .i64 j])∧FirstAB T (Mt.seeAt T a.data.toList b.data.toList true) i j∧w'=z):=fun z=>ahead_any T a b true z st.1 ha8 hb8
 have KC3:Hid (∀ z:World,Calls Try.prog 21 #[.string T,.string a,.string b,.bool false] z fun e w'=>∃ i j:Int,e=.returned (.tuple #[.int .i64 i,.int .i64 j])∧FirstAB T (Mt.seeAt T a.data.toList b.data.toList false) i j∧w'=z):=fun z=>ahead_any T a b false z st.1 ha8 hb8
 have z1:=fpA_size G1.1 o1.len
 have a1:=fpA_all G1.1
 have z2:=fpA_size G2.1 o2.len
 have a2:=fpA_all G2.1
 have z3:=fpA_size G3.1 o3.len
 have a3:=fpA_all G3.1
 have HS1:Hid (∀ (i j:Int) (z:World),FirstAB T (Mt.cutAt T a.data.toList b.data.toList c.data.toList) i j→Calls Try.prog 18 #[.agg (fpA G1.1),.int .i64 G1.2,.int .i64 i,.int .i64 j] z fun e w'=>e=.returned (.bool true)∧Below z.heap.size z w'):=fun i j z h=>by rw [o1.err];exact shown_true G1.1 i j (first_shown o1 h).1 z
 have HS2:Hid (∀ (i j:Int) (z:World),FirstAB T (Mt.seeAt T a.data.toList b.data.toList true) i j→Calls Try.prog 18 #[.agg (fpA G2.1),.int .i64 G2.2,.int .i64 i,.int .i64 j] z fun e w'=>e=.returned (.bool true)∧Below z.heap.size z w'):=fun i j z h=>by rw [o2.err];exact shown_true G2.1 i j (first_shown o2 h).1 z
 have HS3:Hid (∀ (i j:Int) (z:World),FirstAB T (Mt.seeAt T a.data.toList b.data.toList false) i j→Calls Try.prog 18 #[.agg (fpA G3.1),.int .i64 G3.2,.int .i64 i,.int .i64 j] z fun e w'=>e=.returned (.bool true)∧Below z.heap.size z w'):=fun i j z h=>by rw [o3.err];exact shown_true G3.1 i j (first_shown o3 h).1 z
 generalize Mt.cutAt T a.data.toList b.data.toList c.data.toList=f1 at *
 generalize Mt.seeAt T a.data.toList b.data.toList true=f2 at *
 generalize Mt.seeAt T a.data.toList b.data.toList false=f3 at *
 have KA:Hid (∀ z:World,Calls Try.prog 14 #[.string a] z fun e w'=>e=.returned (.string ⟨(Mt.quoteL a.data.toList).toArray⟩)∧Below z.heap.size z w'):=fun z=>quote_any a z (by omega)
 have KB:Hid (∀ z:World,Calls Try.prog 14 #[.string b] z fun e w'=>e=.returned (.string ⟨(Mt.quoteL b.data.toList).toArray⟩)∧Below z.heap.size z w'):=fun z=>quote_any b z (by omega)
 have KC:Hid (∀ z:World,Calls Try.prog 14 #[.string c] z fun e w'=>e=.returned (.string ⟨(Mt.quoteL c.data.toList).toArray⟩)∧Below z.heap.size z w'):=fun z=>quote_any c z (by omega)
 have HP1:Hid _:=e1
 have HP2:Hid _:=e2
 have HP3:Hid _:=e3
 have sA:(⟨(Mt.quoteL a.data.toList).toArray⟩:ByteArray).size≤16:=by show (Mt.bp _).size≤_;rw [Mt.bp_size];omega
 have sB:(⟨(Mt.quoteL b.data.toList).toArray⟩:ByteArray).size≤16:=by show (Mt.bp _).size≤_;rw [Mt.bp_size];omega
 have sC:(⟨(Mt.quoteL c.data.toList).toArray⟩:ByteArray).size≤16:=by show (Mt.bp _).size≤_;rw [Mt.bp_size];omega
 generalize (⟨(Mt.quoteL a.data.toList).toArray⟩:ByteArray)=A at *
 generalize (⟨(Mt.quoteL b.data.toList).toArray⟩:ByteArray)=B at *
 generalize (⟨(Mt.quoteL c.data.toList).toArray⟩:ByteArray)=C at *
 clear hu hv hx ht hP hM hR su sv sx st hopt o1 o2 o3 e1 e2 e3 m1 m2 m3 hTm hG1 hG2 hG3 la lb lc qa qb qc hOA0
 go_enter Try.func5,Try.ntmps5
 go_wp2_with fail
 refine (K0.out _).mono ?_
 rintro e w' ⟨rfl,rfl⟩
 go_wp2_with fail
 refine (K1.out _).mono ?_
 rintro e w' ⟨rfl,rfl⟩
 go_wp2_with fail
 refine (K2.out _).mono ?_
 rintro e w' ⟨rfl,rfl⟩
 go_wp2_with fail
 refine (K3.out _).mono ?_
 rintro e w' ⟨rfl,rfl⟩
 go_wp2_with fail
 refine (K4.out _).mono ?_
 rintro e w4 ⟨rfl,hb4⟩
 go_upto_region 6 with (refine store_blk 43 4 Try.sizeOp4 (by rfl) (.tmp 15) (.tmp 32) (by rfl) w4.heap.size OA (by rfl) (by rfl) (by exact heap_b1 _ _) (by rfl) hOA hOC ?_;intro w5 s1 s2 s3 s4)
 have L1:Hid (w5.heap[w4.heap.size]?=some (.cells OA 43 (0,0))):=s1
 have B1:Hid (Below w4.heap.size w4 w5):=((Below.refl _ _).alloc (Nat.le_refl _) _).trans (s4 _ (Nat.le_refl _))
 have B0:Hid (Below w.heap.size w w4):=hb4
 clear s1 s2 s3 s4 K0 K1 K2 K3 K4 hb4
 generalize hn:w4.heap.size=n at *
 have hwn:w.heap.size≤n:=by rw [← hn];exact B0.out.size
 clear hn
 go_wp2_with fail
 refine (KC1.out _).mono ?_
 rintro e w6 ⟨i1,j1,rfl,hab1,hb6⟩
 have HAB1:Hid (FirstAB T f1 i1 j1):=hab1
 have L3:Hid _:=blk_keep L1.out hb6
 have B3:Hid (Below n w4 w6):=B1.out.trans (hb6.mono (Nat.le_of_lt (blk_lt L1.out)))
 clear hab1 hb6 L1 B1 KC1
 go_upto_region 7 with fail
 go_cut [18,19] (fun vf ve wx=>∃ m:Nat,vf=.pointer (some ⟨m,0,none⟩)∧ve=.int .i64 G1.2∧wx.heap[n]?=some (.cells OA 43 (0,0))∧wx.heap[m]?=some (.cells (fpA G1.1) 39 (0,0))∧Below n w4 wx∧n<m)
 case first =>
  have ra:∀ z:World,(z.heap[n]?=some (.cells OA 43 (0,0))∧Below n w4 z)→z.rangeAt n 0 OA.toList:=fun z hz=>rangeAt_blk hz.1
  refine wp_region_held_drew (S:=fun z:World=>z.heap[n]?=some (.cells OA 43 (0,0))∧Below n w4 z) (by kernel_rfl) ⟨L3.out,B3.out.trans (Below.refl _ _).drew⟩ (fun hH=>?_)
  generalize w6.drew=wd at hH ⊢
  refine takeAt 0 42 (.string a) rfl rfl (by kernel_rfl) (by kernel_rfl) (by kernel_rfl) (fun _ _ _ h=>h) (Or.inl ⟨by rfl,fun z hz=>by clear hz;go_simp <;> (try simp only [ByteArray.size_append]) <;> (try omega)⟩) hH ?_
  simp only [Act.put,List.setIfInBounds_toArray,List.set_cons_zero,List.set_cons_succ]
  refine takeAt 4 46 (.string b) rfl rfl (by kernel_rfl) (by kernel_rfl) (by kernel_rfl) (fun _ _ _ h=>h) (Or.inl ⟨by rfl,fun z hz=>by clear hz;go_simp <;> (try simp only [ByteArray.size_append]) <;> (try omega)⟩) hH ?_
  simp only [Act.put,List.setIfInBounds_toArray,List.set_cons_zero,List.set_cons_succ]
  refine takeAt 8 50 (.string c) rfl rfl (by kernel_rfl) (by kernel_rfl) (by kernel_rfl) (fun _ _ _ h=>h) (Or.inl ⟨by rfl,fun z hz=>by clear hz;go_simp <;> (try simp only [ByteArray.size_append]) <;> (try omega)⟩) hH ?_
  simp only [Act.put,List.setIfInBounds_toArray,List.set_cons_zero,List.set_cons_succ]
  refine takeAt 11 53 (.string T) rfl rfl (by kernel_rfl) (by kernel_rfl) (by kernel_rfl) (fun _ _ _ h=>h) (Or.inl ⟨by rfl,fun z hz=>by clear hz;go_simp <;> (try simp only [ByteArray.size_append]) <;> (try omega)⟩) hH ?_
  simp only [Act.put,List.setIfInBounds_toArray,List.set_cons_zero,List.set_cons_succ]
  refine takeAt 12 54 (.agg OA.toList.toArray) rfl rfl (by kernel_rfl) (by kernel_rfl) (by kernel_rfl) (fun _ _ _ h=>h) (yieldsIf_load_mid (by rfl) _ _ rfl _ _ rfl _ _ ra Try.underlying43 rfl (by rw [Try.sizeOp4];rw [Array.length_toList,hOA])) hH ?_
  simp only [Act.put,List.setIfInBounds_toArray,List.set_cons_zero,List.set_cons_succ]
  have eO:OA.toList.toArray=OA:=by simp
  rw [eO]
  clear eO
  clear ra
  refine wpAnyH_ready (rs:=[1,17]) (by kernel_rfl) (by simp) ?_
  refine AllReadyH.cons rfl (fun K hK=>?_) (AllReadyH.cons rfl (fun K hK=>?_) AllReadyH.nil)
  ·skip
   go_simp
   refine (KA.out _).mono ?_
   rintro e w1 ⟨rfl,hb2⟩
   go_simp
   refine hK.out _ _ ⟨blk_keep hH.1 hb2,hH.2.trans (hb2.mono (Nat.le_of_lt (blk_lt hH.1)))⟩ (fun hH3=>?_)
   clear hK K
   refine takeAt 2 44 (.string ((⟨#[40,63,62]⟩:ByteArray)++A)) rfl rfl (by kernel_rfl) (by kernel_rfl) (by kernel_rfl) (fun _ _ _ h=>h) (Or.inl ⟨by rfl,fun z hz=>by clear hz;go_simp <;> (try simp only [ByteArray.size_append]) <;> (try omega)⟩) hH3 ?_
   simp only [Act.put,List.setIfInBounds_toArray,List.set_cons_zero,List.set_cons_succ]
   refine takeAt 3 45 (.string (((⟨#[40,63,62]⟩:ByteArray)++A)++⟨#[124]⟩)) rfl rfl (by kernel_rfl) (by kernel_rfl) (by kernel_rfl) (fun _ _ _ h=>h) (Or.inl ⟨by rfl,fun z hz=>by clear hz;go_simp <;> (try simp only [ByteArray.size_append]) <;> (try omega)⟩) hH3 ?_
   simp only [Act.put,List.setIfInBounds_toArray,List.set_cons_zero,List.set_cons_succ]
   refine wpAnyH_ready (rs:=[5,17]) (by kernel_rfl) (by simp) ?_
   refine AllReadyH.cons rfl (fun K hK=>?_) (AllReadyH.cons rfl (fun K hK=>?_) AllReadyH.nil)
   ·skip
    go_simp
    refine (KB.out _).mono ?_
    rintro e w4 ⟨rfl,hb5⟩
    go_simp
    refine hK.out _ _ ⟨blk_keep hH3.1 hb5,hH3.2.trans (hb5.mono (Nat.le_of_lt (blk_lt hH3.1)))⟩ (fun hH6=>?_)
    clear hK K
    refine takeAt 6 48 (.string ((((⟨#[40,63,62]⟩:ByteArray)++A)++⟨#[124]⟩)++B)) rfl rfl (by kernel_rfl) (by kernel_rfl) (by kernel_rfl) (fun _ _ _ h=>h) (Or.inl ⟨by rfl,fun z hz=>by clear hz;go_simp <;> (try simp only [ByteArray.size_append]) <;> (try omega)⟩) hH6 ?_
    simp only [Act.put,List.setIfInBounds_toArray,List.set_cons_zero,List.set_cons_succ]
    refine takeAt 7 49 (.string (((((⟨#[40,63,62]⟩:ByteArray)++A)++⟨#[124]⟩)++B)++⟨#[41]⟩)) rfl rfl (by kernel_rfl) (by kernel_rfl) (by kernel_rfl) (fun _ _ _ h=>h) (Or.inl ⟨by rfl,fun z hz=>by clear hz;go_simp <;> (try simp only [ByteArray.size_append]) <;> (try omega)⟩) hH6 ?_
    simp only [Act.put,List.setIfInBounds_toArray,List.set_cons_zero,List.set_cons_succ]
    refine wpAnyH_ready (rs:=[9,17]) (by kernel_rfl) (by simp) ?_
    refine AllReadyH.cons rfl (fun K hK=>?_) (AllReadyH.cons rfl (fun K hK=>?_) AllReadyH.nil)
    ·skip
     go_simp
     refine (KC.out _).mono ?_
     rintro e w7 ⟨rfl,hb8⟩
     go_simp
     refine hK.out _ _ ⟨blk_keep hH6.1 hb8,hH6.2.trans (hb8.mono (Nat.le_of_lt (blk_lt hH6.1)))⟩ (fun hH9=>?_)
     clear hK K
     refine takeAt 10 52 (.string p1) rfl rfl (by kernel_rfl) (by kernel_rfl) (by kernel_rfl) (fun _ _ _ h=>h) (Or.inl ⟨by rfl,fun z hz=>by clear hz;rw [← HP1.out];go_simp <;> (try simp only [ByteArray.size_append]) <;> (try omega)⟩) hH9 ?_
     simp only [Act.put,List.setIfInBounds_toArray,List.set_cons_zero,List.set_cons_succ]
     refine wpAnyH_ready (rs:=[13,17]) (by kernel_rfl) (by simp) ?_
     refine AllReadyH.cons rfl (fun K hK=>?_) (AllReadyH.cons rfl (fun K hK=>?_) AllReadyH.nil)
     ·skip
      go_simp
      refine (KF1.out _).mono ?_
      rintro e w10 ⟨rfl,hb11⟩
      go_simp
      refine hK.out _ _ ⟨blk_keep hH9.1 hb11,hH9.2.trans (hb11.mono (Nat.le_of_lt (blk_lt hH9.1)))⟩ (fun hH12=>?_)
      clear hK K
      refine takeAt 14 41 (.tuple #[.agg (fpA G1.1),.int .i64 G1.2]) rfl rfl (by kernel_rfl) (by kernel_rfl) (by kernel_rfl) (fun _ _ _ h=>h) (Or.inl ⟨by rfl,fun z hz=>by clear hz;go_simp <;> (try simp only [ByteArray.size_append]) <;> (try omega)⟩) hH12 ?_
      simp only [Act.put,List.setIfInBounds_toArray,List.set_cons_zero,List.set_cons_succ]
      refine takeAt 15 56 (.agg (fpA G1.1)) rfl rfl (by kernel_rfl) (by kernel_rfl) (by kernel_rfl) (fun _ _ _ h=>h) (Or.inl ⟨by rfl,fun z hz=>by clear hz;go_simp <;> (try simp only [ByteArray.size_append]) <;> (try omega)⟩) hH12 ?_
      simp only [Act.put,List.setIfInBounds_toArray,List.set_cons_zero,List.set_cons_succ]
      refine takeAt 16 57 (.int .i64 G1.2) rfl rfl (by kernel_rfl) (by kernel_rfl) (by kernel_rfl) (fun _ _ _ h=>h) (Or.inl ⟨by rfl,fun z hz=>by clear hz;go_simp <;> (try simp only [ByteArray.size_append]) <;> (try omega)⟩) hH12 ?_
      simp only [Act.put,List.setIfInBounds_toArray,List.set_cons_zero,List.set_cons_succ]
      refine wpAnyH_ready (rs:=[17]) (by kernel_rfl) (by simp) ?_
      refine AllReadyH.cons rfl (fun K hK=>?_) AllReadyH.nil
      go_simp
      have hlt16:=blk_lt hH12.1
      refine hK.out _ _ ⟨blk_keep hH12.1 ((Below.refl _ _).alloc (Nat.le_refl _) _),hH12.2.trans ((Below.refl _ _).alloc (Nat.le_of_lt hlt16) _)⟩ (fun hH13=>?_)
      clear hK K
      have HM14:=heap_b1 w10 (.cells zF 39)
      have hBs15:zF.size=22:=rfl
      refine wpAnyH_ready (rs:=[18]) (by kernel_rfl) (by simp) ?_
      refine AllReadyH.cons rfl (fun K hK=>?_) AllReadyH.nil
      refine wp_store_mid 39 (.tmp 18) (.tmp 56) rfl w10.heap.size 0 (fpA G1.1) (by rfl) (by rfl) (there_block (cell_block HM14).1 (cell_block HM14).2 _ (by rw [z1];exact Nat.le_of_eq hBs15.symm)) (by rw [Try.sizeFd,z1]) a1 ?_
      refine hK.out _ _ ⟨(setCells_oth w10.heap.size _ 0 _ n (Nat.ne_of_lt hlt16)).trans hH13.1,hH13.2.trans (below_setCells w10.heap.size _ 0 _ n (Nat.le_of_lt hlt16)).1⟩ (fun hH22=>?_)
      clear hK K
      have HS:=stored_blk HM14 (fpA G1.1) (by rw [z1];exact hBs15.symm)
      refine takeAt 19 19 (.int .i64 G1.2) rfl rfl (by kernel_rfl) (by kernel_rfl) (by kernel_rfl) (fun _ _ _ h=>h) (Or.inl ⟨by rfl,fun z hz=>by clear hz;go_simp <;> (try simp only [ByteArray.size_append]) <;> (try omega)⟩) hH22 ?_
      simp only [Act.put,List.setIfInBounds_toArray,List.set_cons_zero,List.set_cons_succ]
      refine wpAnyH_done (by kernel_rfl) ?_ _
      go_wp2_with fail
      go_meet
      case rel=>exact ⟨w10.heap.size,rfl,rfl,hH22.1,HS,hH22.2,hlt16⟩
     ·skip
      go_simp
      have hlt26:=blk_lt hH9.1
      refine hK.out _ _ ⟨blk_keep hH9.1 ((Below.refl _ _).alloc (Nat.le_refl _) _),hH9.2.trans ((Below.refl _ _).alloc (Nat.le_of_lt hlt26) _)⟩ (fun hH23=>?_)
      clear hK K
      have HM24:=heap_b1 w7 (.cells zF 39)
      have hBs25:zF.size=22:=rfl
      refine wpAnyH_ready (rs:=[13]) (by kernel_rfl) (by simp) ?_
      refine AllReadyH.cons rfl (fun K hK=>?_) AllReadyH.nil
      go_simp
      refine (KF1.out _).mono ?_
      rintro e w32 ⟨rfl,hb33⟩
      go_simp
      refine hK.out _ _ ⟨blk_keep hH23.1 hb33,hH23.2.trans (hb33.mono (Nat.le_of_lt (blk_lt hH23.1)))⟩ (fun hH34=>?_)
      clear hK K
      have HM35:=blk_keep HM24 hb33
      refine takeAt 14 41 (.tuple #[.agg (fpA G1.1),.int .i64 G1.2]) rfl rfl (by kernel_rfl) (by kernel_rfl) (by kernel_rfl) (fun _ _ _ h=>h) (Or.inl ⟨by rfl,fun z hz=>by clear hz;go_simp <;> (try simp only [ByteArray.size_append]) <;> (try omega)⟩) hH34 ?_
      simp only [Act.put,List.setIfInBounds_toArray,List.set_cons_zero,List.set_cons_succ]
      refine takeAt 15 56 (.agg (fpA G1.1)) rfl rfl (by kernel_rfl) (by kernel_rfl) (by kernel_rfl) (fun _ _ _ h=>h) (Or.inl ⟨by rfl,fun z hz=>by clear hz;go_simp <;> (try simp only [ByteArray.size_append]) <;> (try omega)⟩) hH34 ?_
      simp only [Act.put,List.setIfInBounds_toArray,List.set_cons_zero,List.set_cons_succ]
      refine takeAt 16 57 (.int .i64 G1.2) rfl rfl (by kernel_rfl) (by kernel_rfl) (by kernel_rfl) (fun _ _ _ h=>h) (Or.inl ⟨by rfl,fun z hz=>by clear hz;go_simp <;> (try simp only [ByteArray.size_append]) <;> (try omega)⟩) hH34 ?_
      simp only [Act.put,List.setIfInBounds_toArray,List.set_cons_zero,List.set_cons_succ]
      refine wpAnyH_ready (rs:=[18]) (by kernel_rfl) (by simp) ?_
      refine AllReadyH.cons rfl (fun K hK=>?_) AllReadyH.nil
      refine wp_store_mid 39 (.tmp 18) (.tmp 56) rfl w7.heap.size 0 (fpA G1.1) (by rfl) (by rfl) (there_block (cell_block HM35).1 (cell_block HM35).2 _ (by rw [z1];exact Nat.le_of_eq hBs25.symm)) (by rw [Try.sizeFd,z1]) a1 ?_
      refine hK.out _ _ ⟨(setCells_oth w7.heap.size _ 0 _ n (Nat.ne_of_lt hlt26)).trans hH34.1,hH34.2.trans (below_setCells w7.heap.size _ 0 _ n (Nat.le_of_lt hlt26)).1⟩ (fun hH36=>?_)
      clear hK K
      have HS:=stored_blk HM35 (fpA G1.1) (by rw [z1];exact hBs25.symm)
      refine takeAt 19 19 (.int .i64 G1.2) rfl rfl (by kernel_rfl) (by kernel_rfl) (by kernel_rfl) (fun _ _ _ h=>h) (Or.inl ⟨by rfl,fun z hz=>by clear hz;go_simp <;> (try simp only [ByteArray.size_append]) <;> (try omega)⟩) hH36 ?_
      simp only [Act.put,List.setIfInBounds_toArray,List.set_cons_zero,List.set_cons_succ]
      refine wpAnyH_done (by kernel_rfl) ?_ _
      go_wp2_with fail
      go_meet
      case rel=>exact ⟨w7.heap.size,rfl,rfl,hH36.1,HS,hH36.2,hlt26⟩
    ·skip
     go_simp
     have hlt40:=blk_lt hH6.1
     refine hK.out _ _ ⟨blk_keep hH6.1 ((Below.refl _ _).alloc (Nat.le_refl _) _),hH6.2.trans ((Below.refl _ _).alloc (Nat.le_of_lt hlt40) _)⟩ (fun hH37=>?_)
     clear hK K
     have HM38:=heap_b1 w4 (.cells zF 39)
     have hBs39:zF.size=22:=rfl
     refine wpAnyH_ready (rs:=[9]) (by kernel_rfl) (by simp) ?_
     refine AllReadyH.cons rfl (fun K hK=>?_) AllReadyH.nil
     go_simp
     refine (KC.out _).mono ?_
     rintro e w46 ⟨rfl,hb47⟩
     go_simp
     refine hK.out _ _ ⟨blk_keep hH37.1 hb47,hH37.2.trans (hb47.mono (Nat.le_of_lt (blk_lt hH37.1)))⟩ (fun hH48=>?_)
     clear hK K
     have HM49:=blk_keep HM38 hb47
     refine takeAt 10 52 (.string p1) rfl rfl (by kernel_rfl) (by kernel_rfl) (by kernel_rfl) (fun _ _ _ h=>h) (Or.inl ⟨by rfl,fun z hz=>by clear hz;rw [← HP1.out];go_simp <;> (try simp only [ByteArray.size_append]) <;> (try omega)⟩) hH48 ?_
     simp only [Act.put,List.setIfInBounds_toArray,List.set_cons_zero,List.set_cons_succ]
     refine wpAnyH_ready (rs:=[13]) (by kernel_rfl) (by simp) ?_
     refine AllReadyH.cons rfl (fun K hK=>?_) AllReadyH.nil
     go_simp
     refine (KF1.out _).mono ?_
     rintro e w50 ⟨rfl,hb51⟩
     go_simp
     refine hK.out _ _ ⟨blk_keep hH48.1 hb51,hH48.2.trans (hb51.mono (Nat.le_of_lt (blk_lt hH48.1)))⟩ (fun hH52=>?_)
     clear hK K
     have HM53:=blk_keep HM49 hb51
     refine takeAt 14 41 (.tuple #[.agg (fpA G1.1),.int .i64 G1.2]) rfl rfl (by kernel_rfl) (by kernel_rfl) (by kernel_rfl) (fun _ _ _ h=>h) (Or.inl ⟨by rfl,fun z hz=>by clear hz;go_simp <;> (try simp only [ByteArray.size_append]) <;> (try omega)⟩) hH52 ?_
     simp only [Act.put,List.setIfInBounds_toArray,List.set_cons_zero,List.set_cons_succ]
     refine takeAt 15 56 (.agg (fpA G1.1)) rfl rfl (by kernel_rfl) (by kernel_rfl) (by kernel_rfl) (fun _ _ _ h=>h) (Or.inl ⟨by rfl,fun z hz=>by clear hz;go_simp <;> (try simp only [ByteArray.size_append]) <;> (try omega)⟩) hH52 ?_
     simp only [Act.put,List.setIfInBounds_toArray,List.set_cons_zero,List.set_cons_succ]
     refine takeAt 16 57 (.int .i64 G1.2) rfl rfl (by kernel_rfl) (by kernel_rfl) (by kernel_rfl) (fun _ _ _ h=>h) (Or.inl ⟨by rfl,fun z hz=>by clear hz;go_simp <;> (try simp only [ByteArray.size_append]) <;> (try omega)⟩) hH52 ?_
     simp only [Act.put,List.setIfInBounds_toArray,List.set_cons_zero,List.set_cons_succ]
     refine wpAnyH_ready (rs:=[18]) (by kernel_rfl) (by simp) ?_
     refine AllReadyH.cons rfl (fun K hK=>?_) AllReadyH.nil
     refine wp_store_mid 39 (.tmp 18) (.tmp 56) rfl w4.heap.size 0 (fpA G1.1) (by rfl) (by rfl) (there_block (cell_block HM53).1 (cell_block HM53).2 _ (by rw [z1];exact Nat.le_of_eq hBs39.symm)) (by rw [Try.sizeFd,z1]) a1 ?_
     refine hK.out _ _ ⟨(setCells_oth w4.heap.size _ 0 _ n (Nat.ne_of_lt hlt40)).trans hH52.1,hH52.2.trans (below_setCells w4.heap.size _ 0 _ n (Nat.le_of_lt hlt40)).1⟩ (fun hH54=>?_)
     clear hK K
     have HS:=stored_blk HM53 (fpA G1.1) (by rw [z1];exact hBs39.symm)
     refine takeAt 19 19 (.int .i64 G1.2) rfl rfl (by kernel_rfl) (by kernel_rfl) (by kernel_rfl) (fun _ _ _ h=>h) (Or.inl ⟨by rfl,fun z hz=>by clear hz;go_simp <;> (try simp only [ByteArray.size_append]) <;> (try omega)⟩) hH54 ?_
     simp only [Act.put,List.setIfInBounds_toArray,List.set_cons_zero,List.set_cons_succ]
     refine wpAnyH_done (by kernel_rfl) ?_ _
     go_wp2_with fail
     go_meet
     case rel=>exact ⟨w4.heap.size,rfl,rfl,hH54.1,HS,hH54.2,hlt40⟩
   ·skip
    go_simp
    have hlt58:=blk_lt hH3.1
    refine hK.out _ _ ⟨blk_keep hH3.1 ((Below.refl _ _).alloc (Nat.le_refl _) _),hH3.2.trans ((Below.refl _ _).alloc (Nat.le_of_lt hlt58) _)⟩ (fun hH55=>?_)
    clear hK K
    have HM56:=heap_b1 w1 (.cells zF 39)
    have hBs57:zF.size=22:=rfl
    refine wpAnyH_ready (rs:=[5]) (by kernel_rfl) (by simp) ?_
    refine AllReadyH.cons rfl (fun K hK=>?_) AllReadyH.nil
    go_simp
    refine (KB.out _).mono ?_
    rintro e w64 ⟨rfl,hb65⟩
    go_simp
    refine hK.out _ _ ⟨blk_keep hH55.1 hb65,hH55.2.trans (hb65.mono (Nat.le_of_lt (blk_lt hH55.1)))⟩ (fun hH66=>?_)
    clear hK K
    have HM67:=blk_keep HM56 hb65
    refine takeAt 6 48 (.string ((((⟨#[40,63,62]⟩:ByteArray)++A)++⟨#[124]⟩)++B)) rfl rfl (by kernel_rfl) (by kernel_rfl) (by kernel_rfl) (fun _ _ _ h=>h) (Or.inl ⟨by rfl,fun z hz=>by clear hz;go_simp <;> (try simp only [ByteArray.size_append]) <;> (try omega)⟩) hH66 ?_
    simp only [Act.put,List.setIfInBounds_toArray,List.set_cons_zero,List.set_cons_succ]
    refine takeAt 7 49 (.string (((((⟨#[40,63,62]⟩:ByteArray)++A)++⟨#[124]⟩)++B)++⟨#[41]⟩)) rfl rfl (by kernel_rfl) (by kernel_rfl) (by kernel_rfl) (fun _ _ _ h=>h) (Or.inl ⟨by rfl,fun z hz=>by clear hz;go_simp <;> (try simp only [ByteArray.size_append]) <;> (try omega)⟩) hH66 ?_
    simp only [Act.put,List.setIfInBounds_toArray,List.set_cons_zero,List.set_cons_succ]
    refine wpAnyH_ready (rs:=[9]) (by kernel_rfl) (by simp) ?_
    refine AllReadyH.cons rfl (fun K hK=>?_) AllReadyH.nil
    go_simp
    refine (KC.out _).mono ?_
    rintro e w68 ⟨rfl,hb69⟩
    go_simp
    refine hK.out _ _ ⟨blk_keep hH66.1 hb69,hH66.2.trans (hb69.mono (Nat.le_of_lt (blk_lt hH66.1)))⟩ (fun hH70=>?_)
    clear hK K
    have HM71:=blk_keep HM67 hb69
    refine takeAt 10 52 (.string p1) rfl rfl (by kernel_rfl) (by kernel_rfl) (by kernel_rfl) (fun _ _ _ h=>h) (Or.inl ⟨by rfl,fun z hz=>by clear hz;rw [← HP1.out];go_simp <;> (try simp only [ByteArray.size_append]) <;> (try omega)⟩) hH70 ?_
    simp only [Act.put,List.setIfInBounds_toArray,List.set_cons_zero,List.set_cons_succ]
    refine wpAnyH_ready (rs:=[13]) (by kernel_rfl) (by simp) ?_
    refine AllReadyH.cons rfl (fun K hK=>?_) AllReadyH.nil
    go_simp
    refine (KF1.out _).mono ?_
    rintro e w72 ⟨rfl,hb73⟩
    go_simp
    refine hK.out _ _ ⟨blk_keep hH70.1 hb73,hH70.2.trans (hb73.mono (Nat.le_of_lt (blk_lt hH70.1)))⟩ (fun hH74=>?_)
    clear hK K
    have HM75:=blk_keep HM71 hb73
    refine takeAt 14 41 (.tuple #[.agg (fpA G1.1),.int .i64 G1.2]) rfl rfl (by kernel_rfl) (by kernel_rfl) (by kernel_rfl) (fun _ _ _ h=>h) (Or.inl ⟨by rfl,fun z hz=>by clear hz;go_simp <;> (try simp only [ByteArray.size_append]) <;> (try omega)⟩) hH74 ?_
    simp only [Act.put,List.setIfInBounds_toArray,List.set_cons_zero,List.set_cons_succ]
    refine takeAt 15 56 (.agg (fpA G1.1)) rfl rfl (by kernel_rfl) (by kernel_rfl) (by kernel_rfl) (fun _ _ _ h=>h) (Or.inl ⟨by rfl,fun z hz=>by clear hz;go_simp <;> (try simp only [ByteArray.size_append]) <;> (try omega)⟩) hH74 ?_
    simp only [Act.put,List.setIfInBounds_toArray,List.set_cons_zero,List.set_cons_succ]
    refine takeAt 16 57 (.int .i64 G1.2) rfl rfl (by kernel_rfl) (by kernel_rfl) (by kernel_rfl) (fun _ _ _ h=>h) (Or.inl ⟨by rfl,fun z hz=>by clear hz;go_simp <;> (try simp only [ByteArray.size_append]) <;> (try omega)⟩) hH74 ?_
    simp only [Act.put,List.setIfInBounds_toArray,List.set_cons_zero,List.set_cons_succ]
    refine wpAnyH_ready (rs:=[18]) (by kernel_rfl) (by simp) ?_
    refine AllReadyH.cons rfl (fun K hK=>?_) AllReadyH.nil
    refine wp_store_mid 39 (.tmp 18) (.tmp 56) rfl w1.heap.size 0 (fpA G1.1) (by rfl) (by rfl) (there_block (cell_block HM75).1 (cell_block HM75).2 _ (by rw [z1];exact Nat.le_of_eq hBs57.symm)) (by rw [Try.sizeFd,z1]) a1 ?_
    refine hK.out _ _ ⟨(setCells_oth w1.heap.size _ 0 _ n (Nat.ne_of_lt hlt58)).trans hH74.1,hH74.2.trans (below_setCells w1.heap.size _ 0 _ n (Nat.le_of_lt hlt58)).1⟩ (fun hH76=>?_)
    clear hK K
    have HS:=stored_blk HM75 (fpA G1.1) (by rw [z1];exact hBs57.symm)
    refine takeAt 19 19 (.int .i64 G1.2) rfl rfl (by kernel_rfl) (by kernel_rfl) (by kernel_rfl) (fun _ _ _ h=>h) (Or.inl ⟨by rfl,fun z hz=>by clear hz;go_simp <;> (try simp only [ByteArray.size_append]) <;> (try omega)⟩) hH76 ?_
    simp only [Act.put,List.setIfInBounds_toArray,List.set_cons_zero,List.set_cons_succ]
    refine wpAnyH_done (by kernel_rfl) ?_ _
    go_wp2_with fail
    go_meet
    case rel=>exact ⟨w1.heap.size,rfl,rfl,hH76.1,HS,hH76.2,hlt58⟩
  ·skip
   go_simp
   have hlt80:=blk_lt hH.1
   refine hK.out _ _ ⟨blk_keep hH.1 ((Below.refl _ _).alloc (Nat.le_refl _) _),hH.2.trans ((Below.refl _ _).alloc (Nat.le_of_lt hlt80) _)⟩ (fun hH77=>?_)
   clear hK K
   have HM78:=heap_b1 wd (.cells zF 39)
   have hBs79:zF.size=22:=rfl
   refine wpAnyH_ready (rs:=[1]) (by kernel_rfl) (by simp) ?_
   refine AllReadyH.cons rfl (fun K hK=>?_) AllReadyH.nil
   go_simp
   refine (KA.out _).mono ?_
   rintro e w86 ⟨rfl,hb87⟩
   go_simp
   refine hK.out _ _ ⟨blk_keep hH77.1 hb87,hH77.2.trans (hb87.mono (Nat.le_of_lt (blk_lt hH77.1)))⟩ (fun hH88=>?_)
   clear hK K
   have HM89:=blk_keep HM78 hb87
   refine takeAt 2 44 (.string ((⟨#[40,63,62]⟩:ByteArray)++A)) rfl rfl (by kernel_rfl) (by kernel_rfl) (by kernel_rfl) (fun _ _ _ h=>h) (Or.inl ⟨by rfl,fun z hz=>by clear hz;go_simp <;> (try simp only [ByteArray.size_append]) <;> (try omega)⟩) hH88 ?_
   simp only [Act.put,List.setIfInBounds_toArray,List.set_cons_zero,List.set_cons_succ]
   refine takeAt 3 45 (.string (((⟨#[40,63,62]⟩:ByteArray)++A)++⟨#[124]⟩)) rfl rfl (by kernel_rfl) (by kernel_rfl) (by kernel_rfl) (fun _ _ _ h=>h) (Or.inl ⟨by rfl,fun z hz=>by clear hz;go_simp <;> (try simp only [ByteArray.size_append]) <;> (try omega)⟩) hH88 ?_
   simp only [Act.put,List.setIfInBounds_toArray,List.set_cons_zero,List.set_cons_succ]
   refine wpAnyH_ready (rs:=[5]) (by kernel_rfl) (by simp) ?_
   refine AllReadyH.cons rfl (fun K hK=>?_) AllReadyH.nil
   go_simp
   refine (KB.out _).mono ?_
   rintro e w90 ⟨rfl,hb91⟩
   go_simp
   refine hK.out _ _ ⟨blk_keep hH88.1 hb91,hH88.2.trans (hb91.mono (Nat.le_of_lt (blk_lt hH88.1)))⟩ (fun hH92=>?_)
   clear hK K
   have HM93:=blk_keep HM89 hb91
   refine takeAt 6 48 (.string ((((⟨#[40,63,62]⟩:ByteArray)++A)++⟨#[124]⟩)++B)) rfl rfl (by kernel_rfl) (by kernel_rfl) (by kernel_rfl) (fun _ _ _ h=>h) (Or.inl ⟨by rfl,fun z hz=>by clear hz;go_simp <;> (try simp only [ByteArray.size_append]) <;> (try omega)⟩) hH92 ?_
   simp only [Act.put,List.setIfInBounds_toArray,List.set_cons_zero,List.set_cons_succ]
   refine takeAt 7 49 (.string (((((⟨#[40,63,62]⟩:ByteArray)++A)++⟨#[124]⟩)++B)++⟨#[41]⟩)) rfl rfl (by kernel_rfl) (by kernel_rfl) (by kernel_rfl) (fun _ _ _ h=>h) (Or.inl ⟨by rfl,fun z hz=>by clear hz;go_simp <;> (try simp only [ByteArray.size_append]) <;> (try omega)⟩) hH92 ?_
   simp only [Act.put,List.setIfInBounds_toArray,List.set_cons_zero,List.set_cons_succ]
   refine wpAnyH_ready (rs:=[9]) (by kernel_rfl) (by simp) ?_
   refine AllReadyH.cons rfl (fun K hK=>?_) AllReadyH.nil
   go_simp
   refine (KC.out _).mono ?_
   rintro e w94 ⟨rfl,hb95⟩
   go_simp
   refine hK.out _ _ ⟨blk_keep hH92.1 hb95,hH92.2.trans (hb95.mono (Nat.le_of_lt (blk_lt hH92.1)))⟩ (fun hH96=>?_)
   clear hK K
   have HM97:=blk_keep HM93 hb95
   refine takeAt 10 52 (.string p1) rfl rfl (by kernel_rfl) (by kernel_rfl) (by kernel_rfl) (fun _ _ _ h=>h) (Or.inl ⟨by rfl,fun z hz=>by clear hz;rw [← HP1.out];go_simp <;> (try simp only [ByteArray.size_append]) <;> (try omega)⟩) hH96 ?_
   simp only [Act.put,List.setIfInBounds_toArray,List.set_cons_zero,List.set_cons_succ]
   refine wpAnyH_ready (rs:=[13]) (by kernel_rfl) (by simp) ?_
   refine AllReadyH.cons rfl (fun K hK=>?_) AllReadyH.nil
   go_simp
   refine (KF1.out _).mono ?_
   rintro e w98 ⟨rfl,hb99⟩
   go_simp
   refine hK.out _ _ ⟨blk_keep hH96.1 hb99,hH96.2.trans (hb99.mono (Nat.le_of_lt (blk_lt hH96.1)))⟩ (fun hH100=>?_)
   clear hK K
   have HM101:=blk_keep HM97 hb99
   refine takeAt 14 41 (.tuple #[.agg (fpA G1.1),.int .i64 G1.2]) rfl rfl (by kernel_rfl) (by kernel_rfl) (by kernel_rfl) (fun _ _ _ h=>h) (Or.inl ⟨by rfl,fun z hz=>by clear hz;go_simp <;> (try simp only [ByteArray.size_append]) <;> (try omega)⟩) hH100 ?_
   simp only [Act.put,List.setIfInBounds_toArray,List.set_cons_zero,List.set_cons_succ]
   refine takeAt 15 56 (.agg (fpA G1.1)) rfl rfl (by kernel_rfl) (by kernel_rfl) (by kernel_rfl) (fun _ _ _ h=>h) (Or.inl ⟨by rfl,fun z hz=>by clear hz;go_simp <;> (try simp only [ByteArray.size_append]) <;> (try omega)⟩) hH100 ?_
   simp only [Act.put,List.setIfInBounds_toArray,List.set_cons_zero,List.set_cons_succ]
   refine takeAt 16 57 (.int .i64 G1.2) rfl rfl (by kernel_rfl) (by kernel_rfl) (by kernel_rfl) (fun _ _ _ h=>h) (Or.inl ⟨by rfl,fun z hz=>by clear hz;go_simp <;> (try simp only [ByteArray.size_append]) <;> (try omega)⟩) hH100 ?_
   simp only [Act.put,List.setIfInBounds_toArray,List.set_cons_zero,List.set_cons_succ]
   refine wpAnyH_ready (rs:=[18]) (by kernel_rfl) (by simp) ?_
   refine AllReadyH.cons rfl (fun K hK=>?_) AllReadyH.nil
   refine wp_store_mid 39 (.tmp 18) (.tmp 56) rfl wd.heap.size 0 (fpA G1.1) (by rfl) (by rfl) (there_block (cell_block HM101).1 (cell_block HM101).2 _ (by rw [z1];exact Nat.le_of_eq hBs79.symm)) (by rw [Try.sizeFd,z1]) a1 ?_
   refine hK.out _ _ ⟨(setCells_oth wd.heap.size _ 0 _ n (Nat.ne_of_lt hlt80)).trans hH100.1,hH100.2.trans (below_setCells wd.heap.size _ 0 _ n (Nat.le_of_lt hlt80)).1⟩ (fun hH102=>?_)
   clear hK K
   have HS:=stored_blk HM101 (fpA G1.1) (by rw [z1];exact hBs79.symm)
   refine takeAt 19 19 (.int .i64 G1.2) rfl rfl (by kernel_rfl) (by kernel_rfl) (by kernel_rfl) (fun _ _ _ h=>h) (Or.inl ⟨by rfl,fun z hz=>by clear hz;go_simp <;> (try simp only [ByteArray.size_append]) <;> (try omega)⟩) hH102 ?_
   simp only [Act.put,List.setIfInBounds_toArray,List.set_cons_zero,List.set_cons_succ]
   refine wpAnyH_done (by kernel_rfl) ?_ _
   go_wp2_with fail
   go_meet
   case rel=>exact ⟨wd.heap.size,rfl,rfl,hH102.1,HS,hH102.2,hlt80⟩
 case rest =>
  obtain ⟨m,rfl,rfl,L2,F2,C2,hnm⟩:=hcut
  have L4:Hid _:=L2
  have F4:Hid _:=F2
  have B4:Hid _:=C2
  clear L2 F2 C2 L3 B3 KC KF1 HP1
  go_wp2_with (refine load_blk 39 22 Try.underlying39 rfl Try.sizeFd (by rfl) (.tmp 18) (by rfl) m (by rfl) F4.out z1 ?_)
  refine (HS1.out _ _ _ HAB1.out).mono ?_
  rintro e w7 ⟨rfl,hb7⟩
  have L7:Hid _:=blk_keep L4.out hb7
  have F7:Hid _:=blk_keep F4.out hb7
  have B7:Hid (Below n w4 w7):=B4.out.trans (hb7.mono (Nat.le_of_lt (blk_lt L4.out)))
  clear hb7 L4 F4 B4 HAB1 HS1
  go_wp2_with fail
  refine (KC2.out _).mono ?_
  rintro e w' ⟨i2,j2,rfl,hab2,rfl⟩
  have HAB2:Hid (FirstAB T f2 i2 j2):=hab2
  clear hab2 KC2
  go_upto_region 12 with fail
  go_cut [19] (fun ve wx=>ve=.int .i64 G2.2∧wx.heap[n]?=some (.cells OA 43 (0,0))∧wx.heap[m]?=some (.cells (fpA G2.1) 39 (0,0))∧Below n w4 wx)
  case first =>
   have ra:∀ z:World,(z.heap[n]?=some (.cells OA 43 (0,0))∧(∃ B:Array Value,B.size=22∧z.heap[m]?=some (.cells B 39 (0,0)))∧Below n w4 z)→z.rangeAt n 0 OA.toList:=fun z hz=>rangeAt_blk hz.1
   refine wp_region_held_drew (S:=fun z:World=>z.heap[n]?=some (.cells OA 43 (0,0))∧(∃ B:Array Value,B.size=22∧z.heap[m]?=some (.cells B 39 (0,0)))∧Below n w4 z) (by kernel_rfl) ⟨L7.out,⟨_,z1,F7.out⟩,B7.out.trans (Below.refl _ _).drew⟩ (fun hH=>?_)
   refine takeAt 0 73 (.string a) rfl rfl (by kernel_rfl) (by kernel_rfl) (by kernel_rfl) (fun _ _ _ h=>h) (Or.inl ⟨by rfl,fun z hz=>by clear hz;go_simp <;> (try simp only [ByteArray.size_append]) <;> (try omega)⟩) hH ?_
   simp only [Act.put,List.setIfInBounds_toArray,List.set_cons_zero,List.set_cons_succ]
   refine takeAt 4 77 (.string b) rfl rfl (by kernel_rfl) (by kernel_rfl) (by kernel_rfl) (fun _ _ _ h=>h) (Or.inl ⟨by rfl,fun z hz=>by clear hz;go_simp <;> (try simp only [ByteArray.size_append]) <;> (try omega)⟩) hH ?_
   simp only [Act.put,List.setIfInBounds_toArray,List.set_cons_zero,List.set_cons_succ]
   refine takeAt 7 80 (.string T) rfl rfl (by kernel_rfl) (by kernel_rfl) (by kernel_rfl) (fun _ _ _ h=>h) (Or.inl ⟨by rfl,fun z hz=>by clear hz;go_simp <;> (try simp only [ByteArray.size_append]) <;> (try omega)⟩) hH ?_
   simp only [Act.put,List.setIfInBounds_toArray,List.set_cons_zero,List.set_cons_succ]
   refine takeAt 8 81 (.agg OA.toList.toArray) rfl rfl (by kernel_rfl) (by kernel_rfl) (by kernel_rfl) (fun _ _ _ h=>h) (yieldsIf_load_mid (by rfl) _ _ rfl _ _ rfl _ _ ra Try.underlying43 rfl (by rw [Try.sizeOp4];rw [Array.length_toList,hOA])) hH ?_
   simp only [Act.put,List.setIfInBounds_toArray,List.set_cons_zero,List.set_cons_succ]
   have eO:OA.toList.toArray=OA:=by simp
   rw [eO]
   clear eO
   clear ra
   refine wpAnyH_ready (rs:=[1]) (by kernel_rfl) (by simp) ?_
   refine AllReadyH.cons rfl (fun K hK=>?_) AllReadyH.nil
   obtain ⟨h1,⟨B0,h2,h3⟩,h4⟩:=hH
   go_simp
   refine (KA.out _).mono ?_
   rintro e v1 ⟨rfl,hc1⟩
   go_simp
   refine hK.out _ _ ⟨blk_keep h1 hc1,⟨_,h2,blk_keep h3 hc1⟩,h4.trans (hc1.mono (Nat.le_of_lt (blk_lt h1)))⟩ (fun hK1=>?_)
   clear hK K h1 h2 h3 h4 hc1 B0
   refine takeAt 2 75 (.string ((⟨#[40,63,61]⟩:ByteArray)++A)) rfl rfl (by kernel_rfl) (by kernel_rfl) (by kernel_rfl) (fun _ _ _ h=>h) (Or.inl ⟨by rfl,fun z hz=>by clear hz;go_simp <;> (try simp only [ByteArray.size_append]) <;> (try omega)⟩) hK1 ?_
   simp only [Act.put,List.setIfInBounds_toArray,List.set_cons_zero,List.set_cons_succ]
   refine takeAt 3 76 (.string (((⟨#[40,63,61]⟩:ByteArray)++A)++⟨#[41]⟩)) rfl rfl (by kernel_rfl) (by kernel_rfl) (by kernel_rfl) (fun _ _ _ h=>h) (Or.inl ⟨by rfl,fun z hz=>by clear hz;go_simp <;> (try simp only [ByteArray.size_append]) <;> (try omega)⟩) hK1 ?_
   simp only [Act.put,List.setIfInBounds_toArray,List.set_cons_zero,List.set_cons_succ]
   refine wpAnyH_ready (rs:=[5]) (by kernel_rfl) (by simp) ?_
   refine AllReadyH.cons rfl (fun K hK=>?_) AllReadyH.nil
   obtain ⟨h1,⟨B0,h2,h3⟩,h4⟩:=hK1
   go_simp
   refine (KB.out _).mono ?_
   rintro e v2 ⟨rfl,hc2⟩
   go_simp
   refine hK.out _ _ ⟨blk_keep h1 hc2,⟨_,h2,blk_keep h3 hc2⟩,h4.trans (hc2.mono (Nat.le_of_lt (blk_lt h1)))⟩ (fun hK2=>?_)
   clear hK K h1 h2 h3 h4 hc2 B0
   refine takeAt 6 79 (.string p2) rfl rfl (by kernel_rfl) (by kernel_rfl) (by kernel_rfl) (fun _ _ _ h=>h) (Or.inl ⟨by rfl,fun z hz=>by clear hz;rw [← HP2.out];go_simp <;> (try simp only [ByteArray.size_append]) <;> (try omega)⟩) hK2 ?_
   simp only [Act.put,List.setIfInBounds_toArray,List.set_cons_zero,List.set_cons_succ]
   refine wpAnyH_ready (rs:=[9]) (by kernel_rfl) (by simp) ?_
   refine AllReadyH.cons rfl (fun K hK=>?_) AllReadyH.nil
   obtain ⟨h1,⟨B0,h2,h3⟩,h4⟩:=hK2
   go_simp
   refine (KF2.out _).mono ?_
   rintro e v3 ⟨rfl,hc3⟩
   go_simp
   refine hK.out _ _ ⟨blk_keep h1 hc3,⟨_,h2,blk_keep h3 hc3⟩,h4.trans (hc3.mono (Nat.le_of_lt (blk_lt h1)))⟩ (fun hK3=>?_)
   clear hK K h1 h2 h3 h4 hc3 B0
   refine takeAt 10 72 (.tuple #[.agg (fpA G2.1),.int .i64 G2.2]) rfl rfl (by kernel_rfl) (by kernel_rfl) (by kernel_rfl) (fun _ _ _ h=>h) (Or.inl ⟨by rfl,fun z hz=>by clear hz;go_simp <;> (try simp only [ByteArray.size_append]) <;> (try omega)⟩) hK3 ?_
   simp only [Act.put,List.setIfInBounds_toArray,List.set_cons_zero,List.set_cons_succ]
   refine takeAt 11 83 (.agg (fpA G2.1)) rfl rfl (by kernel_rfl) (by kernel_rfl) (by kernel_rfl) (fun _ _ _ h=>h) (Or.inl ⟨by rfl,fun z hz=>by clear hz;go_simp <;> (try simp only [ByteArray.size_append]) <;> (try omega)⟩) hK3 ?_
   simp only [Act.put,List.setIfInBounds_toArray,List.set_cons_zero,List.set_cons_succ]
   refine takeAt 12 84 (.int .i64 G2.2) rfl rfl (by kernel_rfl) (by kernel_rfl) (by kernel_rfl) (fun _ _ _ h=>h) (Or.inl ⟨by rfl,fun z hz=>by clear hz;go_simp <;> (try simp only [ByteArray.size_append]) <;> (try omega)⟩) hK3 ?_
   simp only [Act.put,List.setIfInBounds_toArray,List.set_cons_zero,List.set_cons_succ]
   refine wpAnyH_ready (rs:=[13]) (by kernel_rfl) (by simp) ?_
   refine AllReadyH.cons rfl (fun K hK=>?_) AllReadyH.nil
   obtain ⟨h1,⟨B0,h2,h3⟩,h4⟩:=hK3
   refine wp_store_mid 39 (.tmp 18) (.tmp 83) rfl m 0 (fpA G2.1) (by rfl) (by rfl) (there_block (cell_block h3).1 (cell_block h3).2 _ (by rw [z2];exact Nat.le_of_eq h2.symm)) (by rw [Try.sizeFd,z2]) a2 ?_
   have HS:=stored_blk h3 (fpA G2.1) (by rw [z2];exact h2.symm)
   refine hK.out _ _ ⟨(setCells_oth m _ 0 _ n (Nat.ne_of_lt hnm)).trans h1,⟨_,z2,HS⟩,h4.trans (below_setCells m _ 0 _ n (Nat.le_of_lt hnm)).1⟩ (fun hE=>?_)
   clear hK K
   refine takeAt 14 19 (.int .i64 G2.2) rfl rfl (by kernel_rfl) (by kernel_rfl) (by kernel_rfl) (fun _ _ _ h=>h) (Or.inl ⟨by rfl,fun z hz=>by clear hz;go_simp <;> (try simp only [ByteArray.size_append]) <;> (try omega)⟩) hE ?_
   simp only [Act.put,List.setIfInBounds_toArray,List.set_cons_zero,List.set_cons_succ]
   refine wpAnyH_done (by kernel_rfl) ?_ _
   go_wp2_with fail
   go_meet
   case rel=>exact ⟨rfl,hE.1,HS,hE.2.2⟩
  case rest =>
   obtain ⟨rfl,L2,F2,C2⟩:=hcut
   have L8:Hid _:=L2
   have F8:Hid _:=F2
   have B8:Hid _:=C2
   clear L2 F2 C2 L7 F7 B7 KF2 HP2
   go_wp2_with (refine load_blk 39 22 Try.underlying39 rfl Try.sizeFd (by rfl) (.tmp 18) (by rfl) m (by rfl) F8.out z2 ?_)
   refine (HS2.out _ _ _ HAB2.out).mono ?_
   rintro e w9 ⟨rfl,hb9⟩
   have L9:Hid _:=blk_keep L8.out hb9
   have F9:Hid _:=blk_keep F8.out hb9
   have B9:Hid (Below n w4 w9):=B8.out.trans (hb9.mono (Nat.le_of_lt (blk_lt L8.out)))
   clear hb9 L8 F8 B8 HAB2 HS2
   go_wp2_with fail
   refine (KC3.out _).mono ?_
   rintro e w' ⟨i3,j3,rfl,hab3,rfl⟩
   have HAB3:Hid (FirstAB T f3 i3 j3):=hab3
   clear hab3 KC3
   go_upto_region 17 with fail
   go_cut [19] (fun ve wx=>ve=.int .i64 G3.2∧wx.heap[n]?=some (.cells OA 43 (0,0))∧wx.heap[m]?=some (.cells (fpA G3.1) 39 (0,0))∧Below n w4 wx)
   case first =>
    have ra:∀ z:World,(z.heap[n]?=some (.cells OA 43 (0,0))∧(∃ B:Array Value,B.size=22∧z.heap[m]?=some (.cells B 39 (0,0)))∧Below n w4 z)→z.rangeAt n 0 OA.toList:=fun z hz=>rangeAt_blk hz.1
    refine wp_region_held_drew (S:=fun z:World=>z.heap[n]?=some (.cells OA 43 (0,0))∧(∃ B:Array Value,B.size=22∧z.heap[m]?=some (.cells B 39 (0,0)))∧Below n w4 z) (by kernel_rfl) ⟨L9.out,⟨_,z2,F9.out⟩,B9.out.trans (Below.refl _ _).drew⟩ (fun hH=>?_)
    refine takeAt 0 100 (.string a) rfl rfl (by kernel_rfl) (by kernel_rfl) (by kernel_rfl) (fun _ _ _ h=>h) (Or.inl ⟨by rfl,fun z hz=>by clear hz;go_simp <;> (try simp only [ByteArray.size_append]) <;> (try omega)⟩) hH ?_
    simp only [Act.put,List.setIfInBounds_toArray,List.set_cons_zero,List.set_cons_succ]
    refine takeAt 4 104 (.string b) rfl rfl (by kernel_rfl) (by kernel_rfl) (by kernel_rfl) (fun _ _ _ h=>h) (Or.inl ⟨by rfl,fun z hz=>by clear hz;go_simp <;> (try simp only [ByteArray.size_append]) <;> (try omega)⟩) hH ?_
    simp only [Act.put,List.setIfInBounds_toArray,List.set_cons_zero,List.set_cons_succ]
    refine takeAt 7 107 (.string T) rfl rfl (by kernel_rfl) (by kernel_rfl) (by kernel_rfl) (fun _ _ _ h=>h) (Or.inl ⟨by rfl,fun z hz=>by clear hz;go_simp <;> (try simp only [ByteArray.size_append]) <;> (try omega)⟩) hH ?_
    simp only [Act.put,List.setIfInBounds_toArray,List.set_cons_zero,List.set_cons_succ]
    refine takeAt 8 108 (.agg OA.toList.toArray) rfl rfl (by kernel_rfl) (by kernel_rfl) (by kernel_rfl) (fun _ _ _ h=>h) (yieldsIf_load_mid (by rfl) _ _ rfl _ _ rfl _ _ ra Try.underlying43 rfl (by rw [Try.sizeOp4];rw [Array.length_toList,hOA])) hH ?_
    simp only [Act.put,List.setIfInBounds_toArray,List.set_cons_zero,List.set_cons_succ]
    have eO:OA.toList.toArray=OA:=by simp
    rw [eO]
    clear eO
    clear ra
    refine wpAnyH_ready (rs:=[1]) (by kernel_rfl) (by simp) ?_
    refine AllReadyH.cons rfl (fun K hK=>?_) AllReadyH.nil
    obtain ⟨h1,⟨B0,h2,h3⟩,h4⟩:=hH
    go_simp
    refine (KA.out _).mono ?_
    rintro e v1 ⟨rfl,hc1⟩
    go_simp
    refine hK.out _ _ ⟨blk_keep h1 hc1,⟨_,h2,blk_keep h3 hc1⟩,h4.trans (hc1.mono (Nat.le_of_lt (blk_lt h1)))⟩ (fun hK1=>?_)
    clear hK K h1 h2 h3 h4 hc1 B0
    refine takeAt 2 102 (.string ((⟨#[40,63,33]⟩:ByteArray)++A)) rfl rfl (by kernel_rfl) (by kernel_rfl) (by kernel_rfl) (fun _ _ _ h=>h) (Or.inl ⟨by rfl,fun z hz=>by clear hz;go_simp <;> (try simp only [ByteArray.size_append]) <;> (try omega)⟩) hK1 ?_
    simp only [Act.put,List.setIfInBounds_toArray,List.set_cons_zero,List.set_cons_succ]
    refine takeAt 3 103 (.string (((⟨#[40,63,33]⟩:ByteArray)++A)++⟨#[41]⟩)) rfl rfl (by kernel_rfl) (by kernel_rfl) (by kernel_rfl) (fun _ _ _ h=>h) (Or.inl ⟨by rfl,fun z hz=>by clear hz;go_simp <;> (try simp only [ByteArray.size_append]) <;> (try omega)⟩) hK1 ?_
    simp only [Act.put,List.setIfInBounds_toArray,List.set_cons_zero,List.set_cons_succ]
    refine wpAnyH_ready (rs:=[5]) (by kernel_rfl) (by simp) ?_
    refine AllReadyH.cons rfl (fun K hK=>?_) AllReadyH.nil
    obtain ⟨h1,⟨B0,h2,h3⟩,h4⟩:=hK1
    go_simp
    refine (KB.out _).mono ?_
    rintro e v2 ⟨rfl,hc2⟩
    go_simp
    refine hK.out _ _ ⟨blk_keep h1 hc2,⟨_,h2,blk_keep h3 hc2⟩,h4.trans (hc2.mono (Nat.le_of_lt (blk_lt h1)))⟩ (fun hK2=>?_)
    clear hK K h1 h2 h3 h4 hc2 B0
    refine takeAt 6 106 (.string p3) rfl rfl (by kernel_rfl) (by kernel_rfl) (by kernel_rfl) (fun _ _ _ h=>h) (Or.inl ⟨by rfl,fun z hz=>by clear hz;rw [← HP3.out];go_simp <;> (try simp only [ByteArray.size_append]) <;> (try omega)⟩) hK2 ?_
    simp only [Act.put,List.setIfInBounds_toArray,List.set_cons_zero,List.set_cons_succ]
    refine wpAnyH_ready (rs:=[9]) (by kernel_rfl) (by simp) ?_
    refine AllReadyH.cons rfl (fun K hK=>?_) AllReadyH.nil
    obtain ⟨h1,⟨B0,h2,h3⟩,h4⟩:=hK2
    go_simp
    refine (KF3.out _).mono ?_
    rintro e v3 ⟨rfl,hc3⟩
    go_simp
    refine hK.out _ _ ⟨blk_keep h1 hc3,⟨_,h2,blk_keep h3 hc3⟩,h4.trans (hc3.mono (Nat.le_of_lt (blk_lt h1)))⟩ (fun hK3=>?_)
    clear hK K h1 h2 h3 h4 hc3 B0
    refine takeAt 10 99 (.tuple #[.agg (fpA G3.1),.int .i64 G3.2]) rfl rfl (by kernel_rfl) (by kernel_rfl) (by kernel_rfl) (fun _ _ _ h=>h) (Or.inl ⟨by rfl,fun z hz=>by clear hz;go_simp <;> (try simp only [ByteArray.size_append]) <;> (try omega)⟩) hK3 ?_
    simp only [Act.put,List.setIfInBounds_toArray,List.set_cons_zero,List.set_cons_succ]
    refine takeAt 11 110 (.agg (fpA G3.1)) rfl rfl (by kernel_rfl) (by kernel_rfl) (by kernel_rfl) (fun _ _ _ h=>h) (Or.inl ⟨by rfl,fun z hz=>by clear hz;go_simp <;> (try simp only [ByteArray.size_append]) <;> (try omega)⟩) hK3 ?_
    simp only [Act.put,List.setIfInBounds_toArray,List.set_cons_zero,List.set_cons_succ]
    refine takeAt 12 111 (.int .i64 G3.2) rfl rfl (by kernel_rfl) (by kernel_rfl) (by kernel_rfl) (fun _ _ _ h=>h) (Or.inl ⟨by rfl,fun z hz=>by clear hz;go_simp <;> (try simp only [ByteArray.size_append]) <;> (try omega)⟩) hK3 ?_
    simp only [Act.put,List.setIfInBounds_toArray,List.set_cons_zero,List.set_cons_succ]
    refine wpAnyH_ready (rs:=[13]) (by kernel_rfl) (by simp) ?_
    refine AllReadyH.cons rfl (fun K hK=>?_) AllReadyH.nil
    obtain ⟨h1,⟨B0,h2,h3⟩,h4⟩:=hK3
    refine wp_store_mid 39 (.tmp 18) (.tmp 110) rfl m 0 (fpA G3.1) (by rfl) (by rfl) (there_block (cell_block h3).1 (cell_block h3).2 _ (by rw [z3];exact Nat.le_of_eq h2.symm)) (by rw [Try.sizeFd,z3]) a3 ?_
    have HS:=stored_blk h3 (fpA G3.1) (by rw [z3];exact h2.symm)
    refine hK.out _ _ ⟨(setCells_oth m _ 0 _ n (Nat.ne_of_lt hnm)).trans h1,⟨_,z3,HS⟩,h4.trans (below_setCells m _ 0 _ n (Nat.le_of_lt hnm)).1⟩ (fun hE=>?_)
    clear hK K
    refine takeAt 14 19 (.int .i64 G3.2) rfl rfl (by kernel_rfl) (by kernel_rfl) (by kernel_rfl) (fun _ _ _ h=>h) (Or.inl ⟨by rfl,fun z hz=>by clear hz;go_simp <;> (try simp only [ByteArray.size_append]) <;> (try omega)⟩) hE ?_
    simp only [Act.put,List.setIfInBounds_toArray,List.set_cons_zero,List.set_cons_succ]
    refine wpAnyH_done (by kernel_rfl) ?_ _
    go_wp2_with fail
    go_meet
    case rel=>exact ⟨rfl,hE.1,HS,hE.2.2⟩
   case rest =>
    obtain ⟨rfl,L2,F2,C2⟩:=hcut
    have L10:Hid _:=L2
    have F10:Hid _:=F2
    have B10:Hid _:=C2
    clear L2 F2 C2 L9 F9 B9 KF3 HP3
    go_wp2_with (refine load_blk 39 22 Try.underlying39 rfl Try.sizeFd (by rfl) (.tmp 18) (by rfl) m (by rfl) F10.out z3 ?_)
    refine (HS3.out _ _ _ HAB3.out).mono ?_
    rintro e w11 ⟨rfl,hb11⟩
    have L11:Hid _:=blk_keep L10.out hb11
    have F11:Hid _:=blk_keep F10.out hb11
    have B11:Hid (Below n w4 w11):=B10.out.trans (hb11.mono (Nat.le_of_lt (blk_lt L10.out)))
    clear hb11 L10 F10 B10 HAB3 HS3
    go_wp2_with fail
    go_ret
    exact ⟨rfl,B0.out.trans (B11.out.mono hwn)⟩
end Go.Proofs.Ytebpgfodelggoaa
