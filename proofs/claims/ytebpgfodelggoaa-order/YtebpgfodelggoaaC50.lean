import Derived.Test.YtebpgfodelggoaaC22
import Derived.Test.YtebpgfodelggoaaC23
import Derived.Test.YtebpgfodelggoaaC38
import Derived.Test.YtebpgfodelggoaaC49
set_option linter.unusedVariables false
set_option linter.unusedSimpArgs false
set_option maxRecDepth 100000
set_option maxHeartbeats 16000000
namespace Go.Proofs.Ytebpgfodelggoaa
open Go.RowKit
theorem blk_keep {z z':World} {b:Nat} {A:Array Value} {t:TypeId} (h:z.heap[b]?=some (.cells A t (0,0))) (hb:Below z.heap.size z z'):z'.heap[b]?=some (.cells A t (0,0)):=(hb.block b (Array.getElem?_eq_some_iff.1 h).1).trans h
theorem blk_lt {z:World} {b:Nat} {A:Array Value} {t:TypeId} (h:z.heap[b]?=some (.cells A t (0,0))):b<z.heap.size:=(Array.getElem?_eq_some_iff.1 h).1
theorem order_cat (a b c:List UInt8):((((((⟨#[40]⟩:ByteArray)++⟨(Mt.quoteL a).toArray⟩)++⟨#[41,124,40]⟩)++⟨(Mt.quoteL b).toArray⟩)++⟨#[41,124,40]⟩)++⟨(Mt.quoteL c).toArray⟩)++⟨#[41]⟩=Mt.bp (Mt.orderL a b c):=by
 apply ByteArray.ext
 simp [Mt.bp,Mt.orderL,ByteArray.data_append]
theorem Order_any (u v x t:ByteArray) (P M R:Int) (w:World) (hu:u.size≤maxLen) (hv:v.size≤maxLen) (hx:x.size≤maxLen) (ht:t.size≤maxLen) (hP:I64 P) (hM:I64 M) (hR:I64 R) :
  Calls Try.prog 4 #[.string u,.string v,.string x,.string t,.int .i64 P,.int .i64 M,.int .i64 R] w fun e w'=>e=.returned (.bool true)∧Below w.heap.size w w':=by
 have su:=someB_size u 8
 have sv:=someB_size v 8
 have sx:=someB_size x 8
 have st:=someB_size t 60
 have K0:Hid (∀ z:World,Calls Try.prog 7 #[.string u,.int .i64 8] z fun e w'=>e=.returned (.string (someB u 8))∧z=w'):=fun z=>some_any u 8 z hu (by omega)
 have K1:Hid (∀ z:World,Calls Try.prog 7 #[.string v,.int .i64 8] z fun e w'=>e=.returned (.string (someB v 8))∧z=w'):=fun z=>some_any v 8 z hv (by omega)
 have K2:Hid (∀ z:World,Calls Try.prog 7 #[.string x,.int .i64 8] z fun e w'=>e=.returned (.string (someB x 8))∧z=w'):=fun z=>some_any x 8 z hx (by omega)
 have K3:Hid (∀ z:World,Calls Try.prog 7 #[.string t,.int .i64 60] z fun e w'=>e=.returned (.string (someB t 60))∧z=w'):=fun z=>some_any t 60 z ht (by omega)
 generalize someB u 8=a at *
 generalize someB v 8=b at *
 generalize someB x 8=c at *
 generalize someB t 60=T at *
 have K4:Hid (∀ z:World,Calls Try.prog 16 #[.int .i64 P,.int .i64 M,.int .i64 R] z fun e w'=>e=.returned (.agg #[.int .i64 (pickI P 5),.int .i64 (pickI M 4294967296),.int .i64 (pickI R 5001),.int .i64 10000])∧Below z.heap.size z w'):=fun z=>kset_any P M R z hP hM hR
 have hopt:=pick_opt P M R
 generalize pickI P 5=P' at *
 generalize pickI M 4294967296=M' at *
 generalize pickI R 5001=R' at *
 have la:a.data.toList.length=a.size:=by simp
 have lb:b.data.toList.length=b.size:=by simp
 have lc:c.data.toList.length=c.size:=by simp
 have ho:=order_ok a.data.toList b.data.toList c.data.toList T P' M' R' (by omega) (by omega) (by omega) st.1 hopt
 have ql:=Mt.orderL_len a.data.toList b.data.toList c.data.toList
 have qa:=Mt.quoteL_len a.data.toList
 have qb:=Mt.quoteL_len b.data.toList
 have qc:=Mt.quoteL_len c.data.toList
 have HP:=order_cat a.data.toList b.data.toList c.data.toList
 obtain ⟨pt,hpt⟩:∃ pt,pt=Mt.bp (Mt.orderL a.data.toList b.data.toList c.data.toList):=⟨_,rfl⟩
 rw [← hpt] at ho HP
 have hptm:pt.size≤maxLen:=by rw [hpt,Mt.bp_size];unfold maxLen;omega
 have hTm:T.size≤maxLen:=by unfold maxLen;omega
 have K5:Hid (∀ z:World,Calls Try.prog 15 #[.string pt,.string T,.int .i64 0,.agg #[.int .i64 P',.int .i64 M',.int .i64 R',.int .i64 10000]] z fun e w'=>e=.returned (.tuple #[.agg (fpA (Mt.findR pt T 0 P' M' R' 10000).1),.int .i64 (Mt.findR pt T 0 P' M' R' 10000).2])∧Below z.heap.size z w'):=fun z=>Find_any pt T 0 P' M' R' 10000 z hptm hTm
 generalize hG:Mt.findR pt T 0 P' M' R' 10000=G at *
 have KA:Hid (∀ z:World,Calls Try.prog 14 #[.string a] z fun e w'=>e=.returned (.string ⟨(Mt.quoteL a.data.toList).toArray⟩)∧Below z.heap.size z w'):=fun z=>quote_any a z (by omega)
 have KB:Hid (∀ z:World,Calls Try.prog 14 #[.string b] z fun e w'=>e=.returned (.string ⟨(Mt.quoteL b.data.toList).toArray⟩)∧Below z.heap.size z w'):=fun z=>quote_any b z (by omega)
 have KC:Hid (∀ z:World,Calls Try.prog 14 #[.string c] z fun e w'=>e=.returned (.string ⟨(Mt.quoteL c.data.toList).toArray⟩)∧Below z.heap.size z w'):=fun z=>quote_any c z (by omega)
 have KF:Hid (∀ (i:Nat) (z:World) (g cap:Nat),i≤T.size→z.heap[g]?=some (.cells #[.string a,.string b,.string c] 9 (0,0))→Calls Try.prog 17 #[.string T,.int .i64 (i:Int),.slice (some ⟨g,0,none⟩) 3 cap] z fun e w'=>e=.returned (.int .i64 (Mt.firstOf T i a.data.toList b.data.toList c.data.toList))∧w'=z):=fun i z g cap hi hg=>by
  have:=first_any T i [a,b,c] g cap z st.1 (by omega) (by simp) (fun q hq=>by simp at hq;rcases hq with rfl | rfl | rfl <;> omega) (fun k q hk=>by
   rw [(cell_block hg).1 k]
   match k,hk with
   | 0,hk=>simp at hk;subst hk;rfl
   | 1,hk=>simp at hk;subst hk;rfl
   | 2,hk=>simp at hk;subst hk;rfl
   | k+3,hk=>simp at hk)
  rw [first_three T a b c i hi] at this
  exact this
 have HO:Hid (OrderOk T a.data.toList b.data.toList c.data.toList G):=ho
 have HPP:Hid _:=HP
 have sA:(⟨(Mt.quoteL a.data.toList).toArray⟩:ByteArray).size≤16:=by show (Mt.bp _).size≤_;rw [Mt.bp_size];omega
 have sB:(⟨(Mt.quoteL b.data.toList).toArray⟩:ByteArray).size≤16:=by show (Mt.bp _).size≤_;rw [Mt.bp_size];omega
 have sC:(⟨(Mt.quoteL c.data.toList).toArray⟩:ByteArray).size≤16:=by show (Mt.bp _).size≤_;rw [Mt.bp_size];omega
 generalize hqa:(⟨(Mt.quoteL a.data.toList).toArray⟩:ByteArray)=A at *
 generalize hqb:(⟨(Mt.quoteL b.data.toList).toArray⟩:ByteArray)=B at *
 generalize hqc:(⟨(Mt.quoteL c.data.toList).toArray⟩:ByteArray)=C at *
 have hT60:=st.1
 have ha8:=su.1
 have hb8:=sv.1
 have hc8:=sx.1
 clear hu hv hx ht hP hM hR su sv sx st hopt ho HP hpt hptm hTm hG hqa hqb hqc la lb lc ql qa qb qc
 go_enter Try.func4,Try.ntmps4
 go_wp2_with fail
 refine (K0.out _).mono ?_
 rintro e w' ⟨rfl,rfl⟩
 go_wp2_with fail
 refine (K1.out _).mono ?_
 rintro e w' ⟨rfl,rfl⟩
 go_wp2_with fail
 refine (K2.out _).mono ?_
 rintro e w' ⟨rfl,rfl⟩
 go_wp2_with fail
 refine (K3.out _).mono ?_
 rintro e w' ⟨rfl,rfl⟩
 go_upto_region 3 with fail
 obtain ⟨W,hW⟩:∃ W,W=w.alloc (.cells #[.string a,.string b,.string c] 9):=⟨_,rfl⟩
 have L1:W.heap[w.heap.size]?=some (.cells #[.string a,.string b,.string c] 9 (0,0)):=by rw [hW];exact heap_b1 _ _
 have HB1:Hid (Below w.heap.size w W):=by rw [hW];exact (Below.refl _ _).alloc (Nat.le_refl _) _
 rw [← hW]
 clear hW
 generalize hn:w.heap.size=n at *
 go_cut [16] (fun vp wx=>vp=.string pt∧wx.heap[n]?=some (.cells #[.string a,.string b,.string c] 9 (0,0))∧Below n w wx)
 case first =>
  refine wp_region_held_drew (S:=fun z:World=>z.heap[n]?=some (.cells #[.string a,.string b,.string c] 9 (0,0))∧Below n w z) (by kernel_rfl) ⟨L1,HB1.out.trans (Below.refl _ _).drew⟩ (fun hH=>?_)
  refine takeAt 0 34 (.slice (some ⟨n,0,none⟩) 3 3) rfl rfl (by kernel_rfl) (by kernel_rfl) (by kernel_rfl) (fun _ _ _ h=>h) (Or.inl ⟨by rfl,fun z hz=>by clear hz;go_simp <;> (try simp only [ByteArray.size_append]) <;> (try omega)⟩) hH ?_
  simp only [Act.put,List.setIfInBounds_toArray,List.set_cons_zero,List.set_cons_succ]
  refine takeAt 1 35 (.pointer (some ⟨n,0,none⟩)) rfl rfl (by kernel_rfl) (by kernel_rfl) (by kernel_rfl) (fun _ _ _ h=>h) (Or.inl ⟨by rfl,fun z hz=>by clear hz;go_simp <;> (try simp only [ByteArray.size_append]) <;> (try omega)⟩) hH ?_
  simp only [Act.put,List.setIfInBounds_toArray,List.set_cons_zero,List.set_cons_succ]
  refine takeAt 2 36 (.string a) rfl rfl (by kernel_rfl) (by kernel_rfl) (by kernel_rfl) (fun _ _ _ h=>h) (Or.inl ⟨by rfl,fun z hz=>by have c0:z.cell? ⟨n,0,none⟩=some (.string a):=(cell_block hz.1).1 0;clear hz;go_simp⟩) hH ?_
  simp only [Act.put,List.setIfInBounds_toArray,List.set_cons_zero,List.set_cons_succ]
  refine takeAt 6 40 (.slice (some ⟨n,0,none⟩) 3 3) rfl rfl (by kernel_rfl) (by kernel_rfl) (by kernel_rfl) (fun _ _ _ h=>h) (Or.inl ⟨by rfl,fun z hz=>by clear hz;go_simp <;> (try simp only [ByteArray.size_append]) <;> (try omega)⟩) hH ?_
  simp only [Act.put,List.setIfInBounds_toArray,List.set_cons_zero,List.set_cons_succ]
  refine takeAt 7 41 (.pointer (some ⟨n,1,none⟩)) rfl rfl (by kernel_rfl) (by kernel_rfl) (by kernel_rfl) (fun _ _ _ h=>h) (Or.inl ⟨by rfl,fun z hz=>by clear hz;go_simp <;> (try simp only [ByteArray.size_append]) <;> (try omega)⟩) hH ?_
  simp only [Act.put,List.setIfInBounds_toArray,List.set_cons_zero,List.set_cons_succ]
  refine takeAt 8 42 (.string b) rfl rfl (by kernel_rfl) (by kernel_rfl) (by kernel_rfl) (fun _ _ _ h=>h) (Or.inl ⟨by rfl,fun z hz=>by have c0:z.cell? ⟨n,1,none⟩=some (.string b):=(cell_block hz.1).1 1;clear hz;go_simp⟩) hH ?_
  simp only [Act.put,List.setIfInBounds_toArray,List.set_cons_zero,List.set_cons_succ]
  refine takeAt 12 46 (.slice (some ⟨n,0,none⟩) 3 3) rfl rfl (by kernel_rfl) (by kernel_rfl) (by kernel_rfl) (fun _ _ _ h=>h) (Or.inl ⟨by rfl,fun z hz=>by clear hz;go_simp <;> (try simp only [ByteArray.size_append]) <;> (try omega)⟩) hH ?_
  simp only [Act.put,List.setIfInBounds_toArray,List.set_cons_zero,List.set_cons_succ]
  refine takeAt 13 47 (.pointer (some ⟨n,2,none⟩)) rfl rfl (by kernel_rfl) (by kernel_rfl) (by kernel_rfl) (fun _ _ _ h=>h) (Or.inl ⟨by rfl,fun z hz=>by clear hz;go_simp <;> (try simp only [ByteArray.size_append]) <;> (try omega)⟩) hH ?_
  simp only [Act.put,List.setIfInBounds_toArray,List.set_cons_zero,List.set_cons_succ]
  refine takeAt 14 48 (.string c) rfl rfl (by kernel_rfl) (by kernel_rfl) (by kernel_rfl) (fun _ _ _ h=>h) (Or.inl ⟨by rfl,fun z hz=>by have c0:z.cell? ⟨n,2,none⟩=some (.string c):=(cell_block hz.1).1 2;clear hz;go_simp⟩) hH ?_
  simp only [Act.put,List.setIfInBounds_toArray,List.set_cons_zero,List.set_cons_succ]
  refine wpAnyH_ready (rs:=[3]) (by kernel_rfl) (by simp) ?_
  refine AllReadyH.cons rfl (fun K hK=>?_) AllReadyH.nil
  go_simp
  refine (KA.out _).mono ?_
  rintro e w3 ⟨rfl,hb3⟩
  go_simp
  refine hK.out _ _ ⟨blk_keep hH.1 hb3,hH.2.trans (hb3.mono (Nat.le_of_lt (blk_lt hH.1)))⟩ (fun hH3=>?_)
  clear hK K
  refine takeAt 4 38 (.string ((⟨#[40]⟩:ByteArray)++A)) rfl rfl (by kernel_rfl) (by kernel_rfl) (by kernel_rfl) (fun _ _ _ h=>h) (Or.inl ⟨by rfl,fun z hz=>by clear hz;go_simp <;> (try simp only [ByteArray.size_append]) <;> (try omega)⟩) hH3 ?_
  simp only [Act.put,List.setIfInBounds_toArray,List.set_cons_zero,List.set_cons_succ]
  refine takeAt 5 39 (.string (((⟨#[40]⟩:ByteArray)++A)++⟨#[41,124,40]⟩)) rfl rfl (by kernel_rfl) (by kernel_rfl) (by kernel_rfl) (fun _ _ _ h=>h) (Or.inl ⟨by rfl,fun z hz=>by clear hz;go_simp <;> (try simp only [ByteArray.size_append]) <;> (try omega)⟩) hH3 ?_
  simp only [Act.put,List.setIfInBounds_toArray,List.set_cons_zero,List.set_cons_succ]
  refine wpAnyH_ready (rs:=[9]) (by kernel_rfl) (by simp) ?_
  refine AllReadyH.cons rfl (fun K hK=>?_) AllReadyH.nil
  go_simp
  refine (KB.out _).mono ?_
  rintro e w4 ⟨rfl,hb4⟩
  go_simp
  refine hK.out _ _ ⟨blk_keep hH3.1 hb4,hH3.2.trans (hb4.mono (Nat.le_of_lt (blk_lt hH3.1)))⟩ (fun hH4=>?_)
  clear hK K
  refine takeAt 10 44 (.string ((((⟨#[40]⟩:ByteArray)++A)++⟨#[41,124,40]⟩)++B)) rfl rfl (by kernel_rfl) (by kernel_rfl) (by kernel_rfl) (fun _ _ _ h=>h) (Or.inl ⟨by rfl,fun z hz=>by clear hz;go_simp <;> (try simp only [ByteArray.size_append]) <;> (try omega)⟩) hH4 ?_
  simp only [Act.put,List.setIfInBounds_toArray,List.set_cons_zero,List.set_cons_succ]
  refine takeAt 11 45 (.string (((((⟨#[40]⟩:ByteArray)++A)++⟨#[41,124,40]⟩)++B)++⟨#[41,124,40]⟩)) rfl rfl (by kernel_rfl) (by kernel_rfl) (by kernel_rfl) (fun _ _ _ h=>h) (Or.inl ⟨by rfl,fun z hz=>by clear hz;go_simp <;> (try simp only [ByteArray.size_append]) <;> (try omega)⟩) hH4 ?_
  simp only [Act.put,List.setIfInBounds_toArray,List.set_cons_zero,List.set_cons_succ]
  refine wpAnyH_ready (rs:=[15]) (by kernel_rfl) (by simp) ?_
  refine AllReadyH.cons rfl (fun K hK=>?_) AllReadyH.nil
  go_simp
  refine (KC.out _).mono ?_
  rintro e w5 ⟨rfl,hb5⟩
  go_simp
  refine hK.out _ _ ⟨blk_keep hH4.1 hb5,hH4.2.trans (hb5.mono (Nat.le_of_lt (blk_lt hH4.1)))⟩ (fun hH5=>?_)
  clear hK K
  refine takeAt 16 50 (.string ((((((⟨#[40]⟩:ByteArray)++A)++⟨#[41,124,40]⟩)++B)++⟨#[41,124,40]⟩)++C)) rfl rfl (by kernel_rfl) (by kernel_rfl) (by kernel_rfl) (fun _ _ _ h=>h) (Or.inl ⟨by rfl,fun z hz=>by clear hz;go_simp <;> (try simp only [ByteArray.size_append]) <;> (try omega)⟩) hH5 ?_
  simp only [Act.put,List.setIfInBounds_toArray,List.set_cons_zero,List.set_cons_succ]
  refine takeAt 17 51 (.string (((((((⟨#[40]⟩:ByteArray)++A)++⟨#[41,124,40]⟩)++B)++⟨#[41,124,40]⟩)++C)++⟨#[41]⟩)) rfl rfl (by kernel_rfl) (by kernel_rfl) (by kernel_rfl) (fun _ _ _ h=>h) (Or.inl ⟨by rfl,fun z hz=>by clear hz;go_simp <;> (try simp only [ByteArray.size_append]) <;> (try omega)⟩) hH5 ?_
  simp only [Act.put,List.setIfInBounds_toArray,List.set_cons_zero,List.set_cons_succ]
  refine takeAt 18 16 (.string (((((((⟨#[40]⟩:ByteArray)++A)++⟨#[41,124,40]⟩)++B)++⟨#[41,124,40]⟩)++C)++⟨#[41]⟩)) rfl rfl (by kernel_rfl) (by kernel_rfl) (by kernel_rfl) (fun _ _ _ h=>h) (Or.inl ⟨by rfl,fun z hz=>by clear hz;go_simp <;> (try simp only [ByteArray.size_append]) <;> (try omega)⟩) hH5 ?_
  simp only [Act.put,List.setIfInBounds_toArray,List.set_cons_zero,List.set_cons_succ]
  refine wpAnyH_done (by kernel_rfl) ?_ _
  go_wp2_with fail
  go_meet
  case rel=>exact ⟨congrArg Value.string HPP.out,hH5⟩
 case rest =>
  obtain ⟨rfl,L2,HB2⟩:=hcut
  have L3:Hid (wc.heap[n]?=some (.cells #[.string a,.string b,.string c] 9 (0,0))):=L2
  have B3:Hid (Below n w wc):=HB2
  clear L2 HB2 L1 HB1 KA KB KC HPP K0 K1 K2 K3
  go_wp2_with fail
  refine (K4.out _).mono ?_
  rintro e w6 ⟨rfl,hb6⟩
  have L4:Hid _:=blk_keep L3.out hb6
  have B4:Hid (Below n w w6):=B3.out.trans (hb6.mono (Nat.le_of_lt (blk_lt L3.out)))
  clear hb6 L3 B3
  go_wp2_with fail
  refine (K5.out _).mono ?_
  rintro e w7 ⟨rfl,hb7⟩
  have L5:Hid _:=blk_keep L4.out hb7
  have B5:Hid (Below n w w7):=B4.out.trans (hb7.mono (Nat.le_of_lt (blk_lt L4.out)))
  have z0:=fpA_size G.1 HO.out.len
  have a0:=fpA_all G.1
  clear hb7 L4 B4
  go_upto_region 5 with (refine store_blk 39 22 Try.sizeFd (by rfl) (.tmp 17) (.tmp 60) (by rfl) w7.heap.size (fpA G.1) (by rfl) (by rfl) (by exact heap_b1 _ _) (by rfl) z0 a0 ?_;intro w8 s1 s2 s3 s4)
  have B8:Below w7.heap.size w7 w8:=((Below.refl _ _).alloc (Nat.le_refl _) _).trans (s4 _ (Nat.le_refl _))
  have HL6:Hid (w8.heap[n]?=some (.cells #[.string a,.string b,.string c] 9 (0,0))):=blk_keep L5.out B8
  have HF6:Hid (w8.heap[w7.heap.size]?=some (.cells (fpA G.1) 39 (0,0))):=s1
  have B6:Hid (Below n w w8):=B5.out.trans (B8.mono (Nat.le_of_lt (blk_lt L5.out)))
  have HS:Hid (∀ (i j:Int) (z:World),Shown G.1 i j→Calls Try.prog 18 #[.agg (fpA G.1),.int .i64 G.2,.int .i64 i,.int .i64 j] z fun e w'=>e=.returned (.bool true)∧Below z.heap.size z w'):=fun i j z h=>by rw [HO.out.err];exact shown_true G.1 i j h z
  have HW:Hid (∀ (k:Nat) (z:World),Without G.1 k→Calls Try.prog 19 #[.agg (fpA G.1),.int .i64 (k:Int)] z fun e w'=>e=.returned (.bool true)∧Below z.heap.size z w'):=fun k z h=>without_true G.1 k h z
  clear s1 s2 s3 s4 B8 L5 B5 a0 K4 K5
  generalize hm:w7.heap.size=m at *
  clear hm
  go_wp2_with fail
  go_loopw [19] (fun i wr=>∃ k:Nat,k≤T.size+1∧i=.int .i64 k∧wr=w8∧Hid (∀ q,q<k→Mt.firstOf T q a.data.toList b.data.toList c.data.toList<0)) (fun i _=>T.size+1-(intOf i).toNat)
  case atStart=>exact ⟨0,by omega,rfl,rfl,fun q h=>by omega⟩
  case round =>
   obtain ⟨k,hk,rfl,rfl,HQ⟩:=hrel
   by_cases hle:k≤T.size
   ·have hle':(k:Int)≤(T.size:Int):=by omega
    have KK:Hid (Calls Try.prog 17 #[.string T,.int .i64 (k:Int),.slice (some ⟨n,0,none⟩) 3 3] wr fun e w'=>e=.returned (.int .i64 (Mt.firstOf T k a.data.toList b.data.toList c.data.toList))∧w'=wr):=KF.out k wr n 3 hle HL6.out
    have HH:=HO.out.hit k hle HQ.out
    have HX:Hid (∀ q,q<k→Mt.firstOf T q a.data.toList b.data.toList c.data.toList<0):=HQ.out
    have h3:=firstOf_lt T k a.data.toList b.data.toList c.data.toList
    have HY:Hid (Mt.firstOf T k a.data.toList b.data.toList c.data.toList<0→∀ q,q<k+1→Mt.firstOf T q a.data.toList b.data.toList c.data.toList<0):=fun h q hq=>by
     by_cases e:q<k
     ·exact HX.out q e
     ·have:q=k:=by omega
      subst this;exact h
    clear HQ HX
    generalize Mt.firstOf T k a.data.toList b.data.toList c.data.toList=f at *
    by_cases hneg:f<0
    ·have d1:decide ((0:Int)≤f)=false:=by rw [decide_eq_false_iff_not];omega
     have HY2:Hid _:=HY.out hneg
     clear HY hneg HH h3
     go_wp2_with fail
     refine KK.out.mono ?_
     rintro e w' ⟨rfl,rfl⟩
     go_wp2_with fail
     go_roundw
     case rel=>exact ⟨k+1,by omega,by go_num,trivial,HY2⟩
     case measure=>simp [intOf];omega
    ·have d1:decide ((0:Int)≤f)=true:=by rw [decide_eq_true_eq];omega
     have hf3:f=0∨f=1∨f=2:=by omega
     clear d1
     rcases hf3 with rfl | rfl | rfl
     ·skip
      obtain ⟨g1,g2,g3,g4⟩:=HH 0 rfl
      have hl:(Mt.nth3 ((0:Nat):Int) a.data.toList b.data.toList c.data.toList).length=a.size:=by simp [Mt.nth3]
      rw [hl] at g1 g4
      have G1:Hid (Shown G.1 (k:Int) ((k:Int)+(a.size:Int))):=g1
      have G2:Hid (Without G.1 (0+1)):=g2
      have G3:Hid (G.1.at'.getD (2*0+2) 0=(k:Int)):=g3
      have G4:Hid (G.1.at'.getD (2*0+3) 0=(k:Int)+(a.size:Int)):=g4
      clear g1 g2 g3 g4 hl HH HY hneg h3
      go_wp2_with fail
      refine KK.out.mono ?_
      rintro e w' ⟨rfl,rfl⟩
      go_upto_region 10 with fail
      go_cut [21] (fun vp wx=>vp=.bool true∧wx.heap[n]?=some (.cells #[.string a,.string b,.string c] 9 (0,0))∧wx.heap[m]?=some (.cells (fpA G.1) 39 (0,0))∧Below n w wx)
      case first =>
       have ra:∀ z:World,(z.heap[n]?=some (.cells #[.string a,.string b,.string c] 9 (0,0))∧z.heap[m]?=some (.cells (fpA G.1) 39 (0,0))∧Below n w z)→z.rangeAt m 0 (fpA G.1).toList:=fun z hz=>rangeAt_blk hz.2.1
       have eA:(fpA G.1).toList.toArray=fpA G.1:=by simp
       refine wp_region_held_drew (S:=fun z:World=>z.heap[n]?=some (.cells #[.string a,.string b,.string c] 9 (0,0))∧z.heap[m]?=some (.cells (fpA G.1) 39 (0,0))∧Below n w z) (by kernel_rfl) ⟨HL6.out,HF6.out,B6.out.trans (Below.refl _ _).drew⟩ (fun hH=>?_)
       refine takeAt 0 74 (.agg (fpA G.1).toList.toArray) rfl rfl (by kernel_rfl) (by kernel_rfl) (by kernel_rfl) (fun _ _ _ h=>h) (yieldsIf_load_mid (by rfl) _ _ rfl _ _ rfl _ _ ra Try.underlying39 rfl (by rw [Try.sizeFd];simp [z0])) hH ?_
       simp only [Act.put,List.setIfInBounds_toArray,List.set_cons_zero,List.set_cons_succ]
       refine takeAt 1 75 (.int .i64 G.2) rfl rfl (by kernel_rfl) (by kernel_rfl) (by kernel_rfl) (fun _ _ _ h=>h) (Or.inl ⟨by rfl,fun z hz=>by clear hz ra eA;go_simp⟩) hH ?_
       simp only [Act.put,List.setIfInBounds_toArray,List.set_cons_zero,List.set_cons_succ]
       refine takeAt 2 76 (.int .i64 (k:Int)) rfl rfl (by kernel_rfl) (by kernel_rfl) (by kernel_rfl) (fun _ _ _ h=>h) (Or.inl ⟨by rfl,fun z hz=>by clear hz ra eA;go_simp⟩) hH ?_
       simp only [Act.put,List.setIfInBounds_toArray,List.set_cons_zero,List.set_cons_succ]
       refine takeAt 3 77 (.int .i64 (k:Int)) rfl rfl (by kernel_rfl) (by kernel_rfl) (by kernel_rfl) (fun _ _ _ h=>h) (Or.inl ⟨by rfl,fun z hz=>by clear hz ra eA;go_simp⟩) hH ?_
       simp only [Act.put,List.setIfInBounds_toArray,List.set_cons_zero,List.set_cons_succ]
       refine takeAt 4 78 (.slice (some ⟨n,0,none⟩) 3 3) rfl rfl (by kernel_rfl) (by kernel_rfl) (by kernel_rfl) (fun _ _ _ h=>h) (Or.inl ⟨by rfl,fun z hz=>by clear hz ra eA;go_simp⟩) hH ?_
       simp only [Act.put,List.setIfInBounds_toArray,List.set_cons_zero,List.set_cons_succ]
       refine takeAt 5 79 (.int .i64 0) rfl rfl (by kernel_rfl) (by kernel_rfl) (by kernel_rfl) (fun _ _ _ h=>h) (Or.inl ⟨by rfl,fun z hz=>by clear hz ra eA;go_simp⟩) hH ?_
       simp only [Act.put,List.setIfInBounds_toArray,List.set_cons_zero,List.set_cons_succ]
       refine takeAt 6 80 (.pointer (some ⟨n,0,none⟩)) rfl rfl (by kernel_rfl) (by kernel_rfl) (by kernel_rfl) (fun _ _ _ h=>h) (Or.inl ⟨by rfl,fun z hz=>by clear hz ra eA;go_simp⟩) hH ?_
       simp only [Act.put,List.setIfInBounds_toArray,List.set_cons_zero,List.set_cons_succ]
       refine takeAt 7 81 (.string a) rfl rfl (by kernel_rfl) (by kernel_rfl) (by kernel_rfl) (fun _ _ _ h=>h) (Or.inl ⟨by rfl,fun z hz=>by have c0:z.cell? ⟨n,0,none⟩=some (.string a):=(cell_block hz.1).1 0;clear hz ra eA;go_simp⟩) hH ?_
       simp only [Act.put,List.setIfInBounds_toArray,List.set_cons_zero,List.set_cons_succ]
       refine takeAt 8 82 (.int .i64 (a.size:Int)) rfl rfl (by kernel_rfl) (by kernel_rfl) (by kernel_rfl) (fun _ _ _ h=>h) (Or.inl ⟨by rfl,fun z hz=>by clear hz ra eA;go_simp⟩) hH ?_
       simp only [Act.put,List.setIfInBounds_toArray,List.set_cons_zero,List.set_cons_succ]
       refine takeAt 9 83 (.int .i64 ((k:Int)+(a.size:Int))) rfl rfl (by kernel_rfl) (by kernel_rfl) (by kernel_rfl) (fun _ _ _ h=>h) (Or.inl ⟨by rfl,fun z hz=>by clear hz ra eA;go_simp <;> (try rw [IntKind.wrap_i64]) <;> (try omega)⟩) hH ?_
       simp only [Act.put,List.setIfInBounds_toArray,List.set_cons_zero,List.set_cons_succ]
       rw [eA]
       refine wpAnyH_ready (rs:=[10]) (by kernel_rfl) (by simp) ?_
       refine AllReadyH.cons rfl (fun K hK=>?_) AllReadyH.nil
       clear ra eA
       have HHH:Hid _:=hH
       clear hH
       go_simp
       refine (HS.out _ _ _ G1.out).mono ?_
       rintro e w9 ⟨rfl,hb9⟩
       go_simp
       refine hK.out _ _ ⟨blk_keep HHH.out.1 hb9,blk_keep HHH.out.2.1 hb9,HHH.out.2.2.trans (hb9.mono (Nat.le_of_lt (blk_lt HHH.out.1)))⟩ (fun hH9=>?_)
       clear hK K
       refine takeAt 11 21 (.bool true) rfl rfl (by kernel_rfl) (by kernel_rfl) (by kernel_rfl) (fun _ _ _ h=>h) (Or.inl ⟨by rfl,fun z hz=>by clear hz;go_simp⟩) hH9 ?_
       simp only [Act.put,List.setIfInBounds_toArray,List.set_cons_zero,List.set_cons_succ]
       refine wpAnyH_done (by kernel_rfl) ?_ _
       go_wp2_with fail
       go_meet
       case rel=>exact ⟨rfl,hH9⟩
      case rest =>
       obtain ⟨rfl,L9,F9,B9⟩:=hcut
       have HL9:Hid _:=L9
       have HF9:Hid _:=F9
       have HB9:Hid _:=B9
       clear L9 F9 B9
       have HWj:Hid (∀ z:World,Calls Try.prog 19 #[.agg (fpA G.1),.int .i64 1] z fun e w'=>e=.returned (.bool true)∧Below z.heap.size z w'):=fun z=>HW.out 1 z G2.out
       go_wp2_with (refine load_blk 39 22 Try.underlying39 rfl Try.sizeFd (by rfl) (.tmp 17) (by rfl) m (by rfl) HF9.out z0 ?_)
       refine (HWj.out _).mono ?_
       rintro e w11 ⟨rfl,hb11⟩
       have L11:=blk_keep HL9.out hb11
       have F11:=blk_keep HF9.out hb11
       have HB11:Hid (Below n w w11):=HB9.out.trans (hb11.mono (Nat.le_of_lt (blk_lt HL9.out)))
       have c0:w11.cell? ⟨n,0,none⟩=some (.string a):=(cell_block L11).1 0
       have c2:w11.cell? ⟨m,3,none⟩=some (.int .i64 (k:Int)):=((cell_block F11).1 3).trans ((fpA_get G.1 HO.out.len 2 (by omega)).trans (congrArg (fun v=>some (Value.int .i64 v)) G3.out))
       have c3:w11.cell? ⟨m,4,none⟩=some (.int .i64 ((k:Int)+(a.size:Int))):=((cell_block F11).1 4).trans ((fpA_get G.1 HO.out.len 3 (by omega)).trans (congrArg (fun v=>some (Value.int .i64 v)) G4.out))
       have e1:((k:Int)==(k:Int))=true:=by simp
       have e2:((k:Int)+(a.size:Int)==(k:Int)+(a.size:Int))=true:=by simp
       clear L11 F11 hb11
       go_wp2_with fail
       go_quiet (fail)
       go_wp2_with fail
       go_ret
       exact ⟨rfl,by rw [hn];exact below_drewN HB11.out _⟩
     ·skip
      obtain ⟨g1,g2,g3,g4⟩:=HH 1 rfl
      have hl:(Mt.nth3 ((1:Nat):Int) a.data.toList b.data.toList c.data.toList).length=b.size:=by simp [Mt.nth3]
      rw [hl] at g1 g4
      have G1:Hid (Shown G.1 (k:Int) ((k:Int)+(b.size:Int))):=g1
      have G2:Hid (Without G.1 (1+1)):=g2
      have G3:Hid (G.1.at'.getD (2*1+2) 0=(k:Int)):=g3
      have G4:Hid (G.1.at'.getD (2*1+3) 0=(k:Int)+(b.size:Int)):=g4
      clear g1 g2 g3 g4 hl HH HY hneg h3
      go_wp2_with fail
      refine KK.out.mono ?_
      rintro e w' ⟨rfl,rfl⟩
      go_upto_region 10 with fail
      go_cut [21] (fun vp wx=>vp=.bool true∧wx.heap[n]?=some (.cells #[.string a,.string b,.string c] 9 (0,0))∧wx.heap[m]?=some (.cells (fpA G.1) 39 (0,0))∧Below n w wx)
      case first =>
       have ra:∀ z:World,(z.heap[n]?=some (.cells #[.string a,.string b,.string c] 9 (0,0))∧z.heap[m]?=some (.cells (fpA G.1) 39 (0,0))∧Below n w z)→z.rangeAt m 0 (fpA G.1).toList:=fun z hz=>rangeAt_blk hz.2.1
       have eA:(fpA G.1).toList.toArray=fpA G.1:=by simp
       refine wp_region_held_drew (S:=fun z:World=>z.heap[n]?=some (.cells #[.string a,.string b,.string c] 9 (0,0))∧z.heap[m]?=some (.cells (fpA G.1) 39 (0,0))∧Below n w z) (by kernel_rfl) ⟨HL6.out,HF6.out,B6.out.trans (Below.refl _ _).drew⟩ (fun hH=>?_)
       refine takeAt 0 74 (.agg (fpA G.1).toList.toArray) rfl rfl (by kernel_rfl) (by kernel_rfl) (by kernel_rfl) (fun _ _ _ h=>h) (yieldsIf_load_mid (by rfl) _ _ rfl _ _ rfl _ _ ra Try.underlying39 rfl (by rw [Try.sizeFd];simp [z0])) hH ?_
       simp only [Act.put,List.setIfInBounds_toArray,List.set_cons_zero,List.set_cons_succ]
       refine takeAt 1 75 (.int .i64 G.2) rfl rfl (by kernel_rfl) (by kernel_rfl) (by kernel_rfl) (fun _ _ _ h=>h) (Or.inl ⟨by rfl,fun z hz=>by clear hz ra eA;go_simp⟩) hH ?_
       simp only [Act.put,List.setIfInBounds_toArray,List.set_cons_zero,List.set_cons_succ]
       refine takeAt 2 76 (.int .i64 (k:Int)) rfl rfl (by kernel_rfl) (by kernel_rfl) (by kernel_rfl) (fun _ _ _ h=>h) (Or.inl ⟨by rfl,fun z hz=>by clear hz ra eA;go_simp⟩) hH ?_
       simp only [Act.put,List.setIfInBounds_toArray,List.set_cons_zero,List.set_cons_succ]
       refine takeAt 3 77 (.int .i64 (k:Int)) rfl rfl (by kernel_rfl) (by kernel_rfl) (by kernel_rfl) (fun _ _ _ h=>h) (Or.inl ⟨by rfl,fun z hz=>by clear hz ra eA;go_simp⟩) hH ?_
       simp only [Act.put,List.setIfInBounds_toArray,List.set_cons_zero,List.set_cons_succ]
       refine takeAt 4 78 (.slice (some ⟨n,0,none⟩) 3 3) rfl rfl (by kernel_rfl) (by kernel_rfl) (by kernel_rfl) (fun _ _ _ h=>h) (Or.inl ⟨by rfl,fun z hz=>by clear hz ra eA;go_simp⟩) hH ?_
       simp only [Act.put,List.setIfInBounds_toArray,List.set_cons_zero,List.set_cons_succ]
       refine takeAt 5 79 (.int .i64 1) rfl rfl (by kernel_rfl) (by kernel_rfl) (by kernel_rfl) (fun _ _ _ h=>h) (Or.inl ⟨by rfl,fun z hz=>by clear hz ra eA;go_simp⟩) hH ?_
       simp only [Act.put,List.setIfInBounds_toArray,List.set_cons_zero,List.set_cons_succ]
       refine takeAt 6 80 (.pointer (some ⟨n,1,none⟩)) rfl rfl (by kernel_rfl) (by kernel_rfl) (by kernel_rfl) (fun _ _ _ h=>h) (Or.inl ⟨by rfl,fun z hz=>by clear hz ra eA;go_simp⟩) hH ?_
       simp only [Act.put,List.setIfInBounds_toArray,List.set_cons_zero,List.set_cons_succ]
       refine takeAt 7 81 (.string b) rfl rfl (by kernel_rfl) (by kernel_rfl) (by kernel_rfl) (fun _ _ _ h=>h) (Or.inl ⟨by rfl,fun z hz=>by have c0:z.cell? ⟨n,1,none⟩=some (.string b):=(cell_block hz.1).1 1;clear hz ra eA;go_simp⟩) hH ?_
       simp only [Act.put,List.setIfInBounds_toArray,List.set_cons_zero,List.set_cons_succ]
       refine takeAt 8 82 (.int .i64 (b.size:Int)) rfl rfl (by kernel_rfl) (by kernel_rfl) (by kernel_rfl) (fun _ _ _ h=>h) (Or.inl ⟨by rfl,fun z hz=>by clear hz ra eA;go_simp⟩) hH ?_
       simp only [Act.put,List.setIfInBounds_toArray,List.set_cons_zero,List.set_cons_succ]
       refine takeAt 9 83 (.int .i64 ((k:Int)+(b.size:Int))) rfl rfl (by kernel_rfl) (by kernel_rfl) (by kernel_rfl) (fun _ _ _ h=>h) (Or.inl ⟨by rfl,fun z hz=>by clear hz ra eA;go_simp <;> (try rw [IntKind.wrap_i64]) <;> (try omega)⟩) hH ?_
       simp only [Act.put,List.setIfInBounds_toArray,List.set_cons_zero,List.set_cons_succ]
       rw [eA]
       refine wpAnyH_ready (rs:=[10]) (by kernel_rfl) (by simp) ?_
       refine AllReadyH.cons rfl (fun K hK=>?_) AllReadyH.nil
       clear ra eA
       have HHH:Hid _:=hH
       clear hH
       go_simp
       refine (HS.out _ _ _ G1.out).mono ?_
       rintro e w9 ⟨rfl,hb9⟩
       go_simp
       refine hK.out _ _ ⟨blk_keep HHH.out.1 hb9,blk_keep HHH.out.2.1 hb9,HHH.out.2.2.trans (hb9.mono (Nat.le_of_lt (blk_lt HHH.out.1)))⟩ (fun hH9=>?_)
       clear hK K
       refine takeAt 11 21 (.bool true) rfl rfl (by kernel_rfl) (by kernel_rfl) (by kernel_rfl) (fun _ _ _ h=>h) (Or.inl ⟨by rfl,fun z hz=>by clear hz;go_simp⟩) hH9 ?_
       simp only [Act.put,List.setIfInBounds_toArray,List.set_cons_zero,List.set_cons_succ]
       refine wpAnyH_done (by kernel_rfl) ?_ _
       go_wp2_with fail
       go_meet
       case rel=>exact ⟨rfl,hH9⟩
      case rest =>
       obtain ⟨rfl,L9,F9,B9⟩:=hcut
       have HL9:Hid _:=L9
       have HF9:Hid _:=F9
       have HB9:Hid _:=B9
       clear L9 F9 B9
       have HWj:Hid (∀ z:World,Calls Try.prog 19 #[.agg (fpA G.1),.int .i64 2] z fun e w'=>e=.returned (.bool true)∧Below z.heap.size z w'):=fun z=>HW.out 2 z G2.out
       go_wp2_with (refine load_blk 39 22 Try.underlying39 rfl Try.sizeFd (by rfl) (.tmp 17) (by rfl) m (by rfl) HF9.out z0 ?_)
       refine (HWj.out _).mono ?_
       rintro e w11 ⟨rfl,hb11⟩
       have L11:=blk_keep HL9.out hb11
       have F11:=blk_keep HF9.out hb11
       have HB11:Hid (Below n w w11):=HB9.out.trans (hb11.mono (Nat.le_of_lt (blk_lt HL9.out)))
       have c0:w11.cell? ⟨n,1,none⟩=some (.string b):=(cell_block L11).1 1
       have c2:w11.cell? ⟨m,5,none⟩=some (.int .i64 (k:Int)):=((cell_block F11).1 5).trans ((fpA_get G.1 HO.out.len 4 (by omega)).trans (congrArg (fun v=>some (Value.int .i64 v)) G3.out))
       have c3:w11.cell? ⟨m,6,none⟩=some (.int .i64 ((k:Int)+(b.size:Int))):=((cell_block F11).1 6).trans ((fpA_get G.1 HO.out.len 5 (by omega)).trans (congrArg (fun v=>some (Value.int .i64 v)) G4.out))
       have e1:((k:Int)==(k:Int))=true:=by simp
       have e2:((k:Int)+(b.size:Int)==(k:Int)+(b.size:Int))=true:=by simp
       clear L11 F11 hb11
       go_wp2_with fail
       go_quiet (fail)
       go_wp2_with fail
       go_ret
       exact ⟨rfl,by rw [hn];exact below_drewN HB11.out _⟩
     ·skip
      obtain ⟨g1,g2,g3,g4⟩:=HH 2 rfl
      have hl:(Mt.nth3 ((2:Nat):Int) a.data.toList b.data.toList c.data.toList).length=c.size:=by simp [Mt.nth3]
      rw [hl] at g1 g4
      have G1:Hid (Shown G.1 (k:Int) ((k:Int)+(c.size:Int))):=g1
      have G2:Hid (Without G.1 (2+1)):=g2
      have G3:Hid (G.1.at'.getD (2*2+2) 0=(k:Int)):=g3
      have G4:Hid (G.1.at'.getD (2*2+3) 0=(k:Int)+(c.size:Int)):=g4
      clear g1 g2 g3 g4 hl HH HY hneg h3
      go_wp2_with fail
      refine KK.out.mono ?_
      rintro e w' ⟨rfl,rfl⟩
      go_upto_region 10 with fail
      go_cut [21] (fun vp wx=>vp=.bool true∧wx.heap[n]?=some (.cells #[.string a,.string b,.string c] 9 (0,0))∧wx.heap[m]?=some (.cells (fpA G.1) 39 (0,0))∧Below n w wx)
      case first =>
       have ra:∀ z:World,(z.heap[n]?=some (.cells #[.string a,.string b,.string c] 9 (0,0))∧z.heap[m]?=some (.cells (fpA G.1) 39 (0,0))∧Below n w z)→z.rangeAt m 0 (fpA G.1).toList:=fun z hz=>rangeAt_blk hz.2.1
       have eA:(fpA G.1).toList.toArray=fpA G.1:=by simp
       refine wp_region_held_drew (S:=fun z:World=>z.heap[n]?=some (.cells #[.string a,.string b,.string c] 9 (0,0))∧z.heap[m]?=some (.cells (fpA G.1) 39 (0,0))∧Below n w z) (by kernel_rfl) ⟨HL6.out,HF6.out,B6.out.trans (Below.refl _ _).drew⟩ (fun hH=>?_)
       refine takeAt 0 74 (.agg (fpA G.1).toList.toArray) rfl rfl (by kernel_rfl) (by kernel_rfl) (by kernel_rfl) (fun _ _ _ h=>h) (yieldsIf_load_mid (by rfl) _ _ rfl _ _ rfl _ _ ra Try.underlying39 rfl (by rw [Try.sizeFd];simp [z0])) hH ?_
       simp only [Act.put,List.setIfInBounds_toArray,List.set_cons_zero,List.set_cons_succ]
       refine takeAt 1 75 (.int .i64 G.2) rfl rfl (by kernel_rfl) (by kernel_rfl) (by kernel_rfl) (fun _ _ _ h=>h) (Or.inl ⟨by rfl,fun z hz=>by clear hz ra eA;go_simp⟩) hH ?_
       simp only [Act.put,List.setIfInBounds_toArray,List.set_cons_zero,List.set_cons_succ]
       refine takeAt 2 76 (.int .i64 (k:Int)) rfl rfl (by kernel_rfl) (by kernel_rfl) (by kernel_rfl) (fun _ _ _ h=>h) (Or.inl ⟨by rfl,fun z hz=>by clear hz ra eA;go_simp⟩) hH ?_
       simp only [Act.put,List.setIfInBounds_toArray,List.set_cons_zero,List.set_cons_succ]
       refine takeAt 3 77 (.int .i64 (k:Int)) rfl rfl (by kernel_rfl) (by kernel_rfl) (by kernel_rfl) (fun _ _ _ h=>h) (Or.inl ⟨by rfl,fun z hz=>by clear hz ra eA;go_simp⟩) hH ?_
       simp only [Act.put,List.setIfInBounds_toArray,List.set_cons_zero,List.set_cons_succ]
       refine takeAt 4 78 (.slice (some ⟨n,0,none⟩) 3 3) rfl rfl (by kernel_rfl) (by kernel_rfl) (by kernel_rfl) (fun _ _ _ h=>h) (Or.inl ⟨by rfl,fun z hz=>by clear hz ra eA;go_simp⟩) hH ?_
       simp only [Act.put,List.setIfInBounds_toArray,List.set_cons_zero,List.set_cons_succ]
       refine takeAt 5 79 (.int .i64 2) rfl rfl (by kernel_rfl) (by kernel_rfl) (by kernel_rfl) (fun _ _ _ h=>h) (Or.inl ⟨by rfl,fun z hz=>by clear hz ra eA;go_simp⟩) hH ?_
       simp only [Act.put,List.setIfInBounds_toArray,List.set_cons_zero,List.set_cons_succ]
       refine takeAt 6 80 (.pointer (some ⟨n,2,none⟩)) rfl rfl (by kernel_rfl) (by kernel_rfl) (by kernel_rfl) (fun _ _ _ h=>h) (Or.inl ⟨by rfl,fun z hz=>by clear hz ra eA;go_simp⟩) hH ?_
       simp only [Act.put,List.setIfInBounds_toArray,List.set_cons_zero,List.set_cons_succ]
       refine takeAt 7 81 (.string c) rfl rfl (by kernel_rfl) (by kernel_rfl) (by kernel_rfl) (fun _ _ _ h=>h) (Or.inl ⟨by rfl,fun z hz=>by have c0:z.cell? ⟨n,2,none⟩=some (.string c):=(cell_block hz.1).1 2;clear hz ra eA;go_simp⟩) hH ?_
       simp only [Act.put,List.setIfInBounds_toArray,List.set_cons_zero,List.set_cons_succ]
       refine takeAt 8 82 (.int .i64 (c.size:Int)) rfl rfl (by kernel_rfl) (by kernel_rfl) (by kernel_rfl) (fun _ _ _ h=>h) (Or.inl ⟨by rfl,fun z hz=>by clear hz ra eA;go_simp⟩) hH ?_
       simp only [Act.put,List.setIfInBounds_toArray,List.set_cons_zero,List.set_cons_succ]
       refine takeAt 9 83 (.int .i64 ((k:Int)+(c.size:Int))) rfl rfl (by kernel_rfl) (by kernel_rfl) (by kernel_rfl) (fun _ _ _ h=>h) (Or.inl ⟨by rfl,fun z hz=>by clear hz ra eA;go_simp <;> (try rw [IntKind.wrap_i64]) <;> (try omega)⟩) hH ?_
       simp only [Act.put,List.setIfInBounds_toArray,List.set_cons_zero,List.set_cons_succ]
       rw [eA]
       refine wpAnyH_ready (rs:=[10]) (by kernel_rfl) (by simp) ?_
       refine AllReadyH.cons rfl (fun K hK=>?_) AllReadyH.nil
       clear ra eA
       have HHH:Hid _:=hH
       clear hH
       go_simp
       refine (HS.out _ _ _ G1.out).mono ?_
       rintro e w9 ⟨rfl,hb9⟩
       go_simp
       refine hK.out _ _ ⟨blk_keep HHH.out.1 hb9,blk_keep HHH.out.2.1 hb9,HHH.out.2.2.trans (hb9.mono (Nat.le_of_lt (blk_lt HHH.out.1)))⟩ (fun hH9=>?_)
       clear hK K
       refine takeAt 11 21 (.bool true) rfl rfl (by kernel_rfl) (by kernel_rfl) (by kernel_rfl) (fun _ _ _ h=>h) (Or.inl ⟨by rfl,fun z hz=>by clear hz;go_simp⟩) hH9 ?_
       simp only [Act.put,List.setIfInBounds_toArray,List.set_cons_zero,List.set_cons_succ]
       refine wpAnyH_done (by kernel_rfl) ?_ _
       go_wp2_with fail
       go_meet
       case rel=>exact ⟨rfl,hH9⟩
      case rest =>
       obtain ⟨rfl,L9,F9,B9⟩:=hcut
       have HL9:Hid _:=L9
       have HF9:Hid _:=F9
       have HB9:Hid _:=B9
       clear L9 F9 B9
       have HWj:Hid (∀ z:World,Calls Try.prog 19 #[.agg (fpA G.1),.int .i64 3] z fun e w'=>e=.returned (.bool true)∧Below z.heap.size z w'):=fun z=>HW.out 3 z G2.out
       go_wp2_with (refine load_blk 39 22 Try.underlying39 rfl Try.sizeFd (by rfl) (.tmp 17) (by rfl) m (by rfl) HF9.out z0 ?_)
       refine (HWj.out _).mono ?_
       rintro e w11 ⟨rfl,hb11⟩
       have L11:=blk_keep HL9.out hb11
       have F11:=blk_keep HF9.out hb11
       have HB11:Hid (Below n w w11):=HB9.out.trans (hb11.mono (Nat.le_of_lt (blk_lt HL9.out)))
       have c0:w11.cell? ⟨n,2,none⟩=some (.string c):=(cell_block L11).1 2
       have c2:w11.cell? ⟨m,7,none⟩=some (.int .i64 (k:Int)):=((cell_block F11).1 7).trans ((fpA_get G.1 HO.out.len 6 (by omega)).trans (congrArg (fun v=>some (Value.int .i64 v)) G3.out))
       have c3:w11.cell? ⟨m,8,none⟩=some (.int .i64 ((k:Int)+(c.size:Int))):=((cell_block F11).1 8).trans ((fpA_get G.1 HO.out.len 7 (by omega)).trans (congrArg (fun v=>some (Value.int .i64 v)) G4.out))
       have e1:((k:Int)==(k:Int))=true:=by simp
       have e2:((k:Int)+(c.size:Int)==(k:Int)+(c.size:Int))=true:=by simp
       clear L11 F11 hb11
       go_wp2_with fail
       go_quiet (fail)
       go_wp2_with fail
       go_ret
       exact ⟨rfl,by rw [hn];exact below_drewN HB11.out _⟩
   ·have hle':¬ (k:Int)≤(T.size:Int):=by omega
    obtain ⟨g1,g2⟩:=HO.out.miss (fun q hq=>HQ.out q (by omega))
    have G1:Hid (Shown G.1 (-1) (-1)):=g1
    have G2:Hid (Without G.1 0):=g2
    clear HQ g1 g2
    go_wp2_with (refine load_blk 39 22 Try.underlying39 rfl Try.sizeFd (by rfl) (.tmp 17) (by rfl) m (by rfl) HF6.out z0 ?_)
    refine (HS.out _ _ _ G1.out).mono ?_
    rintro e w9 ⟨rfl,hb9⟩
    have HF7:Hid _:=blk_keep HF6.out hb9
    have HL7:Hid _:=blk_keep HL6.out hb9
    have B7:Hid (Below n w w9):=B6.out.trans (hb9.mono (Nat.le_of_lt (blk_lt HL6.out)))
    clear hb9
    go_wp2_with (refine load_blk 39 22 Try.underlying39 rfl Try.sizeFd (by rfl) (.tmp 17) (by rfl) m (by rfl) HF7.out z0 ?_)
    refine (HW.out 0 _ G2.out).mono ?_
    rintro e w10 ⟨rfl,hb10⟩
    have B8:Hid (Below n w w10):=B7.out.trans (hb10.mono (Nat.le_of_lt (blk_lt HL7.out)))
    clear hb10
    go_wp2_with fail
    go_ret
    exact ⟨rfl,by rw [hn];exact B8.out⟩
end Go.Proofs.Ytebpgfodelggoaa
