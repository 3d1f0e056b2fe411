import Derived.Test.YtebpgfodelggoaaGreatDoorC51
set_option linter.unusedVariables false
set_option linter.unusedSimpArgs false
set_option maxRecDepth 100000
set_option maxHeartbeats 4000000
namespace Go.Proofs.YtebpgfodelggoaaGreatDoor
open Go.RowKit
theorem count_cases' (t:ByteArray) (w:List UInt8) (n:Nat) (m how:Int) (i:Nat):Mt.countAt t w n m how i=if n≤Mt.timesN t w t.size i then some (Mt.taken n m (decide (how=1)) (Mt.timesN t w t.size i)*w.length) else none:=rfl
theorem counted_o0_cat (q:List UInt8) (n:Nat):((((((⟨#[40,63,58]⟩:ByteArray)++⟨(Mt.quoteL q).toArray⟩)++⟨#[41,123]⟩)++⟨(Mt.digL n).toArray⟩)++⟨#[44]⟩))++⟨#[125]⟩=Mt.bp (Mt.countL q n (-1) 0):=by
 apply ByteArray.ext
 have e1:Mt.moodL 0=[]:=rfl
 have e2:Mt.maxL (-1)=[]:=rfl
 simp [Mt.bp,Mt.countL,ByteArray.data_append,e1,e2]
theorem counted_o0 (q t:ByteArray) (n:Nat) (w:World) (ht:t.size≤60) (hq:q.size≤6) (hq0:1≤q.size) (hn:n≤20) :
  Calls Tryz.prog 6 #[.string q,.int .i64 (n:Int),.int .i64 (-1),.int .i64 0,.string t] w fun e w'=>∃ a b:Int,e=.returned (.tuple #[.string (Mt.bp (Mt.countL q.data.toList n (-1) 0)),.int .i64 a,.int .i64 b])∧FirstAB t (Mt.countAt t q.data.toList n (-1) 0) a b∧Below w.heap.size w w':=by
 have lq:q.data.toList.length=q.size:=by simp
 have HF:Hid (∀ i,i≤t.size→Mt.countAt t q.data.toList n (-1) 0 i=if n≤Mt.timesN t q.data.toList t.size i then some (Mt.taken n (-1) false (Mt.timesN t q.data.toList t.size i)*q.size) else none):=fun i hi=>by rw [count_cases',lq];rfl
 generalize Mt.countAt t q.data.toList n (-1) 0=f at *
 have KQ:Hid (∀ z:World,Calls Tryz.prog 11 #[.string q] z fun e w'=>e=.returned (.string ⟨(Mt.quoteL q.data.toList).toArray⟩)∧Below z.heap.size z w'):=fun z=>quote_any q z (by omega)
 have KN:Hid (∀ z:World,Calls Tryz.prog 12 #[.int .i64 (n:Int)] z fun e w'=>e=.returned (.string ⟨(Mt.digL n).toArray⟩)∧w'=z):=fun z=>itoa_any n hn z
 have KT:Hid (∀ (i:Nat) (z:World),i≤t.size→Calls Tryz.prog 13 #[.string t,.int .i64 (i:Int),.string q] z fun e w'=>e=.returned (.int .i64 ((Mt.timesN t q.data.toList t.size i:Nat):Int))∧w'=z):=fun i z hi=>times_any t q i z ht hq hq0 hi
 have HC:Hid (∀ i,Mt.timesN t q.data.toList t.size i≤60):=fun i=>Nat.le_trans (Mt.timesN_le t _ _ i) ht
 have HP:Hid _:=counted_o0_cat q.data.toList n
 have qa:=Mt.quoteL_len q.data.toList
 have da:=Mt.digL_len n
 have sA:(⟨(Mt.quoteL q.data.toList).toArray⟩:ByteArray).size≤12:=by show (Mt.bp _).size≤_;rw [Mt.bp_size];omega
 have sD:(⟨(Mt.digL n).toArray⟩:ByteArray).size≤2:=by show (Mt.bp _).size≤_;rw [Mt.bp_size];omega
 generalize (⟨(Mt.quoteL q.data.toList).toArray⟩:ByteArray)=A at *
 generalize (⟨(Mt.digL n).toArray⟩:ByteArray)=D at *
 generalize Mt.bp (Mt.countL q.data.toList n (-1) 0)=pt at *
 clear qa da lq
 go_enter Tryz.func6,Tryz.ntmps6
 go_wp2_with fail
 refine (KQ.out _).mono ?_
 rintro e w1 ⟨rfl,hb1⟩
 have B1:Hid (Below w.heap.size w w1):=hb1
 clear hb1
 go_wp2_with fail
 refine (KN.out _).mono ?_
 rintro e w' ⟨rfl,rfl⟩
 go_wp2_with fail
 go_loopw [14] (fun i wr=>∃ k:Nat,k≤t.size+1∧i=.int .i64 k∧wr=w'∧Hid (∀ q,q<k→f q=none)) (fun i _=>t.size+1-(intOf i).toNat)
 case atStart=>exact ⟨0,by omega,rfl,rfl,fun q h=>by omega⟩
 case round =>
  obtain ⟨k,hk,rfl,rfl,HQ⟩:=hrel
  by_cases hle:k≤t.size
  ·have hle':(k:Int)≤(t.size:Int):=by omega
   have KK:Hid (∀ z:World,Calls Tryz.prog 13 #[.string t,.int .i64 (k:Int),.string q] z fun e w'=>e=.returned (.int .i64 ((Mt.timesN t q.data.toList t.size k:Nat):Int))∧w'=z):=fun z=>KT.out k z hle
   have hfk:=HF.out k hle
   have hc60:=HC.out k
   generalize Mt.timesN t q.data.toList t.size k=c at *
   by_cases hnc:n≤c
   ·have d1:decide ((n:Int)≤(c:Int))=true:=by rw [decide_eq_true_eq];omega
    rw [if_pos hnc] at hfk
    have ev:Mt.taken n (-1) false c=c:=by unfold Mt.taken;rw [if_neg (by simp),if_neg (by omega)]
    have HH:Hid (f k=some (c*q.size)):=by show _=_;rw [hfk,ev]
    have hm1:(c)*q.size≤60*6:=Nat.mul_le_mul (by omega) hq
    have hm2:(((c)*q.size:Nat):Int)=((c:Nat):Int)*(q.size:Int):=by push_cast;rfl
    clear hfk ev
    go_wp2_with fail
    refine (KK.out _).mono ?_
    rintro e w' ⟨rfl,rfl⟩
    go_wp2_with fail
    go_ret3
    exact ⟨(k:Int),(k:Int)+(c:Int)*(q.size:Int),by first | rfl | (rw [HP.out];rfl),.inl ⟨k,c*q.size,hle,HQ.out,HH.out,rfl,by push_cast;rfl⟩,B1.out⟩
   ·have d1:decide ((n:Int)≤(c:Int))=false:=by rw [decide_eq_false_iff_not];omega
    rw [if_neg hnc] at hfk
    have HN:Hid (∀ q,q<k+1→f q=none):=none_next HQ.out hfk
    clear hfk HQ
    go_wp2_with fail
    refine (KK.out _).mono ?_
    rintro e w' ⟨rfl,rfl⟩
    go_wp2_with fail
    go_roundw
    case rel=>exact ⟨k+1,by omega,by go_num,trivial,HN⟩
    case measure=>simp [intOf];omega
  ·have hle':¬ (k:Int)≤(t.size:Int):=by omega
   go_wp2_with fail
   go_ret3
   exact ⟨-1,-1,by first | rfl | (rw [HP.out];rfl),.inr ⟨fun q hq=>HQ.out q (by omega),rfl,rfl⟩,B1.out⟩
theorem counted_o1_cat (q:List UInt8) (n:Nat):(((((((⟨#[40,63,58]⟩:ByteArray)++⟨(Mt.quoteL q).toArray⟩)++⟨#[41,123]⟩)++⟨(Mt.digL n).toArray⟩)++⟨#[44]⟩))++⟨#[125]⟩)++⟨#[63]⟩=Mt.bp (Mt.countL q n (-1) 1):=by
 apply ByteArray.ext
 have e1:Mt.moodL 1=[63]:=rfl
 have e2:Mt.maxL (-1)=[]:=rfl
 simp [Mt.bp,Mt.countL,ByteArray.data_append,e1,e2]
theorem counted_o1 (q t:ByteArray) (n:Nat) (w:World) (ht:t.size≤60) (hq:q.size≤6) (hq0:1≤q.size) (hn:n≤20) :
  Calls Tryz.prog 6 #[.string q,.int .i64 (n:Int),.int .i64 (-1),.int .i64 1,.string t] w fun e w'=>∃ a b:Int,e=.returned (.tuple #[.string (Mt.bp (Mt.countL q.data.toList n (-1) 1)),.int .i64 a,.int .i64 b])∧FirstAB t (Mt.countAt t q.data.toList n (-1) 1) a b∧Below w.heap.size w w':=by
 have lq:q.data.toList.length=q.size:=by simp
 have HF:Hid (∀ i,i≤t.size→Mt.countAt t q.data.toList n (-1) 1 i=if n≤Mt.timesN t q.data.toList t.size i then some (Mt.taken n (-1) true (Mt.timesN t q.data.toList t.size i)*q.size) else none):=fun i hi=>by rw [count_cases',lq];rfl
 generalize Mt.countAt t q.data.toList n (-1) 1=f at *
 have KQ:Hid (∀ z:World,Calls Tryz.prog 11 #[.string q] z fun e w'=>e=.returned (.string ⟨(Mt.quoteL q.data.toList).toArray⟩)∧Below z.heap.size z w'):=fun z=>quote_any q z (by omega)
 have KN:Hid (∀ z:World,Calls Tryz.prog 12 #[.int .i64 (n:Int)] z fun e w'=>e=.returned (.string ⟨(Mt.digL n).toArray⟩)∧w'=z):=fun z=>itoa_any n hn z
 have KT:Hid (∀ (i:Nat) (z:World),i≤t.size→Calls Tryz.prog 13 #[.string t,.int .i64 (i:Int),.string q] z fun e w'=>e=.returned (.int .i64 ((Mt.timesN t q.data.toList t.size i:Nat):Int))∧w'=z):=fun i z hi=>times_any t q i z ht hq hq0 hi
 have HC:Hid (∀ i,Mt.timesN t q.data.toList t.size i≤60):=fun i=>Nat.le_trans (Mt.timesN_le t _ _ i) ht
 have HP:Hid _:=counted_o1_cat q.data.toList n
 have qa:=Mt.quoteL_len q.data.toList
 have da:=Mt.digL_len n
 have sA:(⟨(Mt.quoteL q.data.toList).toArray⟩:ByteArray).size≤12:=by show (Mt.bp _).size≤_;rw [Mt.bp_size];omega
 have sD:(⟨(Mt.digL n).toArray⟩:ByteArray).size≤2:=by show (Mt.bp _).size≤_;rw [Mt.bp_size];omega
 generalize (⟨(Mt.quoteL q.data.toList).toArray⟩:ByteArray)=A at *
 generalize (⟨(Mt.digL n).toArray⟩:ByteArray)=D at *
 generalize Mt.bp (Mt.countL q.data.toList n (-1) 1)=pt at *
 clear qa da lq
 go_enter Tryz.func6,Tryz.ntmps6
 go_wp2_with fail
 refine (KQ.out _).mono ?_
 rintro e w1 ⟨rfl,hb1⟩
 have B1:Hid (Below w.heap.size w w1):=hb1
 clear hb1
 go_wp2_with fail
 refine (KN.out _).mono ?_
 rintro e w' ⟨rfl,rfl⟩
 go_wp2_with fail
 go_loopw [14] (fun i wr=>∃ k:Nat,k≤t.size+1∧i=.int .i64 k∧wr=w'∧Hid (∀ q,q<k→f q=none)) (fun i _=>t.size+1-(intOf i).toNat)
 case atStart=>exact ⟨0,by omega,rfl,rfl,fun q h=>by omega⟩
 case round =>
  obtain ⟨k,hk,rfl,rfl,HQ⟩:=hrel
  by_cases hle:k≤t.size
  ·have hle':(k:Int)≤(t.size:Int):=by omega
   have KK:Hid (∀ z:World,Calls Tryz.prog 13 #[.string t,.int .i64 (k:Int),.string q] z fun e w'=>e=.returned (.int .i64 ((Mt.timesN t q.data.toList t.size k:Nat):Int))∧w'=z):=fun z=>KT.out k z hle
   have hfk:=HF.out k hle
   have hc60:=HC.out k
   generalize Mt.timesN t q.data.toList t.size k=c at *
   by_cases hnc:n≤c
   ·have d1:decide ((n:Int)≤(c:Int))=true:=by rw [decide_eq_true_eq];omega
    rw [if_pos hnc] at hfk
    have ev:Mt.taken n (-1) true c=n:=rfl
    have HH:Hid (f k=some (n*q.size)):=by show _=_;rw [hfk,ev]
    have hm1:(n)*q.size≤60*6:=Nat.mul_le_mul (by omega) hq
    have hm2:(((n)*q.size:Nat):Int)=((n:Nat):Int)*(q.size:Int):=by push_cast;rfl
    clear hfk ev
    go_wp2_with fail
    refine (KK.out _).mono ?_
    rintro e w' ⟨rfl,rfl⟩
    go_wp2_with fail
    go_ret3
    exact ⟨(k:Int),(k:Int)+(n:Int)*(q.size:Int),by first | rfl | (rw [HP.out];rfl),.inl ⟨k,n*q.size,hle,HQ.out,HH.out,rfl,by push_cast;rfl⟩,B1.out⟩
   ·have d1:decide ((n:Int)≤(c:Int))=false:=by rw [decide_eq_false_iff_not];omega
    rw [if_neg hnc] at hfk
    have HN:Hid (∀ q,q<k+1→f q=none):=none_next HQ.out hfk
    clear hfk HQ
    go_wp2_with fail
    refine (KK.out _).mono ?_
    rintro e w' ⟨rfl,rfl⟩
    go_wp2_with fail
    go_roundw
    case rel=>exact ⟨k+1,by omega,by go_num,trivial,HN⟩
    case measure=>simp [intOf];omega
  ·have hle':¬ (k:Int)≤(t.size:Int):=by omega
   go_wp2_with fail
   go_ret3
   exact ⟨-1,-1,by first | rfl | (rw [HP.out];rfl),.inr ⟨fun q hq=>HQ.out q (by omega),rfl,rfl⟩,B1.out⟩
theorem counted_o2_cat (q:List UInt8) (n:Nat):(((((((⟨#[40,63,58]⟩:ByteArray)++⟨(Mt.quoteL q).toArray⟩)++⟨#[41,123]⟩)++⟨(Mt.digL n).toArray⟩)++⟨#[44]⟩))++⟨#[125]⟩)++⟨#[43]⟩=Mt.bp (Mt.countL q n (-1) 2):=by
 apply ByteArray.ext
 have e1:Mt.moodL 2=[43]:=rfl
 have e2:Mt.maxL (-1)=[]:=rfl
 simp [Mt.bp,Mt.countL,ByteArray.data_append,e1,e2]
theorem counted_o2 (q t:ByteArray) (n:Nat) (w:World) (ht:t.size≤60) (hq:q.size≤6) (hq0:1≤q.size) (hn:n≤20) :
  Calls Tryz.prog 6 #[.string q,.int .i64 (n:Int),.int .i64 (-1),.int .i64 2,.string t] w fun e w'=>∃ a b:Int,e=.returned (.tuple #[.string (Mt.bp (Mt.countL q.data.toList n (-1) 2)),.int .i64 a,.int .i64 b])∧FirstAB t (Mt.countAt t q.data.toList n (-1) 2) a b∧Below w.heap.size w w':=by
 have lq:q.data.toList.length=q.size:=by simp
 have HF:Hid (∀ i,i≤t.size→Mt.countAt t q.data.toList n (-1) 2 i=if n≤Mt.timesN t q.data.toList t.size i then some (Mt.taken n (-1) false (Mt.timesN t q.data.toList t.size i)*q.size) else none):=fun i hi=>by rw [count_cases',lq];rfl
 generalize Mt.countAt t q.data.toList n (-1) 2=f at *
 have KQ:Hid (∀ z:World,Calls Tryz.prog 11 #[.string q] z fun e w'=>e=.returned (.string ⟨(Mt.quoteL q.data.toList).toArray⟩)∧Below z.heap.size z w'):=fun z=>quote_any q z (by omega)
 have KN:Hid (∀ z:World,Calls Tryz.prog 12 #[.int .i64 (n:Int)] z fun e w'=>e=.returned (.string ⟨(Mt.digL n).toArray⟩)∧w'=z):=fun z=>itoa_any n hn z
 have KT:Hid (∀ (i:Nat) (z:World),i≤t.size→Calls Tryz.prog 13 #[.string t,.int .i64 (i:Int),.string q] z fun e w'=>e=.returned (.int .i64 ((Mt.timesN t q.data.toList t.size i:Nat):Int))∧w'=z):=fun i z hi=>times_any t q i z ht hq hq0 hi
 have HC:Hid (∀ i,Mt.timesN t q.data.toList t.size i≤60):=fun i=>Nat.le_trans (Mt.timesN_le t _ _ i) ht
 have HP:Hid _:=counted_o2_cat q.data.toList n
 have qa:=Mt.quoteL_len q.data.toList
 have da:=Mt.digL_len n
 have sA:(⟨(Mt.quoteL q.data.toList).toArray⟩:ByteArray).size≤12:=by show (Mt.bp _).size≤_;rw [Mt.bp_size];omega
 have sD:(⟨(Mt.digL n).toArray⟩:ByteArray).size≤2:=by show (Mt.bp _).size≤_;rw [Mt.bp_size];omega
 generalize (⟨(Mt.quoteL q.data.toList).toArray⟩:ByteArray)=A at *
 generalize (⟨(Mt.digL n).toArray⟩:ByteArray)=D at *
 generalize Mt.bp (Mt.countL q.data.toList n (-1) 2)=pt at *
 clear qa da lq
 go_enter Tryz.func6,Tryz.ntmps6
 go_wp2_with fail
 refine (KQ.out _).mono ?_
 rintro e w1 ⟨rfl,hb1⟩
 have B1:Hid (Below w.heap.size w w1):=hb1
 clear hb1
 go_wp2_with fail
 refine (KN.out _).mono ?_
 rintro e w' ⟨rfl,rfl⟩
 go_wp2_with fail
 go_loopw [14] (fun i wr=>∃ k:Nat,k≤t.size+1∧i=.int .i64 k∧wr=w'∧Hid (∀ q,q<k→f q=none)) (fun i _=>t.size+1-(intOf i).toNat)
 case atStart=>exact ⟨0,by omega,rfl,rfl,fun q h=>by omega⟩
 case round =>
  obtain ⟨k,hk,rfl,rfl,HQ⟩:=hrel
  by_cases hle:k≤t.size
  ·have hle':(k:Int)≤(t.size:Int):=by omega
   have KK:Hid (∀ z:World,Calls Tryz.prog 13 #[.string t,.int .i64 (k:Int),.string q] z fun e w'=>e=.returned (.int .i64 ((Mt.timesN t q.data.toList t.size k:Nat):Int))∧w'=z):=fun z=>KT.out k z hle
   have hfk:=HF.out k hle
   have hc60:=HC.out k
   generalize Mt.timesN t q.data.toList t.size k=c at *
   by_cases hnc:n≤c
   ·have d1:decide ((n:Int)≤(c:Int))=true:=by rw [decide_eq_true_eq];omega
    rw [if_pos hnc] at hfk
    have ev:Mt.taken n (-1) false c=c:=by unfold Mt.taken;rw [if_neg (by simp),if_neg (by omega)]
    have HH:Hid (f k=some (c*q.size)):=by show _=_;rw [hfk,ev]
    have hm1:(c)*q.size≤60*6:=Nat.mul_le_mul (by omega) hq
    have hm2:(((c)*q.size:Nat):Int)=((c:Nat):Int)*(q.size:Int):=by push_cast;rfl
    clear hfk ev
    go_wp2_with fail
    refine (KK.out _).mono ?_
    rintro e w' ⟨rfl,rfl⟩
    go_wp2_with fail
    go_ret3
    exact ⟨(k:Int),(k:Int)+(c:Int)*(q.size:Int),by first | rfl | (rw [HP.out];rfl),.inl ⟨k,c*q.size,hle,HQ.out,HH.out,rfl,by push_cast;rfl⟩,B1.out⟩
   ·have d1:decide ((n:Int)≤(c:Int))=false:=by rw [decide_eq_false_iff_not];omega
    rw [if_neg hnc] at hfk
    have HN:Hid (∀ q,q<k+1→f q=none):=none_next HQ.out hfk
    clear hfk HQ
    go_wp2_with fail
    refine (KK.out _).mono ?_
    rintro e w' ⟨rfl,rfl⟩
    go_wp2_with fail
    go_roundw
    case rel=>exact ⟨k+1,by omega,by go_num,trivial,HN⟩
    case measure=>simp [intOf];omega
  ·have hle':¬ (k:Int)≤(t.size:Int):=by omega
   go_wp2_with fail
   go_ret3
   exact ⟨-1,-1,by first | rfl | (rw [HP.out];rfl),.inr ⟨fun q hq=>HQ.out q (by omega),rfl,rfl⟩,B1.out⟩
theorem counted_m0_cat (q:List UInt8) (n:Nat) (M:Nat):((((((⟨#[40,63,58]⟩:ByteArray)++⟨(Mt.quoteL q).toArray⟩)++⟨#[41,123]⟩)++⟨(Mt.digL n).toArray⟩)++⟨#[44]⟩)++⟨(Mt.digL M).toArray⟩)++⟨#[125]⟩=Mt.bp (Mt.countL q n (M:Int) 0):=by
 apply ByteArray.ext
 have e1:Mt.moodL 0=[]:=rfl
 have e2:Mt.maxL (M:Int)=Mt.digL M:=by unfold Mt.maxL;rw [if_neg (by omega)];rfl
 simp [Mt.bp,Mt.countL,ByteArray.data_append,e1,e2]
theorem counted_m0 (q t:ByteArray) (n:Nat) (M:Nat) (hM1:n≤M) (hM2:M≤20) (w:World) (ht:t.size≤60) (hq:q.size≤6) (hq0:1≤q.size) (hn:n≤20) :
  Calls Tryz.prog 6 #[.string q,.int .i64 (n:Int),.int .i64 (M:Int),.int .i64 0,.string t] w fun e w'=>∃ a b:Int,e=.returned (.tuple #[.string (Mt.bp (Mt.countL q.data.toList n (M:Int) 0)),.int .i64 a,.int .i64 b])∧FirstAB t (Mt.countAt t q.data.toList n (M:Int) 0) a b∧Below w.heap.size w w':=by
 have lq:q.data.toList.length=q.size:=by simp
 have HF:Hid (∀ i,i≤t.size→Mt.countAt t q.data.toList n (M:Int) 0 i=if n≤Mt.timesN t q.data.toList t.size i then some (Mt.taken n (M:Int) false (Mt.timesN t q.data.toList t.size i)*q.size) else none):=fun i hi=>by rw [count_cases',lq];rfl
 generalize Mt.countAt t q.data.toList n (M:Int) 0=f at *
 have KQ:Hid (∀ z:World,Calls Tryz.prog 11 #[.string q] z fun e w'=>e=.returned (.string ⟨(Mt.quoteL q.data.toList).toArray⟩)∧Below z.heap.size z w'):=fun z=>quote_any q z (by omega)
 have KN:Hid (∀ z:World,Calls Tryz.prog 12 #[.int .i64 (n:Int)] z fun e w'=>e=.returned (.string ⟨(Mt.digL n).toArray⟩)∧w'=z):=fun z=>itoa_any n hn z
 have KM:Hid (∀ z:World,Calls Tryz.prog 12 #[.int .i64 (M:Int)] z fun e w'=>e=.returned (.string ⟨(Mt.digL M).toArray⟩)∧w'=z):=fun z=>itoa_any M hM2 z
 have KT:Hid (∀ (i:Nat) (z:World),i≤t.size→Calls Tryz.prog 13 #[.string t,.int .i64 (i:Int),.string q] z fun e w'=>e=.returned (.int .i64 ((Mt.timesN t q.data.toList t.size i:Nat):Int))∧w'=z):=fun i z hi=>times_any t q i z ht hq hq0 hi
 have HC:Hid (∀ i,Mt.timesN t q.data.toList t.size i≤60):=fun i=>Nat.le_trans (Mt.timesN_le t _ _ i) ht
 have HP:Hid _:=counted_m0_cat q.data.toList n M
 have qa:=Mt.quoteL_len q.data.toList
 have da:=Mt.digL_len n
 have sA:(⟨(Mt.quoteL q.data.toList).toArray⟩:ByteArray).size≤12:=by show (Mt.bp _).size≤_;rw [Mt.bp_size];omega
 have sD:(⟨(Mt.digL n).toArray⟩:ByteArray).size≤2:=by show (Mt.bp _).size≤_;rw [Mt.bp_size];omega
 have db:=Mt.digL_len M
 have sM:(⟨(Mt.digL M).toArray⟩:ByteArray).size≤2:=by show (Mt.bp _).size≤_;rw [Mt.bp_size];omega
 generalize (⟨(Mt.quoteL q.data.toList).toArray⟩:ByteArray)=A at *
 generalize (⟨(Mt.digL n).toArray⟩:ByteArray)=D at *
 generalize (⟨(Mt.digL M).toArray⟩:ByteArray)=DM at *
 have dM:decide ((0:Int)≤(M:Int))=true:=by rw [decide_eq_true_eq];omega
 generalize Mt.bp (Mt.countL q.data.toList n (M:Int) 0)=pt at *
 clear qa da lq db
 go_enter Tryz.func6,Tryz.ntmps6
 go_wp2_with fail
 refine (KQ.out _).mono ?_
 rintro e w1 ⟨rfl,hb1⟩
 have B1:Hid (Below w.heap.size w w1):=hb1
 clear hb1
 go_wp2_with fail
 refine (KN.out _).mono ?_
 rintro e w' ⟨rfl,rfl⟩
 go_wp2_with fail
 refine (KM.out _).mono ?_
 rintro e w' ⟨rfl,rfl⟩
 go_wp2_with fail
 go_loopw [14] (fun i wr=>∃ k:Nat,k≤t.size+1∧i=.int .i64 k∧wr=w'∧Hid (∀ q,q<k→f q=none)) (fun i _=>t.size+1-(intOf i).toNat)
 case atStart=>exact ⟨0,by omega,rfl,rfl,fun q h=>by omega⟩
 case round =>
  obtain ⟨k,hk,rfl,rfl,HQ⟩:=hrel
  by_cases hle:k≤t.size
  ·have hle':(k:Int)≤(t.size:Int):=by omega
   have KK:Hid (∀ z:World,Calls Tryz.prog 13 #[.string t,.int .i64 (k:Int),.string q] z fun e w'=>e=.returned (.int .i64 ((Mt.timesN t q.data.toList t.size k:Nat):Int))∧w'=z):=fun z=>KT.out k z hle
   have hfk:=HF.out k hle
   have hc60:=HC.out k
   generalize Mt.timesN t q.data.toList t.size k=c at *
   by_cases hnc:n≤c
   ·have d1:decide ((n:Int)≤(c:Int))=true:=by rw [decide_eq_true_eq];omega
    rw [if_pos hnc] at hfk
    by_cases hMc:M<c
    ·have d2:decide ((M:Int)<(c:Int))=true:=by rw [decide_eq_true_eq];omega
     have ev:Mt.taken n (M:Int) false c=M:=by unfold Mt.taken;rw [if_neg (by simp),if_pos (by omega)];rfl
     have HH:Hid (f k=some (M*q.size)):=by show _=_;rw [hfk,ev]
     have hm1:(M)*q.size≤60*6:=Nat.mul_le_mul (by omega) hq
     have hm2:(((M)*q.size:Nat):Int)=((M:Nat):Int)*(q.size:Int):=by push_cast;rfl
     clear hfk ev
     go_wp2_with fail
     refine (KK.out _).mono ?_
     rintro e w' ⟨rfl,rfl⟩
     go_wp2_with fail
     go_ret3
     exact ⟨(k:Int),(k:Int)+(M:Int)*(q.size:Int),by first | rfl | (rw [HP.out];rfl),.inl ⟨k,M*q.size,hle,HQ.out,HH.out,rfl,by push_cast;rfl⟩,B1.out⟩
    ·have d2:decide ((M:Int)<(c:Int))=false:=by rw [decide_eq_false_iff_not];omega
     have ev:Mt.taken n (M:Int) false c=c:=by unfold Mt.taken;rw [if_neg (by simp),if_neg (by omega)]
     have HH:Hid (f k=some (c*q.size)):=by show _=_;rw [hfk,ev]
     have hm1:(c)*q.size≤60*6:=Nat.mul_le_mul (by omega) hq
     have hm2:(((c)*q.size:Nat):Int)=((c:Nat):Int)*(q.size:Int):=by push_cast;rfl
     clear hfk ev
     go_wp2_with fail
     refine (KK.out _).mono ?_
     rintro e w' ⟨rfl,rfl⟩
     go_wp2_with fail
     go_ret3
     exact ⟨(k:Int),(k:Int)+(c:Int)*(q.size:Int),by first | rfl | (rw [HP.out];rfl),.inl ⟨k,c*q.size,hle,HQ.out,HH.out,rfl,by push_cast;rfl⟩,B1.out⟩
   ·have d1:decide ((n:Int)≤(c:Int))=false:=by rw [decide_eq_false_iff_not];omega
    rw [if_neg hnc] at hfk
    have HN:Hid (∀ q,q<k+1→f q=none):=none_next HQ.out hfk
    clear hfk HQ
    go_wp2_with fail
    refine (KK.out _).mono ?_
    rintro e w' ⟨rfl,rfl⟩
    go_wp2_with fail
    go_roundw
    case rel=>exact ⟨k+1,by omega,by go_num,trivial,HN⟩
    case measure=>simp [intOf];omega
  ·have hle':¬ (k:Int)≤(t.size:Int):=by omega
   go_wp2_with fail
   go_ret3
   exact ⟨-1,-1,by first | rfl | (rw [HP.out];rfl),.inr ⟨fun q hq=>HQ.out q (by omega),rfl,rfl⟩,B1.out⟩
theorem counted_m1_cat (q:List UInt8) (n:Nat) (M:Nat):(((((((⟨#[40,63,58]⟩:ByteArray)++⟨(Mt.quoteL q).toArray⟩)++⟨#[41,123]⟩)++⟨(Mt.digL n).toArray⟩)++⟨#[44]⟩)++⟨(Mt.digL M).toArray⟩)++⟨#[125]⟩)++⟨#[63]⟩=Mt.bp (Mt.countL q n (M:Int) 1):=by
 apply ByteArray.ext
 have e1:Mt.moodL 1=[63]:=rfl
 have e2:Mt.maxL (M:Int)=Mt.digL M:=by unfold Mt.maxL;rw [if_neg (by omega)];rfl
 simp [Mt.bp,Mt.countL,ByteArray.data_append,e1,e2]
theorem counted_m1 (q t:ByteArray) (n:Nat) (M:Nat) (hM1:n≤M) (hM2:M≤20) (w:World) (ht:t.size≤60) (hq:q.size≤6) (hq0:1≤q.size) (hn:n≤20) :
  Calls Tryz.prog 6 #[.string q,.int .i64 (n:Int),.int .i64 (M:Int),.int .i64 1,.string t] w fun e w'=>∃ a b:Int,e=.returned (.tuple #[.string (Mt.bp (Mt.countL q.data.toList n (M:Int) 1)),.int .i64 a,.int .i64 b])∧FirstAB t (Mt.countAt t q.data.toList n (M:Int) 1) a b∧Below w.heap.size w w':=by
 have lq:q.data.toList.length=q.size:=by simp
 have HF:Hid (∀ i,i≤t.size→Mt.countAt t q.data.toList n (M:Int) 1 i=if n≤Mt.timesN t q.data.toList t.size i then some (Mt.taken n (M:Int) true (Mt.timesN t q.data.toList t.size i)*q.size) else none):=fun i hi=>by rw [count_cases',lq];rfl
 generalize Mt.countAt t q.data.toList n (M:Int) 1=f at *
 have KQ:Hid (∀ z:World,Calls Tryz.prog 11 #[.string q] z fun e w'=>e=.returned (.string ⟨(Mt.quoteL q.data.toList).toArray⟩)∧Below z.heap.size z w'):=fun z=>quote_any q z (by omega)
 have KN:Hid (∀ z:World,Calls Tryz.prog 12 #[.int .i64 (n:Int)] z fun e w'=>e=.returned (.string ⟨(Mt.digL n).toArray⟩)∧w'=z):=fun z=>itoa_any n hn z
 have KM:Hid (∀ z:World,Calls Tryz.prog 12 #[.int .i64 (M:Int)] z fun e w'=>e=.returned (.string ⟨(Mt.digL M).toArray⟩)∧w'=z):=fun z=>itoa_any M hM2 z
 have KT:Hid (∀ (i:Nat) (z:World),i≤t.size→Calls Tryz.prog 13 #[.string t,.int .i64 (i:Int),.string q] z fun e w'=>e=.returned (.int .i64 ((Mt.timesN t q.data.toList t.size i:Nat):Int))∧w'=z):=fun i z hi=>times_any t q i z ht hq hq0 hi
 have HC:Hid (∀ i,Mt.timesN t q.data.toList t.size i≤60):=fun i=>Nat.le_trans (Mt.timesN_le t _ _ i) ht
 have HP:Hid _:=counted_m1_cat q.data.toList n M
 have qa:=Mt.quoteL_len q.data.toList
 have da:=Mt.digL_len n
 have sA:(⟨(Mt.quoteL q.data.toList).toArray⟩:ByteArray).size≤12:=by show (Mt.bp _).size≤_;rw [Mt.bp_size];omega
 have sD:(⟨(Mt.digL n).toArray⟩:ByteArray).size≤2:=by show (Mt.bp _).size≤_;rw [Mt.bp_size];omega
 have db:=Mt.digL_len M
 have sM:(⟨(Mt.digL M).toArray⟩:ByteArray).size≤2:=by show (Mt.bp _).size≤_;rw [Mt.bp_size];omega
 generalize (⟨(Mt.quoteL q.data.toList).toArray⟩:ByteArray)=A at *
 generalize (⟨(Mt.digL n).toArray⟩:ByteArray)=D at *
 generalize (⟨(Mt.digL M).toArray⟩:ByteArray)=DM at *
 have dM:decide ((0:Int)≤(M:Int))=true:=by rw [decide_eq_true_eq];omega
 generalize Mt.bp (Mt.countL q.data.toList n (M:Int) 1)=pt at *
 clear qa da lq db
 go_enter Tryz.func6,Tryz.ntmps6
 go_wp2_with fail
 refine (KQ.out _).mono ?_
 rintro e w1 ⟨rfl,hb1⟩
 have B1:Hid (Below w.heap.size w w1):=hb1
 clear hb1
 go_wp2_with fail
 refine (KN.out _).mono ?_
 rintro e w' ⟨rfl,rfl⟩
 go_wp2_with fail
 refine (KM.out _).mono ?_
 rintro e w' ⟨rfl,rfl⟩
 go_wp2_with fail
 go_loopw [14] (fun i wr=>∃ k:Nat,k≤t.size+1∧i=.int .i64 k∧wr=w'∧Hid (∀ q,q<k→f q=none)) (fun i _=>t.size+1-(intOf i).toNat)
 case atStart=>exact ⟨0,by omega,rfl,rfl,fun q h=>by omega⟩
 case round =>
  obtain ⟨k,hk,rfl,rfl,HQ⟩:=hrel
  by_cases hle:k≤t.size
  ·have hle':(k:Int)≤(t.size:Int):=by omega
   have KK:Hid (∀ z:World,Calls Tryz.prog 13 #[.string t,.int .i64 (k:Int),.string q] z fun e w'=>e=.returned (.int .i64 ((Mt.timesN t q.data.toList t.size k:Nat):Int))∧w'=z):=fun z=>KT.out k z hle
   have hfk:=HF.out k hle
   have hc60:=HC.out k
   generalize Mt.timesN t q.data.toList t.size k=c at *
   by_cases hnc:n≤c
   ·have d1:decide ((n:Int)≤(c:Int))=true:=by rw [decide_eq_true_eq];omega
    rw [if_pos hnc] at hfk
    by_cases hMc:M<c
    ·have d2:decide ((M:Int)<(c:Int))=true:=by rw [decide_eq_true_eq];omega
     have ev:Mt.taken n (M:Int) true c=n:=rfl
     have HH:Hid (f k=some (n*q.size)):=by show _=_;rw [hfk,ev]
     have hm1:(n)*q.size≤60*6:=Nat.mul_le_mul (by omega) hq
     have hm2:(((n)*q.size:Nat):Int)=((n:Nat):Int)*(q.size:Int):=by push_cast;rfl
     clear hfk ev
     go_wp2_with fail
     refine (KK.out _).mono ?_
     rintro e w' ⟨rfl,rfl⟩
     go_wp2_with fail
     go_ret3
     exact ⟨(k:Int),(k:Int)+(n:Int)*(q.size:Int),by first | rfl | (rw [HP.out];rfl),.inl ⟨k,n*q.size,hle,HQ.out,HH.out,rfl,by push_cast;rfl⟩,B1.out⟩
    ·have d2:decide ((M:Int)<(c:Int))=false:=by rw [decide_eq_false_iff_not];omega
     have ev:Mt.taken n (M:Int) true c=n:=rfl
     have HH:Hid (f k=some (n*q.size)):=by show _=_;rw [hfk,ev]
     have hm1:(n)*q.size≤60*6:=Nat.mul_le_mul (by omega) hq
     have hm2:(((n)*q.size:Nat):Int)=((n:Nat):Int)*(q.size:Int):=by push_cast;rfl
     clear hfk ev
     go_wp2_with fail
     refine (KK.out _).mono ?_
     rintro e w' ⟨rfl,rfl⟩
     go_wp2_with fail
     go_ret3
     exact ⟨(k:Int),(k:Int)+(n:Int)*(q.size:Int),by first | rfl | (rw [HP.out];rfl),.inl ⟨k,n*q.size,hle,HQ.out,HH.out,rfl,by push_cast;rfl⟩,B1.out⟩
   ·have d1:decide ((n:Int)≤(c:Int))=false:=by rw [decide_eq_false_iff_not];omega
    rw [if_neg hnc] at hfk
    have HN:Hid (∀ q,q<k+1→f q=none):=none_next HQ.out hfk
    clear hfk HQ
    go_wp2_with fail
    refine (KK.out _).mono ?_
    rintro e w' ⟨rfl,rfl⟩
    go_wp2_with fail
    go_roundw
    case rel=>exact ⟨k+1,by omega,by go_num,trivial,HN⟩
    case measure=>simp [intOf];omega
  ·have hle':¬ (k:Int)≤(t.size:Int):=by omega
   go_wp2_with fail
   go_ret3
   exact ⟨-1,-1,by first | rfl | (rw [HP.out];rfl),.inr ⟨fun q hq=>HQ.out q (by omega),rfl,rfl⟩,B1.out⟩
theorem counted_m2_cat (q:List UInt8) (n:Nat) (M:Nat):(((((((⟨#[40,63,58]⟩:ByteArray)++⟨(Mt.quoteL q).toArray⟩)++⟨#[41,123]⟩)++⟨(Mt.digL n).toArray⟩)++⟨#[44]⟩)++⟨(Mt.digL M).toArray⟩)++⟨#[125]⟩)++⟨#[43]⟩=Mt.bp (Mt.countL q n (M:Int) 2):=by
 apply ByteArray.ext
 have e1:Mt.moodL 2=[43]:=rfl
 have e2:Mt.maxL (M:Int)=Mt.digL M:=by unfold Mt.maxL;rw [if_neg (by omega)];rfl
 simp [Mt.bp,Mt.countL,ByteArray.data_append,e1,e2]
theorem counted_m2 (q t:ByteArray) (n:Nat) (M:Nat) (hM1:n≤M) (hM2:M≤20) (w:World) (ht:t.size≤60) (hq:q.size≤6) (hq0:1≤q.size) (hn:n≤20) :
  Calls Tryz.prog 6 #[.string q,.int .i64 (n:Int),.int .i64 (M:Int),.int .i64 2,.string t] w fun e w'=>∃ a b:Int,e=.returned (.tuple #[.string (Mt.bp (Mt.countL q.data.toList n (M:Int) 2)),.int .i64 a,.int .i64 b])∧FirstAB t (Mt.countAt t q.data.toList n (M:Int) 2) a b∧Below w.heap.size w w':=by
 have lq:q.data.toList.length=q.size:=by simp
 have HF:Hid (∀ i,i≤t.size→Mt.countAt t q.data.toList n (M:Int) 2 i=if n≤Mt.timesN t q.data.toList t.size i then some (Mt.taken n (M:Int) false (Mt.timesN t q.data.toList t.size i)*q.size) else none):=fun i hi=>by rw [count_cases',lq];rfl
 generalize Mt.countAt t q.data.toList n (M:Int) 2=f at *
 have KQ:Hid (∀ z:World,Calls Tryz.prog 11 #[.string q] z fun e w'=>e=.returned (.string ⟨(Mt.quoteL q.data.toList).toArray⟩)∧Below z.heap.size z w'):=fun z=>quote_any q z (by omega)
 have KN:Hid (∀ z:World,Calls Tryz.prog 12 #[.int .i64 (n:Int)] z fun e w'=>e=.returned (.string ⟨(Mt.digL n).toArray⟩)∧w'=z):=fun z=>itoa_any n hn z
 have KM:Hid (∀ z:World,Calls Tryz.prog 12 #[.int .i64 (M:Int)] z fun e w'=>e=.returned (.string ⟨(Mt.digL M).toArray⟩)∧w'=z):=fun z=>itoa_any M hM2 z
 have KT:Hid (∀ (i:Nat) (z:World),i≤t.size→Calls Tryz.prog 13 #[.string t,.int .i64 (i:Int),.string q] z fun e w'=>e=.returned (.int .i64 ((Mt.timesN t q.data.toList t.size i:Nat):Int))∧w'=z):=fun i z hi=>times_any t q i z ht hq hq0 hi
 have HC:Hid (∀ i,Mt.timesN t q.data.toList t.size i≤60):=fun i=>Nat.le_trans (Mt.timesN_le t _ _ i) ht
 have HP:Hid _:=counted_m2_cat q.data.toList n M
 have qa:=Mt.quoteL_len q.data.toList
 have da:=Mt.digL_len n
 have sA:(⟨(Mt.quoteL q.data.toList).toArray⟩:ByteArray).size≤12:=by show (Mt.bp _).size≤_;rw [Mt.bp_size];omega
 have sD:(⟨(Mt.digL n).toArray⟩:ByteArray).size≤2:=by show (Mt.bp _).size≤_;rw [Mt.bp_size];omega
 have db:=Mt.digL_len M
 have sM:(⟨(Mt.digL M).toArray⟩:ByteArray).size≤2:=by show (Mt.bp _).size≤_;rw [Mt.bp_size];omega
 generalize (⟨(Mt.quoteL q.data.toList).toArray⟩:ByteArray)=A at *
 generalize (⟨(Mt.digL n).toArray⟩:ByteArray)=D at *
 generalize (⟨(Mt.digL M).toArray⟩:ByteArray)=DM at *
 have dM:decide ((0:Int)≤(M:Int))=true:=by rw [decide_eq_true_eq];omega
 generalize Mt.bp (Mt.countL q.data.toList n (M:Int) 2)=pt at *
 clear qa da lq db
 go_enter Tryz.func6,Tryz.ntmps6
 go_wp2_with fail
 refine (KQ.out _).mono ?_
 rintro e w1 ⟨rfl,hb1⟩
 have B1:Hid (Below w.heap.size w w1):=hb1
 clear hb1
 go_wp2_with fail
 refine (KN.out _).mono ?_
 rintro e w' ⟨rfl,rfl⟩
 go_wp2_with fail
 refine (KM.out _).mono ?_
 rintro e w' ⟨rfl,rfl⟩
 go_wp2_with fail
 go_loopw [14] (fun i wr=>∃ k:Nat,k≤t.size+1∧i=.int .i64 k∧wr=w'∧Hid (∀ q,q<k→f q=none)) (fun i _=>t.size+1-(intOf i).toNat)
 case atStart=>exact ⟨0,by omega,rfl,rfl,fun q h=>by omega⟩
 case round =>
  obtain ⟨k,hk,rfl,rfl,HQ⟩:=hrel
  by_cases hle:k≤t.size
  ·have hle':(k:Int)≤(t.size:Int):=by omega
   have KK:Hid (∀ z:World,Calls Tryz.prog 13 #[.string t,.int .i64 (k:Int),.string q] z fun e w'=>e=.returned (.int .i64 ((Mt.timesN t q.data.toList t.size k:Nat):Int))∧w'=z):=fun z=>KT.out k z hle
   have hfk:=HF.out k hle
   have hc60:=HC.out k
   generalize Mt.timesN t q.data.toList t.size k=c at *
   by_cases hnc:n≤c
   ·have d1:decide ((n:Int)≤(c:Int))=true:=by rw [decide_eq_true_eq];omega
    rw [if_pos hnc] at hfk
    by_cases hMc:M<c
    ·have d2:decide ((M:Int)<(c:Int))=true:=by rw [decide_eq_true_eq];omega
     have ev:Mt.taken n (M:Int) false c=M:=by unfold Mt.taken;rw [if_neg (by simp),if_pos (by omega)];rfl
     have HH:Hid (f k=some (M*q.size)):=by show _=_;rw [hfk,ev]
     have hm1:(M)*q.size≤60*6:=Nat.mul_le_mul (by omega) hq
     have hm2:(((M)*q.size:Nat):Int)=((M:Nat):Int)*(q.size:Int):=by push_cast;rfl
     clear hfk ev
     go_wp2_with fail
     refine (KK.out _).mono ?_
     rintro e w' ⟨rfl,rfl⟩
     go_wp2_with fail
     go_ret3
     exact ⟨(k:Int),(k:Int)+(M:Int)*(q.size:Int),by first | rfl | (rw [HP.out];rfl),.inl ⟨k,M*q.size,hle,HQ.out,HH.out,rfl,by push_cast;rfl⟩,B1.out⟩
    ·have d2:decide ((M:Int)<(c:Int))=false:=by rw [decide_eq_false_iff_not];omega
     have ev:Mt.taken n (M:Int) false c=c:=by unfold Mt.taken;rw [if_neg (by simp),if_neg (by omega)]
     have HH:Hid (f k=some (c*q.size)):=by show _=_;rw [hfk,ev]
     have hm1:(c)*q.size≤60*6:=Nat.mul_le_mul (by omega) hq
     have hm2:(((c)*q.size:Nat):Int)=((c:Nat):Int)*(q.size:Int):=by push_cast;rfl
     clear hfk ev
     go_wp2_with fail
     refine (KK.out _).mono ?_
     rintro e w' ⟨rfl,rfl⟩
     go_wp2_with fail
     go_ret3
     exact ⟨(k:Int),(k:Int)+(c:Int)*(q.size:Int),by first | rfl | (rw [HP.out];rfl),.inl ⟨k,c*q.size,hle,HQ.out,HH.out,rfl,by push_cast;rfl⟩,B1.out⟩
   ·have d1:decide ((n:Int)≤(c:Int))=false:=by rw [decide_eq_false_iff_not];omega
    rw [if_neg hnc] at hfk
    have HN:Hid (∀ q,q<k+1→f q=none):=none_next HQ.out hfk
    clear hfk HQ
    go_wp2_with fail
    refine (KK.out _).mono ?_
    rintro e w' ⟨rfl,rfl⟩
    go_wp2_with fail
    go_roundw
    case rel=>exact ⟨k+1,by omega,by go_num,trivial,HN⟩
    case measure=>simp [intOf];omega
  ·have hle':¬ (k:Int)≤(t.size:Int):=by omega
   go_wp2_with fail
   go_ret3
   exact ⟨-1,-1,by first | rfl | (rw [HP.out];rfl),.inr ⟨fun q hq=>HQ.out q (by omega),rfl,rfl⟩,B1.out⟩
end Go.Proofs.YtebpgfodelggoaaGreatDoor
