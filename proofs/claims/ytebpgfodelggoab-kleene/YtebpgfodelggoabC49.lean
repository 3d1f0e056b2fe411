import Derived.Test.YtebpgfodelggoabC48
import Derived.Test.YtebpgfodelggoabC07
import Derived.Test.YtebpgfodelggoabC13
import Derived.Test.YtebpgfodelggoabC44
import Derived.Test.YtebpgfodelggoabRows
import Derived.WalkKit
import Derived.ProofKit
import Derived.OpenShut
import Derived.Carry
import Derived.Handed
import Derived.Deep.Slices
import Derived.JoinedCond
import Derived.ChangeMaps5
import Derived.Lib.SmallJoins
set_option linter.unusedVariables false
set_option linter.unusedSimpArgs false
set_option maxRecDepth 100000
set_option maxHeartbeats 8000000
namespace Go.Proofs.Ytebpgfodelggoab
open Go.RowKit
theorem loops_of (p:ByteArray) (h:(Mt.codeR p).2=0) (k:Nat):((Mt.codeR p).1.take k).countP Mt.isMark=((Mt.codeR p).1.take k).countP Mt.isAgain+Mt.loopsAt (Mt.codeR p).1 k:=by
 obtain ⟨f,_,_,_,_,_,hc,_⟩:=Mt.pattern_tree p (codeR_check p h)
 exact Mt.code_loops f.re _ hc k
theorem env_ar (c:List Mt.Ins) (t:ByteArray) (policy mask:Int) (p:Nat) (hp:p<c.length):(Mt.envOf c t policy mask).ar.getD p 0=Mt.loopsAt c p:=by
 unfold Mt.envOf
 dsimp only
 rw [List.getD_eq_getElem?_getD,List.getElem?_map,List.getElem?_range hp];rfl
theorem known_eleven {c:List Mt.Ins} {A:Int→Mt.Att} (hK:Mt.Known c A) (p:Nat) (hp:p<c.length):Mt.loopsAt c p≤11:=by
 have h1:=hK.loops p hp
 rcases Nat.lt_or_ge (p+1) c.length with h | h
 ·have:=(hK.rule p h).2.2.2.2.2.2.2.2.2.2.1
  omega
 ·have e:p=c.length-1:=by omega
  have st:=hK.stop
  rw [← e] at st
  rw [st] at h1
  dsimp only at h1
  omega
theorem env_tab (p t:ByteArray) (policy mask:Int) (h0:(Mt.codeR p).2=0) (A:Int→Mt.Att) (hK:Mt.Known (Mt.codeR p).1 A) (ht:t.size≤60):TabCtx (Mt.envOf (Mt.codeR p).1 t policy mask):=by
 refine ⟨loops_of p h0,hK.len,fun q hq=>?_,fun q=>?_,ht⟩
 ·unfold Mt.Env.arN
  rw [env_ar (Mt.codeR p).1 t policy mask q hq];show (Mt.loopsAt (Mt.codeR p).1 q:Int).toNat=Mt.loopsAt (Mt.codeR p).1 q;omega
 ·unfold Mt.Env.arN
  rcases Nat.lt_or_ge q (Mt.codeR p).1.length with h | h
  ·rw [env_ar _ t policy mask q h]
   have:=known_eleven hK q h
   omega
  ·have:(Mt.envOf (Mt.codeR p).1 t policy mask).ar.getD q 0=0:=by
    unfold Mt.envOf
    dsimp only
    rw [List.getD_eq_getElem?_getD,List.getElem?_eq_none (by simp;omega)];rfl
   rw [this];omega
theorem may_find (T:Nat) (frm policy mask room budget:Int):(mayPrep T policy mask room budget≠0→Mt.mayFind T frm policy mask room budget=mayPrep T policy mask room budget)∧(mayPrep T policy mask room budget=0→(0≤frm∧frm≤T→Mt.mayFind T frm policy mask room budget=0)∧(¬ (0≤frm∧frm≤T)→Mt.mayFind T frm policy mask room budget=13)):=by
 unfold mayPrep Mt.mayFind
 by_cases h1:60<T
 ·rw [if_pos h1,if_pos h1];exact ⟨fun _=>rfl,fun h=>by omega⟩
 rw [if_neg h1,if_neg h1]
 by_cases h2:Mt.maySelect policy mask=true∧0≤room∧room≤5000∧0≤budget∧budget≤10000
 ·rw [if_pos h2]
  refine ⟨fun h=>absurd rfl h,fun _=>⟨fun hf=>if_pos ⟨h2.1,hf.1,hf.2,h2.2⟩,fun hf=>if_neg (fun x=>hf ⟨x.2.1,x.2.2.1⟩)⟩⟩
 ·rw [if_neg h2]
  refine ⟨fun _=>if_neg (fun x=>h2 ⟨x.1,x.2.2.2⟩),fun h=>by omega⟩
theorem prep_in {T:Nat} {policy mask room budget:Int} (h:mayPrep T policy mask room budget=0):T≤60∧(0≤room∧room≤5000)∧(0≤budget∧budget≤10000):=by
 rcases mayPrep_cases T policy mask room budget with ⟨_,e⟩ | ⟨_,_,e⟩ | ⟨_,_,_,e⟩ | ⟨_,_,_,_,e⟩ | ⟨_,_,_,_,_,e⟩ | ⟨_,_,_,_,_,_,e⟩ | ⟨_,_,_,_,_,_,_,a,b,c⟩
 all_goals first | exact ⟨a,b,c⟩ | (exfalso;omega)
theorem Try.sizeOpt:(Try.prog.info? 23).map (·.size)=some 4:=by kernel_rfl
theorem found_len (E:Mt.Env) (budget:Int):∀ (f p n:Nat) (kn:List Bool) (room:Int) (hc:Mt.codeOk E.c) (hp0:0<E.c.length) (hr:0≤room∧room≤5000) (hpf:p+f≤E.t.size+1),(Mt.search E budget f p n kn room).1.at'.length=20
 | 0,p,n,kn,room,_,_,_,_=>by simp [Mt.search,Mt.nowhere]
 | f+1,p,n,kn,room,hc,hp0,hr,hpf=>by
  have hg:=Mt.look_good E hc n n (Mt.startSt p) kn room (Nat.le_refl _) (Mt.startSt_good _ _ p hp0 (by omega)) hr
  rw [Mt.search]
  split
  ·rfl
  split
  ·exact Mt.foundAt_len _ _ hg.2.2.2.1
  ·exact found_len E budget f (p+1) _ _ _ hc hp0 hg.2.2.1 (by omega)
theorem search_over (E:Mt.Env) (budget:Int):∀ (f p n:Nat) (kn:List Bool) (room:Int),(Mt.search E budget f p n kn room).2=true→(Mt.search E budget f p n kn room).1=Mt.fnd0
 | 0,p,n,kn,room,h=>by simp [Mt.search] at h
 | f+1,p,n,kn,room,h=>by
  rw [Mt.search] at h ⊢
  by_cases a:(Mt.look E n (Mt.startSt p) kn room).over=true
  ·rw [if_pos a]
  ·rw [if_neg a] at h ⊢
   by_cases b:(Mt.look E n (Mt.startSt p) kn room).ok=true
   ·rw [if_pos b] at h;cases h
   ·rw [if_neg b] at h ⊢
    exact search_over E budget f (p+1) _ _ _ h
theorem Find_any (p t:ByteArray) (frm policy mask room budget:Int) (w:World) (hm:p.size≤maxLen) (hmt:t.size≤maxLen):Calls Try.prog 11 #[.string p,.string t,.int .i64 frm,.agg #[.int .i64 policy,.int .i64 mask,.int .i64 room,.int .i64 budget]] w fun e w'=>e=.returned (.tuple #[.agg (fpA (Mt.findR p t frm policy mask room budget).1),.int .i64 (Mt.findR p t frm policy mask room budget).2])∧Below w.heap.size w w':=by
 obtain ⟨W1,hW1⟩:∃ W1,W1=(w.alloc (.cells #[.int .i64 policy,.int .i64 mask,.int .i64 room,.int .i64 budget] 23)).alloc (.cells (fpA Mt.fnd0) 31):=⟨_,rfl⟩
 have B1:Below w.heap.size w W1:=by rw [hW1];exact ((Below.refl _ _).alloc (Nat.le_refl _) _).alloc (by simp) _
 have T1:W1.heap[w.heap.size]?=some (.cells #[.int .i64 policy,.int .i64 mask,.int .i64 room,.int .i64 budget] 23 (0,0)):=by rw [hW1];exact heap_b2 _ _ _
 have U1:W1.heap[w.heap.size+1]?=some (.cells (fpA Mt.fnd0) 31 (0,0)):=by rw [hW1];exact heap_b3 _ _ _
 have Z1:W1.heap.size=w.heap.size+2:=by rw [hW1];simp
 have HC:Hid (Calls Try.prog 30 #[.string p,.string t,.agg #[.int .i64 policy,.int .i64 mask,.int .i64 room,.int .i64 budget]] W1 fun e w'=>∃ v er,e=.returned (.tuple #[.agg v,.int .i64 er])∧PrepIs p t policy mask room budget W1.heap.size v er w'∧Below W1.heap.size W1 w'):=prepare_any p t policy mask room budget W1 hm hmt
 have HB1:Hid (Below w.heap.size w W1):=B1
 have HT1:Hid (W1.heap[w.heap.size]?=some (.cells #[.int .i64 policy,.int .i64 mask,.int .i64 room,.int .i64 budget] 23 (0,0))∧W1.heap[w.heap.size+1]?=some (.cells (fpA Mt.fnd0) 31 (0,0))∧W1.heap.size=w.heap.size+2):=⟨T1,U1,Z1⟩
 have hmt2:(t.size:Int)≤9223372036854775807:=by unfold maxLen at hmt;omega
 have HMF:=may_find t.size frm policy mask room budget
 have HMF':Hid (_∧_):=HMF
 clear B1 U1 Z1 HMF
 obtain ⟨RR,hRR⟩:∃ RR,RR=Mt.findR p t frm policy mask room budget:=⟨_,rfl⟩
 rw [← hRR]
 have HRR:Hid (RR=Mt.findR p t frm policy mask room budget):=hRR
 clear hRR
 go_enter Try.func11,Try.ntmps11
 go_upto_region 1 with fail
 show Code.wp _ _ _ _ ((w.alloc (.cells #[.int .i64 policy,.int .i64 mask,.int .i64 room,.int .i64 budget] 23)).alloc (.cells (fpA Mt.fnd0) 31))
 rw [← hW1]
 clear hW1
 generalize hnn:w.heap.size=n at *
 go_wp2_with (refine load_blk 23 4 Try.underlying23 rfl Try.sizeOpt (by rfl) (.tmp 7) (by rfl) n (by rfl) T1 (by rfl) ?_)
 refine HC.out.mono ?_
 rintro e w3 ⟨v,er,rfl,hPr,hb3⟩
 have HPR:Hid (PrepIs p t policy mask room budget W1.heap.size v er w3):=hPr
 have hvs:v.size=4:=hPr.1
 have hva:v.all (·.oneCell')=true:=hPr.2.1
 have HB3:Hid (Below W1.heap.size W1 w3):=hb3
 clear hPr hb3 HC T1
 go_upto_region 2 with (refine store_blk 72 4 Try.sizeTk (by rfl) (.tmp 10) (.tmp 17) (by rfl) w3.heap.size v (by rfl) (by rfl) (by exact heap_b1 _ _) (by rfl) hvs hva ?_;intro w5 r1 r2 r3 r4)
 have B5:Below w3.heap.size w3 w5:=((Below.refl _ _).alloc (Nat.le_refl _) _).trans (r4 _ (Nat.le_refl _))
 have hz:=HT1.out.2.2
 have hs3:=HB3.out.size
 have BW:Below W1.heap.size W1 w5:=HB3.out.trans (B5.mono hs3)
 have T5:w5.heap[n]?=some (.cells #[.int .i64 policy,.int .i64 mask,.int .i64 room,.int .i64 budget] 23 (0,0)):=(BW.block n (by omega)).trans HT1.out.1
 have U5:w5.heap[n+1]?=some (.cells (fpA Mt.fnd0) 31 (0,0)):=(BW.block (n+1) (by omega)).trans HT1.out.2.1
 have HB5:Hid (Below n w w5):=HB1.out.trans (BW.mono (by omega))
 have o3:w5.cell? ⟨n,3,none⟩=some (.int .i64 budget):=(cell_block T5).1 3
 have HKEEP:Hid (Below w3.heap.size w3 w5∧n+2≤w3.heap.size∧W1.heap.size=n+2):=⟨B5,by omega,hz⟩
 have V5:w5.heap[w3.heap.size]?=some (.cells v 72 (0,0)):=r1
 clear r1 r2 r3 r4 B5 hz hs3 BW HT1 HB1 HB3 T5
 generalize hm3:w3.heap.size=m3 at *
 rcases HPR.out.2.2 with ⟨hk,rfl⟩ | ⟨hk,hmp,rfl⟩ | ⟨hk,hmp,rfl,g,cap,q,nq,cq,hv,hci,hri,hnq⟩
 ·have HE:Hid (RR=(Mt.fnd0,(Mt.codeR p).2)):=by show _=_;rw [HRR.out];unfold Mt.findR;rw [if_pos hk]
  have hne:((Mt.codeR p).2 != 0)=true:=by simpa using hk
  clear hk
  generalize (Mt.codeR p).2=er at *
  go_wp2_with (refine store_blk 31 22 Try.sizeFd (by rfl) (.tmp 8) (.tmp 21) (by rfl) (n+1) (fpA Mt.fnd0) (by rfl) (by rfl) U5 (by rfl) (fpA_size _ rfl) (fpA_all _) ?_;intro w9 q1 q2 q3 q4)
  refine bodyPost_ret (ret_blk2 31 22 Try.underlying31 rfl Try.sizeFd rfl (by rfl) q1 (fpA_size _ rfl)) rfl ⟨?_,?_⟩
  ·rw [HE.out];rfl
  ·first | exact HB5.out.trans (q4 n (by omega)) | (rw [hnn];exact HB5.out.trans (q4 n (by omega)))
 ·have HE:Hid (RR=(Mt.fnd0,mayPrep t.size policy mask room budget)):=by
   show _=_;rw [HRR.out];unfold Mt.findR;rw [if_neg (by omega),HMF'.out.1 hmp,if_pos hmp]
  have hne:(mayPrep t.size policy mask room budget != 0)=true:=by simpa using hmp
  clear hk hmp
  generalize mayPrep t.size policy mask room budget=er at *
  go_wp2_with (refine store_blk 31 22 Try.sizeFd (by rfl) (.tmp 8) (.tmp 21) (by rfl) (n+1) (fpA Mt.fnd0) (by rfl) (by rfl) U5 (by rfl) (fpA_size _ rfl) (fpA_all _) ?_;intro w9 q1 q2 q3 q4)
  refine bodyPost_ret (ret_blk2 31 22 Try.underlying31 rfl Try.sizeFd rfl (by rfl) q1 (fpA_size _ rfl)) rfl ⟨?_,?_⟩
  ·rw [HE.out];rfl
  ·first | exact HB5.out.trans (q4 n (by omega)) | (rw [hnn];exact HB5.out.trans (q4 n (by omega)))
 ·by_cases hin:0≤frm∧frm≤t.size
  ·have h0:=(HMF'.out.2 hmp).1 hin
   obtain ⟨hin1,hin2⟩:=hin
   obtain ⟨F,rfl⟩:∃ F:Nat,frm=(F:Int):=⟨frm.toNat,by omega⟩
   obtain ⟨ht60,hrm,hbd⟩:=prep_in hmp
   obtain ⟨A,hK⟩:=Mt.pattern_known p (codeR_check p hk)
   have hTC:=env_tab p t policy mask hk A hK ht60
   have hc1:decide ((F:Int)<0)=false:=by rw [decide_eq_false_iff_not];omega
   have hc2:decide ((F:Int)>(t.size:Int))=false:=by rw [decide_eq_false_iff_not];omega
   have hc3:decide (t.size<F)=false:=by rw [decide_eq_false_iff_not];omega
   obtain ⟨S,hS⟩:∃ S,S=Mt.search (Mt.envOf (Mt.codeR p).1 t policy mask) budget (t.size+1-F) F budget.toNat (List.replicate ((Mt.codeR p).1.length*(t.size+1)*12) false) room:=⟨_,rfl⟩
   have hlS:S.1.at'.length=20:=by rw [hS];exact found_len (Mt.envOf (Mt.codeR p).1 t policy mask) budget _ _ _ _ _ hK.ok hK.pos hrm (by show F+(t.size+1-F)≤t.size+1;omega)
   have HE:Hid (RR=(if S.2=true then Mt.fnd0 else S.1,errOf S.2)):=by
    show _=_
    rw [HRR.out]
    unfold Mt.findR Mt.searchAll errOf
    have e1:((F:Int)).toNat=F:=by omega
    rw [if_neg (by omega),if_neg (by omega),e1,← hS]
    split <;> rfl
   have hSo:S.2=true→S.1=Mt.fnd0:=by rw [hS];exact search_over _ _ _ _ _ _ _
   have hB35:=HKEEP.out.1
   have HSR:Hid (Calls Try.prog 31 #[.agg v,.int .i64 (F:Int),.int .i64 budget] w5 fun e w'=>e=.returned (.tuple #[.agg (fpA S.1),.int .i64 (errOf S.2)])∧Below w5.heap.size w5 w'):=by
    rw [hv]
    exact Search_any (Mt.envOf (Mt.codeR p).1 t policy mask) A hTC hK (fun q hq=>env_ar _ t policy mask q hq) g cap q nq cq F room budget hrm hbd (by show F≤t.size;omega) w5 ((hci.below (by rw [hm3];exact hB35)).base (Nat.zero_le _)) (owns_base (hri.below (by rw [hm3];exact hB35)) (Nat.zero_le _)) hnq S hS
   have HN1:Hid (n+1<w5.heap.size):=(Array.getElem?_eq_some_iff.1 U5).1
   have HU5:Hid (w5.heap[n+1]?=some (.cells (fpA Mt.fnd0) 31 (0,0))):=U5
   have HES:Hid (RR=(S.1,errOf S.2)):=by
    show _=_;rw [HE.out]
    cases h2:S.2
    ·rfl
    ·rw [hSo h2];rfl
   clear hv hci hri hnq hTC hK hS h0 hmp hk hB35 U5 hSo HE
   have hz0:((0:Int) != 0)=false:=rfl
   generalize S.1=S1 at *
   generalize errOf S.2=S2 at *
   go_wp2_with (refine load_blk 72 4 Try.underlying72 rfl Try.sizeTk (by rfl) (.tmp 10) (by rfl) m3 (by rfl) V5 hvs ?_)
   refine HSR.out.mono ?_
   rintro e w7 ⟨rfl,hb7⟩
   have U7:w7.heap[n+1]?=some (.cells (fpA Mt.fnd0) 31 (0,0)):=(hb7.block (n+1) HN1.out).trans HU5.out
   have HB7:Hid (Below n w w7):=HB5.out.trans (hb7.mono (by have:=HN1.out;omega))
   clear hb7 V5 o3
   go_wp2_with (refine store_blk 31 22 Try.sizeFd (by rfl) (.tmp 8) (.tmp 37) (by rfl) (n+1) (fpA S1) (by rfl) (by rfl) U7 (by rfl) (fpA_size _ hlS) (fpA_all _) ?_;intro w9 q1 q2 q3 q4)
   refine bodyPost_ret (ret_blk2 31 22 Try.underlying31 rfl Try.sizeFd rfl (by rfl) q1 (fpA_size _ hlS)) rfl ⟨?_,?_⟩
   ·rw [HES.out];rfl
   ·first | exact HB7.out.trans (q4 n (by omega)) | (rw [hnn];exact HB7.out.trans (q4 n (by omega)))
  ·have h13:=(HMF'.out.2 hmp).2 hin
   have HE:Hid (RR=(Mt.fnd0,13)):=by show _=_;rw [HRR.out];unfold Mt.findR;rw [if_neg (by omega),h13,if_pos (by omega)]
   clear hv hci hri hnq hk hmp h13
   by_cases hneg:frm<0
   ·have hc1:decide (frm<0)=true:=by rw [decide_eq_true_eq];exact hneg
    go_wp2_with (refine store_blk 31 22 Try.sizeFd (by rfl) (.tmp 8) (.tmp 31) (by rfl) (n+1) (fpA Mt.fnd0) (by rfl) (by rfl) U5 (by rfl) (fpA_size _ rfl) (fpA_all _) ?_;intro w9 q1 q2 q3 q4)
    refine bodyPost_ret (ret_blk2 31 22 Try.underlying31 rfl Try.sizeFd rfl (by rfl) q1 (fpA_size _ rfl)) rfl ⟨?_,?_⟩
    ·rw [HE.out];rfl
    ·first | exact HB5.out.trans (q4 n (by omega)) | (rw [hnn];exact HB5.out.trans (q4 n (by omega)))
   ·have hc1:decide (frm<0)=false:=by rw [decide_eq_false_iff_not];exact hneg
    have hc2:decide (frm>(t.size:Int))=true:=by rw [decide_eq_true_eq];omega
    go_wp2_with (refine store_blk 31 22 Try.sizeFd (by rfl) (.tmp 8) (.tmp 31) (by rfl) (n+1) (fpA Mt.fnd0) (by rfl) (by rfl) U5 (by rfl) (fpA_size _ rfl) (fpA_all _) ?_;intro w9 q1 q2 q3 q4)
    refine bodyPost_ret (ret_blk2 31 22 Try.underlying31 rfl Try.sizeFd rfl (by rfl) q1 (fpA_size _ rfl)) rfl ⟨?_,?_⟩
    ·rw [HE.out];rfl
    ·first | exact HB5.out.trans (q4 n (by omega)) | (rw [hnn];exact HB5.out.trans (q4 n (by omega)))
structure Shown (f:Mt.Fnd) (a b:Int):Prop where
 len:f.at'.length=20
 s1:1≤f.steps
 s2:f.steps≤10000
 ok:f.ok=decide (0≤a)
 a0:f.at'.getD 0 0=if a<0 then -1 else a
 b0:f.at'.getD 1 0=if a<0 then -1 else b
theorem shown_true (f:Mt.Fnd) (a b:Int) (h:Shown f a b) (w:World) :
  Calls Try.prog 25 #[.agg (fpA f),.int .i64 0,.int .i64 a,.int .i64 b] w fun e w'=>e=.returned (.bool true)∧Below w.heap.size w w':=by
 obtain ⟨z,hz⟩:∃ z,z=w.alloc (.cells (fpA f) 31):=⟨_,rfl⟩
 have q1:z.heap[w.heap.size]?=some (.cells (fpA f) 31 (0,0)):=by rw [hz];exact heap_b1 _ _
 have HB:Hid (Below w.heap.size w z):=by rw [hz];exact (Below.refl _ _).alloc (Nat.le_refl _) _
 have l1:w.heap.size<z.heap.size:=by rw [hz];simp
 have c0:z.cell? ⟨w.heap.size,0,none⟩=some (.bool f.ok):=((cell_block q1).1 _).trans (fpA_ok _)
 have c21:z.cell? ⟨w.heap.size,21,none⟩=some (.int .i64 f.steps):=((cell_block q1).1 _).trans (fpA_steps _ h.len)
 have c1:z.cell? ⟨w.heap.size,1,none⟩=some (.int .i64 (f.at'.getD 0 0)):=((cell_block q1).1 _).trans (fpA_get f h.len 0 (by omega))
 have c2:z.cell? ⟨w.heap.size,2,none⟩=some (.int .i64 (f.at'.getD 1 0)):=((cell_block q1).1 _).trans (fpA_get f h.len 1 (by omega))
 have s1:=h.s1
 have s2:=h.s2
 rw [h.ok] at c0
 rw [h.a0] at c1
 rw [h.b0] at c2
 have d1:decide (f.steps<1)=false:=by rw [decide_eq_false_iff_not];omega
 have d2:decide (10000<f.steps)=false:=by rw [decide_eq_false_iff_not];omega
 clear h q1 s1 s2
 go_enter Try.func25,Try.ntmps25
 go_upto_region 1 with fail
 show Code.wp _ _ _ _ (w.alloc (.cells (fpA f) 31))
 rw [← hz]
 clear hz
 generalize f.steps=S at *
 generalize hn:w.heap.size=n at *
 by_cases ha:a<0
 ·rw [if_pos ha] at c1 c2
  have m1:decide (a<0)=true:=by rw [decide_eq_true_eq];exact ha
  have m2:decide (0≤a)=false:=by rw [decide_eq_false_iff_not];omega
  rw [m2] at c0
  clear ha
  go_wp2_with fail
  go_ret
  exact ⟨rfl,by rw [hn];exact HB.out⟩
 ·rw [if_neg ha] at c1 c2
  have m1:decide (a<0)=false:=by rw [decide_eq_false_iff_not];exact ha
  have m2:decide (0≤a)=true:=by rw [decide_eq_true_eq];omega
  have m3:(a==a)=true:=by simp
  have m4:(b==b)=true:=by simp
  rw [m2] at c0
  clear ha
  go_wp2_with fail
  go_ret
  exact ⟨rfl,by rw [hn];exact HB.out⟩
def Without (f:Mt.Fnd) (k:Nat):Prop:=f.at'.length=20∧∀ i,1≤i→i<10→i≠k→f.at'.getD (2*i) 0=-1∧f.at'.getD (2*i+1) 0=-1
theorem without_true (f:Mt.Fnd) (g:Nat) (h:Without f g) (w:World) :
  Calls Try.prog 24 #[.agg (fpA f),.int .i64 (g:Int)] w fun e w'=>e=.returned (.bool true)∧Below w.heap.size w w':=by
 obtain ⟨z,hz⟩:∃ z,z=w.alloc (.cells (fpA f) 31):=⟨_,rfl⟩
 have q1:z.heap[w.heap.size]?=some (.cells (fpA f) 31 (0,0)):=by rw [hz];exact heap_b1 _ _
 have HB:Hid (Below w.heap.size w z):=by rw [hz];exact (Below.refl _ _).alloc (Nat.le_refl _) _
 have l1:w.heap.size<z.heap.size:=by rw [hz];simp
 have HC:Hid (∀ i,1≤i→i<10→i≠g→z.cell? ⟨w.heap.size,1+2*i,none⟩=some (.int .i64 (-1))∧z.cell? ⟨w.heap.size,1+(2*i+1),none⟩=some (.int .i64 (-1))):=fun i h1 h2 h3=>by
  have:=h.2 i h1 h2 h3
  exact ⟨((cell_block q1).1 _).trans ((fpA_get f h.1 (2*i) (by omega)).trans (by rw [this.1])),((cell_block q1).1 _).trans ((fpA_get f h.1 (2*i+1) (by omega)).trans (by rw [this.2]))⟩
 clear h q1
 go_enter Try.func24,Try.ntmps24
 go_upto_region 1 with fail
 show Code.wp _ _ _ _ (w.alloc (.cells (fpA f) 31))
 rw [← hz]
 clear hz
 generalize hn:w.heap.size=n at *
 go_wp2_with fail
 go_loopw [5] (fun i wr=>∃ k:Nat,1≤k∧k≤10∧i=.int .i64 k∧wr=z) (fun i _=>10-(intOf i).toNat)
 case atStart=>exact ⟨1,Nat.le_refl _,by omega,rfl,rfl⟩
 case round =>
  obtain ⟨k,hk1,hk,rfl,rfl⟩:=hrel
  by_cases hlt:k<10
  ·have i1:(k:Int)<10:=by omega
   have i2:(2:Int)*(k:Int)<20:=by omega
   have i3:(2:Int)*(k:Int)+1<20:=by omega
   by_cases hg:k=g
   ·subst hg
    have m1:((k:Int) != (k:Int))=false:=by simp
    go_wp2_with fail
    go_roundw
    case rel=>exact ⟨k+1,by omega,by omega,by go_num,trivial⟩
    case measure=>simp [intOf];omega
   ·obtain ⟨a0,b0⟩:=HC.out k hk1 hlt hg
    have m1:((k:Int) != (g:Int))=true:=by rw [bne_iff_ne];omega
    clear hg
    go_wp2_with fail
    go_roundw
    case rel=>exact ⟨k+1,by omega,by omega,by go_num,trivial⟩
    case measure=>simp [intOf];omega
  ·go_wp2_with fail
   go_ret
   exact ⟨rfl,by rw [hn];exact HB.out⟩
def someB (p:ByteArray) (n:Nat):ByteArray:=if n<p.size then p.extract 0 n else p
theorem someB_size (p:ByteArray) (n:Nat):(someB p n).size≤n∧(someB p n).size≤p.size:=by
 unfold someB
 split
 ·simp [ByteArray.size_extract];omega
 ·omega
theorem some_any (p:ByteArray) (n:Nat) (w:World) (hm:p.size≤maxLen) (hn:n≤1000):Calls Try.prog 8 #[.string p,.int .i64 (n:Int)] w fun e w'=>e=.returned (.string (someB p n))∧w=w':=by
 unfold maxLen at hm
 unfold someB
 by_cases h:n<p.size
 ·have d1:decide ((n:Int)<(p.size:Int))=true:=by simpa using h
  rw [if_pos h]
  go_enter Try.func8,Try.ntmps8
  go_wp2_with fail
  go_ret
  exact ⟨rfl,rfl⟩
 ·have d1:decide ((n:Int)<(p.size:Int))=false:=by simpa using h
  rw [if_neg h]
  go_enter Try.func8,Try.ntmps8
  go_wp2_with fail
  go_ret
  exact ⟨rfl,rfl⟩
open Go.ChangeShapes Go.WideShapes Go.ChangeAt Go.RowKit
theorem Try.ownK:ownKnob Try.prog.godebug=none:=by kernel_rfl
theorem post_below {H:Type} {enc:TypeId × Value→H} {P:Program} {f:Func} {s:ChangeSpec} {apart fresh handsOn again:Bool} {W W':World} {args:Array Value} {v:Value} {ds gs:List (DataW H)} {before pa pv:List MemPlace}
  (hW:DataW.Whole enc P f.params.toList s.vars apart W args.toList ds gs before)
  (hres:∀ (b:Nat) (sp:Nat→Bool) (hd:Bool),DataW.TrodAll enc P W' b sp hd f.resultTypes.toList (v.resultList f.resultTypes.size) (s.fn H (ds++gs)).results [])
  (hargs:∀ sp:Nat→Bool,(∀ p∈before,sp p.block=true)→DataW.TrodAll enc P W' 0 sp true f.params.toList args.toList (s.fn H (ds++gs)).args pa)
  (hvars:∀ sp:Nat→Bool,(∀ p∈before,sp p.block=true)→DataW.TrodVars enc P W' sp s.vars (s.fn H (ds++gs)).vars pv)
  (hps:before=pa++pv) (hb:Below W.heap.size W W')
  (hok:∀ (j:Nat) (t:TypeId) (r:Value),f.resultTypes[j]?=some t→(v.resultList f.resultTypes.size)[j]?=some r→Value.okWide P W' .any 0 t r) :
  s.post enc P f apart fresh handsOn again W args v W':=by
 have hlt:=hW.lt
 have hold:∀ p∈before,(fun b=>decide (b<W.heap.size)) p.block=true:=fun p hp=>by simpa using hlt p hp
 refine ⟨ds,gs,before,[],pa,pv,hW,hres _ _ _,hargs _ hold,hvars _ hold,World.keptBut_mono (fun p hp=>⟨hp,?_⟩) (hb.frame (·∈before)),fun _=>?_⟩
 ·rw [hps,List.mem_append] at hp
  exact Or.inr hp
 ·obtain ⟨_,_,_,_,_,hz,hn⟩:=hW
  refine ⟨hok,_,_,([]++pa)++pv,⟨[]++pa,pv,trodAll_append (hargs _ (fun _ _=>rfl)) (hres _ _ _),hvars _ (fun _ _=>rfl),rfl,?_,?_⟩,?_⟩
  ·intro b off hp
   have hm:MemPlace.cell b off∈before:=by rw [hps];simpa using hp
   rw [hb.frozen (p:=⟨b,off,none⟩) (hlt _ hm)]
   exact hz b off hm
  ·intro ha
   have:=hn ha
   rw [hps] at this
   simpa using this
  ·intro p hp _
   rw [hps]
   simpa using hp
end Go.Proofs.Ytebpgfodelggoab
set_option maxRecDepth 100000
namespace Go.Proofs.Ytebpgfodelggoab
open Go.ChangeShapes Go.WideShapes Go.ChangeAt Go.RowKit Go.ChangeMaps Go.Joins
theorem wf_i64 {n:Int} (h:(Lit.int .i64 n).wf=true):I64 n:=by
 unfold Lit.wf at h
 rw [Bool.and_eq_true,decide_eq_true_eq,decide_eq_true_eq] at h
 exact ⟨h.1,h.2⟩
def optD {H:Type} (a b c d:Int):DataW H:=.agg [.lit (.int .i64 a),.lit (.int .i64 b),.lit (.int .i64 c),.lit (.int .i64 d)]
theorem opt_open {H:Type} {enc:TypeId × Value→H} {w:World} {base:Nat} {spare:Nat→Bool} {held:Bool} {r:Reach} {b0:Nat} {v:Value} {d:DataW H} {p:List MemPlace} (hv:Value.okWide Try.prog w r b0 23 v) (h:DataW.Trod enc Try.prog w base spare held 23 v d p) :
  ∃ a b c e:Int,v=.agg #[.int .i64 a,.int .i64 b,.int .i64 c,.int .i64 e]∧d=optD a b c e∧p=[]∧((Lit.int .i64 a).wf=true∧(Lit.int .i64 b).wf=true∧(Lit.int .i64 c).wf=true∧(Lit.int .i64 e).wf=true):=by
 obtain ⟨v0,v1,v2,v3,y0,y1,y2,y3,n,rfl,rfl,rfl,h0,h1,h2,h3⟩:=open_agg4 Try.underlying23 (by kernel_rfl) (by kernel_rfl) hv h
 obtain ⟨a,ha,rfl,wa⟩:=DataW.trod_int Try.underlying3 h0
 obtain ⟨b,hb,rfl,wb⟩:=DataW.trod_int Try.underlying3 h1
 obtain ⟨c,hc,rfl,wc⟩:=DataW.trod_int Try.underlying3 h2
 obtain ⟨e,he,rfl,we⟩:=DataW.trod_int Try.underlying3 h3
 simp only [List.cons.injEq,and_true] at ha hb hc he
 subst ha;subst hb;subst hc;subst he
 exact ⟨a,b,c,e,rfl,rfl,rfl,wa,wb,wc,we⟩
theorem opt_shut {H:Type} {enc:TypeId × Value→H} {w:World} {base:Nat} {spare:Nat→Bool} {held:Bool} {a b c e:Int} (h:(Lit.int .i64 a).wf=true∧(Lit.int .i64 b).wf=true∧(Lit.int .i64 c).wf=true∧(Lit.int .i64 e).wf=true) :
  DataW.Trod enc Try.prog w base spare held 23 (.agg #[.int .i64 a,.int .i64 b,.int .i64 c,.int .i64 e]) (optD a b c e) []:=by
 have key:∀ n:Int,(Lit.int .i64 n).wf=true→∃ k,DataW.trod enc Try.prog w base spare held k 3 [.int .i64 n]=some (.lit (.int .i64 n),[]):=fun n hn=>⟨1,by simp [DataW.trod,Try.underlying3,hn]⟩
 exact shut_agg4 (y0:=(.lit (.int .i64 a),[])) (y1:=(.lit (.int .i64 b),[])) (y2:=(.lit (.int .i64 c),[])) (y3:=(.lit (.int .i64 e),[])) Try.underlying23 (by kernel_rfl) (by kernel_rfl) (key a h.1) (key b h.2.1) (key c h.2.2.1) (key e h.2.2.2)
theorem trodAll_five {H:Type} {enc:TypeId × Value→H} {P:Program} {w:World} {base:Nat} {spare:Nat→Bool} {held:Bool} {t0 t1 t2 t3 t4:TypeId} {args:Array Value} {ds:List (DataW H)} {ps:List MemPlace} (h:DataW.TrodAll enc P w base spare held [t0,t1,t2,t3,t4] args.toList ds ps) :
  ∃ v0 v1 v2 v3 v4 d0 d1 d2 d3 d4 p0 p1 p2 p3 p4,args=#[v0,v1,v2,v3,v4]∧ds=[d0,d1,d2,d3,d4]∧ps=p0++(p1++(p2++(p3++p4)))∧DataW.Trod enc P w base spare held t0 v0 d0 p0∧DataW.Trod enc P w base spare held t1 v1 d1 p1∧DataW.Trod enc P w base spare held t2 v2 d2 p2∧DataW.Trod enc P w base spare held t3 v3 d3 p3∧DataW.Trod enc P w base spare held t4 v4 d4 p4:=by
 obtain ⟨v0,l0,d0,e0,p0,q0,ha,rfl,rfl,h0,h⟩:=trodAll_cons h
 obtain ⟨v1,l1,d1,e1,p1,q1,rfl,rfl,rfl,h1,h⟩:=trodAll_cons h
 obtain ⟨v2,l2,d2,e2,p2,q2,rfl,rfl,rfl,h2,h⟩:=trodAll_cons h
 obtain ⟨v3,l3,d3,e3,p3,q3,rfl,rfl,rfl,h3,h⟩:=trodAll_cons h
 obtain ⟨v4,l4,d4,e4,p4,q4,rfl,rfl,rfl,h4,h⟩:=trodAll_cons h
 obtain ⟨rfl,rfl,rfl⟩:=trodAll_nil h
 exact ⟨v0,v1,v2,v3,v4,d0,d1,d2,d3,d4,p0,p1,p2,p3,p4,by cases args;simp_all,rfl,by simp,h0,h1,h2,h3,h4⟩
end Go.Proofs.Ytebpgfodelggoab
