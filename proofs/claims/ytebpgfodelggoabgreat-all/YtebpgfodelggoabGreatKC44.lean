import Derived.Test.YtebpgfodelggoabGreatKC41
import Derived.Test.YtebpgfodelggoabGreatKC43
import Derived.Test.YtebpgfodelggoabGreatKC20
import Derived.Test.YtebpgfodelggoabGreatKC27
import Derived.Test.YtebpgfodelggoabGreatKC40
import Derived.Deep.DeepCutAuto
import Derived.Great.BuildSlice
set_option linter.unusedVariables false
set_option linter.unusedSimpArgs false
set_option maxRecDepth 100000
set_option maxHeartbeats 8000000
namespace Go.Proofs.YtebpgfodelggoabGreat
open Go.RowKit
def yK(T:Nat)(zB zI zD zA:Int):Int :=
 if 60<T then 1 else if Mt.kF zB zI=true/\0<=zD/\zD<=5000/\0<=zA/\zA<=10000 then 0 else 13
def tk0:Array Value:=#[.slice none 0 0,.slice none 0 0,.string ⟨#[]⟩,.int .i64 0]
theorem Tryz.sizeTk:(Tryz.prog.info? 84).map (·.size)=some 4:=by kernel_rfl
def zHx(p t:ByteArray)(zB zI zD zA:Int)(n0:Nat)(v:Array Value)(e:Int)(w:World):Prop :=
 v.size=4/\v.all (·.oneCell')=true/\(((Mt.kC p).2≠0/\e=(Mt.kC p).2)\/((Mt.kC p).2=0/\yK t.size zB zI zD zA≠0/\e=yK t.size zB zI zD zA) \/
  ((Mt.kC p).2=0/\yK t.size zB zI zD zA=0/\e=0/\∃g cap q nq cq,v=#[.slice (some ⟨g,0,none⟩) (Mt.kC p).1.length cap,.slice (some ⟨q,0,none⟩) nq cq,.string t,.int .i64 zD]/\zF w n0 (.slice (some ⟨g,0,none⟩) (Mt.kC p).1.length cap) (Mt.kC p).1/\qK w n0 (.slice (some ⟨q,0,none⟩) nq cq) (Mt.kY (Mt.jD (Mt.kC p).1 zB zI) (Mt.kC p).1.length)/\nq=(Mt.kY (Mt.jD (Mt.kC p).1 zB zI) (Mt.kC p).1.length).length))
theorem zB2(T:Nat)(zB zI zD zA:Int):(decide ((T:Int)>60)=true/\yK T zB zI zD zA=1)\/(decide ((T:Int)>60)=false/\Mt.kF zB zI=false/\yK T zB zI zD zA=13)\/(decide ((T:Int)>60)=false/\Mt.kF zB zI=true/\decide (zD<0)=true/\yK T zB zI zD zA=13)\/(decide ((T:Int)>60)=false/\Mt.kF zB zI=true/\decide (zD<0)=false/\decide (zD>5000)=true/\yK T zB zI zD zA=13)\/(decide ((T:Int)>60)=false/\Mt.kF zB zI=true/\decide (zD<0)=false/\decide (zD>5000)=false/\decide (zA<0)=true/\yK T zB zI zD zA=13)\/(decide ((T:Int)>60)=false/\Mt.kF zB zI=true/\decide (zD<0)=false/\decide (zD>5000)=false/\decide (zA<0)=false/\decide (zA>10000)=true/\yK T zB zI zD zA=13)\/(decide ((T:Int)>60)=false/\Mt.kF zB zI=true/\decide (zD<0)=false/\decide (zD>5000)=false/\decide (zA<0)=false/\decide (zA>10000)=false/\yK T zB zI zD zA=0/\T<=60/\(0<=zD/\zD<=5000)/\(0<=zA/\zA<=10000)):=by
 unfold yK;simp only[decide_eq_true_eq,lJ];by_cases h1:60<T
 ·rw[if_pos h1];left;exact⟨by omega,rfl⟩
 rw[if_neg h1];right;cases hs:Mt.kF zB zI
 ·left;exact⟨by omega,rfl,if_neg (λx=>by cases x.1)⟩
 right;by_cases h2:zD<0
 ·left;exact⟨by omega,rfl,h2,if_neg (by omega)⟩
 right;by_cases h3:zD>5000
 ·left;exact⟨by omega,rfl,h2,h3,if_neg (by omega)⟩
 right;by_cases h4:zA<0
 ·left;exact⟨by omega,rfl,h2,by omega,h4,if_neg (by omega)⟩
 right;by_cases h5:zA>10000
 ·left;exact⟨by omega,rfl,h2,by omega,h4,h5,if_neg (by omega)⟩
 right;exact⟨by omega,rfl,h2,by omega,h4,by omega,if_pos ⟨rfl,by omega,by omega,by omega,by omega⟩,by omega,by omega,by omega⟩
theorem zEf(p t:ByteArray)(zB zI zD zA:Int)(w:World)(hm:p.size<=maxLen)(hmt:t.size<=maxLen):Calls Tryz.prog 47 #[.string p,.string t,.agg #[.int .i64 zB,.int .i64 zI,.int .i64 zD,.int .i64 zA]] w λe w'=>∃v er,e=.returned (.tuple #[.agg v,.int .i64 er])/\zHx p t zB zI zD zA w.heap.size v er w'/\Below w.heap.size w w':=by
 obtain⟨W1,hW1⟩:∃W1,W1=(w.alloc (.cells #[.int .i64 zB,.int .i64 zI,.int .i64 zD,.int .i64 zA] 61)).alloc (.cells tk0 84):=⟨_,rfl⟩
 have B1:Below w.heap.size w W1:=by rw[hW1];exact((Below.refl _ _).alloc (lG _) _).alloc (by simp) _
 have T1:W1.heap[w.heap.size]?=some (.cells #[.int .i64 zB,.int .i64 zI,.int .i64 zD,.int .i64 zA] 61 (0,0)):=by rw[hW1];exact mX _ _ _
 have U1:W1.heap[w.heap.size+1]?=some (.cells tk0 84 (0,0)):=by rw[hW1];exact mF _ _ _
 have Z1:W1.heap.size=w.heap.size+2:=by rw[hW1];simp
 have HC:Hid (Calls Tryz.prog 18 #[.string p] W1 λe w'=>∃v,e=.returned (.tuple #[v,.int .i64 (Mt.kC p).2])/\zF w' W1.heap.size v (Mt.kC p).1/\Below W1.heap.size W1 w'):=zC9 p W1 hm;have HIC:Hid (∀z:World,Calls Tryz.prog 43 #[.int .i64 zB,.int .i64 zI] z λe w'=>e=.returned (.bool (Mt.kF zB zI))/\z=w'):=λz=>zCN zB zI z
 have hl:=(Mt.bN p).2;have HKN:Hid (∀h0:(Mt.kC p).2=0,(∃A,Mt.Known (Mt.kC p).1 A)/\Mt.zKG 0 (Mt.kC p).1):=λh0=>⟨Mt.dW p (fT p h0),Mt.zCM p (fT p h0)⟩
 have HMS:Hid (Mt.kF zB zI=true->0<=zB/\zB<=4/\0<=zI/\zI<=4294967295):=λhms=>by unfold Mt.kF at hms;simpa using hms
 have HB1:Hid (Below w.heap.size w W1):=B1;have HT1:Hid (W1.heap[w.heap.size]?=some (.cells #[.int .i64 zB,.int .i64 zI,.int .i64 zD,.int .i64 zA] 61 (0,0))/\W1.heap[w.heap.size+1]?=some (.cells tk0 84 (0,0))/\W1.heap.size=w.heap.size+2):=⟨T1,U1,Z1⟩
 have zSV:(t.size:Int)<=9223372036854775807:=by unfold maxLen at hmt;omega
 clear B1 T1 U1 Z1;go_enter Tryz.func47,Tryz.ntmps47
 go_upto_region 1 with fail
 show Code.wp _ _ _ _ ((w.alloc (.cells #[.int .i64 zB,.int .i64 zI,.int .i64 zD,.int .i64 zA] 61)).alloc (.cells tk0 84));rw[<-hW1];clear hW1;generalize hnn:w.heap.size=n at *;generalize hKK:Mt.kC p=K at *;go_wp2_with fail
 refine HC.out.mono ?_;rintro e w2 ⟨v,rfl,ho,zTK⟩;have hz:=HT1.out.2.2;have T2:w2.heap[n]?=some (.cells #[.int .i64 zB,.int .i64 zI,.int .i64 zD,.int .i64 zA] 61 (0,0)):=(zTK.block n (by omega)).trans HT1.out.1;have U2:w2.heap[n+1]?=some (.cells tk0 84 (0,0)):=(zTK.block (n+1) (by omega)).trans HT1.out.2.1;have HB2:Hid (Below n w w2):=HB1.out.trans (zTK.mono (by omega));have HO:Hid (zF w2 (n+2) v K.1):=ho.base (by omega);have o0:w2.cell? ⟨n,0,none⟩=some (.int .i64 zB):=(zC T2).1 0;have o1:w2.cell? ⟨n,1,none⟩=some (.int .i64 zI):=(zC T2).1 1;have o2:w2.cell? ⟨n,2,none⟩=some (.int .i64 zD):=(zC T2).1 2;have o3:w2.cell? ⟨n,3,none⟩=some (.int .i64 zA):=(zC T2).1 3;have HT2:Hid (w2.heap[n]?=some (.cells #[.int .i64 zB,.int .i64 zI,.int .i64 zD,.int .i64 zA] 61 (0,0))/\n+1<w2.heap.size):=⟨T2,(lI.1 U2).1⟩
 clear ho zTK HC HT1 HB1 hz T2;cases he:(K.2 != 0)
 ·have h0:K.2=0:=by simpa using he
  rcases zB2 t.size zB zI zD zA with ⟨m1,me⟩ | ⟨m1,m2,me⟩ | ⟨m1,m2,m3,me⟩ | ⟨m1,m2,m3,m4,me⟩ | ⟨m1,m2,m3,m4,m5,me⟩ | ⟨m1,m2,m3,m4,m5,m6,me⟩ | ⟨m1,m2,m3,m4,m5,m6,me,zOT,hrr,hbb⟩
  ·have m1':decide (60<t.size)=true:=by rw[decide_eq_true_eq]at m1 |-;omega
   have HME:Hid (yK t.size zB zI zD zA=1/\K.2=0):=⟨me,h0⟩
   clear me h0;go_wp2_with (refine zM 84 4 Tryz.sizeTk (by rfl) (.tmp 6) (.tmp 23) (by rfl) (n+1) tk0 (by rfl) (by rfl) U2 (by rfl) (by rfl) (by simp[tk0,Value.oneCell']) ?_;intro w9 q1 q2 q3 q4)
   refine bodyPost_ret (jK 84 4 Tryz.underlying84 rfl Tryz.sizeTk rfl (by rfl) q1 (by rfl)) rfl ⟨_,_,rfl,?_,?_⟩
   ·rw[<-hKK]at HME;exact⟨rfl,by simp[tk0,Value.oneCell'],Or.inr (Or.inl ⟨HME.out.2,by rw[HME.out.1];omega,HME.out.1.symm⟩)⟩
   ·first | exact HB2.out.trans (q4 n (by omega))|(rw[hnn];exact HB2.out.trans (q4 n (by omega)))
  ·have m1':decide (60<t.size)=false:=by rw[lJ]at m1 |-;omega
   have HME:Hid (yK t.size zB zI zD zA=13/\K.2=0):=⟨me,h0⟩
   rw[m2]at HIC;clear me h0;go_wp2_with fail
   refine(HIC.out w2).mono ?_;rintro e w3 ⟨rfl,rfl⟩;go_wp2_with (refine zM 84 4 Tryz.sizeTk (by rfl) (.tmp 6) (.tmp 50) (by rfl) (n+1) tk0 (by rfl) (by rfl) U2 (by rfl) (by rfl) (by simp[tk0,Value.oneCell']) ?_;intro w9 q1 q2 q3 q4)
   refine bodyPost_ret (jK 84 4 Tryz.underlying84 rfl Tryz.sizeTk rfl (by rfl) q1 (by rfl)) rfl ⟨_,_,rfl,?_,?_⟩
   ·rw[<-hKK]at HME;exact⟨rfl,by simp[tk0,Value.oneCell'],Or.inr (Or.inl ⟨HME.out.2,by rw[HME.out.1];omega,HME.out.1.symm⟩)⟩
   ·first | exact HB2.out.trans (q4 n (by omega))|(rw[hnn];exact HB2.out.trans (q4 n (by omega)))
  ·have m1':decide (60<t.size)=false:=by rw[lJ]at m1 |-;omega
   have HME:Hid (yK t.size zB zI zD zA=13/\K.2=0):=⟨me,h0⟩
   rw[m2]at HIC;clear me h0;go_wp2_with fail
   refine(HIC.out w2).mono ?_;rintro e w3 ⟨rfl,rfl⟩;go_wp2_with (refine zM 84 4 Tryz.sizeTk (by rfl) (.tmp 6) (.tmp 50) (by rfl) (n+1) tk0 (by rfl) (by rfl) U2 (by rfl) (by rfl) (by simp[tk0,Value.oneCell']) ?_;intro w9 q1 q2 q3 q4)
   refine bodyPost_ret (jK 84 4 Tryz.underlying84 rfl Tryz.sizeTk rfl (by rfl) q1 (by rfl)) rfl ⟨_,_,rfl,?_,?_⟩
   ·rw[<-hKK]at HME;exact⟨rfl,by simp[tk0,Value.oneCell'],Or.inr (Or.inl ⟨HME.out.2,by rw[HME.out.1];omega,HME.out.1.symm⟩)⟩
   ·first | exact HB2.out.trans (q4 n (by omega))|(rw[hnn];exact HB2.out.trans (q4 n (by omega)))
  ·have m1':decide (60<t.size)=false:=by rw[lJ]at m1 |-;omega
   have HME:Hid (yK t.size zB zI zD zA=13/\K.2=0):=⟨me,h0⟩
   rw[m2]at HIC;clear me h0;go_wp2_with fail
   refine(HIC.out w2).mono ?_;rintro e w3 ⟨rfl,rfl⟩;go_wp2_with (refine zM 84 4 Tryz.sizeTk (by rfl) (.tmp 6) (.tmp 50) (by rfl) (n+1) tk0 (by rfl) (by rfl) U2 (by rfl) (by rfl) (by simp[tk0,Value.oneCell']) ?_;intro w9 q1 q2 q3 q4)
   refine bodyPost_ret (jK 84 4 Tryz.underlying84 rfl Tryz.sizeTk rfl (by rfl) q1 (by rfl)) rfl ⟨_,_,rfl,?_,?_⟩
   ·rw[<-hKK]at HME;exact⟨rfl,by simp[tk0,Value.oneCell'],Or.inr (Or.inl ⟨HME.out.2,by rw[HME.out.1];omega,HME.out.1.symm⟩)⟩
   ·first | exact HB2.out.trans (q4 n (by omega))|(rw[hnn];exact HB2.out.trans (q4 n (by omega)))
  ·have m1':decide (60<t.size)=false:=by rw[lJ]at m1 |-;omega
   have HME:Hid (yK t.size zB zI zD zA=13/\K.2=0):=⟨me,h0⟩
   rw[m2]at HIC;clear me h0;go_wp2_with fail
   refine(HIC.out w2).mono ?_;rintro e w3 ⟨rfl,rfl⟩;go_wp2_with (refine zM 84 4 Tryz.sizeTk (by rfl) (.tmp 6) (.tmp 50) (by rfl) (n+1) tk0 (by rfl) (by rfl) U2 (by rfl) (by rfl) (by simp[tk0,Value.oneCell']) ?_;intro w9 q1 q2 q3 q4)
   refine bodyPost_ret (jK 84 4 Tryz.underlying84 rfl Tryz.sizeTk rfl (by rfl) q1 (by rfl)) rfl ⟨_,_,rfl,?_,?_⟩
   ·rw[<-hKK]at HME;exact⟨rfl,by simp[tk0,Value.oneCell'],Or.inr (Or.inl ⟨HME.out.2,by rw[HME.out.1];omega,HME.out.1.symm⟩)⟩
   ·first | exact HB2.out.trans (q4 n (by omega))|(rw[hnn];exact HB2.out.trans (q4 n (by omega)))
  ·have m1':decide (60<t.size)=false:=by rw[lJ]at m1 |-;omega
   have HME:Hid (yK t.size zB zI zD zA=13/\K.2=0):=⟨me,h0⟩
   rw[m2]at HIC;clear me h0;go_wp2_with fail
   refine(HIC.out w2).mono ?_;rintro e w3 ⟨rfl,rfl⟩;go_wp2_with (refine zM 84 4 Tryz.sizeTk (by rfl) (.tmp 6) (.tmp 50) (by rfl) (n+1) tk0 (by rfl) (by rfl) U2 (by rfl) (by rfl) (by simp[tk0,Value.oneCell']) ?_;intro w9 q1 q2 q3 q4)
   refine bodyPost_ret (jK 84 4 Tryz.underlying84 rfl Tryz.sizeTk rfl (by rfl) q1 (by rfl)) rfl ⟨_,_,rfl,?_,?_⟩
   ·rw[<-hKK]at HME;exact⟨rfl,by simp[tk0,Value.oneCell'],Or.inr (Or.inl ⟨HME.out.2,by rw[HME.out.1];omega,HME.out.1.symm⟩)⟩
   ·first | exact HB2.out.trans (q4 n (by omega))|(rw[hnn];exact HB2.out.trans (q4 n (by omega)))
  ·have m1':decide (60<t.size)=false:=by rw[lJ]at m1 |-;omega
   have HME:Hid (yK t.size zB zI zD zA=0/\K.2=0):=⟨me,h0⟩
   obtain⟨⟨A,hKn⟩,hN⟩:=HKN.out h0;have zMS:=HMS.out m2;rw[m2]at HIC;obtain⟨g,cap,rfl,_,_⟩:=World.ownsRow.form HO.out hKn.pos;have HCC:Hid (Calls Tryz.prog 44 #[.slice (some ⟨g,0,none⟩) K.1.length cap,.int .i64 zB,.int .i64 zI] w2 λe w'=>∃q nq cp,e=.returned (.slice (some ⟨q,0,none⟩) nq cp)/\nq=(Mt.kY (Mt.jD K.1 zB zI) K.1.length).length/\qK w' w2.heap.size (.slice (some ⟨q,0,none⟩) nq cp) (Mt.kY (Mt.jD K.1 zB zI) K.1.length)/\Below w2.heap.size w2 w'):=zBk _ hKn.ok hN zB zI ⟨zMS.1,zMS.2.1⟩ zMS.2.2.1 zMS.2.2.2 hl g cap w2 (HO.out.base (Nat.zero_le _));have dI:=hKn.pos;clear me h0 hKn hN zMS HKN;go_wp2_with fail
   refine(HIC.out w2).mono ?_;rintro e w3 ⟨rfl,rfl⟩;go_wp2_with fail
   refine HCC.out.mono ?_;rintro e w4 ⟨q,nq,cq,rfl,hn,hrq,hb4⟩;have T4:w4.heap[n]?=some (.cells #[.int .i64 zB,.int .i64 zI,.int .i64 zD,.int .i64 zA] 61 (0,0)):=(hb4.block n (by have:=HT2.out.2;omega)).trans HT2.out.1;have U4:w4.heap[n+1]?=some (.cells tk0 84 (0,0)):=(hb4.block (n+1) HT2.out.2).trans U2;have p2:w4.cell? ⟨n,2,none⟩=some (.int .i64 zD):=(zC T4).1 2;have HB4:Hid (Below n w w4):=HB2.out.trans (hb4.mono (by have:=HT2.out.2;omega))
   have HR4:Hid (zF w4 n (.slice (some ⟨g,0,none⟩) K.1.length cap) K.1/\qK w4 n (.slice (some ⟨q,0,none⟩) nq cq) (Mt.kY (Mt.jD K.1 zB zI) K.1.length)/\nq=(Mt.kY (Mt.jD K.1 zB zI) K.1.length).length/\g≠n+1/\q≠n+1):=by
    have h1:=(World.ownsRow.lt HO.out g rfl).1;have h2:=(World.ownsRow.lt hrq q rfl).1;have h3:=HT2.out.2;exact⟨(HO.out.below hb4).base (by omega),jG hrq (by omega),hn,by omega,by omega⟩
   clear hb4 hrq hn T4 U2 o0 o1 o2 o3 HCC HIC;go_wp2_with (refine zM 84 4 Tryz.sizeTk (by rfl) (.tmp 6) (.tmp 62) (by rfl) (n+1) #[.slice (some ⟨g,0,none⟩) K.1.length cap,.slice (some ⟨q,0,none⟩) nq cq,.string t,.int .i64 zD] (by rfl) (by rfl) U4 (by rfl) (by rfl) (by simp[tk0,Value.oneCell']) ?_;intro w9 q1 q2 q3 q4)
   refine bodyPost_ret (jK 84 4 Tryz.underlying84 rfl Tryz.sizeTk rfl (by rfl) q1 (by rfl)) rfl ⟨_,_,rfl,?_,?_⟩
   ·rw[<-hKK]at HME HR4;obtain⟨h1,h2,h3,h4,h5⟩:=HR4.out;have k1:zF w9 n (.slice (some ⟨g,0,none⟩) (Mt.kC p).1.length cap) (Mt.kC p).1:=zT h1 (λi hi=>by cases hi;exact q2 g h4)
    have k2:qK w9 n (.slice (some ⟨q,0,none⟩) nq cq) (Mt.kY (Mt.jD (Mt.kC p).1 zB zI) (Mt.kC p).1.length):=by
     unfold qK at h2 |-;rw[<-h3]at h2 |-;exact zT h2 (λi hi=>by cases hi;exact q2 q h5)
    refine⟨rfl,by simp[Value.oneCell'],Or.inr (Or.inr ⟨HME.out.2,HME.out.1,rfl,g,cap,q,nq,cq,by rw[hKK],?_,?_,h3⟩)⟩
    ·first | exact k1|(rw[hnn];exact k1)
    ·first | exact k2|(rw[hnn];exact k2)
   ·first | exact HB4.out.trans (q4 n (by omega))|(rw[hnn];exact HB4.out.trans (q4 n (by omega)))
 ·have HKE:Hid (K.2≠0):=by show _≠_;simpa using he
  go_wp2_with (refine zM 84 4 Tryz.sizeTk (by rfl) (.tmp 6) (.tmp 18) (by rfl) (n+1) tk0 (by rfl) (by rfl) U2 (by rfl) (by rfl) (by simp[tk0,Value.oneCell']) ?_;intro w9 q1 q2 q3 q4)
  refine bodyPost_ret (jK 84 4 Tryz.underlying84 rfl Tryz.sizeTk rfl (by rfl) q1 (by rfl)) rfl ⟨_,_,rfl,?_,?_⟩
  ·rw[<-hKK]at HKE;exact⟨rfl,by simp[tk0,Value.oneCell'],Or.inl ⟨HKE.out,by rw[hKK]⟩⟩
  ·first | exact HB2.out.trans (q4 n (by omega))|(rw[hnn];exact HB2.out.trans (q4 n (by omega)))
theorem zOA(p:ByteArray)(h:(Mt.kC p).2=0)(k:Nat):((Mt.kC p).1.take k).countP Mt.vK=((Mt.kC p).1.take k).countP Mt.vX+Mt.jI (Mt.kC p).1 k:=by
 obtain⟨f,_,_,_,_,_,hc,_⟩:=Mt.mM p (fT p h);exact Mt.zCg f.re _ hc k
theorem zJr(c:List Mt.zTG)(t:ByteArray)(zB zI:Int)(p:Nat)(hp:p<c.length):(Mt.wJ c t zB zI).ar.getD p 0=Mt.jI c p:=by
 unfold Mt.wJ;dsimp only;rw[lH,List.getElem?_map,List.getElem?_range hp];rfl
theorem zHy{c:List Mt.zTG}{A:Int->Mt.Att}(hK:Mt.Known c A)(p:Nat)(hp:p<c.length):Mt.jI c p<=11:=by
 have h1:=hK.loops p hp;rcases Nat.lt_or_ge (p+1) c.length with h | h
 ·have:=(hK.rule p h).2.2.2.2.2.2.2.2.2.2.1;omega
 ·have e:p=c.length-1:=by omega
  have st:=hK.stop;rw[<-e]at st;rw[st]at h1;dsimp only at h1;omega
theorem zMT(p t:ByteArray)(zB zI:Int)(h0:(Mt.kC p).2=0)(A:Int->Mt.Att)(hK:Mt.Known (Mt.kC p).1 A)(ht:t.size<=60):zE4 (Mt.wJ (Mt.kC p).1 t zB zI):=by
 refine⟨zOA p h0,hK.len,λq hq=>?_,λq=>?_,ht⟩
 ·unfold Mt.Env.arN;rw[zJr (Mt.kC p).1 t zB zI q hq];show(Mt.jI (Mt.kC p).1 q:Int).toNat=Mt.jI (Mt.kC p).1 q;omega
 ·unfold Mt.Env.arN;rcases Nat.lt_or_ge q (Mt.kC p).1.length with h | h
  ·rw[zJr _ t zB zI q h];have:=zHy hK q h;omega
  ·have:(Mt.wJ (Mt.kC p).1 t zB zI).ar.getD q 0=0:=by
    unfold Mt.wJ;dsimp only;rw[lH,List.getElem?_eq_none (by simp;omega)];rfl
   rw[this];omega
theorem zJs(T:Nat)(zTE zB zI zD zA:Int):(yK T zB zI zD zA≠0->Mt.xW T zTE zB zI zD zA=yK T zB zI zD zA)/\(yK T zB zI zD zA=0->(0<=zTE/\zTE<=T->Mt.xW T zTE zB zI zD zA=0)/\(¬(0<=zTE/\zTE<=T)->Mt.xW T zTE zB zI zD zA=13)):=by
 unfold yK Mt.xW;by_cases h1:60<T
 ·rw[if_pos h1,if_pos h1];exact⟨λ_=>rfl,λh=>by omega⟩
 rw[if_neg h1,if_neg h1];by_cases h2:Mt.kF zB zI=true/\0<=zD/\zD<=5000/\0<=zA/\zA<=10000
 ·rw[if_pos h2];refine⟨λh=>absurd rfl h,λ_=>⟨λhf=>if_pos ⟨h2.1,hf.1,hf.2,h2.2⟩,λhf=>if_neg (λx=>hf ⟨x.2.1,x.2.2.1⟩)⟩⟩
 ·rw[if_neg h2];refine⟨λ_=>if_neg (λx=>h2 ⟨x.1,x.2.2.2⟩),λh=>by omega⟩
theorem zMU{T:Nat}{zB zI zD zA:Int}(h:yK T zB zI zD zA=0):T<=60/\(0<=zD/\zD<=5000)/\(0<=zA/\zA<=10000):=by
 rcases zB2 T zB zI zD zA with ⟨_,e⟩ | ⟨_,_,e⟩ | ⟨_,_,_,e⟩ | ⟨_,_,_,_,e⟩ | ⟨_,_,_,_,_,e⟩ | ⟨_,_,_,_,_,_,e⟩ | ⟨_,_,_,_,_,_,_,a,b,c⟩
 all_goals first | exact⟨a,b,c⟩|(exfalso;omega)
theorem Tryz.sizeOpt:(Tryz.prog.info? 61).map (·.size)=some 4:=by kernel_rfl
theorem zHz(E:Mt.Env)(zA:Int):∀(f p n:Nat) (kn:List Bool) (zD:Int) (hc:Mt.codeOk E.c) (hp0:0<E.c.length) (hr:0<=zD/\zD<=5000) (hpf:p+f<=E.t.size+1),(Mt.search E zA f p n kn zD).1.at'.length=20
 | 0,p,n,kn,zD,_,_,_,_=>by simp[Mt.search,Mt.nowhere]
 | f+1,p,n,kn,zD,hc,hp0,hr,hpf=>by
  have hg:=Mt.vI E hc n n (Mt.kZ p) kn zD (lG _) (Mt.dL _ _ p hp0 (by omega)) hr;rw[Mt.search];split
  ·rfl
  split
  ·exact Mt.zAc _ _ hg.2.2.2.1
  ·exact zHz E zA f (p+1) _ _ _ hc hp0 hg.2.2.1 (by omega)
theorem zEg(E:Mt.Env)(zA:Int):∀(f p n:Nat) (kn:List Bool) (zD:Int),(Mt.search E zA f p n kn zD).2=true->(Mt.search E zA f p n kn zD).1=Mt.vJ
 | 0,p,n,kn,zD,h=>by simp[Mt.search]at h
 | f+1,p,n,kn,zD,h=>by
  rw[Mt.search]at h |-;by_cases a:(Mt.qO E n (Mt.kZ p) kn zD).qI=true
  ·rw[if_pos a]
  ·rw[if_neg a]at h |-;by_cases b:(Mt.qO E n (Mt.kZ p) kn zD).ok=true
   ·rw[if_pos b]at h;cases h
   ·rw[if_neg b]at h |-;exact zEg E zA f (p+1) _ _ _ h
theorem zOB(p t:ByteArray)(zTE zB zI zD zA:Int)(w:World)(hm:p.size<=maxLen)(hmt:t.size<=maxLen):Calls Tryz.prog 26 #[.string p,.string t,.int .i64 zTE,.agg #[.int .i64 zB,.int .i64 zI,.int .i64 zD,.int .i64 zA]] w λe w'=>e=.returned (.tuple #[.agg (fpA (Mt.nR p t zTE zB zI zD zA).1),.int .i64 (Mt.nR p t zTE zB zI zD zA).2])/\Below w.heap.size w w':=by
 obtain⟨W1,hW1⟩:∃W1,W1=(w.alloc (.cells #[.int .i64 zB,.int .i64 zI,.int .i64 zD,.int .i64 zA] 61)).alloc (.cells (fpA Mt.vJ) 57):=⟨_,rfl⟩
 have B1:Below w.heap.size w W1:=by rw[hW1];exact((Below.refl _ _).alloc (lG _) _).alloc (by simp) _
 have T1:W1.heap[w.heap.size]?=some (.cells #[.int .i64 zB,.int .i64 zI,.int .i64 zD,.int .i64 zA] 61 (0,0)):=by rw[hW1];exact mX _ _ _
 have U1:W1.heap[w.heap.size+1]?=some (.cells (fpA Mt.vJ) 57 (0,0)):=by rw[hW1];exact mF _ _ _
 have Z1:W1.heap.size=w.heap.size+2:=by rw[hW1];simp
 have HC:Hid (Calls Tryz.prog 47 #[.string p,.string t,.agg #[.int .i64 zB,.int .i64 zI,.int .i64 zD,.int .i64 zA]] W1 λe w'=>∃v er,e=.returned (.tuple #[.agg v,.int .i64 er])/\zHx p t zB zI zD zA W1.heap.size v er w'/\Below W1.heap.size W1 w'):=zEf p t zB zI zD zA W1 hm hmt;have HB1:Hid (Below w.heap.size w W1):=B1;have HT1:Hid (W1.heap[w.heap.size]?=some (.cells #[.int .i64 zB,.int .i64 zI,.int .i64 zD,.int .i64 zA] 61 (0,0))/\W1.heap[w.heap.size+1]?=some (.cells (fpA Mt.vJ) 57 (0,0))/\W1.heap.size=w.heap.size+2):=⟨T1,U1,Z1⟩
 have zSV:(t.size:Int)<=9223372036854775807:=by unfold maxLen at hmt;omega
 have HMF:=zJs t.size zTE zB zI zD zA;have zQd:Hid (_/\_):=HMF;clear B1 U1 Z1 HMF;obtain⟨RR,hRR⟩:∃RR,RR=Mt.nR p t zTE zB zI zD zA:=⟨_,rfl⟩
 rw[<-hRR];have HRR:Hid (RR=Mt.nR p t zTE zB zI zD zA):=hRR;clear hRR;go_enter Tryz.func26,Tryz.ntmps26
 go_upto_region 1 with fail
 show Code.wp _ _ _ _ ((w.alloc (.cells #[.int .i64 zB,.int .i64 zI,.int .i64 zD,.int .i64 zA] 61)).alloc (.cells (fpA Mt.vJ) 57));rw[<-hW1];clear hW1;generalize hnn:w.heap.size=n at *;go_wp2_with (refine kQ 61 4 Tryz.underlying61 rfl Tryz.sizeOpt (by rfl) (.tmp 7) (by rfl) n (by rfl) T1 (by rfl) ?_)
 refine HC.out.mono ?_;rintro e w3 ⟨v,er,rfl,hPr,zTL⟩;have HPR:Hid (zHx p t zB zI zD zA W1.heap.size v er w3):=hPr;have hvs:v.size=4:=hPr.1;have hva:v.all (·.oneCell')=true:=hPr.2.1;have HB3:Hid (Below W1.heap.size W1 w3):=zTL;clear hPr zTL HC T1;go_upto_region 2 with (refine zM 84 4 Tryz.sizeTk (by rfl) (.tmp 10) (.tmp 17) (by rfl) w3.heap.size v (by rfl) (by rfl) (by exact jR _ _) (by rfl) hvs hva ?_;intro w5 r1 r2 r3 r4)
 have B5:Below w3.heap.size w3 w5:=((Below.refl _ _).alloc (lG _) _).trans (r4 _ (lG _));have hz:=HT1.out.2.2;have hs3:=HB3.out.size;have BW:Below W1.heap.size W1 w5:=HB3.out.trans (B5.mono hs3);have T5:w5.heap[n]?=some (.cells #[.int .i64 zB,.int .i64 zI,.int .i64 zD,.int .i64 zA] 61 (0,0)):=(BW.block n (by omega)).trans HT1.out.1;have U5:w5.heap[n+1]?=some (.cells (fpA Mt.vJ) 57 (0,0)):=(BW.block (n+1) (by omega)).trans HT1.out.2.1;have HB5:Hid (Below n w w5):=HB1.out.trans (BW.mono (by omega));have o3:w5.cell? ⟨n,3,none⟩=some (.int .i64 zA):=(zC T5).1 3;have zKF:Hid (Below w3.heap.size w3 w5/\n+2<=w3.heap.size/\W1.heap.size=n+2):=⟨B5,by omega,hz⟩
 have V5:w5.heap[w3.heap.size]?=some (.cells v 84 (0,0)):=r1;clear r1 r2 r3 r4 B5 hz hs3 BW HT1 HB1 HB3 T5;generalize hm3:w3.heap.size=m3 at *;rcases HPR.out.2.2 with ⟨hk,rfl⟩ | ⟨hk,hmp,rfl⟩ | ⟨hk,hmp,rfl,g,cap,q,nq,cq,hv,hci,hri,hnq⟩
 ·have HE:Hid (RR=(Mt.vJ,(Mt.kC p).2)):=by show _=_;rw[HRR.out];unfold Mt.nR;rw[if_pos hk]
  have hne:((Mt.kC p).2 != 0)=true:=by simpa using hk
  clear hk;generalize (Mt.kC p).2=er at *;go_wp2_with (refine zM 57 22 Tryz.sizeFd (by rfl) (.tmp 8) (.tmp 21) (by rfl) (n+1) (fpA Mt.vJ) (by rfl) (by rfl) U5 (by rfl) (yP _ rfl) (mZ _) ?_;intro w9 q1 q2 q3 q4)
  refine bodyPost_ret (jK 57 22 Tryz.underlying57 rfl Tryz.sizeFd rfl (by rfl) q1 (yP _ rfl)) rfl ⟨?_,?_⟩
  ·rw[HE.out];rfl
  ·first | exact HB5.out.trans (q4 n (by omega))|(rw[hnn];exact HB5.out.trans (q4 n (by omega)))
 ·have HE:Hid (RR=(Mt.vJ,yK t.size zB zI zD zA)):=by
   show _=_;rw[HRR.out];unfold Mt.nR;rw[if_neg (by omega),zQd.out.1 hmp,if_pos hmp]
  have hne:(yK t.size zB zI zD zA != 0)=true:=by simpa using hmp
  clear hk hmp;generalize yK t.size zB zI zD zA=er at *;go_wp2_with (refine zM 57 22 Tryz.sizeFd (by rfl) (.tmp 8) (.tmp 21) (by rfl) (n+1) (fpA Mt.vJ) (by rfl) (by rfl) U5 (by rfl) (yP _ rfl) (mZ _) ?_;intro w9 q1 q2 q3 q4)
  refine bodyPost_ret (jK 57 22 Tryz.underlying57 rfl Tryz.sizeFd rfl (by rfl) q1 (yP _ rfl)) rfl ⟨?_,?_⟩
  ·rw[HE.out];rfl
  ·first | exact HB5.out.trans (q4 n (by omega))|(rw[hnn];exact HB5.out.trans (q4 n (by omega)))
 ·by_cases hin:0<=zTE/\zTE<=t.size
  ·have h0:=(zQd.out.2 hmp).1 hin;obtain⟨hin1,hin2⟩:=hin;obtain⟨F,rfl⟩:∃F:Nat,zTE=(F:Int):=⟨zTE.toNat,by omega⟩
   obtain⟨zOT,hrm,hbd⟩:=zMU hmp;obtain⟨A,hK⟩:=Mt.dW p (fT p hk);have hTC:=zMT p t zB zI hk A hK zOT;have hc1:decide ((F:Int)<0)=false:=by rw[lJ];omega
   have hc2:decide ((F:Int)>(t.size:Int))=false:=by rw[lJ];omega
   have hc3:decide (t.size<F)=false:=by rw[lJ];omega
   obtain⟨S,hS⟩:∃S,S=Mt.search (Mt.wJ (Mt.kC p).1 t zB zI) zA (t.size+1-F) F zA.toNat (List.replicate ((Mt.kC p).1.length*(t.size+1)*12) false) zD:=⟨_,rfl⟩
   have hlS:S.1.at'.length=20:=by rw[hS];exact zHz (Mt.wJ (Mt.kC p).1 t zB zI) zA _ _ _ _ _ hK.ok hK.pos hrm (by show F+(t.size+1-F)<=t.size+1;omega)
   have HE:Hid (RR=(if S.2=true then Mt.vJ else S.1,zCY S.2)):=by
    show _=_;rw[HRR.out];unfold Mt.nR Mt.kP zCY;have e1:((F:Int)).toNat=F:=by omega
    rw[if_neg (by omega),if_neg (by omega),e1,<-hS];split <;> rfl
   have hSo:S.2=true->S.1=Mt.vJ:=by rw[hS];exact zEg _ _ _ _ _ _ _
   have zP0:=zKF.out.1
   have HSR:Hid (Calls Tryz.prog 48 #[.agg v,.int .i64 (F:Int),.int .i64 zA] w5 λe w'=>e=.returned (.tuple #[.agg (fpA S.1),.int .i64 (zCY S.2)])/\Below w5.heap.size w5 w'):=by
    rw[hv];exact zE6 (Mt.wJ (Mt.kC p).1 t zB zI) A hTC hK (λq hq=>zJr _ t zB zI q hq) g cap q nq cq F zD zA hrm hbd (by show F<=t.size;omega) w5 ((hci.below (by rw[hm3];exact zP0)).base (Nat.zero_le _)) (jG (hri.below (by rw[hm3];exact zP0)) (Nat.zero_le _)) hnq S hS
   have HN1:Hid (n+1<w5.heap.size):=(lI.1 U5).1;have HU5:Hid (w5.heap[n+1]?=some (.cells (fpA Mt.vJ) 57 (0,0))):=U5
   have HES:Hid (RR=(S.1,zCY S.2)):=by
    show _=_;rw[HE.out];cases h2:S.2
    ·rfl
    ·rw[hSo h2];rfl
   clear hv hci hri hnq hTC hK hS h0 hmp hk zP0 U5 hSo HE;have hz0:((0:Int) != 0)=false:=rfl;generalize S.1=S1 at *;generalize zCY S.2=S2 at *;go_wp2_with (refine kQ 84 4 Tryz.underlying84 rfl Tryz.sizeTk (by rfl) (.tmp 10) (by rfl) m3 (by rfl) V5 hvs ?_)
   refine HSR.out.mono ?_;rintro e w7 ⟨rfl,hb7⟩;have U7:w7.heap[n+1]?=some (.cells (fpA Mt.vJ) 57 (0,0)):=(hb7.block (n+1) HN1.out).trans HU5.out;have HB7:Hid (Below n w w7):=HB5.out.trans (hb7.mono (by have:=HN1.out;omega));clear hb7 V5 o3;go_wp2_with (refine zM 57 22 Tryz.sizeFd (by rfl) (.tmp 8) (.tmp 37) (by rfl) (n+1) (fpA S1) (by rfl) (by rfl) U7 (by rfl) (yP _ hlS) (mZ _) ?_;intro w9 q1 q2 q3 q4)
   refine bodyPost_ret (jK 57 22 Tryz.underlying57 rfl Tryz.sizeFd rfl (by rfl) q1 (yP _ hlS)) rfl ⟨?_,?_⟩
   ·rw[HES.out];rfl
   ·first | exact HB7.out.trans (q4 n (by omega))|(rw[hnn];exact HB7.out.trans (q4 n (by omega)))
  ·have h13:=(zQd.out.2 hmp).2 hin;have HE:Hid (RR=(Mt.vJ,13)):=by show _=_;rw[HRR.out];unfold Mt.nR;rw[if_neg (by omega),h13,if_pos (by omega)]
   clear hv hci hri hnq hk hmp h13;by_cases hneg:zTE<0
   ·have hc1:decide (zTE<0)=true:=by rw[decide_eq_true_eq];exact hneg
    go_wp2_with (refine zM 57 22 Tryz.sizeFd (by rfl) (.tmp 8) (.tmp 31) (by rfl) (n+1) (fpA Mt.vJ) (by rfl) (by rfl) U5 (by rfl) (yP _ rfl) (mZ _) ?_;intro w9 q1 q2 q3 q4)
    refine bodyPost_ret (jK 57 22 Tryz.underlying57 rfl Tryz.sizeFd rfl (by rfl) q1 (yP _ rfl)) rfl ⟨?_,?_⟩
    ·rw[HE.out];rfl
    ·first | exact HB5.out.trans (q4 n (by omega))|(rw[hnn];exact HB5.out.trans (q4 n (by omega)))
   ·have hc1:decide (zTE<0)=false:=by rw[lJ];exact hneg
    have hc2:decide (zTE>(t.size:Int))=true:=by rw[decide_eq_true_eq];omega
    go_wp2_with (refine zM 57 22 Tryz.sizeFd (by rfl) (.tmp 8) (.tmp 31) (by rfl) (n+1) (fpA Mt.vJ) (by rfl) (by rfl) U5 (by rfl) (yP _ rfl) (mZ _) ?_;intro w9 q1 q2 q3 q4)
    refine bodyPost_ret (jK 57 22 Tryz.underlying57 rfl Tryz.sizeFd rfl (by rfl) q1 (yP _ rfl)) rfl ⟨?_,?_⟩
    ·rw[HE.out];rfl
    ·first | exact HB5.out.trans (q4 n (by omega))|(rw[hnn];exact HB5.out.trans (q4 n (by omega)))
theorem Tryz.infoFp:(Tryz.prog.info? 57).map (λi=>(i.zero,i.size,i.bytes))=some (some (.agg (fpA Mt.vJ)),22,176):=by kernel_rfl
def fpL(f:Mt.Fnd):List Value:=(fpA f).toList
theorem zP1(f:Mt.Fnd)(h:f.at'.length=20):(fpL f).length=22:=by have:=yP f h;simpa[fpL]using this
theorem zP2(f:Mt.Fnd):∀u∈fpL f,u.oneCell'=true:=by
 have:=mZ f;intro u hu;rw[Array.all_eq_true_iff_forall_mem]at this;exact this u (by simpa[fpL]using hu)
def zAq(w:World)(base:Nat)(v:Value)(l:List Mt.Fnd):Prop:=w.ownsRow base 57 22 v l.length (l.flatMap fpL)
theorem zP3(f:Mt.Fnd)(h:f.at'.length=20):Instr.fill (λi=>some (i*22,22)) ((Array.range (1*22)).map ((Value.agg (fpA Mt.vJ)).cells[· % (Value.agg (fpA Mt.vJ)).cells.size]!)) [(0,.agg (fpA f))]=some (fpA f):=by
 obtain⟨a0,a1,a2,a3,a4,a5,a6,a7,a8,a9,a10,a11,a12,a13,a14,a15,a16,a17,a18,a19,e⟩:=twenty h;obtain⟨ok,l,st⟩:=f;dsimp only at e;subst e;kernel_rfl
theorem zEh{ops:Array Oper}{rest:List Oper}{o:Oper}{a:Act}{w:World}{Q:Exit->Act->World->Prop}(hg:o.guard=none)(x:Operand)(ho:o.op=.buildSlice 64 1 #[(0,x)])(f:Mt.Fnd)(hf:f.at'.length=20)(hx:a.eval x=.agg (fpA f))
  (h:wpList Tryz.prog ops Q rest (a.put o.dst (.slice (some ⟨w.heap.size,0,none⟩) 1 1)) (w.alloc (.cells (fpL f).toArray 57))):wpList Tryz.prog ops Q (o::rest) a w:=by
 obtain⟨i0,hi,hz0,hz1,hz2⟩:=info_parts Tryz.infoFp;refine wpList_buildSlice hg 64 57 1 _ ho (fpA f) i0 _ Tryz.underlying64 hi hz0 (by rw[hz1];decide) (by rw[hz1];decide) ?_ h;rw[hz1];simp only[List.map_toArray,List.map_cons,List.map_nil,hx];exact zP3 f hf
theorem zHA{w:World}{base:Nat}{v:Value}{l:List Mt.Fnd}{t:Mt.Fnd}(h:w.ownsRow base 57 22 v (l.length+1) (l.flatMap fpL++fpL t)):zAq w base v (l++[t]):=by
 unfold zAq;rw[lM,List.flatMap_append];simpa using h
theorem zF4{w:World}{base g:Nat}(h:w.heap[g]?=some (.cells #[] 57 (0,0)))(hb:base<=g):zAq w base (.slice (some ⟨g,0,none⟩) 0 0) [] :=
 ⟨rfl,.inr ⟨g,0,#[],rfl,hb,h,lG _,by unfold maxLen;omega,rfl,rfl⟩⟩
theorem zHB(f:Mt.Fnd)(x y:Nat)(h:f.at'.length=20)(hx:f.at'.getD 0 0=(x:Int))(hy:f.at'.getD 1 0=(y:Int))(hy2:y<=1000)(w:World) :
  Calls Tryz.prog 83 #[.agg (fpA f)] w λe w'=>e=.returned (.int .i64 (Mt.vO f:Nat))/\Below w.heap.size w w':=by
 have hN:Mt.vO f=if x=y then y+1 else y:=by
  unfold Mt.vO;rw[hx,hy];by_cases e:x=y
  ·rw[if_pos (by omega),if_pos e];simp
  ·rw[if_neg (by omega),if_neg e];simp
 rw[hN];obtain⟨z,hz⟩:∃z,z=w.alloc (.cells (fpA f) 57):=⟨_,rfl⟩
 have q1:z.heap[w.heap.size]?=some (.cells (fpA f) 57 (0,0)):=by rw[hz];exact jR _ _
 have HB:Hid (Below w.heap.size w z):=by rw[hz];exact(Below.refl _ _).alloc (lG _) _
 have l1:w.heap.size<z.heap.size:=by rw[hz];simp
 have c1:z.cell? ⟨w.heap.size,1,none⟩=some (.int .i64 (x:Int)):=by rw[<-hx];exact((zC q1).1 _).trans (zMJ f h 0 (by omega))
 have c2:z.cell? ⟨w.heap.size,2,none⟩=some (.int .i64 (y:Int)):=by rw[<-hy];exact((zC q1).1 _).trans (zMJ f h 1 (by omega))
 clear q1 h hx hy hN;by_cases e:x=y
 ·have m1:((x:Int)==(y:Int))=true:=by rw[e];simp
  rw[if_pos e];clear e;go_enter Tryz.func83,Tryz.ntmps83
  go_upto_region 1 with fail
  show Code.wp _ _ _ _ (w.alloc (.cells (fpA f) 57));rw[<-hz];clear hz;generalize hn:w.heap.size=n at *;go_wp2_with fail
  go_ret;exact⟨by go_num,by rw[hn];exact HB.out⟩
 ·have m1:((x:Int)==(y:Int))=false:=by rw[beq_eq_false_iff_ne];omega
  rw[if_neg e];clear e;go_enter Tryz.func83,Tryz.ntmps83
  go_upto_region 1 with fail
  show Code.wp _ _ _ _ (w.alloc (.cells (fpA f) 57));rw[<-hz];clear hz;generalize hn:w.heap.size=n at *;go_wp2_with fail
  go_ret;exact⟨rfl,by rw[hn];exact HB.out⟩
