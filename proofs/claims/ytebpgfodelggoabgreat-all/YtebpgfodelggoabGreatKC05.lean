import Derived.Test.YtebpgfodelggoabGreatKC04
set_option linter.unusedVariables false
set_option linter.unusedSimpArgs false
set_option maxRecDepth 100000
set_option maxHeartbeats 4000000
namespace Go.Proofs.YtebpgfodelggoabGreat
open Go.RowKit
theorem zC2(x:List Mt.zTG)(ki:Int)(late:Bool)(v:Value)(w:World)(h:zF w 0 v x)(hf:Mt.fit 70000000 x)(hl:(x.length:Int)<=10000000)(h0:0<=ki)(h1:ki<=20) :
  Calls Tryz.prog 133 #[v,.int .i64 ki,.bool late] w λe w'=>∃v',e=.returned v'/\zF w' 0 v' (Mt.upTo x ki.toNat late)/\Below w.heap.size w w':=by
 obtain⟨k,rfl⟩:=Int.eq_ofNat_of_zero_le h0;rw[Int.toNat_natCast];exact zNa x k late v w h hf hl (by omega)
theorem fV(x:List Mt.zTG)(n j:Nat)(c:List Mt.zTG)(h:j<n):Mt.zH x (n-j) c=Mt.zH x (n-(j+1)) (Mt.zO c x):=by
 rw[show n-j=(n-(j+1))+1 by omega];rfl
def zEl(t:Mt.zTD)(x y:List Mt.zTG)(d:Int):List Mt.zTG :=
 let c1:=if 0<t.n\/0<t.m then
   (if t.n<t.m then Mt.zO (Mt.zH x t.n.toNat []) (Mt.upTo x (t.m-t.n).toNat (decide (t.zTF=1)))else Mt.zH x t.n.toNat [])
  else[]
 let c2:=if t.m<0 then Mt.zO c1 (Mt.pG y d (decide (t.zTF=1)))else c1
 if t.zTF=2 then Mt.alone 0 c2 else c2
theorem zHM(l:List Mt.zTD)(f a b:Nat)(d:Int):Mt.gen l (f+1) 3 a b d=zEl (l.getD b Mt.jZ) (Mt.gen l f 2 a b d) (Mt.gen l f 2 a b (d+1)) d:=by
 simp only[Mt.gen];rfl
theorem zF7(l:List Mt.zTD)(hl:l.length<=64)(a b:Nat)(d:Int)(t:Mt.zTD)(x y:List Mt.zTG)(g cap:Nat)(w:World)(hb:b<l.length)(hab:a<b)(hcap:l.length<=cap)(hg:g<w.heap.size)(hd0:0<=d)(hd1:d<=999)
  (HT:Hid (vN w (.slice (some ⟨g,0,none⟩) l.length cap) l))
  (KX:Hid (∀z:World,vN z (.slice (some ⟨g,0,none⟩) l.length cap) l->Calls Tryz.prog 107 #[.slice (some ⟨g,0,none⟩) l.length cap,.int .i64 a,.int .i64 b,.int .i64 d] z λe w'=>∃v',e=.returned v'/\zF w' 0 v' x/\Below z.heap.size z w'))
  (KY:Hid (∀z:World,vN z (.slice (some ⟨g,0,none⟩) l.length cap) l->Calls Tryz.prog 107 #[.slice (some ⟨g,0,none⟩) l.length cap,.int .i64 a,.int .i64 b,.int .i64 (d+1)] z λe w'=>∃v',e=.returned v'/\zF w' 0 v' y/\Below z.heap.size z w'))
  (FX:Hid (Mt.fit 70000000 x)) (FY:Hid (Mt.fit 70000000 y)) (LX:(x.length:Int)<=10000000) (LY:(y.length:Int)<=10000000)
  (c0:w.cell? ⟨g,b*7,none⟩=some (.int .i64 t.kind)) (c1:w.cell? ⟨g,b*7+1,none⟩=some (.int .i64 t.zTE)) (c2:w.cell? ⟨g,b*7+2,none⟩=some (.int .i64 t.to)) (c3:w.cell? ⟨g,b*7+3,none⟩=some (.int .i64 t.n)) (c4:w.cell? ⟨g,b*7+4,none⟩=some (.int .i64 t.m)) (c5:w.cell? ⟨g,b*7+5,none⟩=some (.int .i64 t.zTF)) (c6:w.cell? ⟨g,b*7+6,none⟩=some (.string ⟨t.set.toArray⟩))
  (t1:0<=t.n) (t2:t.n<=20) (t3:-1<=t.m) (t4:t.m<=20) (t5:0<=t.zTF) (t6:t.zTF<=4) (hm:t.m<0) (hn:0<t.n) (hnb:decide (0<t.n)=true) (hp:(t.zTF==2)=false) :
  Calls Tryz.prog 106 #[.slice (some ⟨g,0,none⟩) l.length cap,.int .i64 a,.int .i64 b,.int .i64 d] w λe w'=>∃v',e=.returned v'/\zF w' 0 v' (Mt.zO (Mt.zH x t.n.toNat []) (Mt.pG y d (t.zTF==1)))/\Below w.heap.size w w':=by
 have FX9:Hid (Mt.fit 900000000 x):=Mt.zR FX.out (by omega);go_enter Tryz.func106,Tryz.ntmps106
 go_wp2_with fail
 have fl0:Mt.zAo (10000000+900) (70000010+900) (Mt.pG y d (t.zTF==1)):=Mt.zAx (L:=10000000) (N:=70000010) d (t.zTF==1) ⟨LY,λi hi=>Mt.pR (FY.out.2 i hi) (by omega)⟩ (by omega) (by omega) (by omega);have FL:Hid (Mt.fit 900000000 (Mt.pG y d (t.zTF==1))):=Mt.vV fl0 (by omega) (by omega);have FLH:Hid (Mt.fit 400000000 (Mt.pG y d (t.zTF==1))):=Mt.vV fl0 (by omega) (by omega);clear fl0;refine(KX.out _ (HT.out.alloc _)).mono ?_;rintro e w1 ⟨vx,rfl,qx,hbx⟩;obtain⟨r0,r1,r2,r3⟩:=fB hbx;have hs1:=r3.size;have Qx:Hid (zF w1 0 vx x):=qx;have HT1:Hid (vN w1 (.slice (some ⟨g,0,none⟩) l.length cap) l):=yA HT.out r3;clear qx hbx HT c0 c1 c2 c3 c4 c5 c6;go_wp2_with fail
 go_loopw [10,12] (λu i wr=>∃(j:Nat) (c:List Mt.zTG),(j:Int)<=t.n/\i=.int .i64 j/\zF wr 0 u c/\Mt.fit 70000300 c/\Below w1.heap.size w1 wr/\Mt.zH x t.n.toNat []=Mt.zH x (t.n.toNat-j) c) (λ_ i _=>t.n.toNat-(intOf i).toNat)
 case atStart=>exact⟨0,[],by omega,rfl,zF.nil _ _,Mt.fO (by omega),Below.refl _ _,rfl⟩
 case round =>
  obtain⟨j,c,hj,rfl,jS,hfc,qV,hr⟩:=hrel;have HR:Hid (Mt.zH x t.n.toNat []=Mt.zH x (t.n.toNat-j) c):=hr;have HO:Hid (zF wr 0 u10 c):=jS;have FC:Hid (Mt.fit 70000300 c):=hfc;have QXr:Hid (zF wr 0 vx x):=Qx.out.below qV;have HTr:Hid (vN wr (.slice (some ⟨g,0,none⟩) l.length cap) l):=yA HT1.out qV;have rr0:=λo=>(qV.cell (p:=⟨w.heap.size,o,none⟩) r2).trans (r0 o)
  have hB:Below w.heap.size w wr:=r3.trans (qV.mono hs1);have hsr:=hB.size;have hgt:w.heap.size<wr.heap.size:=Nat.lt_of_lt_of_le r2 qV.size;clear hr jS hfc;by_cases zTI:(j:Int)<t.n
  ·have HN:Hid (Mt.zH x t.n.toNat []=Mt.zH x (t.n.toNat-(j+1)) (Mt.zO c x)):=HR.out.trans (fV x t.n.toNat j c (by omega));have G1:Hid (Mt.fit 70000300 (Mt.zO c x)):=qN (M:=70000000) FC.out (Mt.zR FX.out (by omega));have hs2:=qV.size;go_wp2_with fail
   refine(jA c x _ _ _ HO.out QXr.out (Mt.zR FC.out (by omega)) FX9.out).mono ?_;rintro e w2 ⟨v2,rfl,q2,zTK⟩;have hB2:Below w1.heap.size w1 w2:=qV.trans (zTK.mono hs2);have Q2:Hid (zF w2 0 v2 (Mt.zO c x)):=q2;clear q2 zTK HO QXr HTr hB rr0;go_wp2_with fail
   go_roundw
   case rel=>exact⟨j+1,_,by omega,by go_num,Q2.out,G1.out,hB2,HN.out⟩
   case measure=>simp[intOf];omega
  ·have hjn:t.n.toNat-j=0:=by omega
   have HC:Hid (zF wr 0 u10 (Mt.zH x t.n.toNat [])):=by
    show zF _ _ _ _;rw[HR.out,hjn];exact HO.out
   have FT:Hid (Mt.fit 70000300 (Mt.zH x t.n.toNat [])):=by
    show Mt.fit _ _;rw[HR.out,hjn];exact FC.out
   clear HR HO FC hjn qV;generalize hTT:Mt.zH x t.n.toNat []=T at *;have HTT:Hid (Mt.zH x t.n.toNat []=T):=hTT;clear hTT;go_wp2_with fail
   refine(KY.out _ HTr.out).mono ?_;rintro e w2 ⟨v2,rfl,q2,zTK⟩;have hB2:Below w.heap.size w w2:=hB.trans (zTK.mono hsr);have hs2:=hB2.size;have hgt2:w.heap.size<w2.heap.size:=Nat.lt_of_lt_of_le hgt zTK.size;have s0:=λo=>(zTK.cell (p:=⟨w.heap.size,o,none⟩) hgt).trans (rr0 o)
   have Q2:Hid (zF w2 0 v2 y):=q2;have HC2:Hid (zF w2 0 u10 T):=HC.out.below zTK;clear q2 zTK hB rr0;go_wp2_with fail
   refine(zC0 y d _ _ _ Q2.out (Mt.zR FY.out (by omega)) hd0 (by omega)).mono ?_;rintro e w3 ⟨v3,rfl,q3,zTL⟩;have hB3:Below w.heap.size w w3:=hB2.trans (zTL.mono hs2);have hs3:=hB3.size;have zOZ:w.heap.size<w3.heap.size:=Nat.lt_of_lt_of_le hgt2 zTL.size;have s1:=λo=>(zTL.cell (p:=⟨w.heap.size,o,none⟩) hgt2).trans (s0 o)
   have Q3:Hid (zF w3 0 v3 (Mt.pG y d (t.zTF==1))):=q3;have HC3:Hid (zF w3 0 u10 T):=HC2.out.below zTL;clear q3 zTL hB2 s0 HC2 Q2;go_wp2_with fail
   refine(jA T _ _ _ _ HC3.out Q3.out (Mt.zR FT.out (by omega)) FL.out).mono ?_;rintro e w4 ⟨v4,rfl,q4,hb4⟩;have hB4:Below w.heap.size w w4:=hB3.trans (hb4.mono hs3);have hs4:=hB4.size;have s2:=λo=>(hb4.cell (p:=⟨w.heap.size,o,none⟩) zOZ).trans (s1 o)
   have Q4:Hid (zF w4 0 v4 (Mt.zO T (Mt.pG y d (t.zTF==1)))):=q4;clear q4 hb4 hB3 s1 HC3 Q3;go_wp2_with fail
   go_ret;exact⟨_,rfl,by rw[HTT.out];exact Q4.out,hB4⟩
theorem zSf(l:List Mt.zTD)(hl:l.length<=64)(a b:Nat)(d:Int)(t:Mt.zTD)(x y:List Mt.zTG)(g cap:Nat)(w:World)(hb:b<l.length)(hab:a<b)(hcap:l.length<=cap)(hg:g<w.heap.size)(hd0:0<=d)(hd1:d<=999)
  (HT:Hid (vN w (.slice (some ⟨g,0,none⟩) l.length cap) l))
  (KX:Hid (∀z:World,vN z (.slice (some ⟨g,0,none⟩) l.length cap) l->Calls Tryz.prog 107 #[.slice (some ⟨g,0,none⟩) l.length cap,.int .i64 a,.int .i64 b,.int .i64 d] z λe w'=>∃v',e=.returned v'/\zF w' 0 v' x/\Below z.heap.size z w'))
  (KY:Hid (∀z:World,vN z (.slice (some ⟨g,0,none⟩) l.length cap) l->Calls Tryz.prog 107 #[.slice (some ⟨g,0,none⟩) l.length cap,.int .i64 a,.int .i64 b,.int .i64 (d+1)] z λe w'=>∃v',e=.returned v'/\zF w' 0 v' y/\Below z.heap.size z w'))
  (FX:Hid (Mt.fit 70000000 x)) (FY:Hid (Mt.fit 70000000 y)) (LX:(x.length:Int)<=10000000) (LY:(y.length:Int)<=10000000)
  (c0:w.cell? ⟨g,b*7,none⟩=some (.int .i64 t.kind)) (c1:w.cell? ⟨g,b*7+1,none⟩=some (.int .i64 t.zTE)) (c2:w.cell? ⟨g,b*7+2,none⟩=some (.int .i64 t.to)) (c3:w.cell? ⟨g,b*7+3,none⟩=some (.int .i64 t.n)) (c4:w.cell? ⟨g,b*7+4,none⟩=some (.int .i64 t.m)) (c5:w.cell? ⟨g,b*7+5,none⟩=some (.int .i64 t.zTF)) (c6:w.cell? ⟨g,b*7+6,none⟩=some (.string ⟨t.set.toArray⟩))
  (t1:0<=t.n) (t2:t.n<=20) (t3:-1<=t.m) (t4:t.m<=20) (t5:0<=t.zTF) (t6:t.zTF<=4) (hm:t.m<0) (hn:t.n<=0) (hnb:decide (0<t.n)=false) (hmb:decide (0<t.m)=false) (hp:(t.zTF==2)=false) :
  Calls Tryz.prog 106 #[.slice (some ⟨g,0,none⟩) l.length cap,.int .i64 a,.int .i64 b,.int .i64 d] w λe w'=>∃v',e=.returned v'/\zF w' 0 v' (Mt.zO [] (Mt.pG y d (t.zTF==1)))/\Below w.heap.size w w':=by
 have FX9:Hid (Mt.fit 900000000 x):=Mt.zR FX.out (by omega);go_enter Tryz.func106,Tryz.ntmps106
 go_wp2_with fail
 have fl0:Mt.zAo (10000000+900) (70000010+900) (Mt.pG y d (t.zTF==1)):=Mt.zAx (L:=10000000) (N:=70000010) d (t.zTF==1) ⟨LY,λi hi=>Mt.pR (FY.out.2 i hi) (by omega)⟩ (by omega) (by omega) (by omega);have FL:Hid (Mt.fit 900000000 (Mt.pG y d (t.zTF==1))):=Mt.vV fl0 (by omega) (by omega);have FLH:Hid (Mt.fit 400000000 (Mt.pG y d (t.zTF==1))):=Mt.vV fl0 (by omega) (by omega);clear fl0;refine(KY.out _ (HT.out.alloc _)).mono ?_;rintro e w2 ⟨v2,rfl,q2,zTK⟩;obtain⟨s0,r1,hgt2,hB2⟩:=fB zTK;have hs2:=hB2.size;have Q2:Hid (zF w2 0 v2 y):=q2;clear q2 zTK HT c0 c1 c2 c3 c4 c5 c6;go_wp2_with fail
 refine(zC0 y d _ _ _ Q2.out (Mt.zR FY.out (by omega)) hd0 (by omega)).mono ?_;rintro e w3 ⟨v3,rfl,q3,zTL⟩;have hB3:Below w.heap.size w w3:=hB2.trans (zTL.mono hs2);have hs3:=hB3.size;have zOZ:w.heap.size<w3.heap.size:=Nat.lt_of_lt_of_le hgt2 zTL.size;have s1:=λo=>(zTL.cell (p:=⟨w.heap.size,o,none⟩) hgt2).trans (s0 o)
 have Q3:Hid (zF w3 0 v3 (Mt.pG y d (t.zTF==1))):=q3;clear q3 zTL hB2 s0 Q2;go_wp2_with fail
 refine(jA [] _ _ _ _ (zF.nil _ _) Q3.out (Mt.fO (by omega)) FL.out).mono ?_;rintro e w4 ⟨v4,rfl,q4,hb4⟩;have hB4:Below w.heap.size w w4:=hB3.trans (hb4.mono hs3);have hs4:=hB4.size;have s2:=λo=>(hb4.cell (p:=⟨w.heap.size,o,none⟩) zOZ).trans (s1 o)
 have Q4:Hid (zF w4 0 v4 (Mt.zO [] (Mt.pG y d (t.zTF==1)))):=q4;clear q4 hb4 hB3 s1 Q3;go_wp2_with fail
 go_ret;exact⟨_,rfl,Q4.out,hB4⟩
theorem zRe(l:List Mt.zTD)(hl:l.length<=64)(a b:Nat)(d:Int)(t:Mt.zTD)(x y:List Mt.zTG)(g cap:Nat)(w:World)(hb:b<l.length)(hab:a<b)(hcap:l.length<=cap)(hg:g<w.heap.size)(hd0:0<=d)(hd1:d<=999)
  (HT:Hid (vN w (.slice (some ⟨g,0,none⟩) l.length cap) l))
  (KX:Hid (∀z:World,vN z (.slice (some ⟨g,0,none⟩) l.length cap) l->Calls Tryz.prog 107 #[.slice (some ⟨g,0,none⟩) l.length cap,.int .i64 a,.int .i64 b,.int .i64 d] z λe w'=>∃v',e=.returned v'/\zF w' 0 v' x/\Below z.heap.size z w'))
  (KY:Hid (∀z:World,vN z (.slice (some ⟨g,0,none⟩) l.length cap) l->Calls Tryz.prog 107 #[.slice (some ⟨g,0,none⟩) l.length cap,.int .i64 a,.int .i64 b,.int .i64 (d+1)] z λe w'=>∃v',e=.returned v'/\zF w' 0 v' y/\Below z.heap.size z w'))
  (FX:Hid (Mt.fit 70000000 x)) (FY:Hid (Mt.fit 70000000 y)) (LX:(x.length:Int)<=10000000) (LY:(y.length:Int)<=10000000)
  (c0:w.cell? ⟨g,b*7,none⟩=some (.int .i64 t.kind)) (c1:w.cell? ⟨g,b*7+1,none⟩=some (.int .i64 t.zTE)) (c2:w.cell? ⟨g,b*7+2,none⟩=some (.int .i64 t.to)) (c3:w.cell? ⟨g,b*7+3,none⟩=some (.int .i64 t.n)) (c4:w.cell? ⟨g,b*7+4,none⟩=some (.int .i64 t.m)) (c5:w.cell? ⟨g,b*7+5,none⟩=some (.int .i64 t.zTF)) (c6:w.cell? ⟨g,b*7+6,none⟩=some (.string ⟨t.set.toArray⟩))
  (t1:0<=t.n) (t2:t.n<=20) (t3:-1<=t.m) (t4:t.m<=20) (t5:0<=t.zTF) (t6:t.zTF<=4) (hm:¬t.m<0) (hn:t.n<=0) (hnb:decide (0<t.n)=false) (hmb:decide (0<t.m)=false) (hp:(t.zTF==2)=false) :
  Calls Tryz.prog 106 #[.slice (some ⟨g,0,none⟩) l.length cap,.int .i64 a,.int .i64 b,.int .i64 d] w λe w'=>∃v',e=.returned v'/\zF w' 0 v' ([])/\Below w.heap.size w w':=by
 have FX9:Hid (Mt.fit 900000000 x):=Mt.zR FX.out (by omega);go_enter Tryz.func106,Tryz.ntmps106
 go_wp2_with fail
 go_ret;exact⟨_,rfl,zF.nil _ _,by go_grown⟩
theorem zSg(l:List Mt.zTD)(hl:l.length<=64)(a b:Nat)(d:Int)(t:Mt.zTD)(x y:List Mt.zTG)(g cap:Nat)(w:World)(hb:b<l.length)(hab:a<b)(hcap:l.length<=cap)(hg:g<w.heap.size)(hd0:0<=d)(hd1:d<=999)
  (HT:Hid (vN w (.slice (some ⟨g,0,none⟩) l.length cap) l))
  (KX:Hid (∀z:World,vN z (.slice (some ⟨g,0,none⟩) l.length cap) l->Calls Tryz.prog 107 #[.slice (some ⟨g,0,none⟩) l.length cap,.int .i64 a,.int .i64 b,.int .i64 d] z λe w'=>∃v',e=.returned v'/\zF w' 0 v' x/\Below z.heap.size z w'))
  (KY:Hid (∀z:World,vN z (.slice (some ⟨g,0,none⟩) l.length cap) l->Calls Tryz.prog 107 #[.slice (some ⟨g,0,none⟩) l.length cap,.int .i64 a,.int .i64 b,.int .i64 (d+1)] z λe w'=>∃v',e=.returned v'/\zF w' 0 v' y/\Below z.heap.size z w'))
  (FX:Hid (Mt.fit 70000000 x)) (FY:Hid (Mt.fit 70000000 y)) (LX:(x.length:Int)<=10000000) (LY:(y.length:Int)<=10000000)
  (c0:w.cell? ⟨g,b*7,none⟩=some (.int .i64 t.kind)) (c1:w.cell? ⟨g,b*7+1,none⟩=some (.int .i64 t.zTE)) (c2:w.cell? ⟨g,b*7+2,none⟩=some (.int .i64 t.to)) (c3:w.cell? ⟨g,b*7+3,none⟩=some (.int .i64 t.n)) (c4:w.cell? ⟨g,b*7+4,none⟩=some (.int .i64 t.m)) (c5:w.cell? ⟨g,b*7+5,none⟩=some (.int .i64 t.zTF)) (c6:w.cell? ⟨g,b*7+6,none⟩=some (.string ⟨t.set.toArray⟩))
  (t1:0<=t.n) (t2:t.n<=20) (t3:-1<=t.m) (t4:t.m<=20) (t5:0<=t.zTF) (t6:t.zTF<=4) (hm:¬t.m<0) (hmn:t.n<t.m) (hnb:decide (0<t.n)=true) (hp:(t.zTF==2)=false) :
  Calls Tryz.prog 106 #[.slice (some ⟨g,0,none⟩) l.length cap,.int .i64 a,.int .i64 b,.int .i64 d] w λe w'=>∃v',e=.returned v'/\zF w' 0 v' (Mt.zO (Mt.zH x t.n.toNat []) (Mt.upTo x (t.m-t.n).toNat (t.zTF==1)))/\Below w.heap.size w w':=by
 have FX9:Hid (Mt.fit 900000000 x):=Mt.zR FX.out (by omega);go_enter Tryz.func106,Tryz.ntmps106
 go_wp2_with fail
 have fu0:Mt.zAo (10000600) (300000600+300) (Mt.upTo x (t.m-t.n).toNat (t.zTF==1)):=Mt.qC (Mt.tY (L:=10000000) (N:=300000000) (t.zTF==1) ⟨LX,λi hi=>Mt.pR (FX.out.2 i hi) (by omega)⟩ (by omega) (by omega) (t.m-t.n).toNat [] (by omega) (Mt.nI (by omega))) (by omega) (by omega);have FU:Hid (Mt.fit 900000000 (Mt.upTo x (t.m-t.n).toNat (t.zTF==1))):=Mt.vV fu0 (by omega) (by omega);have FU4:Mt.fit 400000000 (Mt.upTo x (t.m-t.n).toNat (t.zTF==1)):=Mt.vV fu0 (by omega) (by omega);have FUH:Hid (Mt.fit 400000000 (Mt.upTo x (t.m-t.n).toNat (t.zTF==1))):=FU4;clear fu0 FU4;refine(KX.out _ (HT.out.alloc _)).mono ?_;rintro e w1 ⟨vx,rfl,qx,hbx⟩;obtain⟨r0,r1,r2,r3⟩:=fB hbx;have hs1:=r3.size;have Qx:Hid (zF w1 0 vx x):=qx;have HT1:Hid (vN w1 (.slice (some ⟨g,0,none⟩) l.length cap) l):=yA HT.out r3;clear qx hbx HT c0 c1 c2 c3 c4 c5 c6;go_wp2_with fail
 go_loopw [10,12] (λu i wr=>∃(j:Nat) (c:List Mt.zTG),(j:Int)<=t.n/\i=.int .i64 j/\zF wr 0 u c/\Mt.fit 70000300 c/\Below w1.heap.size w1 wr/\Mt.zH x t.n.toNat []=Mt.zH x (t.n.toNat-j) c) (λ_ i _=>t.n.toNat-(intOf i).toNat)
 case atStart=>exact⟨0,[],by omega,rfl,zF.nil _ _,Mt.fO (by omega),Below.refl _ _,rfl⟩
 case round =>
  obtain⟨j,c,hj,rfl,jS,hfc,qV,hr⟩:=hrel;have HR:Hid (Mt.zH x t.n.toNat []=Mt.zH x (t.n.toNat-j) c):=hr;have HO:Hid (zF wr 0 u10 c):=jS;have FC:Hid (Mt.fit 70000300 c):=hfc;have QXr:Hid (zF wr 0 vx x):=Qx.out.below qV;have HTr:Hid (vN wr (.slice (some ⟨g,0,none⟩) l.length cap) l):=yA HT1.out qV;have rr0:=λo=>(qV.cell (p:=⟨w.heap.size,o,none⟩) r2).trans (r0 o)
  have hB:Below w.heap.size w wr:=r3.trans (qV.mono hs1);have hsr:=hB.size;have hgt:w.heap.size<wr.heap.size:=Nat.lt_of_lt_of_le r2 qV.size;clear hr jS hfc;by_cases zTI:(j:Int)<t.n
  ·have HN:Hid (Mt.zH x t.n.toNat []=Mt.zH x (t.n.toNat-(j+1)) (Mt.zO c x)):=HR.out.trans (fV x t.n.toNat j c (by omega));have G1:Hid (Mt.fit 70000300 (Mt.zO c x)):=qN (M:=70000000) FC.out (Mt.zR FX.out (by omega));have hs2:=qV.size;go_wp2_with fail
   refine(jA c x _ _ _ HO.out QXr.out (Mt.zR FC.out (by omega)) FX9.out).mono ?_;rintro e w2 ⟨v2,rfl,q2,zTK⟩;have hB2:Below w1.heap.size w1 w2:=qV.trans (zTK.mono hs2);have Q2:Hid (zF w2 0 v2 (Mt.zO c x)):=q2;clear q2 zTK HO QXr HTr hB rr0;go_wp2_with fail
   go_roundw
   case rel=>exact⟨j+1,_,by omega,by go_num,Q2.out,G1.out,hB2,HN.out⟩
   case measure=>simp[intOf];omega
  ·have hjn:t.n.toNat-j=0:=by omega
   have HC:Hid (zF wr 0 u10 (Mt.zH x t.n.toNat [])):=by
    show zF _ _ _ _;rw[HR.out,hjn];exact HO.out
   have FT:Hid (Mt.fit 70000300 (Mt.zH x t.n.toNat [])):=by
    show Mt.fit _ _;rw[HR.out,hjn];exact FC.out
   clear HR HO FC hjn qV;generalize hTT:Mt.zH x t.n.toNat []=T at *;have HTT:Hid (Mt.zH x t.n.toNat []=T):=hTT;clear hTT;go_wp2_with fail
   refine(zC2 x _ _ _ _ QXr.out FX.out LX (by omega) (by omega)).mono ?_;rintro e w2 ⟨v2,rfl,q2,zTK⟩;have hB2:Below w.heap.size w w2:=hB.trans (zTK.mono hsr);have hs2:=hB2.size;have hgt2:w.heap.size<w2.heap.size:=Nat.lt_of_lt_of_le hgt zTK.size;have s0:=λo=>(zTK.cell (p:=⟨w.heap.size,o,none⟩) hgt).trans (rr0 o)
   have Q2:Hid (zF w2 0 v2 (Mt.upTo x (t.m-t.n).toNat (t.zTF==1))):=q2;have HC2:Hid (zF w2 0 u10 T):=HC.out.below zTK;clear q2 zTK hB rr0 QXr HTr HC;go_wp2_with fail
   refine(jA T _ _ _ _ HC2.out Q2.out (Mt.zR FT.out (by omega)) FU.out).mono ?_;rintro e w3 ⟨v3,rfl,q3,zTL⟩;have hB3:Below w.heap.size w w3:=hB2.trans (zTL.mono hs2);have hs3:=hB3.size;have s1:=λo=>(zTL.cell (p:=⟨w.heap.size,o,none⟩) hgt2).trans (s0 o)
   have Q3:Hid (zF w3 0 v3 (Mt.zO T (Mt.upTo x (t.m-t.n).toNat (t.zTF==1)))):=q3;clear q3 zTL hB2 s0 HC2 Q2;go_wp2_with fail
   go_ret;exact⟨_,rfl,by rw[HTT.out];exact Q3.out,hB3⟩
theorem zSh(l:List Mt.zTD)(hl:l.length<=64)(a b:Nat)(d:Int)(t:Mt.zTD)(x y:List Mt.zTG)(g cap:Nat)(w:World)(hb:b<l.length)(hab:a<b)(hcap:l.length<=cap)(hg:g<w.heap.size)(hd0:0<=d)(hd1:d<=999)
  (HT:Hid (vN w (.slice (some ⟨g,0,none⟩) l.length cap) l))
  (KX:Hid (∀z:World,vN z (.slice (some ⟨g,0,none⟩) l.length cap) l->Calls Tryz.prog 107 #[.slice (some ⟨g,0,none⟩) l.length cap,.int .i64 a,.int .i64 b,.int .i64 d] z λe w'=>∃v',e=.returned v'/\zF w' 0 v' x/\Below z.heap.size z w'))
  (KY:Hid (∀z:World,vN z (.slice (some ⟨g,0,none⟩) l.length cap) l->Calls Tryz.prog 107 #[.slice (some ⟨g,0,none⟩) l.length cap,.int .i64 a,.int .i64 b,.int .i64 (d+1)] z λe w'=>∃v',e=.returned v'/\zF w' 0 v' y/\Below z.heap.size z w'))
  (FX:Hid (Mt.fit 70000000 x)) (FY:Hid (Mt.fit 70000000 y)) (LX:(x.length:Int)<=10000000) (LY:(y.length:Int)<=10000000)
  (c0:w.cell? ⟨g,b*7,none⟩=some (.int .i64 t.kind)) (c1:w.cell? ⟨g,b*7+1,none⟩=some (.int .i64 t.zTE)) (c2:w.cell? ⟨g,b*7+2,none⟩=some (.int .i64 t.to)) (c3:w.cell? ⟨g,b*7+3,none⟩=some (.int .i64 t.n)) (c4:w.cell? ⟨g,b*7+4,none⟩=some (.int .i64 t.m)) (c5:w.cell? ⟨g,b*7+5,none⟩=some (.int .i64 t.zTF)) (c6:w.cell? ⟨g,b*7+6,none⟩=some (.string ⟨t.set.toArray⟩))
  (t1:0<=t.n) (t2:t.n<=20) (t3:-1<=t.m) (t4:t.m<=20) (t5:0<=t.zTF) (t6:t.zTF<=4) (hm:¬t.m<0) (hmn:t.n<t.m) (hnb:decide (0<t.n)=false) (hmb:decide (0<t.m)=true) (hp:(t.zTF==2)=false) :
  Calls Tryz.prog 106 #[.slice (some ⟨g,0,none⟩) l.length cap,.int .i64 a,.int .i64 b,.int .i64 d] w λe w'=>∃v',e=.returned v'/\zF w' 0 v' (Mt.zO (Mt.zH x t.n.toNat []) (Mt.upTo x (t.m-t.n).toNat (t.zTF==1)))/\Below w.heap.size w w':=by
 have FX9:Hid (Mt.fit 900000000 x):=Mt.zR FX.out (by omega);go_enter Tryz.func106,Tryz.ntmps106
 go_wp2_with fail
 have fu0:Mt.zAo (10000600) (300000600+300) (Mt.upTo x (t.m-t.n).toNat (t.zTF==1)):=Mt.qC (Mt.tY (L:=10000000) (N:=300000000) (t.zTF==1) ⟨LX,λi hi=>Mt.pR (FX.out.2 i hi) (by omega)⟩ (by omega) (by omega) (t.m-t.n).toNat [] (by omega) (Mt.nI (by omega))) (by omega) (by omega);have FU:Hid (Mt.fit 900000000 (Mt.upTo x (t.m-t.n).toNat (t.zTF==1))):=Mt.vV fu0 (by omega) (by omega);have FU4:Mt.fit 400000000 (Mt.upTo x (t.m-t.n).toNat (t.zTF==1)):=Mt.vV fu0 (by omega) (by omega);have FUH:Hid (Mt.fit 400000000 (Mt.upTo x (t.m-t.n).toNat (t.zTF==1))):=FU4;clear fu0 FU4;refine(KX.out _ (HT.out.alloc _)).mono ?_;rintro e w1 ⟨vx,rfl,qx,hbx⟩;obtain⟨r0,r1,r2,r3⟩:=fB hbx;have hs1:=r3.size;have Qx:Hid (zF w1 0 vx x):=qx;have HT1:Hid (vN w1 (.slice (some ⟨g,0,none⟩) l.length cap) l):=yA HT.out r3;clear qx hbx HT c0 c1 c2 c3 c4 c5 c6;go_wp2_with fail
 go_loopw [10,12] (λu i wr=>∃(j:Nat) (c:List Mt.zTG),(j:Int)<=t.n/\i=.int .i64 j/\zF wr 0 u c/\Mt.fit 70000300 c/\Below w1.heap.size w1 wr/\Mt.zH x t.n.toNat []=Mt.zH x (t.n.toNat-j) c) (λ_ i _=>t.n.toNat-(intOf i).toNat)
 case atStart=>exact⟨0,[],by omega,rfl,zF.nil _ _,Mt.fO (by omega),Below.refl _ _,rfl⟩
 case round =>
  obtain⟨j,c,hj,rfl,jS,hfc,qV,hr⟩:=hrel;have HR:Hid (Mt.zH x t.n.toNat []=Mt.zH x (t.n.toNat-j) c):=hr;have HO:Hid (zF wr 0 u10 c):=jS;have FC:Hid (Mt.fit 70000300 c):=hfc;have QXr:Hid (zF wr 0 vx x):=Qx.out.below qV;have HTr:Hid (vN wr (.slice (some ⟨g,0,none⟩) l.length cap) l):=yA HT1.out qV;have rr0:=λo=>(qV.cell (p:=⟨w.heap.size,o,none⟩) r2).trans (r0 o)
  have hB:Below w.heap.size w wr:=r3.trans (qV.mono hs1);have hsr:=hB.size;have hgt:w.heap.size<wr.heap.size:=Nat.lt_of_lt_of_le r2 qV.size;clear hr jS hfc;by_cases zTI:(j:Int)<t.n
  ·have HN:Hid (Mt.zH x t.n.toNat []=Mt.zH x (t.n.toNat-(j+1)) (Mt.zO c x)):=HR.out.trans (fV x t.n.toNat j c (by omega));have G1:Hid (Mt.fit 70000300 (Mt.zO c x)):=qN (M:=70000000) FC.out (Mt.zR FX.out (by omega));have hs2:=qV.size;go_wp2_with fail
   refine(jA c x _ _ _ HO.out QXr.out (Mt.zR FC.out (by omega)) FX9.out).mono ?_;rintro e w2 ⟨v2,rfl,q2,zTK⟩;have hB2:Below w1.heap.size w1 w2:=qV.trans (zTK.mono hs2);have Q2:Hid (zF w2 0 v2 (Mt.zO c x)):=q2;clear q2 zTK HO QXr HTr hB rr0;go_wp2_with fail
   go_roundw
   case rel=>exact⟨j+1,_,by omega,by go_num,Q2.out,G1.out,hB2,HN.out⟩
   case measure=>simp[intOf];omega
  ·have hjn:t.n.toNat-j=0:=by omega
   have HC:Hid (zF wr 0 u10 (Mt.zH x t.n.toNat [])):=by
    show zF _ _ _ _;rw[HR.out,hjn];exact HO.out
   have FT:Hid (Mt.fit 70000300 (Mt.zH x t.n.toNat [])):=by
    show Mt.fit _ _;rw[HR.out,hjn];exact FC.out
   clear HR HO FC hjn qV;generalize hTT:Mt.zH x t.n.toNat []=T at *;have HTT:Hid (Mt.zH x t.n.toNat []=T):=hTT;clear hTT;go_wp2_with fail
   refine(zC2 x _ _ _ _ QXr.out FX.out LX (by omega) (by omega)).mono ?_;rintro e w2 ⟨v2,rfl,q2,zTK⟩;have hB2:Below w.heap.size w w2:=hB.trans (zTK.mono hsr);have hs2:=hB2.size;have hgt2:w.heap.size<w2.heap.size:=Nat.lt_of_lt_of_le hgt zTK.size;have s0:=λo=>(zTK.cell (p:=⟨w.heap.size,o,none⟩) hgt).trans (rr0 o)
   have Q2:Hid (zF w2 0 v2 (Mt.upTo x (t.m-t.n).toNat (t.zTF==1))):=q2;have HC2:Hid (zF w2 0 u10 T):=HC.out.below zTK;clear q2 zTK hB rr0 QXr HTr HC;go_wp2_with fail
   refine(jA T _ _ _ _ HC2.out Q2.out (Mt.zR FT.out (by omega)) FU.out).mono ?_;rintro e w3 ⟨v3,rfl,q3,zTL⟩;have hB3:Below w.heap.size w w3:=hB2.trans (zTL.mono hs2);have hs3:=hB3.size;have s1:=λo=>(zTL.cell (p:=⟨w.heap.size,o,none⟩) hgt2).trans (s0 o)
   have Q3:Hid (zF w3 0 v3 (Mt.zO T (Mt.upTo x (t.m-t.n).toNat (t.zTF==1)))):=q3;clear q3 zTL hB2 s0 HC2 Q2;go_wp2_with fail
   go_ret;exact⟨_,rfl,by rw[HTT.out];exact Q3.out,hB3⟩
theorem zSi(l:List Mt.zTD)(hl:l.length<=64)(a b:Nat)(d:Int)(t:Mt.zTD)(x y:List Mt.zTG)(g cap:Nat)(w:World)(hb:b<l.length)(hab:a<b)(hcap:l.length<=cap)(hg:g<w.heap.size)(hd0:0<=d)(hd1:d<=999)
  (HT:Hid (vN w (.slice (some ⟨g,0,none⟩) l.length cap) l))
  (KX:Hid (∀z:World,vN z (.slice (some ⟨g,0,none⟩) l.length cap) l->Calls Tryz.prog 107 #[.slice (some ⟨g,0,none⟩) l.length cap,.int .i64 a,.int .i64 b,.int .i64 d] z λe w'=>∃v',e=.returned v'/\zF w' 0 v' x/\Below z.heap.size z w'))
  (KY:Hid (∀z:World,vN z (.slice (some ⟨g,0,none⟩) l.length cap) l->Calls Tryz.prog 107 #[.slice (some ⟨g,0,none⟩) l.length cap,.int .i64 a,.int .i64 b,.int .i64 (d+1)] z λe w'=>∃v',e=.returned v'/\zF w' 0 v' y/\Below z.heap.size z w'))
  (FX:Hid (Mt.fit 70000000 x)) (FY:Hid (Mt.fit 70000000 y)) (LX:(x.length:Int)<=10000000) (LY:(y.length:Int)<=10000000)
  (c0:w.cell? ⟨g,b*7,none⟩=some (.int .i64 t.kind)) (c1:w.cell? ⟨g,b*7+1,none⟩=some (.int .i64 t.zTE)) (c2:w.cell? ⟨g,b*7+2,none⟩=some (.int .i64 t.to)) (c3:w.cell? ⟨g,b*7+3,none⟩=some (.int .i64 t.n)) (c4:w.cell? ⟨g,b*7+4,none⟩=some (.int .i64 t.m)) (c5:w.cell? ⟨g,b*7+5,none⟩=some (.int .i64 t.zTF)) (c6:w.cell? ⟨g,b*7+6,none⟩=some (.string ⟨t.set.toArray⟩))
  (t1:0<=t.n) (t2:t.n<=20) (t3:-1<=t.m) (t4:t.m<=20) (t5:0<=t.zTF) (t6:t.zTF<=4) (hm:¬t.m<0) (hmn:¬t.n<t.m) (hn:0<t.n) (hnb:decide (0<t.n)=true) (hp:(t.zTF==2)=false) :
  Calls Tryz.prog 106 #[.slice (some ⟨g,0,none⟩) l.length cap,.int .i64 a,.int .i64 b,.int .i64 d] w λe w'=>∃v',e=.returned v'/\zF w' 0 v' (Mt.zH x t.n.toNat [])/\Below w.heap.size w w':=by
 have FX9:Hid (Mt.fit 900000000 x):=Mt.zR FX.out (by omega);go_enter Tryz.func106,Tryz.ntmps106
 go_wp2_with fail
 refine(KX.out _ (HT.out.alloc _)).mono ?_;rintro e w1 ⟨vx,rfl,qx,hbx⟩;obtain⟨r0,r1,r2,r3⟩:=fB hbx;have hs1:=r3.size;have Qx:Hid (zF w1 0 vx x):=qx;have HT1:Hid (vN w1 (.slice (some ⟨g,0,none⟩) l.length cap) l):=yA HT.out r3;clear qx hbx HT c0 c1 c2 c3 c4 c5 c6;go_wp2_with fail
 go_loopw [10,12] (λu i wr=>∃(j:Nat) (c:List Mt.zTG),(j:Int)<=t.n/\i=.int .i64 j/\zF wr 0 u c/\Mt.fit 70000300 c/\Below w1.heap.size w1 wr/\Mt.zH x t.n.toNat []=Mt.zH x (t.n.toNat-j) c) (λ_ i _=>t.n.toNat-(intOf i).toNat)
 case atStart=>exact⟨0,[],by omega,rfl,zF.nil _ _,Mt.fO (by omega),Below.refl _ _,rfl⟩
 case round =>
  obtain⟨j,c,hj,rfl,jS,hfc,qV,hr⟩:=hrel;have HR:Hid (Mt.zH x t.n.toNat []=Mt.zH x (t.n.toNat-j) c):=hr;have HO:Hid (zF wr 0 u10 c):=jS;have FC:Hid (Mt.fit 70000300 c):=hfc;have QXr:Hid (zF wr 0 vx x):=Qx.out.below qV;have HTr:Hid (vN wr (.slice (some ⟨g,0,none⟩) l.length cap) l):=yA HT1.out qV;have rr0:=λo=>(qV.cell (p:=⟨w.heap.size,o,none⟩) r2).trans (r0 o)
  have hB:Below w.heap.size w wr:=r3.trans (qV.mono hs1);have hsr:=hB.size;have hgt:w.heap.size<wr.heap.size:=Nat.lt_of_lt_of_le r2 qV.size;clear hr jS hfc;by_cases zTI:(j:Int)<t.n
  ·have HN:Hid (Mt.zH x t.n.toNat []=Mt.zH x (t.n.toNat-(j+1)) (Mt.zO c x)):=HR.out.trans (fV x t.n.toNat j c (by omega));have G1:Hid (Mt.fit 70000300 (Mt.zO c x)):=qN (M:=70000000) FC.out (Mt.zR FX.out (by omega));have hs2:=qV.size;go_wp2_with fail
   refine(jA c x _ _ _ HO.out QXr.out (Mt.zR FC.out (by omega)) FX9.out).mono ?_;rintro e w2 ⟨v2,rfl,q2,zTK⟩;have hB2:Below w1.heap.size w1 w2:=qV.trans (zTK.mono hs2);have Q2:Hid (zF w2 0 v2 (Mt.zO c x)):=q2;clear q2 zTK HO QXr HTr hB rr0;go_wp2_with fail
   go_roundw
   case rel=>exact⟨j+1,_,by omega,by go_num,Q2.out,G1.out,hB2,HN.out⟩
   case measure=>simp[intOf];omega
  ·have hjn:t.n.toNat-j=0:=by omega
   have HC:Hid (zF wr 0 u10 (Mt.zH x t.n.toNat [])):=by
    show zF _ _ _ _;rw[HR.out,hjn];exact HO.out
   have FT:Hid (Mt.fit 70000300 (Mt.zH x t.n.toNat [])):=by
    show Mt.fit _ _;rw[HR.out,hjn];exact FC.out
   clear HR HO FC hjn qV;generalize hTT:Mt.zH x t.n.toNat []=T at *;have HTT:Hid (Mt.zH x t.n.toNat []=T):=hTT;clear hTT;go_wp2_with fail
   go_ret;exact⟨_,rfl,by rw[HTT.out];exact HC.out,hB⟩
theorem zRf(l:List Mt.zTD)(hl:l.length<=64)(a b:Nat)(d:Int)(t:Mt.zTD)(x y:List Mt.zTG)(g cap:Nat)(w:World)(hb:b<l.length)(hab:a<b)(hcap:l.length<=cap)(hg:g<w.heap.size)(hd0:0<=d)(hd1:d<=999)
  (HT:Hid (vN w (.slice (some ⟨g,0,none⟩) l.length cap) l))
  (KX:Hid (∀z:World,vN z (.slice (some ⟨g,0,none⟩) l.length cap) l->Calls Tryz.prog 107 #[.slice (some ⟨g,0,none⟩) l.length cap,.int .i64 a,.int .i64 b,.int .i64 d] z λe w'=>∃v',e=.returned v'/\zF w' 0 v' x/\Below z.heap.size z w'))
  (KY:Hid (∀z:World,vN z (.slice (some ⟨g,0,none⟩) l.length cap) l->Calls Tryz.prog 107 #[.slice (some ⟨g,0,none⟩) l.length cap,.int .i64 a,.int .i64 b,.int .i64 (d+1)] z λe w'=>∃v',e=.returned v'/\zF w' 0 v' y/\Below z.heap.size z w'))
  (FX:Hid (Mt.fit 70000000 x)) (FY:Hid (Mt.fit 70000000 y)) (LX:(x.length:Int)<=10000000) (LY:(y.length:Int)<=10000000)
  (c0:w.cell? ⟨g,b*7,none⟩=some (.int .i64 t.kind)) (c1:w.cell? ⟨g,b*7+1,none⟩=some (.int .i64 t.zTE)) (c2:w.cell? ⟨g,b*7+2,none⟩=some (.int .i64 t.to)) (c3:w.cell? ⟨g,b*7+3,none⟩=some (.int .i64 t.n)) (c4:w.cell? ⟨g,b*7+4,none⟩=some (.int .i64 t.m)) (c5:w.cell? ⟨g,b*7+5,none⟩=some (.int .i64 t.zTF)) (c6:w.cell? ⟨g,b*7+6,none⟩=some (.string ⟨t.set.toArray⟩))
  (t1:0<=t.n) (t2:t.n<=20) (t3:-1<=t.m) (t4:t.m<=20) (t5:0<=t.zTF) (t6:t.zTF<=4) (hm:t.m<0) (hn:0<t.n) (hnb:decide (0<t.n)=true) (hp:(t.zTF==2)=true) :
  Calls Tryz.prog 106 #[.slice (some ⟨g,0,none⟩) l.length cap,.int .i64 a,.int .i64 b,.int .i64 d] w λe w'=>∃v',e=.returned v'/\zF w' 0 v' (Mt.alone 0 (Mt.zO (Mt.zH x t.n.toNat []) (Mt.pG y d (t.zTF==1))))/\Below w.heap.size w w':=by
 have FX9:Hid (Mt.fit 900000000 x):=Mt.zR FX.out (by omega);go_enter Tryz.func106,Tryz.ntmps106
 go_wp2_with fail
 have fl0:Mt.zAo (10000000+900) (70000010+900) (Mt.pG y d (t.zTF==1)):=Mt.zAx (L:=10000000) (N:=70000010) d (t.zTF==1) ⟨LY,λi hi=>Mt.pR (FY.out.2 i hi) (by omega)⟩ (by omega) (by omega) (by omega);have FL:Hid (Mt.fit 900000000 (Mt.pG y d (t.zTF==1))):=Mt.vV fl0 (by omega) (by omega);have FLH:Hid (Mt.fit 400000000 (Mt.pG y d (t.zTF==1))):=Mt.vV fl0 (by omega) (by omega);clear fl0;refine(KX.out _ (HT.out.alloc _)).mono ?_;rintro e w1 ⟨vx,rfl,qx,hbx⟩;obtain⟨r0,r1,r2,r3⟩:=fB hbx;have hs1:=r3.size;have Qx:Hid (zF w1 0 vx x):=qx;have HT1:Hid (vN w1 (.slice (some ⟨g,0,none⟩) l.length cap) l):=yA HT.out r3;clear qx hbx HT c0 c1 c2 c3 c4 c5 c6;go_wp2_with fail
 go_loopw [10,12] (λu i wr=>∃(j:Nat) (c:List Mt.zTG),(j:Int)<=t.n/\i=.int .i64 j/\zF wr 0 u c/\Mt.fit 70000300 c/\Below w1.heap.size w1 wr/\Mt.zH x t.n.toNat []=Mt.zH x (t.n.toNat-j) c) (λ_ i _=>t.n.toNat-(intOf i).toNat)
 case atStart=>exact⟨0,[],by omega,rfl,zF.nil _ _,Mt.fO (by omega),Below.refl _ _,rfl⟩
 case round =>
  obtain⟨j,c,hj,rfl,jS,hfc,qV,hr⟩:=hrel;have HR:Hid (Mt.zH x t.n.toNat []=Mt.zH x (t.n.toNat-j) c):=hr;have HO:Hid (zF wr 0 u10 c):=jS;have FC:Hid (Mt.fit 70000300 c):=hfc;have QXr:Hid (zF wr 0 vx x):=Qx.out.below qV;have HTr:Hid (vN wr (.slice (some ⟨g,0,none⟩) l.length cap) l):=yA HT1.out qV;have rr0:=λo=>(qV.cell (p:=⟨w.heap.size,o,none⟩) r2).trans (r0 o)
  have hB:Below w.heap.size w wr:=r3.trans (qV.mono hs1);have hsr:=hB.size;have hgt:w.heap.size<wr.heap.size:=Nat.lt_of_lt_of_le r2 qV.size;clear hr jS hfc;by_cases zTI:(j:Int)<t.n
  ·have HN:Hid (Mt.zH x t.n.toNat []=Mt.zH x (t.n.toNat-(j+1)) (Mt.zO c x)):=HR.out.trans (fV x t.n.toNat j c (by omega));have G1:Hid (Mt.fit 70000300 (Mt.zO c x)):=qN (M:=70000000) FC.out (Mt.zR FX.out (by omega));have hs2:=qV.size;go_wp2_with fail
   refine(jA c x _ _ _ HO.out QXr.out (Mt.zR FC.out (by omega)) FX9.out).mono ?_;rintro e w2 ⟨v2,rfl,q2,zTK⟩;have hB2:Below w1.heap.size w1 w2:=qV.trans (zTK.mono hs2);have Q2:Hid (zF w2 0 v2 (Mt.zO c x)):=q2;clear q2 zTK HO QXr HTr hB rr0;go_wp2_with fail
   go_roundw
   case rel=>exact⟨j+1,_,by omega,by go_num,Q2.out,G1.out,hB2,HN.out⟩
   case measure=>simp[intOf];omega
  ·have hjn:t.n.toNat-j=0:=by omega
   have HC:Hid (zF wr 0 u10 (Mt.zH x t.n.toNat [])):=by
    show zF _ _ _ _;rw[HR.out,hjn];exact HO.out
   have FT:Hid (Mt.fit 70000300 (Mt.zH x t.n.toNat [])):=by
    show Mt.fit _ _;rw[HR.out,hjn];exact FC.out
   clear HR HO FC hjn qV;generalize hTT:Mt.zH x t.n.toNat []=T at *;have HTT:Hid (Mt.zH x t.n.toNat []=T):=hTT;clear hTT;go_wp2_with fail
   refine(KY.out _ HTr.out).mono ?_;rintro e w2 ⟨v2,rfl,q2,zTK⟩;have hB2:Below w.heap.size w w2:=hB.trans (zTK.mono hsr);have hs2:=hB2.size;have hgt2:w.heap.size<w2.heap.size:=Nat.lt_of_lt_of_le hgt zTK.size;have s0:=λo=>(zTK.cell (p:=⟨w.heap.size,o,none⟩) hgt).trans (rr0 o)
   have Q2:Hid (zF w2 0 v2 y):=q2;have HC2:Hid (zF w2 0 u10 T):=HC.out.below zTK;clear q2 zTK hB rr0;go_wp2_with fail
   refine(zC0 y d _ _ _ Q2.out (Mt.zR FY.out (by omega)) hd0 (by omega)).mono ?_;rintro e w3 ⟨v3,rfl,q3,zTL⟩;have hB3:Below w.heap.size w w3:=hB2.trans (zTL.mono hs2);have hs3:=hB3.size;have zOZ:w.heap.size<w3.heap.size:=Nat.lt_of_lt_of_le hgt2 zTL.size;have s1:=λo=>(zTL.cell (p:=⟨w.heap.size,o,none⟩) hgt2).trans (s0 o)
   have Q3:Hid (zF w3 0 v3 (Mt.pG y d (t.zTF==1))):=q3;have HC3:Hid (zF w3 0 u10 T):=HC2.out.below zTL;clear q3 zTL hB2 s0 HC2 Q2;go_wp2_with fail
   refine(jA T _ _ _ _ HC3.out Q3.out (Mt.zR FT.out (by omega)) FL.out).mono ?_;rintro e w4 ⟨v4,rfl,q4,hb4⟩;have hB4:Below w.heap.size w w4:=hB3.trans (hb4.mono hs3);have hs4:=hB4.size;have s2:=λo=>(hb4.cell (p:=⟨w.heap.size,o,none⟩) zOZ).trans (s1 o)
   have Q4:Hid (zF w4 0 v4 (Mt.zO T (Mt.pG y d (t.zTF==1)))):=q4;clear q4 hb4 hB3 s1 HC3 Q3;go_wp2_with fail
   refine(nN 0 _ _ _ Q4.out (Mt.zR (Mt.vY (Mt.zR FT.out (show(70000300:Int)<=400000000 by omega)) FLH.out) (by omega)) (by omega) (by omega)).mono ?_;rintro e w9 ⟨v9,rfl,q9,hb9⟩;have hB9:Below w.heap.size w w9:=hB4.trans (hb9.mono hs4);clear hb9;go_wp2_with fail
   go_ret;exact⟨_,rfl,by rw[HTT.out];exact q9,hB9⟩
theorem zRg(l:List Mt.zTD)(hl:l.length<=64)(a b:Nat)(d:Int)(t:Mt.zTD)(x y:List Mt.zTG)(g cap:Nat)(w:World)(hb:b<l.length)(hab:a<b)(hcap:l.length<=cap)(hg:g<w.heap.size)(hd0:0<=d)(hd1:d<=999)
  (HT:Hid (vN w (.slice (some ⟨g,0,none⟩) l.length cap) l))
  (KX:Hid (∀z:World,vN z (.slice (some ⟨g,0,none⟩) l.length cap) l->Calls Tryz.prog 107 #[.slice (some ⟨g,0,none⟩) l.length cap,.int .i64 a,.int .i64 b,.int .i64 d] z λe w'=>∃v',e=.returned v'/\zF w' 0 v' x/\Below z.heap.size z w'))
  (KY:Hid (∀z:World,vN z (.slice (some ⟨g,0,none⟩) l.length cap) l->Calls Tryz.prog 107 #[.slice (some ⟨g,0,none⟩) l.length cap,.int .i64 a,.int .i64 b,.int .i64 (d+1)] z λe w'=>∃v',e=.returned v'/\zF w' 0 v' y/\Below z.heap.size z w'))
  (FX:Hid (Mt.fit 70000000 x)) (FY:Hid (Mt.fit 70000000 y)) (LX:(x.length:Int)<=10000000) (LY:(y.length:Int)<=10000000)
  (c0:w.cell? ⟨g,b*7,none⟩=some (.int .i64 t.kind)) (c1:w.cell? ⟨g,b*7+1,none⟩=some (.int .i64 t.zTE)) (c2:w.cell? ⟨g,b*7+2,none⟩=some (.int .i64 t.to)) (c3:w.cell? ⟨g,b*7+3,none⟩=some (.int .i64 t.n)) (c4:w.cell? ⟨g,b*7+4,none⟩=some (.int .i64 t.m)) (c5:w.cell? ⟨g,b*7+5,none⟩=some (.int .i64 t.zTF)) (c6:w.cell? ⟨g,b*7+6,none⟩=some (.string ⟨t.set.toArray⟩))
  (t1:0<=t.n) (t2:t.n<=20) (t3:-1<=t.m) (t4:t.m<=20) (t5:0<=t.zTF) (t6:t.zTF<=4) (hm:t.m<0) (hn:t.n<=0) (hnb:decide (0<t.n)=false) (hmb:decide (0<t.m)=false) (hp:(t.zTF==2)=true) :
  Calls Tryz.prog 106 #[.slice (some ⟨g,0,none⟩) l.length cap,.int .i64 a,.int .i64 b,.int .i64 d] w λe w'=>∃v',e=.returned v'/\zF w' 0 v' (Mt.alone 0 (Mt.zO [] (Mt.pG y d (t.zTF==1))))/\Below w.heap.size w w':=by
 have FX9:Hid (Mt.fit 900000000 x):=Mt.zR FX.out (by omega);go_enter Tryz.func106,Tryz.ntmps106
 go_wp2_with fail
 have fl0:Mt.zAo (10000000+900) (70000010+900) (Mt.pG y d (t.zTF==1)):=Mt.zAx (L:=10000000) (N:=70000010) d (t.zTF==1) ⟨LY,λi hi=>Mt.pR (FY.out.2 i hi) (by omega)⟩ (by omega) (by omega) (by omega);have FL:Hid (Mt.fit 900000000 (Mt.pG y d (t.zTF==1))):=Mt.vV fl0 (by omega) (by omega);have FLH:Hid (Mt.fit 400000000 (Mt.pG y d (t.zTF==1))):=Mt.vV fl0 (by omega) (by omega);clear fl0;refine(KY.out _ (HT.out.alloc _)).mono ?_;rintro e w2 ⟨v2,rfl,q2,zTK⟩;obtain⟨s0,r1,hgt2,hB2⟩:=fB zTK;have hs2:=hB2.size;have Q2:Hid (zF w2 0 v2 y):=q2;clear q2 zTK HT c0 c1 c2 c3 c4 c5 c6;go_wp2_with fail
 refine(zC0 y d _ _ _ Q2.out (Mt.zR FY.out (by omega)) hd0 (by omega)).mono ?_;rintro e w3 ⟨v3,rfl,q3,zTL⟩;have hB3:Below w.heap.size w w3:=hB2.trans (zTL.mono hs2);have hs3:=hB3.size;have zOZ:w.heap.size<w3.heap.size:=Nat.lt_of_lt_of_le hgt2 zTL.size;have s1:=λo=>(zTL.cell (p:=⟨w.heap.size,o,none⟩) hgt2).trans (s0 o)
 have Q3:Hid (zF w3 0 v3 (Mt.pG y d (t.zTF==1))):=q3;clear q3 zTL hB2 s0 Q2;go_wp2_with fail
 refine(jA [] _ _ _ _ (zF.nil _ _) Q3.out (Mt.fO (by omega)) FL.out).mono ?_;rintro e w4 ⟨v4,rfl,q4,hb4⟩;have hB4:Below w.heap.size w w4:=hB3.trans (hb4.mono hs3);have hs4:=hB4.size;have s2:=λo=>(hb4.cell (p:=⟨w.heap.size,o,none⟩) zOZ).trans (s1 o)
 have Q4:Hid (zF w4 0 v4 (Mt.zO [] (Mt.pG y d (t.zTF==1)))):=q4;clear q4 hb4 hB3 s1 Q3;go_wp2_with fail
 refine(nN 0 _ _ _ Q4.out (Mt.zR (Mt.vY (Mt.fO (by omega)) FLH.out) (by omega)) (by omega) (by omega)).mono ?_;rintro e w9 ⟨v9,rfl,q9,hb9⟩;have hB9:Below w.heap.size w w9:=hB4.trans (hb9.mono hs4);clear hb9;go_wp2_with fail
 go_ret;exact⟨_,rfl,q9,hB9⟩
theorem zQl(l:List Mt.zTD)(hl:l.length<=64)(a b:Nat)(d:Int)(t:Mt.zTD)(x y:List Mt.zTG)(g cap:Nat)(w:World)(hb:b<l.length)(hab:a<b)(hcap:l.length<=cap)(hg:g<w.heap.size)(hd0:0<=d)(hd1:d<=999)
  (HT:Hid (vN w (.slice (some ⟨g,0,none⟩) l.length cap) l))
  (KX:Hid (∀z:World,vN z (.slice (some ⟨g,0,none⟩) l.length cap) l->Calls Tryz.prog 107 #[.slice (some ⟨g,0,none⟩) l.length cap,.int .i64 a,.int .i64 b,.int .i64 d] z λe w'=>∃v',e=.returned v'/\zF w' 0 v' x/\Below z.heap.size z w'))
  (KY:Hid (∀z:World,vN z (.slice (some ⟨g,0,none⟩) l.length cap) l->Calls Tryz.prog 107 #[.slice (some ⟨g,0,none⟩) l.length cap,.int .i64 a,.int .i64 b,.int .i64 (d+1)] z λe w'=>∃v',e=.returned v'/\zF w' 0 v' y/\Below z.heap.size z w'))
  (FX:Hid (Mt.fit 70000000 x)) (FY:Hid (Mt.fit 70000000 y)) (LX:(x.length:Int)<=10000000) (LY:(y.length:Int)<=10000000)
  (c0:w.cell? ⟨g,b*7,none⟩=some (.int .i64 t.kind)) (c1:w.cell? ⟨g,b*7+1,none⟩=some (.int .i64 t.zTE)) (c2:w.cell? ⟨g,b*7+2,none⟩=some (.int .i64 t.to)) (c3:w.cell? ⟨g,b*7+3,none⟩=some (.int .i64 t.n)) (c4:w.cell? ⟨g,b*7+4,none⟩=some (.int .i64 t.m)) (c5:w.cell? ⟨g,b*7+5,none⟩=some (.int .i64 t.zTF)) (c6:w.cell? ⟨g,b*7+6,none⟩=some (.string ⟨t.set.toArray⟩))
  (t1:0<=t.n) (t2:t.n<=20) (t3:-1<=t.m) (t4:t.m<=20) (t5:0<=t.zTF) (t6:t.zTF<=4) (hm:¬t.m<0) (hn:t.n<=0) (hnb:decide (0<t.n)=false) (hmb:decide (0<t.m)=false) (hp:(t.zTF==2)=true) :
  Calls Tryz.prog 106 #[.slice (some ⟨g,0,none⟩) l.length cap,.int .i64 a,.int .i64 b,.int .i64 d] w λe w'=>∃v',e=.returned v'/\zF w' 0 v' (Mt.alone 0 ([]))/\Below w.heap.size w w':=by
 have FX9:Hid (Mt.fit 900000000 x):=Mt.zR FX.out (by omega);go_enter Tryz.func106,Tryz.ntmps106
 go_wp2_with fail
 refine(nN 0 [] _ _ (zF.nil _ _) (Mt.fO (by omega)) (by omega) (by omega)).mono ?_;rintro e w9 ⟨v9,rfl,q9,hb9⟩;have hB9:Below w.heap.size w w9:=((Below.refl _ _).alloc (lG _) _).trans (hb9.mono (by simp));clear hb9;go_wp2_with fail
 go_ret;exact⟨_,rfl,q9,hB9⟩
theorem zRh(l:List Mt.zTD)(hl:l.length<=64)(a b:Nat)(d:Int)(t:Mt.zTD)(x y:List Mt.zTG)(g cap:Nat)(w:World)(hb:b<l.length)(hab:a<b)(hcap:l.length<=cap)(hg:g<w.heap.size)(hd0:0<=d)(hd1:d<=999)
  (HT:Hid (vN w (.slice (some ⟨g,0,none⟩) l.length cap) l))
  (KX:Hid (∀z:World,vN z (.slice (some ⟨g,0,none⟩) l.length cap) l->Calls Tryz.prog 107 #[.slice (some ⟨g,0,none⟩) l.length cap,.int .i64 a,.int .i64 b,.int .i64 d] z λe w'=>∃v',e=.returned v'/\zF w' 0 v' x/\Below z.heap.size z w'))
  (KY:Hid (∀z:World,vN z (.slice (some ⟨g,0,none⟩) l.length cap) l->Calls Tryz.prog 107 #[.slice (some ⟨g,0,none⟩) l.length cap,.int .i64 a,.int .i64 b,.int .i64 (d+1)] z λe w'=>∃v',e=.returned v'/\zF w' 0 v' y/\Below z.heap.size z w'))
  (FX:Hid (Mt.fit 70000000 x)) (FY:Hid (Mt.fit 70000000 y)) (LX:(x.length:Int)<=10000000) (LY:(y.length:Int)<=10000000)
  (c0:w.cell? ⟨g,b*7,none⟩=some (.int .i64 t.kind)) (c1:w.cell? ⟨g,b*7+1,none⟩=some (.int .i64 t.zTE)) (c2:w.cell? ⟨g,b*7+2,none⟩=some (.int .i64 t.to)) (c3:w.cell? ⟨g,b*7+3,none⟩=some (.int .i64 t.n)) (c4:w.cell? ⟨g,b*7+4,none⟩=some (.int .i64 t.m)) (c5:w.cell? ⟨g,b*7+5,none⟩=some (.int .i64 t.zTF)) (c6:w.cell? ⟨g,b*7+6,none⟩=some (.string ⟨t.set.toArray⟩))
  (t1:0<=t.n) (t2:t.n<=20) (t3:-1<=t.m) (t4:t.m<=20) (t5:0<=t.zTF) (t6:t.zTF<=4) (hm:¬t.m<0) (hmn:t.n<t.m) (hnb:decide (0<t.n)=true) (hp:(t.zTF==2)=true) :
  Calls Tryz.prog 106 #[.slice (some ⟨g,0,none⟩) l.length cap,.int .i64 a,.int .i64 b,.int .i64 d] w λe w'=>∃v',e=.returned v'/\zF w' 0 v' (Mt.alone 0 (Mt.zO (Mt.zH x t.n.toNat []) (Mt.upTo x (t.m-t.n).toNat (t.zTF==1))))/\Below w.heap.size w w':=by
 have FX9:Hid (Mt.fit 900000000 x):=Mt.zR FX.out (by omega);go_enter Tryz.func106,Tryz.ntmps106
 go_wp2_with fail
 have fu0:Mt.zAo (10000600) (300000600+300) (Mt.upTo x (t.m-t.n).toNat (t.zTF==1)):=Mt.qC (Mt.tY (L:=10000000) (N:=300000000) (t.zTF==1) ⟨LX,λi hi=>Mt.pR (FX.out.2 i hi) (by omega)⟩ (by omega) (by omega) (t.m-t.n).toNat [] (by omega) (Mt.nI (by omega))) (by omega) (by omega);have FU:Hid (Mt.fit 900000000 (Mt.upTo x (t.m-t.n).toNat (t.zTF==1))):=Mt.vV fu0 (by omega) (by omega);have FU4:Mt.fit 400000000 (Mt.upTo x (t.m-t.n).toNat (t.zTF==1)):=Mt.vV fu0 (by omega) (by omega);have FUH:Hid (Mt.fit 400000000 (Mt.upTo x (t.m-t.n).toNat (t.zTF==1))):=FU4;clear fu0 FU4;refine(KX.out _ (HT.out.alloc _)).mono ?_;rintro e w1 ⟨vx,rfl,qx,hbx⟩;obtain⟨r0,r1,r2,r3⟩:=fB hbx;have hs1:=r3.size;have Qx:Hid (zF w1 0 vx x):=qx;have HT1:Hid (vN w1 (.slice (some ⟨g,0,none⟩) l.length cap) l):=yA HT.out r3;clear qx hbx HT c0 c1 c2 c3 c4 c5 c6;go_wp2_with fail
 go_loopw [10,12] (λu i wr=>∃(j:Nat) (c:List Mt.zTG),(j:Int)<=t.n/\i=.int .i64 j/\zF wr 0 u c/\Mt.fit 70000300 c/\Below w1.heap.size w1 wr/\Mt.zH x t.n.toNat []=Mt.zH x (t.n.toNat-j) c) (λ_ i _=>t.n.toNat-(intOf i).toNat)
 case atStart=>exact⟨0,[],by omega,rfl,zF.nil _ _,Mt.fO (by omega),Below.refl _ _,rfl⟩
 case round =>
  obtain⟨j,c,hj,rfl,jS,hfc,qV,hr⟩:=hrel;have HR:Hid (Mt.zH x t.n.toNat []=Mt.zH x (t.n.toNat-j) c):=hr;have HO:Hid (zF wr 0 u10 c):=jS;have FC:Hid (Mt.fit 70000300 c):=hfc;have QXr:Hid (zF wr 0 vx x):=Qx.out.below qV;have HTr:Hid (vN wr (.slice (some ⟨g,0,none⟩) l.length cap) l):=yA HT1.out qV;have rr0:=λo=>(qV.cell (p:=⟨w.heap.size,o,none⟩) r2).trans (r0 o)
  have hB:Below w.heap.size w wr:=r3.trans (qV.mono hs1);have hsr:=hB.size;have hgt:w.heap.size<wr.heap.size:=Nat.lt_of_lt_of_le r2 qV.size;clear hr jS hfc;by_cases zTI:(j:Int)<t.n
  ·have HN:Hid (Mt.zH x t.n.toNat []=Mt.zH x (t.n.toNat-(j+1)) (Mt.zO c x)):=HR.out.trans (fV x t.n.toNat j c (by omega));have G1:Hid (Mt.fit 70000300 (Mt.zO c x)):=qN (M:=70000000) FC.out (Mt.zR FX.out (by omega));have hs2:=qV.size;go_wp2_with fail
   refine(jA c x _ _ _ HO.out QXr.out (Mt.zR FC.out (by omega)) FX9.out).mono ?_;rintro e w2 ⟨v2,rfl,q2,zTK⟩;have hB2:Below w1.heap.size w1 w2:=qV.trans (zTK.mono hs2);have Q2:Hid (zF w2 0 v2 (Mt.zO c x)):=q2;clear q2 zTK HO QXr HTr hB rr0;go_wp2_with fail
   go_roundw
   case rel=>exact⟨j+1,_,by omega,by go_num,Q2.out,G1.out,hB2,HN.out⟩
   case measure=>simp[intOf];omega
  ·have hjn:t.n.toNat-j=0:=by omega
   have HC:Hid (zF wr 0 u10 (Mt.zH x t.n.toNat [])):=by
    show zF _ _ _ _;rw[HR.out,hjn];exact HO.out
   have FT:Hid (Mt.fit 70000300 (Mt.zH x t.n.toNat [])):=by
    show Mt.fit _ _;rw[HR.out,hjn];exact FC.out
   clear HR HO FC hjn qV;generalize hTT:Mt.zH x t.n.toNat []=T at *;have HTT:Hid (Mt.zH x t.n.toNat []=T):=hTT;clear hTT;go_wp2_with fail
   refine(zC2 x _ _ _ _ QXr.out FX.out LX (by omega) (by omega)).mono ?_;rintro e w2 ⟨v2,rfl,q2,zTK⟩;have hB2:Below w.heap.size w w2:=hB.trans (zTK.mono hsr);have hs2:=hB2.size;have hgt2:w.heap.size<w2.heap.size:=Nat.lt_of_lt_of_le hgt zTK.size;have s0:=λo=>(zTK.cell (p:=⟨w.heap.size,o,none⟩) hgt).trans (rr0 o)
   have Q2:Hid (zF w2 0 v2 (Mt.upTo x (t.m-t.n).toNat (t.zTF==1))):=q2;have HC2:Hid (zF w2 0 u10 T):=HC.out.below zTK;clear q2 zTK hB rr0 QXr HTr HC;go_wp2_with fail
   refine(jA T _ _ _ _ HC2.out Q2.out (Mt.zR FT.out (by omega)) FU.out).mono ?_;rintro e w3 ⟨v3,rfl,q3,zTL⟩;have hB3:Below w.heap.size w w3:=hB2.trans (zTL.mono hs2);have hs3:=hB3.size;have s1:=λo=>(zTL.cell (p:=⟨w.heap.size,o,none⟩) hgt2).trans (s0 o)
   have Q3:Hid (zF w3 0 v3 (Mt.zO T (Mt.upTo x (t.m-t.n).toNat (t.zTF==1)))):=q3;clear q3 zTL hB2 s0 HC2 Q2;go_wp2_with fail
   refine(nN 0 _ _ _ Q3.out (Mt.zR (Mt.vY (Mt.zR FT.out (show(70000300:Int)<=400000000 by omega)) FUH.out) (by omega)) (by omega) (by omega)).mono ?_;rintro e w9 ⟨v9,rfl,q9,hb9⟩;have hB9:Below w.heap.size w w9:=hB3.trans (hb9.mono hs3);clear hb9;go_wp2_with fail
   go_ret;exact⟨_,rfl,by rw[HTT.out];exact q9,hB9⟩
theorem zRi(l:List Mt.zTD)(hl:l.length<=64)(a b:Nat)(d:Int)(t:Mt.zTD)(x y:List Mt.zTG)(g cap:Nat)(w:World)(hb:b<l.length)(hab:a<b)(hcap:l.length<=cap)(hg:g<w.heap.size)(hd0:0<=d)(hd1:d<=999)
  (HT:Hid (vN w (.slice (some ⟨g,0,none⟩) l.length cap) l))
  (KX:Hid (∀z:World,vN z (.slice (some ⟨g,0,none⟩) l.length cap) l->Calls Tryz.prog 107 #[.slice (some ⟨g,0,none⟩) l.length cap,.int .i64 a,.int .i64 b,.int .i64 d] z λe w'=>∃v',e=.returned v'/\zF w' 0 v' x/\Below z.heap.size z w'))
  (KY:Hid (∀z:World,vN z (.slice (some ⟨g,0,none⟩) l.length cap) l->Calls Tryz.prog 107 #[.slice (some ⟨g,0,none⟩) l.length cap,.int .i64 a,.int .i64 b,.int .i64 (d+1)] z λe w'=>∃v',e=.returned v'/\zF w' 0 v' y/\Below z.heap.size z w'))
  (FX:Hid (Mt.fit 70000000 x)) (FY:Hid (Mt.fit 70000000 y)) (LX:(x.length:Int)<=10000000) (LY:(y.length:Int)<=10000000)
  (c0:w.cell? ⟨g,b*7,none⟩=some (.int .i64 t.kind)) (c1:w.cell? ⟨g,b*7+1,none⟩=some (.int .i64 t.zTE)) (c2:w.cell? ⟨g,b*7+2,none⟩=some (.int .i64 t.to)) (c3:w.cell? ⟨g,b*7+3,none⟩=some (.int .i64 t.n)) (c4:w.cell? ⟨g,b*7+4,none⟩=some (.int .i64 t.m)) (c5:w.cell? ⟨g,b*7+5,none⟩=some (.int .i64 t.zTF)) (c6:w.cell? ⟨g,b*7+6,none⟩=some (.string ⟨t.set.toArray⟩))
  (t1:0<=t.n) (t2:t.n<=20) (t3:-1<=t.m) (t4:t.m<=20) (t5:0<=t.zTF) (t6:t.zTF<=4) (hm:¬t.m<0) (hmn:t.n<t.m) (hnb:decide (0<t.n)=false) (hmb:decide (0<t.m)=true) (hp:(t.zTF==2)=true) :
  Calls Tryz.prog 106 #[.slice (some ⟨g,0,none⟩) l.length cap,.int .i64 a,.int .i64 b,.int .i64 d] w λe w'=>∃v',e=.returned v'/\zF w' 0 v' (Mt.alone 0 (Mt.zO (Mt.zH x t.n.toNat []) (Mt.upTo x (t.m-t.n).toNat (t.zTF==1))))/\Below w.heap.size w w':=by
 have FX9:Hid (Mt.fit 900000000 x):=Mt.zR FX.out (by omega);go_enter Tryz.func106,Tryz.ntmps106
 go_wp2_with fail
 have fu0:Mt.zAo (10000600) (300000600+300) (Mt.upTo x (t.m-t.n).toNat (t.zTF==1)):=Mt.qC (Mt.tY (L:=10000000) (N:=300000000) (t.zTF==1) ⟨LX,λi hi=>Mt.pR (FX.out.2 i hi) (by omega)⟩ (by omega) (by omega) (t.m-t.n).toNat [] (by omega) (Mt.nI (by omega))) (by omega) (by omega);have FU:Hid (Mt.fit 900000000 (Mt.upTo x (t.m-t.n).toNat (t.zTF==1))):=Mt.vV fu0 (by omega) (by omega);have FU4:Mt.fit 400000000 (Mt.upTo x (t.m-t.n).toNat (t.zTF==1)):=Mt.vV fu0 (by omega) (by omega);have FUH:Hid (Mt.fit 400000000 (Mt.upTo x (t.m-t.n).toNat (t.zTF==1))):=FU4;clear fu0 FU4;refine(KX.out _ (HT.out.alloc _)).mono ?_;rintro e w1 ⟨vx,rfl,qx,hbx⟩;obtain⟨r0,r1,r2,r3⟩:=fB hbx;have hs1:=r3.size;have Qx:Hid (zF w1 0 vx x):=qx;have HT1:Hid (vN w1 (.slice (some ⟨g,0,none⟩) l.length cap) l):=yA HT.out r3;clear qx hbx HT c0 c1 c2 c3 c4 c5 c6;go_wp2_with fail
 go_loopw [10,12] (λu i wr=>∃(j:Nat) (c:List Mt.zTG),(j:Int)<=t.n/\i=.int .i64 j/\zF wr 0 u c/\Mt.fit 70000300 c/\Below w1.heap.size w1 wr/\Mt.zH x t.n.toNat []=Mt.zH x (t.n.toNat-j) c) (λ_ i _=>t.n.toNat-(intOf i).toNat)
 case atStart=>exact⟨0,[],by omega,rfl,zF.nil _ _,Mt.fO (by omega),Below.refl _ _,rfl⟩
 case round =>
  obtain⟨j,c,hj,rfl,jS,hfc,qV,hr⟩:=hrel;have HR:Hid (Mt.zH x t.n.toNat []=Mt.zH x (t.n.toNat-j) c):=hr;have HO:Hid (zF wr 0 u10 c):=jS;have FC:Hid (Mt.fit 70000300 c):=hfc;have QXr:Hid (zF wr 0 vx x):=Qx.out.below qV;have HTr:Hid (vN wr (.slice (some ⟨g,0,none⟩) l.length cap) l):=yA HT1.out qV;have rr0:=λo=>(qV.cell (p:=⟨w.heap.size,o,none⟩) r2).trans (r0 o)
  have hB:Below w.heap.size w wr:=r3.trans (qV.mono hs1);have hsr:=hB.size;have hgt:w.heap.size<wr.heap.size:=Nat.lt_of_lt_of_le r2 qV.size;clear hr jS hfc;by_cases zTI:(j:Int)<t.n
  ·have HN:Hid (Mt.zH x t.n.toNat []=Mt.zH x (t.n.toNat-(j+1)) (Mt.zO c x)):=HR.out.trans (fV x t.n.toNat j c (by omega));have G1:Hid (Mt.fit 70000300 (Mt.zO c x)):=qN (M:=70000000) FC.out (Mt.zR FX.out (by omega));have hs2:=qV.size;go_wp2_with fail
   refine(jA c x _ _ _ HO.out QXr.out (Mt.zR FC.out (by omega)) FX9.out).mono ?_;rintro e w2 ⟨v2,rfl,q2,zTK⟩;have hB2:Below w1.heap.size w1 w2:=qV.trans (zTK.mono hs2);have Q2:Hid (zF w2 0 v2 (Mt.zO c x)):=q2;clear q2 zTK HO QXr HTr hB rr0;go_wp2_with fail
   go_roundw
   case rel=>exact⟨j+1,_,by omega,by go_num,Q2.out,G1.out,hB2,HN.out⟩
   case measure=>simp[intOf];omega
  ·have hjn:t.n.toNat-j=0:=by omega
   have HC:Hid (zF wr 0 u10 (Mt.zH x t.n.toNat [])):=by
    show zF _ _ _ _;rw[HR.out,hjn];exact HO.out
   have FT:Hid (Mt.fit 70000300 (Mt.zH x t.n.toNat [])):=by
    show Mt.fit _ _;rw[HR.out,hjn];exact FC.out
   clear HR HO FC hjn qV;generalize hTT:Mt.zH x t.n.toNat []=T at *;have HTT:Hid (Mt.zH x t.n.toNat []=T):=hTT;clear hTT;go_wp2_with fail
   refine(zC2 x _ _ _ _ QXr.out FX.out LX (by omega) (by omega)).mono ?_;rintro e w2 ⟨v2,rfl,q2,zTK⟩;have hB2:Below w.heap.size w w2:=hB.trans (zTK.mono hsr);have hs2:=hB2.size;have hgt2:w.heap.size<w2.heap.size:=Nat.lt_of_lt_of_le hgt zTK.size;have s0:=λo=>(zTK.cell (p:=⟨w.heap.size,o,none⟩) hgt).trans (rr0 o)
   have Q2:Hid (zF w2 0 v2 (Mt.upTo x (t.m-t.n).toNat (t.zTF==1))):=q2;have HC2:Hid (zF w2 0 u10 T):=HC.out.below zTK;clear q2 zTK hB rr0 QXr HTr HC;go_wp2_with fail
   refine(jA T _ _ _ _ HC2.out Q2.out (Mt.zR FT.out (by omega)) FU.out).mono ?_;rintro e w3 ⟨v3,rfl,q3,zTL⟩;have hB3:Below w.heap.size w w3:=hB2.trans (zTL.mono hs2);have hs3:=hB3.size;have s1:=λo=>(zTL.cell (p:=⟨w.heap.size,o,none⟩) hgt2).trans (s0 o)
   have Q3:Hid (zF w3 0 v3 (Mt.zO T (Mt.upTo x (t.m-t.n).toNat (t.zTF==1)))):=q3;clear q3 zTL hB2 s0 HC2 Q2;go_wp2_with fail
   refine(nN 0 _ _ _ Q3.out (Mt.zR (Mt.vY (Mt.zR FT.out (show(70000300:Int)<=400000000 by omega)) FUH.out) (by omega)) (by omega) (by omega)).mono ?_;rintro e w9 ⟨v9,rfl,q9,hb9⟩;have hB9:Below w.heap.size w w9:=hB3.trans (hb9.mono hs3);clear hb9;go_wp2_with fail
   go_ret;exact⟨_,rfl,by rw[HTT.out];exact q9,hB9⟩
theorem zRj(l:List Mt.zTD)(hl:l.length<=64)(a b:Nat)(d:Int)(t:Mt.zTD)(x y:List Mt.zTG)(g cap:Nat)(w:World)(hb:b<l.length)(hab:a<b)(hcap:l.length<=cap)(hg:g<w.heap.size)(hd0:0<=d)(hd1:d<=999)
  (HT:Hid (vN w (.slice (some ⟨g,0,none⟩) l.length cap) l))
  (KX:Hid (∀z:World,vN z (.slice (some ⟨g,0,none⟩) l.length cap) l->Calls Tryz.prog 107 #[.slice (some ⟨g,0,none⟩) l.length cap,.int .i64 a,.int .i64 b,.int .i64 d] z λe w'=>∃v',e=.returned v'/\zF w' 0 v' x/\Below z.heap.size z w'))
  (KY:Hid (∀z:World,vN z (.slice (some ⟨g,0,none⟩) l.length cap) l->Calls Tryz.prog 107 #[.slice (some ⟨g,0,none⟩) l.length cap,.int .i64 a,.int .i64 b,.int .i64 (d+1)] z λe w'=>∃v',e=.returned v'/\zF w' 0 v' y/\Below z.heap.size z w'))
  (FX:Hid (Mt.fit 70000000 x)) (FY:Hid (Mt.fit 70000000 y)) (LX:(x.length:Int)<=10000000) (LY:(y.length:Int)<=10000000)
  (c0:w.cell? ⟨g,b*7,none⟩=some (.int .i64 t.kind)) (c1:w.cell? ⟨g,b*7+1,none⟩=some (.int .i64 t.zTE)) (c2:w.cell? ⟨g,b*7+2,none⟩=some (.int .i64 t.to)) (c3:w.cell? ⟨g,b*7+3,none⟩=some (.int .i64 t.n)) (c4:w.cell? ⟨g,b*7+4,none⟩=some (.int .i64 t.m)) (c5:w.cell? ⟨g,b*7+5,none⟩=some (.int .i64 t.zTF)) (c6:w.cell? ⟨g,b*7+6,none⟩=some (.string ⟨t.set.toArray⟩))
  (t1:0<=t.n) (t2:t.n<=20) (t3:-1<=t.m) (t4:t.m<=20) (t5:0<=t.zTF) (t6:t.zTF<=4) (hm:¬t.m<0) (hmn:¬t.n<t.m) (hn:0<t.n) (hnb:decide (0<t.n)=true) (hp:(t.zTF==2)=true) :
  Calls Tryz.prog 106 #[.slice (some ⟨g,0,none⟩) l.length cap,.int .i64 a,.int .i64 b,.int .i64 d] w λe w'=>∃v',e=.returned v'/\zF w' 0 v' (Mt.alone 0 (Mt.zH x t.n.toNat []))/\Below w.heap.size w w':=by
 have FX9:Hid (Mt.fit 900000000 x):=Mt.zR FX.out (by omega);go_enter Tryz.func106,Tryz.ntmps106
 go_wp2_with fail
 refine(KX.out _ (HT.out.alloc _)).mono ?_;rintro e w1 ⟨vx,rfl,qx,hbx⟩;obtain⟨r0,r1,r2,r3⟩:=fB hbx;have hs1:=r3.size;have Qx:Hid (zF w1 0 vx x):=qx;have HT1:Hid (vN w1 (.slice (some ⟨g,0,none⟩) l.length cap) l):=yA HT.out r3;clear qx hbx HT c0 c1 c2 c3 c4 c5 c6;go_wp2_with fail
 go_loopw [10,12] (λu i wr=>∃(j:Nat) (c:List Mt.zTG),(j:Int)<=t.n/\i=.int .i64 j/\zF wr 0 u c/\Mt.fit 70000300 c/\Below w1.heap.size w1 wr/\Mt.zH x t.n.toNat []=Mt.zH x (t.n.toNat-j) c) (λ_ i _=>t.n.toNat-(intOf i).toNat)
 case atStart=>exact⟨0,[],by omega,rfl,zF.nil _ _,Mt.fO (by omega),Below.refl _ _,rfl⟩
 case round =>
  obtain⟨j,c,hj,rfl,jS,hfc,qV,hr⟩:=hrel;have HR:Hid (Mt.zH x t.n.toNat []=Mt.zH x (t.n.toNat-j) c):=hr;have HO:Hid (zF wr 0 u10 c):=jS;have FC:Hid (Mt.fit 70000300 c):=hfc;have QXr:Hid (zF wr 0 vx x):=Qx.out.below qV;have HTr:Hid (vN wr (.slice (some ⟨g,0,none⟩) l.length cap) l):=yA HT1.out qV;have rr0:=λo=>(qV.cell (p:=⟨w.heap.size,o,none⟩) r2).trans (r0 o)
  have hB:Below w.heap.size w wr:=r3.trans (qV.mono hs1);have hsr:=hB.size;have hgt:w.heap.size<wr.heap.size:=Nat.lt_of_lt_of_le r2 qV.size;clear hr jS hfc;by_cases zTI:(j:Int)<t.n
  ·have HN:Hid (Mt.zH x t.n.toNat []=Mt.zH x (t.n.toNat-(j+1)) (Mt.zO c x)):=HR.out.trans (fV x t.n.toNat j c (by omega));have G1:Hid (Mt.fit 70000300 (Mt.zO c x)):=qN (M:=70000000) FC.out (Mt.zR FX.out (by omega));have hs2:=qV.size;go_wp2_with fail
   refine(jA c x _ _ _ HO.out QXr.out (Mt.zR FC.out (by omega)) FX9.out).mono ?_;rintro e w2 ⟨v2,rfl,q2,zTK⟩;have hB2:Below w1.heap.size w1 w2:=qV.trans (zTK.mono hs2);have Q2:Hid (zF w2 0 v2 (Mt.zO c x)):=q2;clear q2 zTK HO QXr HTr hB rr0;go_wp2_with fail
   go_roundw
   case rel=>exact⟨j+1,_,by omega,by go_num,Q2.out,G1.out,hB2,HN.out⟩
   case measure=>simp[intOf];omega
  ·have hjn:t.n.toNat-j=0:=by omega
   have HC:Hid (zF wr 0 u10 (Mt.zH x t.n.toNat [])):=by
    show zF _ _ _ _;rw[HR.out,hjn];exact HO.out
   have FT:Hid (Mt.fit 70000300 (Mt.zH x t.n.toNat [])):=by
    show Mt.fit _ _;rw[HR.out,hjn];exact FC.out
   clear HR HO FC hjn qV;generalize hTT:Mt.zH x t.n.toNat []=T at *;have HTT:Hid (Mt.zH x t.n.toNat []=T):=hTT;clear hTT;go_wp2_with fail
   refine(nN 0 _ _ _ HC.out (Mt.zR FT.out (by omega)) (by omega) (by omega)).mono ?_;rintro e w9 ⟨v9,rfl,q9,hb9⟩;have hB9:Below w.heap.size w w9:=hB.trans (hb9.mono hsr);clear hb9;go_wp2_with fail
   go_ret;exact⟨_,rfl,by rw[HTT.out];exact q9,hB9⟩
