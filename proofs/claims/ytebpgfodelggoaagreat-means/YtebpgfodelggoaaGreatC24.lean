import Derived.Test.YtebpgfodelggoaaGreatC23
import Derived.Deep.DeepCutAuto
set_option linter.all false
set_option maxRecDepth 100000
set_option maxHeartbeats 16000000
namespace Go.Proofs.YtebpgfodelggoaaGreat
open Go.RowKit _root_.Go.Proofs.Tryz Mt
theorem Qh{w v l}(G:nH w v l){i}(h:i<l.length):∃g cap,v=.slice (some ⟨g,0,none⟩) l.length cap/\l.length<=cap/\g<w.heap.size/\
  w.cell? ⟨g,i*7,none⟩=some (.int .i64 (l.getD i zZ).kind)/\w.cell? ⟨g,i*7+1,none⟩=some (.int .i64 (l.getD i zZ).jK)/\w.cell? ⟨g,i*7+2,none⟩=some (.int .i64 (l.getD i zZ).to)/\
  w.cell? ⟨g,i*7+3,none⟩=some (.int .i64 (l.getD i zZ).n)/\w.cell? ⟨g,i*7+4,none⟩=some (.int .i64 (l.getD i zZ).m)/\w.cell? ⟨g,i*7+5,none⟩=some (.int .i64 (l.getD i zZ).jB)/\
  w.cell? ⟨g,i*7+6,none⟩=some (.string ⟨(l.getD i zZ).set.toArray⟩):=by
 rcases fK G with ⟨rfl,_⟩ | ⟨O,g,cap,rfl,I,J,j⟩
 ·simp at h
 ·exact⟨g,cap,rfl,I,J,j i 0 h (by omega),j i 1 h (by omega),j i 2 h (by omega),j i 3 h (by omega),j i 4 h (by omega),j i 5 h (by omega),j i 6 h (by omega)⟩
def zD7(t:zU)(s:List zT):List zT:=
 if t.kind=1 then[⟨1,0,0,t.set⟩]
 else if t.kind=2 then[⟨8,t.n,0,[]⟩]
 else if t.kind=3 then[⟨9,0,0,[]⟩]
 else if t.kind=4 then[⟨10,0,0,[]⟩]
 else if t.jB=3 then s
 else if t.jB=4 then kF (kF [⟨6,t.n,0,[]⟩] s) [⟨7,t.n,0,[]⟩]
 else alone t.jB s
theorem zBu l f a b d:gen l (f+1) 2 a b d=zD7 (l.getD a zZ) (gen l f 0 (a+1) (b-1) d):=by
 simp only[gen];rfl
theorem Vh l f a b d:
  (((l.getD a zZ).kind==1)=true/\gen l (f+1) 2 a b d=[⟨1,0,0,(l.getD a zZ).set⟩])\/
  (((l.getD a zZ).kind==1)=false/\((l.getD a zZ).kind==2)=true/\gen l (f+1) 2 a b d=[⟨8,(l.getD a zZ).n,0,[]⟩])\/
  (((l.getD a zZ).kind==1)=false/\((l.getD a zZ).kind==2)=false/\((l.getD a zZ).kind==3)=true/\gen l (f+1) 2 a b d=[⟨9,0,0,[]⟩])\/
  (((l.getD a zZ).kind==1)=false/\((l.getD a zZ).kind==2)=false/\((l.getD a zZ).kind==3)=false/\((l.getD a zZ).kind==4)=true/\gen l (f+1) 2 a b d=[⟨10,0,0,[]⟩])\/
  ((
   (l.getD a zZ).kind==1)=false/\((l.getD a zZ).kind==2)=false/\((l.getD a zZ).kind==3)=false/\((l.getD a zZ).kind==4)=false/\
   (
   (((l.getD a zZ).jB==3)=true/\gen l (f+1) 2 a b d=gen l f 0 (a+1) (b-1) d)\/
   (((l.getD a zZ).jB==3)=false/\((l.getD a zZ).jB==4)=true/\gen l (f+1) 2 a b d=kF (kF [⟨6,(l.getD a zZ).n,0,[]⟩] (gen l f 0 (a+1) (b-1) d)) [⟨7,(l.getD a zZ).n,0,[]⟩])\/
   (((l.getD a zZ).jB==3)=false/\((l.getD a zZ).jB==4)=false/\gen l (f+1) 2 a b d=alone (l.getD a zZ).jB (gen l f 0 (a+1) (b-1) d)))):=by
 rw[zBu];generalize l.getD a zZ=t;generalize gen l f 0 (a+1) (b-1) d=s;unfold zD7;simp only[oU,gP];by_cases h:t.kind=1
 ·rw[lG h];simp[h]
 rw[lC h];by_cases j:t.kind=2
 ·rw[lG j];simp[j]
 rw[lC j];by_cases G:t.kind=3
 ·rw[lG G];simp[G]
 rw[lC G];by_cases I:t.kind=4
 ·rw[lG I];simp[I]
 rw[lC I];by_cases J:t.jB=3
 ·rw[lG J];simp[h,j,G,I,J]
 rw[lC J];by_cases O:t.jB=4
 ·rw[lG O];simp[h,j,G,I,O]
 rw[lC O];simp[h,j,G,I,J,O]
theorem Yx l(f6:l.length<=64)(c4:bR l) f(c1:S0 l f):S2 l (f+1):=by
 intro a b e8 e9 d v w d7 d8 b4 d6 f0 f1 f4 c3 f3;subst d7 d8;have a1:=hid b4;have b5:=Cw c4 f 0 (a+1) (b-1) d c3 (by omega);have e4:=Bc c4 a;have b7:=λx:World=>c1 (a+1) (b-1) ((a:Int)+1) ((b:Int)-1) d v x (by omega) (by omega)
 have d9:=Vh l f a b d;obtain⟨g,cap,rfl,f2,f5,a4,a5,a6,a7,a8,a9,b0⟩:=Qh b4 d6;generalize d4:gen l f 0 (a+1) (b-1) d=s at *;generalize d5:l.getD a zZ=t at *;generalize gen l (f+1) 2 a b d=e7 at *;obtain⟨f8,f9,g0,g1,g2,g3,e3⟩:=e4;have f7:=b5.1;have a2:=hid (λx e1=>b7 x e1 (by omega) (by omega) (by omega) c3 (by omega));have a0:=hid b5;clear d4 d5 b7 c1 b4 b5 e3;rcases d9 with ⟨W,e⟩ | ⟨W,a3,e⟩ | ⟨W,a3,b8,e⟩ | ⟨W,a3,b8,d1,e⟩ | ⟨W,a3,b8,d1,⟨b9,e⟩ | ⟨b9,d2,e⟩ | ⟨b9,d2,e⟩⟩
 ·rw[e];clear e;go_enter func126,ntmps126
  go_wp2_with fail
  go_ret;exact⟨_,rfl,nO _ _ (by simp) ⟨1,0,0,t.set⟩,by go_grown⟩
 ·rw[e];clear e;go_enter func126,ntmps126
  go_wp2_with fail
  go_ret;exact⟨_,rfl,nO _ _ (by simp) ⟨8,t.n,0,[]⟩,by go_grown⟩
 ·rw[e];clear e;go_enter func126,ntmps126
  go_wp2_with fail
  go_ret;exact⟨_,rfl,nO _ _ (by simp) ⟨9,0,0,[]⟩,by go_grown⟩
 ·rw[e];clear e;go_enter func126,ntmps126
  go_wp2_with fail
  go_ret;exact⟨_,rfl,nO _ _ (by simp) ⟨10,0,0,[]⟩,by go_grown⟩
 ·rw[e];clear e;go_enter func126,ntmps126
  go_wp2_with fail
  refine(a2.o _ (a1.o.alloc _)).mono ?_;rintro e w1 ⟨c5,rfl,G,j⟩;obtain⟨O,Z,b6,h⟩:=Ap j;clear j a4 a5 a6 a7 a8 a9 b0;go_wp2_with fail
  go_ret;exact⟨_,rfl,G,h⟩
 ·rw[e];clear e;have b1:fit 70000010 [(⟨6,t.n,0,[]⟩:zT)]:=dw (dM _ _ _ _ (by omega) (by omega)) (by omega);have c0:=bQ b1 (kX a0.o (show(70000000:Int)<=70000010 by omega));have c7:Hid (fit 900000000 [(⟨6,t.n,0,[]⟩:zT)]):=kX b1 (by omega);have c8:Hid (fit 900000000 (kF [(⟨6,t.n,0,[]⟩:zT)] s)):=kX c0 (by omega);have c9:Hid (fit 900000000 [(⟨7,t.n,0,[]⟩:zT)]):=dw (dM _ _ _ _ (by omega) (by omega)) (by omega);clear b1 c0;go_enter func126,ntmps126
  go_wp2_with fail
  refine(a2.o _ (a1.o.alloc _)).mono ?_;rintro e w1 ⟨c5,rfl,G,j⟩;obtain⟨O,Z,b6,h⟩:=Ap j;have b3:=h.size;have U:=hid G;clear j a4 a5 a6 a7 a8 a9 b0 G;go_wp2_with fail
  refine(yT [⟨6,t.n,0,[]⟩] s _ _ _ (nO w1 _ rfl _) (U.o.below (by go_grown)) c7.o (kX a0.o (by omega))).mono ?_;rintro e c6 ⟨e5,rfl,Y,J⟩;have b2:=((lK _ _).alloc (lF _) _).trans (J.mono (by simp));have I:=h.trans (b2.mono b3);have e0:=I.size;have d0:=hid Y;have s0:=λo=>(b2.cell (p:=⟨w.heap.size,o,none⟩) b6).trans (O o)
  clear Y J b2 U h O Z;go_wp2_with fail
  refine(yT _ [⟨7,t.n,0,[]⟩] _ _ _ (d0.o.below (by go_grown)) (nO c6 _ rfl _) c8.o c9.o).mono ?_;rintro e e6 ⟨g4,rfl,e2,c2⟩;have d3:Below w.heap.size w e6:=(I.alloc e0 _).trans (c2.mono (by simp;omega));clear c2 s0 I;go_wp2_with fail
  go_ret;exact⟨_,rfl,e2,d3⟩
 ·rw[e];clear e;go_enter func126,ntmps126
  go_wp2_with fail
  refine(a2.o _ (a1.o.alloc _)).mono ?_;rintro e w1 ⟨c5,rfl,G,j⟩;obtain⟨O,Z,b6,h⟩:=Ap j;have b3:=h.size;have U:=hid G;clear j a4 a5 a6 a7 a8 a9 b0 G;go_wp2_with fail
  refine(Ow t.jB s _ _ U.o (kX a0.o (by omega)) (by omega) (by omega)).mono ?_;rintro e c6 ⟨e5,rfl,Y,J⟩;have I:=h.trans (J.mono b3);clear J O Z h;go_wp2_with fail
  go_ret;exact⟨_,rfl,Y,I⟩
theorem zBx x h late v w(j:zY w 0 v x)(I:fit 70000000 x)(J:(x.length:Int)<=10000000)(G:0<=h)(O:h<=20):
  CT 147 #[v,.int .i64 h,.bool late] w λe w'=>∃v',e=.returned v'/\zY w' 0 v' (upTo x h.toNat late)/\Below w.heap.size w w':=by
 obtain⟨k,rfl⟩:=oQ G;rw[gW];exact zBt x k late v w j I J (by omega)
theorem Vk x n j c(h:j<n):qN x (n-j) c=qN x (n-(j+1)) (kF c x):=by
 rw[show n-j=(n-(j+1))+1 by omega];rfl
def zEH(t:zU)(x y:List zT)(d:Int):List zT:=
 let c1:=if 0<t.n\/0<t.m then
   (if t.n<t.m then kF (qN x t.n.toNat []) (upTo x (t.m-t.n).toNat (decide (t.jB=1)))else qN x t.n.toNat [])
  else[]
 let c2:=if t.m<0 then kF c1 (CX y d (decide (t.jB=1)))else c1
 if t.jB=2 then alone 0 c2 else c2
theorem Pg l f a b d:gen l (f+1) 3 a b d=zEH (l.getD b zZ) (gen l f 2 a b d) (gen l f 2 a b (d+1)) d:=by
 simp only[gen];rfl
theorem zDr(l)(a b:Nat)(d)(t)(x y)(g cap)(w)(h8:b<l.length)(i3:l.length<=64)(h7:a<b)(h9:l.length<=cap)(i1:g<w.heap.size)(h2:0<=d)(i0:d<=999)
  (c0:Hid (nH w (.slice (some ⟨g,0,none⟩) l.length cap) l))
  (g0:Hid (∀z,nH z (.slice (some ⟨g,0,none⟩) l.length cap) l->CT 126 #[.slice (some ⟨g,0,none⟩) l.length cap,.int .i64 a,.int .i64 b,.int .i64 d] z λe w'=>∃v',e=.returned v'/\zY w' 0 v' x/\Below z.heap.size z w'))
  (g1:Hid (∀z,nH z (.slice (some ⟨g,0,none⟩) l.length cap) l->CT 126 #[.slice (some ⟨g,0,none⟩) l.length cap,.int .i64 a,.int .i64 b,.int .i64 (d+1)] z λe w'=>∃v',e=.returned v'/\zY w' 0 v' y/\Below z.heap.size z w'))
  (b6:Hid (fit 70000000 x)) (d6:Hid (fit 70000000 y)) (e1:(x.length:Int)<=10000000) (g2:(y.length:Int)<=10000000)
  (g6:w.cell? ⟨g,b*7,none⟩=some (.int .i64 t.kind)) (g7:w.cell? ⟨g,b*7+1,none⟩=some (.int .i64 t.jK)) (g8:w.cell? ⟨g,b*7+2,none⟩=some (.int .i64 t.to)) (Y:w.cell? ⟨g,b*7+3,none⟩=some (.int .i64 t.n)) (Z:w.cell? ⟨g,b*7+4,none⟩=some (.int .i64 t.m)) (G:w.cell? ⟨g,b*7+5,none⟩=some (.int .i64 t.jB)) (g9:w.cell? ⟨g,b*7+6,none⟩=some (.string ⟨t.set.toArray⟩))
  (i5:0<=t.n) (i6:t.n<=20) (i7:-1<=t.m) (i8:t.m<=20):
  Calls prog 125 #[.slice (some ⟨g,0,none⟩) l.length cap,.int .i64 a,.int .i64 b,.int .i64 d] w λe w'=>∃v',e=.returned v'/\zY w' 0 v' (zEH t x y d)/\Below w.heap.size w w':=by
 obtain⟨a2,c7⟩:∃c,c=(if 0<t.n\/0<t.m then(if t.n<t.m then kF (qN x t.n.toNat []) (upTo x (t.m-t.n).toNat (t.jB==1))else qN x t.n.toNat [])else[]):=⟨_,rfl⟩
 obtain⟨b5,c8⟩:∃c,c=if t.m<0 then kF a2 (CX y d (t.jB==1))else a2:=⟨_,rfl⟩
 obtain⟨R,c9⟩:∃c,c=if t.jB=2 then alone 0 b5 else b5:=⟨_,rfl⟩
 have:zEH t x y d=R:=by subst c9 c8 c7;rfl
 rw[this];have d7:=hid c7;have d8:=hid c8;have d9:=hid c9;clear c7 c8 c9 this;obtain⟨j,a8⟩:∃W,W=w.alloc (.cells #[.int .i64 t.kind,.int .i64 t.jK,.int .i64 t.to,.int .i64 t.n,.int .i64 t.m,.int .i64 t.jB,.string ⟨t.set.toArray⟩] 97):=⟨_,rfl⟩
 obtain⟨b4,f6,f7,a0⟩:=Ap (w:=w) (w1:=j) (by rw[a8];exact lK _ _);have c1:=hid (Aa c0.o a0);obtain⟨j,a8⟩:∃W,W=w.alloc (.cells #[.int .i64 t.kind,.int .i64 t.jK,.int .i64 t.to,.int .i64 t.n,.int .i64 t.m,.int .i64 t.jB,.string ⟨t.set.toArray⟩] 97):=⟨_,rfl⟩
 obtain⟨b4,f6,f7,a0⟩:=Ap (w:=w) (w1:=j) (by rw[a8];exact lK _ _);have c1:=hid (Aa c0.o a0)
 go_in
 go_upto_region 3 with fail
 rw[<-a8];clear g6 g7 g8 Y Z G g9 a8 f6 c0;have e3:=b4 3;have e4:=b4 4;have b7:=b4 5;have I:Hid (∀{z:World} {o:Nat},Below j.heap.size j z->z.cell? ⟨w.heap.size,o,none⟩=j.cell? ⟨w.heap.size,o,none⟩):=λa7=>a7.cell (p:=⟨w.heap.size,_,none⟩) f7
 clear b4
 go_cut [27] (λv a1=>v=.bool (decide (0<t.n\/0<t.m))/\j=a1)
 case first =>
  by_cases c5:0<t.n
  ·have a9:=decide_eq_true c5;go_wp2_with fail
   go_meet
   exact⟨by simp[c5],rfl⟩
  ·have a9:=eZ c5;go_wp2_with fail
   go_meet
   exact⟨by simp;omega,rfl⟩
 case rest =>
 obtain⟨rfl,rfl⟩:=hcut;obtain⟨c3,a9⟩:∃c3,c3=decide (0<t.n\/0<t.m):=⟨_,rfl⟩
 rw[<-a9];have e0:=hid a9;clear a9
 go_upto_if 27 with fail
 go_cut [10] (λu a1=>zY a1 0 u a2/\fit 800000000 a2/\(t.m<0->fit 400000000 a2)/\Below j.heap.size j a1)
 case first =>
  cases c3
  ·have a7:=iD e0.o.symm;have e:=d7.o;rw[lC a7]at e;subst e;go_wp2_with fail
   go_meet
   exact⟨zY.nil _ _,El (by omega),λ_=>El (by omega),lK _ _⟩
  have a7:=wC e0.o.symm;have e:=d7.o;rw[lG a7]at e;have E:=hid e;clear e;go_wp2_with fail
  refine(g0.o _ c1.o).mono ?_;rintro e w1 ⟨j1,rfl,f5,e8⟩;have e2:=hid f5;clear f5;go_wp2_with fail
  go_loopw [10,12] (λu i wr=>∃(O:Nat) (c:List zT),(O:Int)<=t.n/\i=.int .i64 O/\zY wr 0 u c/\fit 70000300 c/\Below w1.heap.size w1 wr/\qN x t.n.toNat []=qN x (t.n.toNat-O) c) (λ_ i _=>t.n.toNat-(intOf i).toNat)
  case atStart=>exact⟨0,[],by omega,rfl,zY.nil _ _,El (by omega),lK _ _,rfl⟩
  case round =>
   obtain⟨O,c,i2,rfl,f1,e9,b1,f2⟩:=hrel;have h4:=e8.size;have h:=e8.trans (b1.mono h4);have b9:=hid f2;have b8:=hid f1;have a3:=hid e9;have Y:=(I.o (o:=3) h).trans e3;have Z:=(I.o (o:=4) h).trans e4;have G:=(I.o (o:=5) h).trans b7;clear f2 f1 e9;by_cases i4:(O:Int)<t.n
   ·go_wp2_with fail
    refine(yT c x _ _ _ b8.o (e2.o.below b1) (kX a3.o (by omega)) (kX b6.o (by omega))).mono ?_;rintro e f9 ⟨f8,rfl,U,J⟩;have a5:=hid U;clear U Y Z G;go_wp2_with fail
    go_roundw
    case rel=>exact⟨O+1,_,by omega,by go_num,a5.o,eu (M:=70000000) a3.o (kX b6.o (by omega)),b1.trans (J.mono b1.size),b9.o.trans (Vk x t.n.toNat O c (by omega))⟩
    case measure=>simp[intOf];omega
   have e:=b9.o;rw[show t.n.toNat-O=0 by omega]at e;have c4:=E.o;rw[show qN x t.n.toNat []=c from e]at c4;have d2:=hid c4;clear e c4 b9 E;by_cases f0:t.n<t.m
   ·have e:=d2.o;rw[lG f0]at e;subst e;have e7:gu (10000600) (300000600+300) (upTo x (t.m-t.n).toNat (t.jB==1)):=yY (Hq (L:=10000000) (N:=300000000) (t.jB==1) ⟨e1,λi d0=>yh (b6.o.2 i d0) (by omega)⟩ (by omega) (by omega) (t.m-t.n).toNat [] (by omega) (Ba (by omega))) (by omega) (by omega);have d5:=hid e7;clear e7;go_wp2_with fail
    refine(zBx x _ _ _ _ (e2.o.below b1) b6.o e1 (by omega) (by omega)).mono ?_;rintro e f9 ⟨f8,rfl,U,J⟩;have a5:=hid U;clear U Y Z G;go_wp2_with fail
    refine(yT c _ _ _ _ (b8.o.below J) a5.o (kX a3.o (by omega)) (AZ d5.o (by omega) (by omega))).mono ?_;rintro e h6 ⟨h5,rfl,b3,b0⟩;have c2:=hid b3;clear b3;go_wp2_with fail
    go_meet
    exact⟨c2.o,(kX (bQ (kX a3.o (show(70000300:Int)<=400000000 by omega)) (AZ d5.o (by omega) (by omega))) (by omega)),by omega,h.trans ((J.trans (b0.mono J.size)).mono h.size)⟩
   ·have e:=d2.o;rw[lC f0]at e;subst e;go_wp2_with fail
    go_meet
    exact⟨b8.o,kX a3.o (by omega),λ_=>kX a3.o (by omega),h⟩
 case rest =>
 obtain⟨q,a6,e5,h⟩:=hcut;have Q:=hid q;have a4:=hid a6;have d3:=hid e5;have Y:=(I.o (o:=3) h).trans e3;have Z:=(I.o (o:=4) h).trans e4;have G:=(I.o (o:=5) h).trans b7;clear q a6 e5
 go_upto_if 62 with fail
 go_cut [10] (λu a1=>zY a1 0 u b5/\fit 800000000 b5/\Below j.heap.size j a1)
 case first =>
  by_cases d1:t.m<0
  ·have e:=d8.o;rw[lG d1]at e;subst e;have e6:=Nu (L:=10000000) (N:=70000010) d (t.jB==1) ⟨g2,λi d0=>yh (d6.o.2 i d0) (by omega)⟩ (by omega) (by omega) (by omega);have d4:=hid e6;clear e6;go_wp2_with fail
   refine(g1.o _ (Aa c1.o h)).mono ?_;rintro e f9 ⟨f8,rfl,U,J⟩;have c6:=h.trans (J.mono h.size);have a5:=hid U;have g5:=hid (Q.o.below J);have G:=(I.o (o:=5) c6).trans b7;clear U Y Z;go_wp2_with fail
   refine(zBs y d _ _ _ a5.o (kX d6.o (by omega)) h2 (by omega)).mono ?_;rintro e h6 ⟨h5,rfl,b3,b0⟩;have c2:=hid b3;clear b3 G;go_wp2_with fail
   refine(yT a2 _ _ _ _ (g5.o.below b0) c2.o (kX a4.o (by omega)) (AZ d4.o (by omega) (by omega))).mono ?_;rintro e j2 ⟨i9,rfl,f3,h0⟩;have g3:=hid f3;clear f3;go_wp2_with fail
   go_meet
   exact⟨g3.o,(kX (bQ (d3.o d1) (AZ d4.o (by omega) (by omega))) (by omega)),c6.trans ((b0.trans (h0.mono b0.size)).mono c6.size)⟩
  ·have e:=d8.o;rw[lC d1]at e;subst e;go_wp2_with fail
   go_meet
   exact⟨Q.o,a4.o,h⟩
 case rest =>
 clear Y Z G Q a4 d3 h;obtain⟨q,a6,h⟩:=hcut;have Q:=hid q;have a4:=hid a6;have G:=(I.o (o:=5) h).trans b7;clear q a6;by_cases b2:t.jB=2
 ·have h3:(t.jB==2)=true:=by simp[b2]
  have e:=d9.o;rw[lG b2]at e;subst e;clear b2;go_wp2_with fail
  refine(Ow 0 _ _ _ Q.o a4.o (by omega) (by omega)).mono ?_;rintro e j3 ⟨j0,rfl,f4,h1⟩;have g4:=hid f4;clear f4;go_wp2_with fail
  go_ret;exact⟨_,rfl,g4.o,a0.trans ((h.trans (h1.mono h.size)).mono a0.size)⟩
 ·have h3:(t.jB==2)=false:=by simp[b2]
  have e:=d9.o;rw[lC b2]at e;subst e;go_wp2_with fail
  go_ret;exact⟨_,rfl,Q.o,a0.trans (h.mono a0.size)⟩
