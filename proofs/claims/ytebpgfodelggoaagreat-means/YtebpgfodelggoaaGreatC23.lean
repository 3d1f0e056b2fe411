import Derived.Test.YtebpgfodelggoaaGreatC21
import Derived.Test.YtebpgfodelggoaaGreatC22
set_option linter.all false
set_option maxRecDepth 100000
set_option maxHeartbeats 2000000
namespace Go.Proofs.YtebpgfodelggoaaGreat
open Go.RowKit _root_.Go.Proofs.Tryz Mt
theorem IG{M} x y late(j:-M<=x/\x<=M)(G:-M<=y/\y<=M)(h:1<=M):fit M (vI x y late):=by
 unfold vI;cases late
 ·exact dw (dM _ _ _ _ j G) h
 ·exact dw (dM _ _ _ _ G j) h
theorem zBs y d late v w(O:zY w 0 v y)(j:fit 700000000 y)(c4:0<=d)(c5:d<=1000):
  Calls prog 148 #[v,.int .i64 d,.bool late] w λe w'=>∃v',e=.returned v'/\zY w' 0 v' (CX y d late)/\Below w.heap.size w w':=by
 have c6:=j.1;have H:=hid O;have G:fit 700000010 (vI 1 ((y.length:Int)+3) late):=IG _ _ _ (by omega) (by omega) (by omega);have I:fit 700000010 [(⟨4,d,0,[]⟩:zT)]:=dw (dM _ _ _ _ (by omega) (by omega)) (by omega);have J:=bQ G I;have a2:=bQ J (kX j (show(700000000:Int)<=700000010+300 by omega));have b0:Hid (fit 900000000 y):=kX j (by omega);have b1:Hid (fit 900000000 (vI 1 ((y.length:Int)+3) late)):=kX G (by omega);have b2:Hid (fit 900000000 [(⟨4,d,0,[]⟩:zT)]):=kX I (by omega);have b3:Hid (fit 900000000 (kF (vI 1 ((y.length:Int)+3) late) [⟨4,d,0,[]⟩])):=kX J (by omega);have b4:Hid (fit 900000000 (kF (kF (vI 1 ((y.length:Int)+3) late) [⟨4,d,0,[]⟩]) y)):=kX a2 (by omega);have b5:Hid (fit 900000000 [(⟨5,-(y.length:Int)-2,d,[]⟩:zT)]):=dw (dM _ _ _ _ (by omega) (by omega)) (by omega);clear G I J a2;obtain⟨ao,cap,rfl⟩:=Av O;clear O j
 go_in
 go_wp2_with fail
 refine(IE _ _ _ _).mono ?_;rintro e w1 ⟨c7,rfl,a3,h⟩;have Y:=hid a3;have a0:=hid (H.o.below h);have b9:=h.size;clear a3 H;go_wp2_with fail
 refine(yT _ [⟨4,d,0,[]⟩] _ _ _ (Y.o.below (by go_grown)) (nO w1 _ rfl _) b1.o b2.o).mono ?_;rintro e d1 ⟨c8,rfl,a4,a7⟩;have U:=((lK _ _).alloc (lF _) _).trans (a7.mono (by simp));have W:=h.trans (U.mono b9);have c0:=W.size;have Z:=hid a4;have a1:=hid (a0.o.below U);clear a4 a7 U Y a0 h;go_wp2_with fail
 refine(yT _ y _ _ _ Z.o a1.o b3.o b0.o).mono ?_;rintro e c2 ⟨c9,rfl,a5,a8⟩;have a6:=W.trans (a8.mono c0);have c1:=a6.size;have b6:=hid a5;clear a5 a8 W Z a1;go_wp2_with fail
 refine(yT _ [⟨5,-(y.length:Int)-2,d,[]⟩] _ _ _ (b6.o.below (by go_grown)) (nO c2 _ rfl _) b4.o b5.o).mono ?_;rintro e c3 ⟨d0,rfl,b7,a9⟩;have b8:Below w.heap.size w c3:=(a6.alloc c1 _).trans (a9.mono (by simp;omega));clear a9;go_wp2_with fail
 go_ret;exact⟨_,rfl,b7,b8⟩
theorem eu{M}{a b}(G:fit (M+300) a)(I:fit M b):fit (M+300) (kF a b):=by
 unfold kF;by_cases j:300<a.length
 ·rw[lG j];exact G
 ·rw[lC j];refine⟨?_,λi h=>?_⟩
  ·rw[lQ,vJ];have:=I.1;omega
  ·rcases gV.1 h with h | h
   ·exact G.2 i h
   ·unfold vZ at h;obtain⟨O,J,rfl⟩:=uY.1 h;exact Fb (I.2 O J) (by omega) (by omega)
theorem Yv x late k i c(h:i<k):mD x late (k-i) c=mD x late (k-(i+1)) (kF c (kF (vI 1 (((k)-i)*(x.length+1)) late) x)):=by
 rw[show k-i=(k-(i+1))+1 by omega];simp only[mD];rw[show((k-(i+1):Nat):Int)+1=(k:Int)-i by omega]
theorem Yw(k i:Nat)(L:Nat)(G:i<k)(J:k<=20)(I:(L:Int)<=10000000):0<=((k)-i)*((L:Int)+1)/\((k)-i)*((L:Int)+1)<=300000000:=by
 have h:(0:Int)<=(k:Int)-i:=by omega
 have j:(k:Int)-i<=20:=by omega
 refine⟨aF h (by omega),?_⟩;have:=Int.mul_le_mul j (show(L:Int)+1<=10000001 by omega) (by omega) (by omega);omega
theorem zBt x(k:Nat) late v w(Z:zY w 0 v x)(b4:fit 70000000 x)(c9:(x.length:Int)<=10000000)(c8:k<=20):
  Calls prog 147 #[v,.int .i64 k,.bool late] w λe w'=>∃v',e=.returned v'/\zY w' 0 v' (upTo x k late)/\Below w.heap.size w w':=by
 have a4:=hid b4;have H:=hid Z;obtain⟨ao,cap,rfl⟩:=Av Z;clear Z b4
 go_in
 go_wp2_with fail
 go_loopw [7,8] (λu i wr=>∃(h:Nat) (c:List zT),h<=k/\i=.int .i64 h/\zY wr 0 u c/\fit 400000600 c/\Below w.heap.size w wr/\upTo x k late=mD x late (k-h) c) (λ_ i _=>k-(intOf i).toNat)
 case atStart=>exact⟨0,[],gD _,rfl,zY.nil _ _,El (by omega),lK _ _,rfl⟩
 case round =>
  obtain⟨h,c,d3,rfl,b7,b5,j,b8⟩:=hrel;have J:=hid b8;have G:=hid b7;have U:=hid b5;have d0:=j.size;clear b8 b7 b5;by_cases b6:h<k
  ·have c5:=hid (J.o.trans (Yv x late k h c b6));have a3:=Yw k h x.length b6 c8 c9;have d4:=a3.1;have d5:=a3.2;have a8:=hid (H.o.below j);have W:fit 300000000 (vI 1 (((k:Int)-h)*(x.length+1)) late):=IG _ _ _ (by omega) (by omega) (by omega);have Y:=bQ W (kX a4.o (show(70000000:Int)<=300000000 by omega));have b9:Hid (fit 900000000 (vI 1 (((k:Int)-h)*(x.length+1)) late)):=kX W (by omega);have c0:Hid (fit 900000000 (kF (vI 1 (((k:Int)-h)*(x.length+1)) late) x)):=kX Y (by omega);have c1:=hid (eu (M:=400000300) U.o (kX Y (by omega)));have c2:Hid (fit 900000000 c):=kX U.o (by omega);have c3:Hid (fit 900000000 x):=kX a4.o (by omega);clear W Y a3 J U;go_wp2_with fail
   refine(IE _ _ _ _).mono ?_;rintro e w1 ⟨d6,rfl,b0,O⟩;have a0:=j.trans (O.mono d0);have d1:=a0.size;have a5:=hid b0;have a9:=hid (a8.o.below O);have a7:=hid (G.o.below O);clear b0 O a8 G j;go_wp2_with fail
   refine(yT _ x _ _ _ a5.o a9.o b9.o c3.o).mono ?_;rintro e d9 ⟨d7,rfl,b1,a2⟩;have a1:=a0.trans (a2.mono d1);have d2:=a1.size;have a6:=hid b1;have I:=hid (a7.o.below a2);clear b1 a2 a9 a7 a0 a5;go_wp2_with fail
   refine(yT c _ _ _ _ I.o a6.o c2.o c0.o).mono ?_;rintro e e0 ⟨d8,rfl,b2,b3⟩;have c6:=a1.trans (b3.mono d2);have c4:=hid b2;clear b2 b3 a1 a6 I;go_wp2_with fail
   go_roundw
   case rel=>exact⟨h+1,_,by omega,by go_num,c4.o,c1.o,c6,c5.o⟩
   case measure=>simp[intOf];omega
  ·have c7:h=k:=by omega
   have I:Hid (zY wr 0 u7 (upTo x k late)):=by
    show zY _ _ _ _;rw[J.o,c7,aS];exact G.o
   clear G J;go_wp2_with fail
   go_ret;exact⟨_,rfl,I.o,j⟩
def S0(l:List zU)(f:Nat):Prop:=∀(a b:Nat) (ai bi d:Int) (v:Value) (w:World),ai=a->bi=b->nH w v l->a<=66->b<=l.length->4*(70-a)+3<=f->0<=d->d+f<=1000->
 CT 71 #[v,.int .i64 ai,.int .i64 bi,.int .i64 d] w λe w'=>∃v',e=.returned v'/\zY w' 0 v' (gen l f 0 a b d)/\Below w.heap.size w w'
def S1(l:List zU)(f:Nat):Prop:=∀(a b:Nat) (ai bi d:Int) (v:Value) (w:World),ai=a->bi=b->nH w v l->a<=66->b<=l.length->4*(70-a)+2<=f->0<=d->d+f<=1000->
 CT 101 #[v,.int .i64 ai,.int .i64 bi,.int .i64 d] w λe w'=>∃v',e=.returned v'/\zY w' 0 v' (gen l f 1 a b d)/\Below w.heap.size w w'
def S2(l:List zU)(f:Nat):Prop:=∀(a b:Nat) (ai bi d:Int) (v:Value) (w:World),ai=a->bi=b->nH w v l->a<l.length->a<b->b<=l.length+1->4*(70-a)<=f->0<=d->d+f<=1000->
 CT 126 #[v,.int .i64 ai,.int .i64 bi,.int .i64 d] w λe w'=>∃v',e=.returned v'/\zY w' 0 v' (gen l f 2 a b d)/\Below w.heap.size w w'
def S3(l:List zU)(f:Nat):Prop:=∀(a b:Nat) (ai bi d:Int) (v:Value) (w:World),ai=a->bi=b->nH w v l->a<l.length->a<b->b<l.length->jX l b=8->4*(70-a)+1<=f->0<=d->d+f<=1000->
 CT 125 #[v,.int .i64 ai,.int .i64 bi,.int .i64 d] w λe w'=>∃v',e=.returned v'/\zY w' 0 v' (gen l f 3 a b d)/\Below w.heap.size w w'
theorem Cw{l}(I:bR l)(f h a b:Nat)(d:Int)(j:0<=d)(G:d+f<=1000):fit 70000000 (gen l f h a b d):=
 AZ (Pe l I f h a b d j G) (by omega) (by omega)
theorem GH l(d0:l.length<=64)(d2:bR l) f(a3:S0 l f)(W:S1 l f):S0 l (f+1):=by
 intro a b f9 g1 d v w e9 f0 d3 g3 c4 g6 I g5;subst e9 f0;have h:=hid d3;clear d3;have g4:=ZP l b (b-a) a (lF _);have c7:=ZQ l b (b-a) a (lF _);have O:=Cw d2 f 1 a (bar l a b) d I (by omega);have or:=Cw d2 f 0 (bar l a b+1) b d I (by omega);cases c9:((bar l a b:Int)==(b:Int))
 ·have d1:¬bar l a b=b:=by simp at c9;omega
  have e:gen l (f+1) 0 a b d=kF (kF (kF (vI 1 (((gen l f 1 a (bar l a b) d).length:Int)+2) false) (gen l f 1 a (bar l a b) d)) (Df (1+((gen l f 0 (bar l a b+1) b d).length:Int)))) (gen l f 0 (bar l a b+1) b d):=by
   simp only[gen];rw[lC d1]
  rw[e];clear e;have G:=λx:World=>W a (bar l a b) a (bar l a b) d v x rfl rfl
  have b3:=λx:World=>a3 (bar l a b+1) b ((bar l a b:Int)+1) b d v x (by omega) rfl
  generalize a9:gen l f 1 a (bar l a b) d=s at *;generalize e8:gen l f 0 (bar l a b+1) b d=r at *;clear a9 e8 a3 W;have g8:=O.1;have g7:=or.1;have a0:fit 70000010 (vI 1 ((s.length:Int)+2) false):=IG _ _ _ (by omega) (by omega) (by omega);have a1:=bQ a0 (kX O (show(70000000:Int)<=70000010 by omega));have a2:fit 70000310 (Df (1+(r.length:Int))):=dw (dM _ _ _ _ (by omega) (by omega)) (by omega);have c3:=bQ a1 (kX a2 (by omega));have d8:Hid (fit 900000000 s):=kX O (by omega);have d9:Hid (fit 900000000 r):=kX or (by omega);have e0:Hid (fit 900000000 (vI 1 ((s.length:Int)+2) false)):=kX a0 (by omega);have e1:Hid (fit 900000000 (kF (vI 1 ((s.length:Int)+2) false) s)):=kX a1 (by omega);have e2:Hid (fit 900000000 (Df (1+(r.length:Int)))):=kX a2 (by omega);have e3:Hid (fit 900000000 (kF (kF (vI 1 ((s.length:Int)+2) false) s) (Df (1+(r.length:Int))))):=kX c3 (by omega);have Z:=hid (λx J=>G x J (by omega) (by omega) (by omega) I (by omega));have e4:=hid (λx J=>b3 x J (by omega) (by omega) (by omega) I (by omega));clear a0 a1 a2 c3 O or G b3 c7 d1;go_enter func71,ntmps71
  go_wp2_with (first|(go_at_call 52;refine(Ku l _ _ _ _ h.o d0 (by omega) c4).mono ?_;rintro e w' ⟨rfl,rfl⟩) | fail)
  refine(Z.o _ h.o).mono ?_;rintro e w1 ⟨f7,rfl,U,j⟩;have f1:=j.size;obtain⟨ao,cap,rfl⟩:=Av U;have b5:=hid U;have b4:=hid (Aa h.o j);clear U;go_wp2_with fail
  refine(e4.o _ b4.o).mono ?_;rintro e h3 ⟨g9,rfl,b2,b0⟩;have a4:=j.trans (b0.mono f1);have f2:=a4.size;obtain⟨g0,g2,rfl⟩:=Av b2;have b8:=hid b2;have b6:=hid (b5.o.below b0);clear b2 j b0 b5 h b4;go_wp2_with fail
  refine(IE _ _ _ _).mono ?_;rintro e h4 ⟨h0,rfl,d4,Y⟩;have a5:=a4.trans (Y.mono f2);have f3:=a5.size;have c1:=hid d4;have b7:=hid (b6.o.below Y);have b9:=hid (b8.o.below Y);clear d4 Y b6 b8 a4;go_wp2_with fail
  refine(yT _ s _ _ _ c1.o b7.o e0.o d8.o).mono ?_;rintro e d7 ⟨f8,rfl,d5,b1⟩;have a6:=a5.trans (b1.mono f3);have f4:=a6.size;have c2:Hid (zY d7 0 f8 (kF (vI 1 ((s.length:Int)+2) false) s)):=d5;have c0:=hid (b9.o.below b1);clear d5 b1 b7 b9 a5 c1;go_wp2_with fail
  refine(yT _ (Df (1+(r.length:Int))) _ _ _ (c2.o.below (by go_grown)) (nO d7 _ rfl ⟨3,1+(r.length:Int),0,[]⟩) e1.o e2.o).mono ?_;rintro e h5 ⟨h1,rfl,d6,c5⟩;have a7:=((lK _ _).alloc (lF _) _).trans (c5.mono (by simp));have a8:=a6.trans (a7.mono f4);have f5:=a8.size;have e6:=hid d6;have e5:=hid (c0.o.below a7);clear d6 c5 a7 c0 c2 a6;go_wp2_with fail
  refine(yT _ r _ _ _ e6.o e5.o e3.o d9.o).mono ?_;rintro e h6 ⟨h2,rfl,f6,c6⟩;have e7:=a8.trans (c6.mono f5);clear c6 a8;go_wp2_with fail
  go_ret;exact⟨_,rfl,f6,e7⟩
 ·have c8:bar l a b=b:=by simp at c9;omega
  have e:gen l (f+1) 0 a b d=gen l f 1 a (bar l a b) d:=by simp only[gen];rw[lG c8]
  rw[e];clear e;have G:=λx:World=>W a (bar l a b) a (bar l a b) d v x rfl rfl
  generalize a9:gen l f 1 a (bar l a b) d=s at *;clear a9 a3 W;have Z:=hid (λx J=>G x J (by omega) (by omega) (by omega) I (by omega));clear O or G c7 c8;go_enter func71,ntmps71
  go_wp2_with (first|(go_at_call 52;refine(Ku l _ _ _ _ h.o d0 (by omega) c4).mono ?_;rintro e w' ⟨rfl,rfl⟩) | fail)
  refine(Z.o _ h.o).mono ?_;rintro e w1 ⟨f7,rfl,U,j⟩;go_wp2_with fail
  go_ret;exact⟨_,rfl,U,j⟩
