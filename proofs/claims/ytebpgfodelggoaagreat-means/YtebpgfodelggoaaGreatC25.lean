import Derived.Test.YtebpgfodelggoaaGreatC23
set_option linter.all false
set_option maxRecDepth 100000
set_option maxHeartbeats 4000000
namespace Go.Proofs.YtebpgfodelggoaaGreat
open Go.RowKit _root_.Go.Proofs.Tryz Mt
theorem zBw A R l b h k c(j:k<b):dQ A R l b (h+1) k c=
  if after l k<b/\jX l (after l k)=8 then dQ A R l b h (after l k+1) (kF c (R k (after l k)))else dQ A R l b h (after l k) (kF c (A k (after l k))):=by
 simp only[dQ];rw[lC (by omega)]
theorem zDq A R l b h k c(j:b<=k):dQ A R l b h k c=c:=by
 cases h with
 | zero=>rfl
 | succ h=>simp only[dQ];rw[lG j]
theorem Na l(c1:l.length<=64)(d9:bR l) f(d2:S2 l f)(d3:S3 l f):S1 l (f+1):=by
 intro a b f6 f7 d v w e8 e9 e1 f9 b3 g2 b4 g1;subst e8 e9;have e5:=hid e1;clear e1;have e2:=λi h=>Cw d9 f 2 i h d b4 (by omega)
 have e3:=λi h=>Cw d9 f 3 i h d b4 (by omega)
 have e:gen l (f+1) 1 a b d=dQ (λi h=>gen l f 2 i h d) (λi h=>gen l f 3 i h d) l b (b-a) a []:=by simp only[gen]
 rw[e];clear e;have c9:=λ(i h:Nat) (x:World)=>d2 i h i h d v x rfl rfl
 have d0:=λ(i h:Nat) (x:World)=>d3 i h i h d v x rfl rfl
 generalize d4:(λi h=>gen l f 2 i h d)=A at *;generalize d5:(λi h=>gen l f 3 i h d)=R at *;have b7:∀i h,gen l f 2 i h d=A i h:=λi h=>by rw[<-d4]
 have b8:∀i h,gen l f 3 i h d=R i h:=λi h=>by rw[<-d5]
 clear d4 d5 d2 d3
 have d1:Hid (∀(i h:Nat) (x:World),nH x v l->a<=i->i<l.length->i<h->h<=l.length+1->CT 126 #[v,.int .i64 i,.int .i64 h,.int .i64 d] x λe w'=>∃v',e=.returned v'/\zY w' 0 v' (A i h)/\Below x.heap.size x w'):=λi h x c4 O j c5 c6=>by
  have:=c9 i h x c4 j c5 c6 (by omega) b4 (by omega);rw[b7]at this;exact this
 have e6:Hid (∀(i h:Nat) (x:World),nH x v l->a<=i->i<l.length->i<h->h<l.length->jX l h=8->CT 125 #[v,.int .i64 i,.int .i64 h,.int .i64 d] x λe w'=>∃v',e=.returned v'/\zY w' 0 v' (R i h)/\Below x.heap.size x w'):=λi h x c4 O j c5 c6 f5=>by
  have:=d0 i h x c4 j c5 c6 f5 (by omega) b4 (by omega);rw[b8]at this;exact this
 have b6:Hid (∀i h,fit 70000000 (A i h)):=λi h=>by rw[<-b7];exact e2 i h
 have c8:Hid (∀i h,fit 70000000 (R i h)):=λi h=>by rw[<-b8];exact e3 i h
 clear e2 e3 c9 d0 b7 b8;go_enter func101,ntmps101
 go_wp2_with fail
 go_loopw [9,10] (λu i wr=>∃(k a4:Nat) (c:List zT),a<=k/\k<=67/\b-k<=a4/\i=.int .i64 k/\zY wr 0 u c/\fit 70000300 c/\Below w.heap.size w wr/\dQ A R l b (b-a) a []=dQ A R l b a4 k c) (λ_ i _=>100-(intOf i).toNat)
 case atStart=>exact⟨a,b-a,[],lF _,by omega,lF _,rfl,zY.nil _ _,El (by omega),lK _ _,rfl⟩
 case round =>
  obtain⟨k,a4,c,c0,g4,g3,rfl,e0,d7,U,J⟩:=hrel;have a1:=hid e0;have a5:=hid d7;have Y:Hid (nH wr v l):=Aa e5.o U;have c3:=U.size;clear e0 d7;by_cases f3:k<b
  ·obtain⟨a2,rfl⟩:∃a2,a4=a2+1:=⟨a4-1,by omega⟩
   rw[zBw A R l b a2 k c f3]at J;have b9:=Rj l k;have g0:=Rk l k (by omega);by_cases a0:after l k<b/\jX l (after l k)=8
   ·rw[lG a0]at J;have a3:=hid J;have d8:=a0.1;have a8:=hid a0.2;have b2:Hid (fit 70000300 (kF c (R k (after l k)))):=eu (M:=70000000) a5.o (c8.o _ _);have f1:Hid (∀g cap,v=.slice (some ⟨g,0,none⟩) l.length cap->True):=λ_ _ _=>trivial
    rcases fK Y.o with ⟨c2,_⟩ | ⟨f4,g,cap,rfl,f0,f2,b0⟩
    ·rw[c2]at b3;simp at b3;omega
    ·have d6:wr.cell? ⟨g,after l k*7,none⟩=some (.int .i64 8):=by
      have:=b0 (after l k) 0 (by omega) (by omega);rw[wE]at this;rw[this];have e7:(l.getD (after l k) zZ).kind=8:=a8.o;show some (Value.int .i64 (l.getD (after l k) zZ).kind)=_;rw[e7]
     clear b0 J a0 f1;go_wp2_with (first|(go_at_call 86;refine(EC l _ _ _ Y.o c1 (by omega)).mono ?_;rintro e w' ⟨rfl,rfl⟩) | fail)
     refine(e6.o k (after l k) _ Y.o c0 (by omega) b9 (by omega) a8.o).mono ?_;rintro e w1 ⟨e4,rfl,O,I⟩;have G:=U.trans (I.mono c3);have b1:=G.size;have a6:=hid O;have W:=hid (a1.o.below I);clear O I a1 U d6;go_wp2_with fail
     refine(yT c _ _ _ _ W.o a6.o (kX a5.o (by omega)) (kX (c8.o _ _) (by omega))).mono ?_;rintro e b5 ⟨c7,rfl,j,Z⟩;have a9:Below w.heap.size w b5:=G.trans (Z.mono b1);have a7:Hid (zY b5 0 c7 (kF c (R k (after l k)))):=j;clear j Z W G;go_wp2_with fail
     go_roundw
     case rel=>exact⟨after l k+1,a2,_,by omega,by omega,by omega,by go_num,a7.o,b2.o,a9,a3.o⟩
     case measure=>simp[intOf];omega
   ·rw[lC a0]at J;have a3:Hid (dQ A R l b (b-a) a []=dQ A R l b a2 (after l k) (kF c (A k (after l k)))):=J;have b2:Hid (fit 70000300 (kF c (A k (after l k)))):=eu (M:=70000000) a5.o (b6.o _ _);by_cases d8:after l k<b
    ·have a8:¬jX l (after l k)=8:=λx=>a0 ⟨d8,x⟩
     rcases fK Y.o with ⟨c2,_⟩ | ⟨f4,g,cap,rfl,f0,f2,b0⟩
     ·rw[c2]at b3;simp at b3;omega
     have d6:wr.cell? ⟨g,after l k*7,none⟩=some (.int .i64 (jX l (after l k))):=b0 (after l k) 0 (by omega) (by omega);have f8:(jX l (after l k)==8)=false:=by simpa using a8
     clear b0 J a0 a8;go_wp2_with (first|(go_at_call 86;refine(EC l _ _ _ Y.o c1 (by omega)).mono ?_;rintro e w' ⟨rfl,rfl⟩) | fail)
     refine(d1.o k (after l k) _ Y.o c0 (by omega) b9 (by omega)).mono ?_;rintro e w1 ⟨e4,rfl,O,I⟩;have G:=U.trans (I.mono c3);have b1:=G.size;have a6:=hid O;have W:=hid (a1.o.below I);clear O I a1 U;go_wp2_with fail
     refine(yT c _ _ _ _ W.o a6.o (kX a5.o (by omega)) (kX (b6.o _ _) (by omega))).mono ?_;rintro e b5 ⟨c7,rfl,j,Z⟩;have a9:=G.trans (Z.mono b1);have a7:=hid j;clear j Z W G;go_wp2_with fail
     go_roundw
     case rel=>exact⟨after l k,a2,_,by omega,by omega,by omega,by go_num,a7.o,b2.o,a9,a3.o⟩
     case measure=>simp[intOf];omega
    ·clear J a0;go_wp2_with (first|(go_at_call 86;refine(EC l _ _ _ Y.o c1 (by omega)).mono ?_;rintro e w' ⟨rfl,rfl⟩) | fail)
     refine(d1.o k (after l k) _ Y.o c0 (by omega) b9 (by omega)).mono ?_;rintro e w1 ⟨e4,rfl,O,I⟩;have G:=U.trans (I.mono c3);have b1:=G.size;have a6:=hid O;have W:=hid (a1.o.below I);clear O I a1 U;go_wp2_with fail
     refine(yT c _ _ _ _ W.o a6.o (kX a5.o (by omega)) (kX (b6.o _ _) (by omega))).mono ?_;rintro e b5 ⟨c7,rfl,j,Z⟩;have a9:=G.trans (Z.mono b1);have a7:=hid j;clear j Z W G;go_wp2_with fail
     go_roundw
     case rel=>exact⟨after l k,a2,_,by omega,by omega,by omega,by go_num,a7.o,b2.o,a9,a3.o⟩
     case measure=>simp[intOf];omega
  ·have a3:=hid (J.trans (zDq A R l b a4 k c (by omega)));clear J;go_wp2_with fail
   go_ret;exact⟨_,rfl,by rw[a3.o];exact a1.o,U⟩
theorem zDt:(prog.info? 97).map (λi=>(i.zero,i.size,i.bytes))=some (some (.agg #[.int .i64 0,.int .i64 0,.int .i64 0,.int .i64 0,.int .i64 0,.int .i64 0,.string ⟨#[]⟩]),7,64):=by kernel_rfl
def bL(w:World)(base:Nat)(v:Value)(l:List zU):Prop:=w.ownsRow base 97 7 v l.length (l.flatMap dO)
theorem bL.nH{w:World}{base:Nat}{v:Value}{l:List zU}(h:bL w base v l):nH w v l:=qP h (gD _)
theorem bL.below{w w' base v l}(h:bL w base v l)(j:Below w.heap.size w w'):bL w' base v l:=vW h j
theorem Cx{p}{a}{k}(G:p.size<=64)(h:vP p [] 0=([],a,k))(j:a≠0):zP p=([],a,k):=by
 unfold zP;rw[lC (by omega),dP p G,h,lG j]
theorem Aw{p}{l}{k}(G:p.size<=64)(h:vP p [] 0=(l,0,k))(j:0<kE l):zP p=([],11,(p.size:Int)):=by
 unfold zP;rw[lC (by omega),dP p G,h,lC (by simp),lG j]
theorem Oy{p}{l}{k}(G:p.size<=64)(h:vP p [] 0=(l,0,k))(j:¬0<kE l):zP p=(l,0,0):=by
 unfold zP;rw[lC (by omega),dP p G,h,lC (by simp),lC j]
theorem Oz{l t}(h:jD t=false):yU l t=t:=by unfold yU;rw[h];rfl
theorem Vq{l t}(h:jD t=true):yU l t={ t with n:=kD l+1 }:=by unfold yU;rw[h];rfl
theorem Qi t:∀u∈dO t,u.oneCell'=true:=by
 intro u h;simp only[dO,oH,sS,wY]at h;rcases h with rfl | rfl | rfl | rfl | rfl | rfl | rfl <;> rfl
theorem bL.set{w base v l}(h:bL w base v l) b x u(j:∀q,v.ownBlock=some q->q<b):bL (w.setCell ⟨b,x,none⟩ u) base v l:=
 World.ownsRow.kept h (EW w ⟨b,x,none⟩ u) (lZ (λe=>by have:=j b e;omega))
theorem LZ{w}{base}{v}{l}{t}(h:w.ownsRow base 97 7 v (l.length+1) (l.flatMap dO++dO t)):bL w base v (l++[t]):=by
 unfold bL;rw[lQ,wU,gT,aP,uJ];exact h
theorem SF(p:BA) w(j:64<p.size)(h:p.size<=maxLen):
  Calls prog 23 #[.string p] w λe w'=>e=.returned (.tuple #[.slice none 0 0,.int .i64 1,.int .i64 0])/\w=w':=by
 unfold maxLen at h
 go_in
 go_wp2_with fail
 go_ret3
 exact⟨rfl,rfl⟩
theorem Qj(p:BA) w(J:p.size<=64):
  Calls prog 23 #[.string p] w λe w'=>∃v,e=.returned (.tuple #[v,.int .i64 (zP p).2.1,.int .i64 (zP p).2.2])/\bL w' w.heap.size v (zP p).1/\Below w.heap.size w w':=by
 obtain⟨c8,b8,c2,c6,c7⟩:=sK zDt
 go_in
 go_wp2_with fail
 go_loopw [5,6] (λv i wr=>∃(k:Nat) (l:List zU),k<=p.size/\l.length<=k/\i=.int .i64 k/\bL wr w.heap.size v l/\Below w.heap.size w wr/\vP p [] 0=vP p l k) (λ_ i _=>p.size-(intOf i).toNat)
 case atStart=>exact⟨0,[],gD _,lF _,rfl,oC _ _ _ _,lK _ _,rfl⟩
 case round =>
  obtain⟨k,l,f2,f3,rfl,e1,a8,e2⟩:=hrel;have H:=hid e2;have a4:=hid e1;have e3:=a8.size;clear e2 e1;by_cases f4:k<p.size
  ·have G:=dW p l k (by omega) (by omega);rw[lC (by omega),<-H.o]at G;have c0:=tq p k (by omega) (by omega);generalize d7:kS p k=T at *;have d2:=hid d7;clear d7;cases b0:(T.2==0)
   ·rw[lG (by simpa using b0)]at G;have h:=hid G;have f5:(T.2 != 0)=true:=by simpa using b0
    clear G H c0;go_wp2_with (first|(go_at_call 48;refine(SE _ _ _ J (by omega) (by omega)).mono ?_;rw[d2.o];rintro e w1 ⟨rfl,a7⟩;simp only[pY]) | fail)
    go_ret3
    refine⟨.slice none 0 0,?_,?_,?_⟩
    ·rw[Cx J h.o (by simpa using b0)];rfl
    ·rw[Cx J h.o (by simpa using b0)];exact oC _ _ _ _
    ·have a0:=a8.trans (a7.mono e3);exact a0.alloc (by have:=a0.size;omega) _
   ·have b9:T.2=0:=by simpa using b0
    have c1:=c0 b9;have f6:=c1.1;have f7:=c1.2;rw[lC (by simp[b9])]at G;clear c0 c1;have h:=hid G;clear G H b9;go_wp2_with (first|(go_at_call 48;refine(SE _ _ _ J (by omega) (by omega)).mono ?_;rw[d2.o];rintro e w1 ⟨rfl,a7⟩;simp only[pY]) | fail)
    have d8:=a8.trans (a7.mono e3);have e4:=d8.size;have b7:=hid (a4.o.below a7);refine(zDs l T.1 u5 _ (b7.o.nH.alloc _) (by omega)).mono ?_;rintro e a2 ⟨rfl,a0⟩;have I:=hid (bL.below (oM b7.o _) a0);obtain⟨c9,f8,e6,f1⟩:=Ap a0;have Y:∀q,u5.ownBlock=some q->q<w1.heap.size:=λq f0=>(lY b7.o q f0).2
    clear a0 a4 b7 a7;have a9:=d8.trans (f1.mono e4);have e5:=a9.size;cases d9:(may l T.1 != 0)
    ·have a1:¬may l T.1≠0:=by simpa using d9
     have Z:Hid (vP p [] 0=vP p (l++[yU l T.1]) T.1.to):=by show _=_;rw[h.o,lC a1]
     clear h a1;rcases IC T.1 with ⟨d6,U⟩ | ⟨d6,e9,U⟩ | ⟨d6,e9,U⟩
     ·have a3:Hid (yU l T.1=T.1):=Oz U;clear U;go_wp2_with (first|(at_builtin;refine rZ _ rfl _ _ 56 rfl w.heap.size 97 c8 _ 7 64 underlying56 b8 c2 c6 c7 rfl (by decide) _ _ _ rfl (oM I.o _) ⟨a2.heap.size,0,none⟩ 1 1 (dO T.1) rfl rfl (fJ _ _ _) (Qi _) ?c3 ?c4 ?c5 ?_))
      case c3=>unfold maxLen;omega
      case c4=>omega
      case c5=>simp;omega
      intro b6 O W j _;have a5:Hid (bL O w.heap.size b6 (l++[yU l T.1])):=by rw[a3.o];exact LZ W
      have a6:Below w.heap.size w O:=(a9.alloc e5 _).grown j (by simp;omega) (λq b5=>(lY I.o q b5).1);have e8:=(FE j e6 Y 2).trans (c9 2);clear W j I Y
      go_wp2
      go_roundw
      case rel=>exact⟨T.1.to.toNat,l++[yU l T.1],by omega,by rw[lQ];simp;omega,by rw[oN (by omega)],a5.o,a6,by rw[oN (by omega)];exact Z.o⟩
      case measure=>simp[intOf];omega
     ·have a3:Hid (yU l T.1=T.1):=Oz U;clear U;go_wp2_with (first|(at_builtin;refine rZ _ rfl _ _ 56 rfl w.heap.size 97 c8 _ 7 64 underlying56 b8 c2 c6 c7 rfl (by decide) _ _ _ rfl (oM I.o _) ⟨a2.heap.size,0,none⟩ 1 1 (dO T.1) rfl rfl (fJ _ _ _) (Qi _) ?d3 ?d4 ?d5 ?_))
      case d3=>unfold maxLen;omega
      case d4=>omega
      case d5=>simp;omega
      intro b6 O W j _;have a5:Hid (bL O w.heap.size b6 (l++[yU l T.1])):=by rw[a3.o];exact LZ W
      have a6:Below w.heap.size w O:=(a9.alloc e5 _).grown j (by simp;omega) (λq b5=>(lY I.o q b5).1);have e8:=(FE j e6 Y 2).trans (c9 2);clear W j I Y
      go_wp2
      go_roundw
      case rel=>exact⟨T.1.to.toNat,l++[yU l T.1],by omega,by rw[lQ];simp;omega,by rw[oN (by omega)],a5.o,a6,by rw[oN (by omega)];exact Z.o⟩
      case measure=>simp[intOf];omega
     ·have a3:Hid (yU l T.1={ T.1 with n:=kD l+1 }):=Vq U;clear U;have⟨b3,b4⟩:=nU l;have d1:Hid (bL (a2.setCell ⟨w1.heap.size,3,none⟩ (.int .i64 (kD l+1))) w.heap.size u5 l):=I.o.set _ _ _ Y;go_wp2_with (first|(go_at_call 50;refine(Gz l _ _ I.o.nH (by omega)).mono ?_;rintro e w' ⟨rfl,rfl⟩)|(at_builtin;refine rZ _ rfl _ _ 56 rfl w.heap.size 97 c8 _ 7 64 underlying56 b8 c2 c6 c7 rfl (by decide) _ _ _ rfl (oM d1.o _) ⟨a2.heap.size,0,none⟩ 1 1 (dO { T.1 with n:=kD l+1 }) rfl rfl (Jv _ _ (by simp[World.setCell]) _ _) (Qi _) ?g3 ?g4 ?g5 ?_))
      case g3=>unfold maxLen;omega
      case g4=>omega
      case g5=>simp;omega
      intro b6 O W j _;have a5:Hid (bL O w.heap.size b6 (l++[yU l T.1])):=by rw[a3.o];exact LZ W
      have a6:Below w.heap.size w O:=((a9.setCell (p:=⟨w1.heap.size,3,none⟩) e4 _).alloc (by simp;omega) _).grown j (by simp;omega) (λq b5=>(lY I.o q b5).1);have e7:(a2.setCell ⟨w1.heap.size,3,none⟩ (.int .i64 (kD l+1))).cell? ⟨w1.heap.size,2,none⟩=a2.cell? ⟨w1.heap.size,2,none⟩:=World.cell?_setCell_other _ _ _ _ (by simp);have e8:O.cell? ⟨w1.heap.size,2,none⟩=some (.int .i64 T.1.to):=(FE j (by simp;omega) Y 2).trans (e7.trans (c9 2));clear W j I Y d1 e7
      go_wp2
      go_roundw
      case rel=>exact⟨T.1.to.toNat,l++[yU l T.1],by omega,by rw[lQ];simp;omega,by rw[oN (by omega)],a5.o,a6,by rw[oN (by omega)];exact Z.o⟩
      case measure=>simp[intOf];omega
    ·have a1:may l T.1≠0:=by simpa using d9
     have Z:Hid (vP p [] 0=([],may l T.1,(k:Int))):=by show _=_;rw[h.o,lG a1]
     have d0:=hid a1;clear h a1;go_wp2_with fail
     go_ret3
     refine⟨.slice none 0 0,?_,?_,?_⟩
     ·rw[Cx J Z.o d0.o];rfl
     ·rw[Cx J Z.o d0.o];exact oC _ _ _ _
     ·exact a9
  ·have G:=dW p l k (by omega) (by omega);rw[lG (by omega),<-H.o]at G;have h:=hid G;clear G H;have⟨b1,b2⟩:=Eh l;by_cases e0:0<kE l
   ·go_wp2_with (first|(go_at_call 51;refine(FH l _ _ a4.o.nH (by omega)).mono ?_;rintro e w' ⟨rfl,rfl⟩) | fail)
    go_ret3
    refine⟨.slice none 0 0,?_,?_,?_⟩
    ·rw[Aw J h.o e0];rfl
    ·rw[Aw J h.o e0];exact oC _ _ _ _
    ·exact a8
   ·go_wp2_with (first|(go_at_call 51;refine(FH l _ _ a4.o.nH (by omega)).mono ?_;rintro e w' ⟨rfl,rfl⟩) | fail)
    go_ret3
    refine⟨u5,?_,?_,?_⟩
    ·rw[Oy J h.o (by omega)];rfl
    ·rw[Oy J h.o (by omega)];exact a4.o
    ·exact a8
