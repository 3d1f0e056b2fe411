import Derived.Test.YtebpgfodelggoaaGreatC31
import Derived.Test.YtebpgfodelggoaaGreatC29
set_option linter.all false
set_option maxRecDepth 100000
set_option maxHeartbeats 16000000
namespace Go.Proofs.YtebpgfodelggoaaGreat
open Go.RowKit _root_.Go.Proofs.Tryz Mt
theorem Yq A R l b h k c n(j:k<b):bW A R l b (h+1) k c n=
  if after l k<b/\jX l (after l k)=8 then bW A R l b h (after l k+1) (bindM (R k (after l k)) [] c n).1 (bindM (R k (after l k)) [] c n).2 else bW A R l b h (after l k) (bindM (A k (after l k)) [] c n).1 (bindM (A k (after l k)) [] c n).2:=by
 simp only[bW];rw[lC (by omega)]
theorem zBp A R l b h k c n(j:b<=k):bW A R l b h k c n=(c,n):=by
 cases h with
 | zero=>rfl
 | succ h=>simp only[bW];rw[lG j]
theorem zBq{w}{ao}{cap}{l}(I:nH w (.slice ao l.length cap) l){i}(h:i<l.length):∃g,ao=some ⟨g,0,none⟩/\l.length<=cap/\w.cell? ⟨g,i*7,none⟩=some (.int .i64 (l.getD i zZ).kind):=by
 rcases fK I with ⟨rfl,_⟩ | ⟨Z,g,U,e,O,Y,J⟩
 ·simp at h
 ·injection e with j W G;subst j G;exact⟨g,rfl,O,J i 0 h (by omega)⟩
def zBr(l:List zU)(t:BA)(mb:Nat)(tv:Value)(i j nn:Nat)(F:Oc->Nat->OW):Prop:=∀(x:World) (o:Oc) (n:Nat),jU x mb tv l t n->kV t o->(F o n).2<=2 ^ 60->
 CT 87 #[.pointer (some ⟨mb,0,none⟩),.int .i64 i,.int .i64 j,.int .i64 nn,.agg (qG o)] x λe w'=>∃v',e=.returned v'/\fT x mb tv l t (F o n) v' w'
theorem zEE(w:World) o(h:o.2.length=20):xX ((w.alloc (.cells (qG o) 66)).alloc (.cells (qG o) 66)) w.heap.size (.slice (some ⟨w.heap.size+1,0,none⟩) 1 1) [o]:=by
 have:=PU (w:=w.alloc (.cells (qG o) 66)) (base:=w.heap.size) (by simp) o h;simpa using this
theorem Yr l t(m0:l.length<=64) f(g7:TP l t f)(g8:T3 l t f):T1 l t (f+1):=by
 intro a b n1 n2 o n J p8 w l6 l8 a4 b6 n6 n7 o1 o2 e0;subst l6 l8;have p0:=a4.lt;have j5:Hid (kV t o):=b6;have j8:Hid ((qG o).size=21):=dA o b6.len;have j2:Hid (o.2.length=20):=b6.len;obtain⟨ao,cap,rfl⟩:=LQ a4.tk;have d4:Below w.heap.size w ((w.alloc (.cells (qG o) 66)).alloc (.cells (qG o) 66)):=((lK _ _).alloc (lF _) _).alloc (by simp) _;have k2:Hid (Two w J (.slice ao l.length cap) l t [o] n (.slice (some ⟨w.heap.size+1,0,none⟩) 1 1) [] ((w.alloc (.cells (qG o) 66)).alloc (.cells (qG o) 66))):=Two.start a4 (jF.below d4) (a4.below d4) (zEE w o b6.len);have e:mM l t (f+1) 1 a b o n=bW (λi h=>mM l t f 2 i h) (λi h=>mM l t f 3 i h) l b (b-a) a [o] n:=by rw[mM]
 rw[e]at e0 |-;clear e;have c8:=λ(i h:Nat) (x:World) (q:Oc) (m:Nat)=>g7 i h i h q m J (.slice ao l.length cap) x rfl rfl
 have c9:=λ(i h:Nat) (x:World) (q:Oc) (m:Nat)=>g8 i h i h ((h:Int)+1) q m J (.slice ao l.length cap) x rfl rfl rfl
 have f0:∀i h o w,w<=(mM l t f 2 i h o w).2:=λi h=>xY l t f 2 i h
 have f1:∀i h o w,w<=(mM l t f 3 i h o w).2:=λi h=>xY l t f 3 i h
 have e3:∀i h (o:Oc) w,kV t o->qM (kV t) (mM l t f 2 i h o w).1:=λi h o w a6=>Ir l f 2 i h w a6
 have e4:∀i h (o:Oc) w,kV t o->qM (kV t) (mM l t f 3 i h o w).1:=λi h o w a6=>Ir l f 3 i h w a6
 have e1:∀i h o w,(mM l t f 2 i h o w).1.length<=500000:=λi h o w=>DL l t f 2 i h o w (by omega)
 have e2:∀i h o w,(mM l t f 3 i h o w).1.length<=500000:=λi h o w=>DL l t f 3 i h o w (by omega)
 have bA:∀i h j w,(bindM (mM l t f 2 i h) [] j w).1.length<=500000:=λi h j w=>Om l t (by omega) i h j w
 have d5:∀i h j w,(bindM (mM l t f 3 i h) [] j w).1.length<=500000:=λi h j w=>zBe l t (by omega) i h j w
 generalize g9:(λi h=>mM l t f 2 i h)=A at *;generalize h3:(λi h=>mM l t f 3 i h)=R at *;have g5:∀i h,mM l t f 2 i h=A i h:=λi h=>by rw[<-g9]
 have g6:∀i h,mM l t f 3 i h=R i h:=λi h=>by rw[<-h3]
 simp only[g5]at f0 e3 e1 bA c8;simp only[g6]at f1 e4 e2 d5 c9;clear g9 h3 g7 g8 g5 g6;have k8:Hid (∀i h:Nat,a<=i->i<l.length->i<h->h<=l.length+1->zBr l t J (.slice ao l.length cap) i h h (A i h)):=λi h m4 e6 e7 e8 x q m O c7 a4=>c8 i h x q m O c7 e6 e7 e8 (by omega) (by omega) a4
 have k9:Hid (∀i h:Nat,a<=i->i<l.length->i<h->h<l.length->jX l h=8->zBr l t J (.slice ao l.length cap) i h (h+1) (R i h)):=λi h m4 e6 e7 e8 m5 x q m O c7 a4=>c9 i h x q m O c7 e6 e7 e8 m5 (by omega) (by omega) a4
 have b9:Hid ((∀i h o w,w<=(A i h o w).2)/\(∀i h o w,w<=(R i h o w).2)):=⟨f0,f1⟩
 have f8:Hid ((∀i h (o:Oc) w,kV t o->qM (kV t) (A i h o w).1)/\(∀i h (o:Oc) w,kV t o->qM (kV t) (R i h o w).1)):=⟨e3,e4⟩
 have f6:Hid ((∀i h o w,(A i h o w).1.length<=500000)/\(∀i h o w,(R i h o w).1.length<=500000)):=⟨e1,e2⟩
 have f5:Hid ((∀i h j w,(bindM (A i h) [] j w).1.length<=500000)/\(∀i h j w,(bindM (R i h) [] j w).1.length<=500000)):=⟨bA,d5⟩
 generalize h0:bW A R l b (b-a) a [o] n=b3 at *;have i9:Hid (bW A R l b (b-a) a [o] n=b3):=h0;have k5:Hid (b3.2<=2 ^ 60):=e0;clear c8 c9 f0 f1 e3 e4 e1 e2 bA d5 h0 e0 a4 b6 d4;go_enter func53,ntmps53
 go_wp2_with (first|(refine bK (by rfl) (.tmp 7) (by rfl) w.heap.size (by rfl) (by exact jP _ _) (by exact j8.o) ?_)|(refine bD (by rfl) (.tmp 17) (by rfl) o j2.o (by rfl) ?_) | fail)
 go_loopw [9,10] (λu i wr=>∃(k a9:Nat) (j:List Oc) (m:Nat),a<=k/\k<=67/\b-k<=a9/\i=.int .i64 k/\Two w J (.slice ao l.length cap) l t j m u [] wr/\qM (kV t) j/\j.length<=500000/\bW A R l b a9 k j m=b3) (λ_ i _=>100-(intOf i).toNat)
 case atStart=>exact⟨a,b-a,[o],n,lF _,by omega,lF _,rfl,by simpa using k2.o,λx O=>by simp at O;subst O;exact j5.o,by simp,i9.o⟩
 case round =>
  obtain⟨k,a9,j,m,h4,o8,o3,rfl,I,d9,o9,Y⟩:=hrel;by_cases m1:k<b
  ·obtain⟨b0,rfl⟩:∃b0,a9=b0+1:=⟨a9-1,by omega⟩
   rw[Yq A R l b b0 k j m m1]at Y;have d8:=Rj l k;have l7:=Rk l k (by omega);have g1:Hid (nH wr (.slice ao l.length cap) l):=I.me.tk;have l3:wr.cell? ⟨J,0,none⟩=some (.slice ao l.length cap):=I.me.cells.1;obtain⟨c1,a3,rfl⟩:=dU I.own;have d3:Hid (Two w J (.slice ao l.length cap) l t [] m dF [(.slice c1 j.length a3,j)] wr):=I.turn;have f7:Hid (qM (kV t) j):=d9;clear I d9;obtain⟨G,c3⟩:∃G,G=after l k:=⟨_,rfl⟩
   rw[<-c3]at Y d8 l7
   obtain⟨F,Z,c4,Y,g4,i0,h9,h8,h7⟩:∃(F:Oc->Nat->OW) (Z:Nat),Z=(if G<b/\jX l G=8 then G+1 else G)/\bW A R l b b0 Z (bindM F [] j m).1 (bindM F [] j m).2=b3/\(bindM F [] j m).1.length<=500000/\(∀o w,w<=(F o w).2)/\(∀(o:Oc) w,kV t o->qM (kV t) (F o w).1)/\(∀o w,(F o w).1.length<=500000)/\zBr l t J (.slice ao l.length cap) k G Z F:=by
    by_cases a6:G<b/\jX l G=8
    ·rw[lG a6]at Y |-;exact⟨_,_,rfl,Y,f5.o.2 _ _ _ _,b9.o.2 _ _,f8.o.2 _ _,f6.o.2 _ _,k9.o k G h4 (by omega) d8 (by omega) a6.2⟩
    ·rw[lC a6]at Y |-;exact⟨_,_,rfl,Y,f5.o.1 _ _ _ _,b9.o.1 _ _,f8.o.1 _ _,f6.o.1 _ _,k8.o k G h4 (by omega) d8 (by omega)⟩
   have e9:=qg b9.o.1 b9.o.2 l b b0 Z (bindM F [] j m).1 (bindM F [] j m).2;rw[Y]at e9;have i6:=hid (gX e9 k5.o);have j7:=hid Y;have k4:=hid i0;have j6:=hid h9;have j3:=hid h8;have j1:=hid h7;generalize h2:bindM F [] j m=H at *;have j0:=hid h2;have j4:=hid c4;have m9:=hid c3;have d0:=EC l k _ wr g1.o m0 (by omega);rw[<-c3]at d0;have i4:=hid d0;have n4:G<=Z/\Z<=G+1:=by rw[c4];split <;> omega
   have n5:G<b\/Z=G:=by rw[c4];split <;> omega
   clear h2 Y e9 i0 h9 h8 h7 c4 c3 d0;go_upto_region 6 with (first|(go_at_call 86;refine i4.o.mono ?_;rintro e w' ⟨rfl,rfl⟩) | fail)
   obtain⟨g3,h5⟩:∃v,v=decide (G<b/\jX l G=8):=⟨_,rfl⟩
   have b7:=hid h5;clear h5
   go_cut [43] (λv f2=>v=.bool g3/\wr=f2)
   case first =>
    by_cases h6:G<b
    ·obtain⟨g,rfl,n9,n3⟩:=zBq g1.o (i:=G) (by omega);have i1:(G:Int)<(b:Int):=by omega
     have p4:(0:Int)<=(G:Int):=by omega
     have p5:(G:Int)<(l.length:Int):=by omega
     generalize l9:(l.getD G zZ).kind=p6 at *;go_wp2_with fail
     go_meet
     exact⟨by rw[b7.o];unfold jX;rw[l9,aQ.2 (and_iff_right h6)];rfl,rfl⟩
    ·have i1:¬(G:Int)<(b:Int):=by omega
     go_wp2_with fail
     go_meet
     exact⟨by rw[b7.o];simp[h6],rfl⟩
   case rest =>
   obtain⟨rfl,rfl⟩:=hcut
   go_upto_if 43 with fail
   go_cut [12] (λv f2=>v=.int .i64 (Z:Int)/\wr=f2)
   case first =>
    have e:=j4.o;cases g3
    ·rw[lC (iD b7.o.symm)]at e;subst e;go_wp2_with fail
     go_meet
     exact⟨rfl,rfl⟩
    ·rw[lG (wC b7.o.symm)]at e;subst e;go_wp2_with fail
     go_meet
     exact⟨by simp,rfl⟩
   case rest =>
   obtain⟨rfl,rfl⟩:=hcut;clear l3;go_wp2_with fail
   go_loopw [13,14] (λu i f3=>∃(q:Nat) (X:List Oc) (p:Nat),q<=j.length/\i=.int .i64 q/\Two w J (.slice ao l.length cap) l t X p u [(.slice c1 j.length a3,j)] f3/\qM (kV t) X/\bindM F X (j.drop q) p=H) (λ_ i _=>j.length-(intOf i).toNat)
   case atStart=>exact⟨0,[],m,gD _,rfl,d3.o,tH,j0.o⟩
   case round =>
    obtain⟨q,X,p,c7,rfl,I,a2,W⟩:=hrel;by_cases c5:q<j.length
    ·have a7:=Iw k4.o W c5 i6.o;obtain⟨a5,l1,e,n8,o4,o6,b2⟩:=I.at (q:=(.slice c1 j.length a3,j)) (by simp) (EI.of f7.o) c5;obtain⟨rfl,rfl⟩:c1=some ⟨a5,0,none⟩/\a3=l1:=by injection e with d6 l4 d7;exact⟨d6,d7⟩
     have O:kV t (j.getD q xI):=f7.o _ (dB c5);have b4:=j1.o _ (j.getD q xI) p I.me O a7.1;rw[Cq c5]at W;have k1:Hid (Two w J (.slice ao l.length cap) l t X p u13 [(.slice (some ⟨a5,0,none⟩) j.length a3,j)] wr):=I;have d1:Hid (qM (kV t) X):=a2;have b8:Hid (wr.rangeAt a5 (q*21) (jw (j.getD q xI))):=b2;have m2:=xK _ O.len;change bindM F (kT X (F (j.getD q xI) p).1 (F (j.getD q xI) p).2).1 (j.drop (q+1)) (kT X (F (j.getD q xI) p).1 (F (j.getD q xI) p).2).2=H at W;change(F (j.getD q xI) p).2<=_/\(kT X (F (j.getD q xI) p).1 (F (j.getD q xI) p).2).2<=_/\(kT X (F (j.getD q xI) p).1 (F (j.getD q xI) p).2).1.length<=_ at a7;have pa:=j6.o (j.getD q xI) p O;have p7:=j3.o (j.getD q xI) p;have i3:qM (kV t) (kT X (F (j.getD q xI) p).1 (F (j.getD q xI) p).2).1:=Ad _ _ _ a2 pa;generalize j.getD q xI=x at *;generalize l5:F x p=P at *;generalize h1:kT X P.1 P.2=a1 at *;have k7:Hid (kT X P.1 P.2=a1):=h1;have i7:Hid (bindM F a1.1 (j.drop (q+1)) a1.2=H):=W;have g2:Hid (a1.2<=2 ^ 60/\a1.1.length<=H.1.length):=a7.2;have f9:Hid (qM (kV t) P.1):=pa;have n0:Hid (qM (kV t) a1.1):=i3;have c0:Hid (CT 87 #[.pointer (some ⟨J,0,none⟩),.int .i64 k,.int .i64 G,.int .i64 (Z:Int),.agg (qG x)] wr λe w'=>∃v',e=.returned v'/\fT wr J (.slice ao l.length cap) l t P v' w'):=b4;have p1:(0:Int)<=(q:Int):=by omega
     have p2:(q:Int)<(j.length:Int):=by omega
     clear b4 b2 O a7 W I a2 e l5 h1 pa i3;go_wp2_with (first|(refine wpList_load_mid (by rfl) 66 (.tmp 58) (by rfl) a5 (q*21) (by rfl) (jw x) _ b8.o underlying66 rfl (by rw[xL];exact rJ some m2.symm) ?_) | fail)
     refine c0.o.mono ?_;rintro e m7 ⟨p9,rfl,e5⟩;obtain⟨b5,a8,rfl⟩:=dU e5.1;have j9:Hid (Two w J (.slice ao l.length cap) l t X P.2 u13 [(.slice b5 P.1.length a8,P.1),(.slice (some ⟨a5,0,none⟩) j.length a3,j)] m7):=k1.o.call e5;clear e5 b8 c0;go_wp2_with fail
     go_loopw [13,16] (λu i f3=>∃(z:Nat) (U:List Oc) (p:Nat),z<=P.1.length/\i=.int .i64 z/\Two w J (.slice ao l.length cap) l t U p u [(.slice b5 P.1.length a8,P.1),(.slice (some ⟨a5,0,none⟩) j.length a3,j)] f3/\qM (kV t) U/\kT U (P.1.drop z) p=a1) (λ_ i _=>P.1.length-(intOf i).toNat)
     case atStart=>exact⟨0,X,P.2,gD _,rfl,j9.o,d1.o,k7.o⟩
     case round =>
      obtain⟨z,U,a0,hz,rfl,I,a2,W⟩:=hrel;have g0:Hid (Two w J (.slice ao l.length cap) l t U a0 u13 [(.slice b5 P.1.length a8,P.1),(.slice (some ⟨a5,0,none⟩) j.length a3,j)] wr):=I;have f4:Hid (qM (kV t) U):=a2;by_cases c6:z<P.1.length
      ·have a7:=DN W c6 g2.o.1;obtain⟨c2,l2,e,o0,o5,o7,b2⟩:=I.at (q:=(.slice b5 P.1.length a8,P.1)) (by simp) (EI.of f9.o) c6;obtain⟨rfl,rfl⟩:b5=some ⟨c2,0,none⟩/\a8=l2:=by injection e with d6 l4 d7;exact⟨d6,d7⟩
       have i8:Hid (kT (yQ U (P.1.getD z xI) a0).1 (P.1.drop (z+1)) (yQ U (P.1.getD z xI) a0).2=a1):=(jm c6).symm.trans W;have O:kV t (P.1.getD z xI):=f9.o _ (dB c6);have k6:Hid (kV t (P.1.getD z xI)):=O;have b8:Hid (wr.rangeAt c2 (z*21) (jw (P.1.getD z xI))):=b2;have m3:=xK _ O.len;have b4:=Cn (P.1.getD z xI) O.len I.me I.own I.kp.size (EI.of a2) I.hap (by have:=g2.o;omega) a7.1;dsimp only at b2;generalize P.1.getD z xI=y at *;have c0:Hid (CT 54 #[.pointer (some ⟨J,0,none⟩),u13,.agg (qG y)] wr λe w'=>∃v',e=.returned v'/\dz wr J (.slice ao l.length cap) l t w.heap.size u13 (yQ U y a0) v' w'):=b4;have p3:(0:Int)<=(z:Int):=by omega
       have i1:(z:Int)<(P.1.length:Int):=by omega
       clear b4 b2 O a7 W I a2 e;go_wp2_with (first|(refine wpList_load_mid (by rfl) 66 (.tmp 71) (by rfl) c2 (z*21) (by rfl) (jw y) _ b8.o underlying66 rfl (by rw[xL];exact rJ some m3.symm) ?_) | fail)
       refine c0.o.mono ?_;rintro e m8 ⟨m6,rfl,i2⟩;have k0:Hid (Two w J (.slice ao l.length cap) l t (yQ U y a0).1 (yQ U y a0).2 m6 [(.slice (some ⟨c2,0,none⟩) P.1.length a8,P.1),(.slice (some ⟨a5,0,none⟩) j.length a3,j)] m8):=g0.o.add i2;have i5:Hid (qM (kV t) (yQ U y a0).1):=Ac a0 f4.o k6.o;clear i2;go_wp2_with fail
       go_roundw
       case rel=>exact⟨z+1,_,_,by omega,by go_num,k0.o,i5.o,i8.o⟩
       case measure=>simp[intOf];omega
      ·have b1:(U,a0)=a1:=by rw[<-W,Ae (by omega)]
       have d2:Hid ((U,a0)=a1):=b1;clear W I a2 b1;go_wp2_with fail
       go_roundw
       case rel=>exact⟨q+1,U,a0,by omega,by go_num,g0.o.sub (by simp),f4.o,by have e:=i7.o;rw[<-d2.o]at e;exact e⟩
       case measure=>simp[intOf];omega
    ·have b1:(X,p)=H:=by rw[<-W,Iu (by omega)]
     have d2:Hid ((X,p)=H):=b1;have k3:Hid (Two w J (.slice ao l.length cap) l t X p u13 [] wr):=I.sub (by simp);have d1:Hid (qM (kV t) X):=a2;have l0:X.length<=500000:=by rw[<-b1]at g4;exact g4
     clear W I a2 b1;go_wp2_with fail
     go_roundw
     case rel=>exact⟨Z,b0,X,p,by omega,by omega,by omega,by go_num,k3.o,d1.o,l0,by have e:=j7.o;rw[<-d2.o]at e;exact e⟩
     case measure=>simp[intOf];omega
  ·have W:(j,m)=b3:=by rw[<-Y,zBp A R l b a9 k j m (by omega)]
   have d3:Hid (Two w J (.slice ao l.length cap) l t j m u9 [] wr):=I;clear I Y d9;go_wp2_with fail
   go_ret;refine⟨_,rfl,?_⟩;rw[<-W];exact d3.o.post
theorem Yy{w}{base g cap}{L}(O:xX w base (.slice (some ⟨g,0,none⟩) L.length cap) L)(a0:EI L)(U:1<=L.length):xX w base (.slice (some ⟨g,0,none⟩) 1 cap) (L.take 1):=by
 obtain⟨a4,Z⟩:=O;rcases Z with ⟨e,_⟩ | ⟨J,a2,h,e,W,Y,a,b,c,d⟩
 ·simp at e
 ·injection e with G a3 I;obtain rfl:g=J:=by simpa using G
  subst I
  match L,U with
  | x::L',_ =>
   have a1:=xK x (a0 x (by simp))
   have j:h.toList.take (1*21)=jw x:=by
    have:(h.toList.take ((x::L').length*21)).take 21=((x::L').flatMap jw).take 21:=by rw[d]
    rw[iK,lU,iW (by omega),gT,uZ (by omega),oG (l:=jw x) (by omega)]at this;exact this
   refine⟨by simp[a1],.inr ⟨g,cap,h,rfl,W,Y,by simp at a |-;omega,b,c,?_⟩⟩;simpa using j
theorem Two.take1{w0 J}{G}{I}{l}{t}{X}{n g cap}{j}(h:Two w0 G I l t X n (.slice (some ⟨g,0,none⟩) X.length cap) j J)(U:EI X)(O:1<=X.length):Two w0 G I l t (X.take 1) n (.slice (some ⟨g,0,none⟩) 1 cap) j J:=
 ⟨h.me,h.kp,Yy h.own U O,h.Uk,h.m0,h.t0⟩
theorem Vi l t f(a1:T2 l t f):TP l t f:=by
 intro a b b3 b4 o n a9 b0 w a4 a6 j G a2 a3 a5 a7 a8 J;subst a4 a6;have W:=hid (dA o G.len);have h:Below w.heap.size w (w.alloc (.cells (qG o) 66)):=(lK _ _).alloc (lF _) _;have U:Hid ((w.alloc (.cells (qG o) 66)).heap[w.heap.size]?=some (.cells (qG o) 66 (0,0))):=jP _ _;have Z:=hid (Two.start j (jF.below h) (j.below h) (Aq _ _));have I:=a1 a b a b o n a9 b0 (w.alloc (.cells (qG o) 66)) rfl rfl (j.below h) G a2 a3 a5 a7 a8 J;generalize mM l t f 2 a b o n=S at *;have a0:=hid I;clear I j G h J;go_enter func87,ntmps87
 go_upto_region 1 with fail
 generalize (w.alloc (.cells (qG o) 66))=b2 at *;go_wp2_with (first|(refine bK (by rfl) (.tmp 9) (by rfl) w.heap.size (by rfl) (by exact U.o) (by exact W.o) ?_) | fail)
 refine a0.o.mono ?_;rintro e w1 ⟨b1,rfl,O⟩;have Y:=hid ((Z.o.call O).pick (q:=(b1,S.1)) (by simp));clear O;go_wp2_with fail
 go_ret;exact⟨_,rfl,Y.o.post⟩
def nI(T:Nat)(jK kZ vK zA zD:Int):Int:=
 if 60<T then 1
 else if jW kZ vK=true/\0<=jK/\jK<=T/\0<=zA/\zA<=5000/\0<=zD/\zD<=10000 then 0 else 13
theorem Nf T jK j h zA G(J:¬60<T):
  (jW j h=false/\nI T jK j h zA G=13)\/
  (jW j h=true/\decide (jK<0)=true/\nI T jK j h zA G=13)\/
  (jW j h=true/\decide (jK<0)=false/\decide ((T)<jK)=true/\nI T jK j h zA G=13)\/
  (jW j h=true/\decide (jK<0)=false/\decide ((T)<jK)=false/\decide (zA<0)=true/\nI T jK j h zA G=13)\/
  (jW j h=true/\decide (jK<0)=false/\decide ((T)<jK)=false/\decide (zA<0)=false/\decide (5000<zA)=true/\nI T jK j h zA G=13)\/
  (jW j h=true/\decide (jK<0)=false/\decide ((T)<jK)=false/\decide (zA<0)=false/\decide (5000<zA)=false/\decide (G<0)=true/\nI T jK j h zA G=13)\/
  (jW j h=true/\decide (jK<0)=false/\decide ((T)<jK)=false/\decide (zA<0)=false/\decide (5000<zA)=false/\decide (G<0)=false/\decide (10000<G)=true/\nI T jK j h zA G=13)\/
  (jW j h=true/\decide (jK<0)=false/\decide ((T)<jK)=false/\decide (zA<0)=false/\decide (5000<zA)=false/\decide (G<0)=false/\decide (10000<G)=false/\nI T jK j h zA G=0):=by
 unfold nI;rw[lC J];simp only[gM,lW];cases jW j h
 ·left;simp
 ·right;by_cases I:(true=true/\0<=jK/\jK<=(T:Int)/\0<=zA/\zA<=5000/\0<=G/\G<=10000)
  ·rw[lG I];simp at I |-;omega
  ·rw[lC I];simp at I |-;omega
theorem SS(J:BA) jK G j zA W w(a5:J.size<=maxLen):
  Calls prog 20 #[.string J,.int .i64 jK,.agg #[.int .i64 G,.int .i64 j,.int .i64 zA,.int .i64 W]] w λe w'=>e=.returned (.int .i64 (nI J.size jK G j zA W))/\Below w.heap.size w w':=by
 have a2:Hid (∀b,jW G j=b->∀z,CT 44 #[.int .i64 G,.int .i64 j] z λe w'=>e=.returned (.bool b)/\z=w'):=λb a4 z=>by rw[<-a4];exact Nc G j z
 unfold maxLen at a5;by_cases a0:60<J.size
 ·have e:nI J.size jK G j zA W=1:=by unfold nI;rw[lG a0]
  rw[e];clear e
  go_in
  go_wp2_with fail
  go_ret;exact⟨rfl,by go_grown⟩
 ·rcases Nf J.size jK G j zA W a0 with ⟨h,e⟩ | ⟨h,I,e⟩ | ⟨h,I,O,e⟩ | ⟨h,I,O,U,e⟩ | ⟨h,I,O,U,Y,e⟩ | ⟨h,I,O,U,Y,Z,e⟩ | ⟨h,I,O,U,Y,Z,a3,e⟩ | ⟨h,I,O,U,Y,Z,a3,e⟩
  all_goals
   rw[e];clear e;have a1:=hid h;clear h
   go_in
   go_wp2_with fail
   refine(a2.o _ a1.o _).mono ?_;rintro e w' ⟨rfl,rfl⟩;go_wp2_with fail
   first | go_quiet (fail) | skip
   go_wp2_with fail
   go_ret;exact⟨rfl,by first | go_grown | exact below_drewN ((lK _ _).alloc (lF _) _) _⟩
def vT(c:List zT)(k:Nat):List Int:=(List.range k).map λp=>(jY c p:Int)
theorem Ng c k:vT c (k+1)=vT c k++[(jY c k:Int)]:=by
 unfold vT;rw[rE,rW];rfl
theorem CB c k:(vT c k).length=k:=by simp[vT]
theorem zDD(L T:Nat)(h:L<=300)(j:T<=60):L*(T+1)*12<=219600/\(0:Int)<=(L)*((T)+1)/\(L)*((T:Int)+1)<=18300:=by
 have a:L*(T+1)<=300*61:=sZ h (by omega);refine⟨by omega,aF (by omega) (by omega),?_⟩;have:=Int.mul_le_mul (show(L:Int)<=300 by omega) (show(T:Int)+1<=61 by omega) (by omega) (by omega);omega
theorem YW(c)(G:BA)(b3 Z zA g7 a9)(gc a1)(w)(d0:zY w 0 (.slice (some ⟨gc,0,none⟩) c.length a1) c)(k4:0<c.length)(e7:c.length<=300)(e5:fit 100000000 c)(i2:G.size<=60)(h7:0<=Z)(h8:Z<=4294967295):
  Calls prog 21 #[.slice (some ⟨gc,0,none⟩) c.length a1,.string G,.agg #[.int .i64 b3,.int .i64 Z,.int .i64 zA,.int .i64 g7],.int .i64 a9] w λe w' =>
   ∃wb I Y gk O b7 ck,e=.returned (.pointer (some ⟨wb,0,none⟩))/\kP w' wb gc I Y gk a1 O b7 ck c G (qO c b3 Z) (vT c c.length) a9 (List.replicate (c.length*(G.size+1)*12) false) zA 0 false/\Below w.heap.size w w'/\w.heap.size<=wb/\w.heap.size<=gk:=by
 have H:=hid d0;have k1:=(lY d0 gc rfl).2;have g1:=hid e5;obtain⟨j1,h2,i8,i9,j0⟩:=sK zEI;obtain⟨j2,h3,i5,i6,i7⟩:=sK zBC;have c2:=zDD c.length G.size e7 i2;clear d0 e5
 go_in
 go_wp2_with fail
 refine(Vu c b3 Z 0 _ _ (H.o.below (by go_grown)) e7 h7 h8).mono ?_;rintro e w1 ⟨j3,rfl,e0,c1⟩;have f3:=c1.size
 have a3:w1.heap[w.heap.size+1]?=some (.cells #[.slice (some ⟨gc,0,none⟩) c.length a1,.string G,.slice none 0 0,.slice none 0 0,.slice none 0 0,.int .i64 zA,.int .i64 a9,.int .i64 0,.bool false] 55 (0,0)):=by
  rw[c1.block _ (by simp)];exact au _ _ _
 have d2:Below w.heap.size w w1:=(((lK _ _).alloc (lF _) _).alloc (by simp) _).trans (c1.mono (by simp;omega));have c3:=KU c b3 Z
 obtain⟨I,O,i4,k2,h1⟩:∃I O,j3=.slice (some ⟨I,0,none⟩) c.length O/\w.heap.size+2<=I/\I<w1.heap.size:=by
  rcases e0.2 with ⟨_,d7⟩ | ⟨g,cap,e4,rfl,d4,d5,_⟩
  ·omega
  ·exact⟨g,cap,by rw[c3],by simpa using d4,(lM.1 d5).1⟩
 subst i4
 have e3:Hid (vH w1 0 (.slice (some ⟨I,0,none⟩) (qO c b3 Z).length O) (qO c b3 Z)):=by
  show vH _ _ _ _;have:=qP e0 (gD _);rw[c3];exact this
 have e2:=hid (H.o.below d2);have a4:=zB a3;have c4:=a4.1;have c5:=a4.2;have h9:w.heap.size+2<=w1.heap.size:=by have:=f3;simp at this;omega
 have h5:w.heap.size+1<w1.heap.size:=by omega
 have e1:=hid a3;have g0:=hid c3;have j6:=c2.1;have j7:=c2.2.1;have j8:=c2.2.2;clear e0 c1 f3 a3 a4 c3 c2 H;go_wp2_with fail
 obtain⟨h,b0⟩:∃h,h=w1.setCell ⟨w.heap.size+1,2,none⟩ (.slice (some ⟨I,0,none⟩) c.length O):=⟨_,rfl⟩
 rw[<-b0];have a2:∀k,k≠w.heap.size+1->h.heap[k]?=w1.heap[k]?:=λk e6=>by rw[b0];exact lS _ _ _ _ e6
 have f9:Hid (h.heap[w.heap.size+1]?=some (.cells #[.slice (some ⟨gc,0,none⟩) c.length a1,.string G,.slice (some ⟨I,0,none⟩) c.length O,.slice none 0 0,.slice none 0 0,.int .i64 zA,.int .i64 a9,.int .i64 0,.bool false] 55 (0,0))):=by
  show _=_;rw[b0];exact lX w1 _ 2 _ _ _ e1.o
 have g6:=hid (yR e3.o (a2 I (by omega)));have g2:=hid (yR e2.o (a2 gc (by omega)));have c0:Below w.heap.size w h:=by rw[b0];exact d2.setCell (p:=⟨w.heap.size+1,2,none⟩) (by simp) _
 have i0:h.heap.size=w1.heap.size:=by rw[b0];simp[World.setCell]
 have k7:w.heap.size+2<=h.heap.size:=by omega
 have k3:I<h.heap.size:=by omega
 clear a2 b0 e3 e2 e1 c4 c5 d2 h9 i0 h1 h5
 go_loopw [10] (λi wr=>∃(k:Nat) (a6:Value),k<=c.length/\i=.int .i64 k/\wr.heap[w.heap.size+1]?=some (.cells #[.slice (some ⟨gc,0,none⟩) c.length a1,.string G,.slice (some ⟨I,0,none⟩) c.length O,a6,.slice none 0 0,.int .i64 zA,.int .i64 a9,.int .i64 0,.bool false] 55 (0,0))/\su wr h.heap.size a6 (vT c k)/\h.heap.size<=wr.heap.size/\wr.os=h.os/\wr.tape=h.tape/\wr.output=h.output/\(∀q,q<h.heap.size->q≠w.heap.size+1->wr.heap[q]?=h.heap[q]?)) (λi _=>c.length-(intOf i).toNat)
 case atStart=>exact⟨0,_,gD _,rfl,f9.o,oC _ _ _ _,lF _,rfl,rfl,rfl,λ_ _ _=>rfl⟩
 case round =>
  obtain⟨k,a6,e6,rfl,a3,f2,k8,f5,f6,f7,a2⟩:=hrel;have b8:=hid a3;have a4:=zB a3;have c4:=a4.1;have c5:=a4.2;have e9:w.heap.size+1<wr.heap.size:=by omega
  have a0:=hnd f5 (And.intro f6 f7);have b9:=hid a2;have b4:=hid f2;have c6:=hid (yR g2.o (a2 gc (by omega) (by omega)));have e8:=CB c k;have a8:=hid e8;clear a4 a3 f5 f6 f7 a2 f2 e8;by_cases k6:k<c.length
  ·have k5:=Fj c k;go_wp2_with (first|(go_at_call 46;refine(YH c _ 0 _ _ c6.o g1.o (by omega)).mono ?_;rintro e w' ⟨rfl,rfl⟩)|(at_builtin;refine rZ _ rfl _ _ 41 rfl h.heap.size 3 j1 _ 1 8 underlying41 h2 i8 i9 j0 rfl (by decide) _ _ _ rfl (oM b4.o _) ⟨wr.heap.size,0,none⟩ 1 1 [.int .i64 (jY c k:Int)] rfl rfl (fJ _ _ _) (by simp[Value.oneCell']) ?_ ?_ ?_ ?_;rotate_right))
   ·intro J j d8 b2 _;have d6:∀q,a6.ownBlock=some q->h.heap.size<=q:=λq W=>(lY b4.o q W).1
    have d1:∀q,q<wr.heap.size->(∀p,a6.ownBlock=some p->p≠q)->j.heap[q]?=wr.heap[q]?:=λq W U=>by
     rw[b2.block q (by simp;omega) (λe=>U q e.symm rfl)];exact kQ _ _ _ W
    have a7:j.heap[w.heap.size+1]?=some (.cells #[.slice (some ⟨gc,0,none⟩) c.length a1,.string G,.slice (some ⟨I,0,none⟩) c.length O,a6,.slice none 0 0,.int .i64 zA,.int .i64 a9,.int .i64 0,.bool false] 55 (0,0)):=by
     rw[d1 _ e9 (λp d9=>by have:=d6 p d9;omega)];exact b8.o
    have a5:=zB a7;have j4:=a5.1;have j5:=a5.2
    have b5:su j h.heap.size J (vT c (k+1)):=by
     unfold su;rw[Ng,lQ,rW];exact d8
    obtain⟨c9,c8,f4⟩:∃c9 c8,J=.slice (some ⟨c9,0,none⟩) (vT c (k+1)).length c8:=by
     rcases b5.2 with ⟨_,d7⟩ | ⟨g,cap,e4,e,_⟩
     ·rw[CB]at d7;omega
     ·exact⟨g,cap,e⟩
    rw[CB]at f4;subst f4;generalize h0:(Value.slice (some ⟨c9,0,none⟩) (k+1) c8)=J at d8 b5 |-;have f8:=hid (lX j _ 3 _ _ J a7)
    have g5:Hid (su (j.setCell ⟨w.heap.size+1,3,none⟩ J) h.heap.size J (vT c (k+1))):=
     World.ownsRow.kept b5 (EW j ⟨w.heap.size+1,3,none⟩ J) (lZ (λe=>by have:=(lY b5 _ e).1;simp at this;omega))
    have i1:wr.heap.size<=j.heap.size:=by have:=b2.size;simp at this;omega
    have b6:Hid (h.heap.size<=(j.setCell ⟨w.heap.size+1,3,none⟩ J).heap.size/\(j.setCell ⟨w.heap.size+1,3,none⟩ J).os=h.os/\(j.setCell ⟨w.heap.size+1,3,none⟩ J).tape=h.tape/\(j.setCell ⟨w.heap.size+1,3,none⟩ J).output=h.output/\(∀q,q<h.heap.size->q≠w.heap.size+1->(j.setCell ⟨w.heap.size+1,3,none⟩ J).heap[q]?=h.heap[q]?)):=by
     refine⟨by
          have:(j.setCell ⟨w.heap.size+1,3,none⟩ J).heap.size=j.heap.size:=by simp[World.setCell]
          omega,b2.os.trans a0.o.1,b2.tape.trans a0.o.2.1,b2.output.trans a0.o.2.2,λq W U=>?_⟩
     rw[lS _ _ _ _ U,d1 q (by omega) (λp d9=>by have:=d6 p d9;omega)];exact b9.o q W U
    have h6:w.heap.size+1<j.heap.size:=by omega
    clear d8 b2 d6 d1 a7 a5 b5 b4 c6 b9 a0 b8 c4 c5;subst h0;go_wp2_with fail
    go_roundw
    case rel=>exact⟨k+1,_,by omega,by go_num,f8.o,g5.o,b6.o.1,b6.o.2.1,b6.o.2.2.1,b6.o.2.2.2.1,b6.o.2.2.2.2⟩
    case measure=>simp[intOf];omega
   ·unfold maxLen;have:=a8.o;omega
   ·have:=a8.o;omega
   ·simp;omega
  ·have h4:k=c.length:=by omega
   subst h4
   obtain⟨Y,b7,i3,j9,k0⟩:∃Y b7,a6=.slice (some ⟨Y,0,none⟩) c.length b7/\h.heap.size<=Y/\Y<wr.heap.size:=by
    rcases b4.o.2 with ⟨_,d7⟩ | ⟨g,cap,e4,rfl,d4,d5,_⟩
    ·have:=a8.o;omega
    ·exact⟨g,cap,by rw[a8.o],d4,(lM.1 d5).1⟩
   subst i3;go_wp2_with (first|(at_make;refine uN _ rfl (.tmp 54) (.tmp 54) 53 rfl wr.heap.size 4 j2 (.bool false) 1 underlying53 h3 i5 i6 .i64 .i64 _ _ (c.length*(G.size+1)*12) rfl rfl (by simp) (by simp) (by rw[i7];omega) (by unfold maxLen;omega) (lF _) ?_;intro j f0 b1;have d3:∀q,q<wr.heap.size->j.heap[q]?=wr.heap[q]?:=λq W=>b1.block q W (by simp);have g4:Hid (∀q,q<wr.heap.size->j.heap[q]?=wr.heap[q]?):=d3;have a7:Hid (j.heap[w.heap.size+1]?=wr.heap[w.heap.size+1]?):=d3 _ e9;have a5:=zB (a7.o.trans b8.o);have j4:=a5.1;have j5:=a5.2;have f1:=FN f0;have g3:Hid (vH j wr.heap.size (.slice (some ⟨wr.heap.size,0,none⟩) (c.length*(G.size+1)*12) (c.length*(G.size+1)*12)) (List.replicate (c.length*(G.size+1)*12) false)):=f1;have i1:wr.heap.size<=j.heap.size:=b1.size;have c7:Hid (j.os=h.os/\j.tape=h.tape/\j.output=h.output):=⟨b1.os.trans a0.o.1,b1.tape.trans a0.o.2.1,b1.output.trans a0.o.2.2⟩;have h6:w.heap.size+1<j.heap.size:=(by omega);clear f0 f1 b1 d3 a5 c4 c5) | fail)
   go_returns
   have U:∀q,q≠w.heap.size+1->q<wr.heap.size->(j.setCell ⟨w.heap.size+1,4,none⟩ (.slice (some ⟨wr.heap.size,0,none⟩) (c.length*(G.size+1)*12) (c.length*(G.size+1)*12))).heap[q]?=wr.heap[q]?:=λq g8 g9=>by
    rw[lS _ _ _ _ g8];exact g4.o q g9
   refine⟨w.heap.size+1,I,Y,wr.heap.size,O,b7,c.length*(G.size+1)*12,rfl,⟨?_,?_,?_,?_,?_,g0.o,a8.o,by omega⟩,?_,by omega,by omega⟩
   ·rw[sV];exact lX j _ 4 _ _ _ (a7.o.trans b8.o)
   ·exact yR c6.o (U gc (by omega) (by omega))
   ·exact yR g6.o ((U I (by omega) (by omega)).trans (b9.o I (by omega) (by omega)))
   ·have:=qP b4.o (gD _);unfold su;rw[a8.o]at this |-;exact yR this (U Y (by omega) (by omega))
   ·have:=qP g3.o (gD _);unfold vH;rw[sV]at this |-;exact yR this (lS _ _ _ _ (by show wr.heap.size≠w.heap.size+1;omega))
   ·refine⟨c7.o.1.trans c0.os,c7.o.2.1.trans c0.tape,c7.o.2.2.trans c0.output,?_,?_⟩
    ·have:(j.setCell ⟨w.heap.size+1,4,none⟩ (.slice (some ⟨wr.heap.size,0,none⟩) (c.length*(G.size+1)*12) (c.length*(G.size+1)*12))).heap.size=j.heap.size:=by simp[World.setCell]
     omega
    ·intro q W;rw[U q (by omega) (by omega),b9.o q (by omega) (by omega)];exact c0.block q W
