import Derived.Test.YtebpgfodelggoaaGreatC25
import Derived.Test.YtebpgfodelggoaaGreatC24
set_option linter.all false
set_option maxHeartbeats 2000000
namespace Go.Proofs.YtebpgfodelggoaaGreat
open Go.RowKit _root_.Go.Proofs.Tryz Mt
theorem WR{l}(I:bR l)(f h a b:Nat)(d:Int)(j:0<=d)(G:d+f<=1000):((gen l f h a b d).length:Int)<=10000000:=by
 have:=(Pe l I f h a b d j G).1;omega
theorem Nb l(b4:l.length<=64)(h:bR l) f(I:S2 l f):S3 l (f+1):=by
 intro a b c3 c4 d v w b0 b1 U J G O a8 c6 j c5;subst b0 b1;rw[Pg];have a6:=Cw h f 2 a b d j (by omega);have a7:=Cw h f 2 a b (d+1) (by omega) (by omega);have b5:=WR h f 2 a b d j (by omega);have b6:=WR h f 2 a b (d+1) (by omega) (by omega);have c2:=Bc h b;have a9:(l.getD b zZ).kind=8:=a8;have W:=λz hz=>I a b a b d v z rfl rfl hz J G (by omega) (by omega) j (by omega)
 have Y:=λz hz=>I a b a b (d+1) v z rfl rfl hz J G (by omega) (by omega) (by omega) (by omega)
 obtain⟨g,cap,rfl,b2,b3,Z,a0,a1,a2,a3,a4,a5⟩:=Qh U O;generalize gen l f 2 a b d=x at *;generalize gen l f 2 a b (d+1)=y at *;generalize l.getD b zZ=t at *;obtain⟨b7,c7,b9,c0,c8,c9,c1⟩:=c2;have b8:=c1 a9;exact zDr l a b d t x y g cap w O b4 G b2 b3 j (by omega) U W Y a6 a7 b5 b6 Z a0 a1 a2 a3 a4 a5 b7 b8 b9 c0
theorem YA l(h:l.length<=64)(j:bR l):∀f,S0 l f/\S1 l f/\S2 l f/\S3 l f:=by
 intro f;induction f with
 | zero =>
  refine⟨?_,?_,?_,?_⟩
  ·intro a b G I d v w J O U W Y Z;omega
  ·intro a b G I d v w J O U W Y Z;omega
  ·intro a b G I d v w J O U W Y Z a2;omega
  ·intro a b G I d v w J O U W Y Z a2 a6;omega
 | succ f a5 =>
  obtain⟨a0,a3,a1,a4⟩:=a5;exact⟨GH l h j f a0 a3,Na l h j f a1 a4,Yx l h j f a0,Nb l h j f a1⟩
theorem Ox l v w(a2:l.length<=64)(O:bR l)(h:nH w v l):
  Calls prog 43 #[v] w λe w'=>∃v',e=.returned v'/\zY w' 0 v' (coded l)/\Below w.heap.size w w':=by
 have I:=Cw O 283 0 0 l.length 0 (by omega) (by omega);have K:=(YA l a2 O 283).1 0 l.length 0 l.length 0 v w rfl rfl h (by omega) (lF _) (by omega) (by omega) (by omega);unfold coded;generalize gen l 283 0 0 l.length 0=c at *;have W:Hid (fit 900000000 c):=kX I (by omega);have Y:Hid (fit 900000000 [(⟨13,0,0,[]⟩:zT)]):=dw (dM _ _ _ _ (by omega) (by omega)) (by omega);have G:=K;clear I K
 obtain⟨ao,cap,a5⟩:∃ao cap,v=.slice ao l.length cap:=by
  rcases h.2 with ⟨rfl,a3⟩ | ⟨g,cap,a8,rfl,_⟩
  ·exact⟨none,0,by rw[a3]⟩
  ·exact⟨_,_,rfl⟩
 subst a5;have Z:=hid G;clear G h
 go_in
 go_wp2_with fail
 refine Z.o.mono ?_;rintro e w1 ⟨a9,rfl,U,j⟩;have a0:=hid U;have a4:=j.size;clear U;go_wp2_with fail
 refine(yT c [⟨13,0,0,[]⟩] _ _ _ (a0.o.below (by go_grown)) (nO w1 _ rfl _) W.o Y.o).mono ?_;rintro e a7 ⟨b0,rfl,a6,J⟩;have a1:Below w.heap.size w a7:=(j.alloc a4 _).trans (J.mono (by simp;omega));clear J j;go_wp2_with fail
 go_ret;exact⟨_,rfl,a6,a1⟩
theorem FM(p:BA) w(I:p.size<=maxLen):
  CT 23 #[.string p] w λe w'=>∃v,e=.returned (.tuple #[v,.int .i64 (zP p).2.1,.int .i64 (zP p).2.2])/\nH w' v (zP p).1/\Below w.heap.size w w':=by
 by_cases h:64<p.size
 ·have e:zP p=([],1,0):=by unfold zP;rw[lG h]
  rw[e];refine(SF p w h I).mono ?_;rintro e w' ⟨rfl,rfl⟩;exact⟨_,rfl,oC _ _ _ _,lK _ _⟩
 ·refine(Qj p w (by omega)).mono ?_;rintro e w' ⟨v,rfl,j,G⟩;exact⟨v,rfl,j.nH,G⟩
theorem Qk(p:BA) w(a6:p.size<=maxLen):
  Calls prog 28 #[.string p] w λe w'=>e=.returned (.tuple #[.int .i64 (qW p).1,.int .i64 (qW p).2])/\Below w.heap.size w w':=by
 have K:=hid (FM p w a6);have Y:=bG p;have a7:=Y.2;have a0:=hid Y.1;have Z:=hid (λv z hz=>Ox _ v z a7 a0.o hz)
 have b0:((coded (zP p).1).length:Int)<=100000000:=by
  have a3:=Cw a0.o 283 0 0 (zP p).1.length 0 (by omega) (by omega);have:=(bQ a3 (dw (M:=70000000) (i:=⟨13,0,0,[]⟩) (dM _ _ _ _ (by omega) (by omega)) (by omega))).1;unfold coded;omega
 unfold qW;generalize a5:zP p=T at *;clear a5 Y;generalize a4:coded T.1=C at *;clear a4;cases a2:(T.2.1 != 0)
 ·rw[lC (by simpa using a2)];by_cases a1:300<C.length
  ·rw[lG a1]
   go_in
   go_wp2_with fail
   refine K.o.mono ?_;rintro e w1 ⟨J,rfl,j,h⟩;have O:=hid j;have W:=h.size;clear j;go_wp2_with fail
   refine(Z.o J _ O.o).mono ?_;rintro e a9 ⟨a8,rfl,I,G⟩;obtain⟨ao,cap,rfl⟩:=Av I;have U:=h.trans (G.mono W);clear I G h;go_wp2_with fail
   go_ret2
   exact⟨rfl,U⟩
  ·rw[lC a1]
   go_in
   go_wp2_with fail
   refine K.o.mono ?_;rintro e w1 ⟨J,rfl,j,h⟩;have O:=hid j;have W:=h.size;clear j;go_wp2_with fail
   refine(Z.o J _ O.o).mono ?_;rintro e a9 ⟨a8,rfl,I,G⟩;obtain⟨ao,cap,rfl⟩:=Av I;have U:=h.trans (G.mono W);clear I G h;go_wp2_with fail
   go_ret2
   exact⟨rfl,U⟩
 ·rw[lG (by simpa using a2)]
  go_in
  go_wp2_with fail
  refine K.o.mono ?_;rintro e w1 ⟨J,rfl,j,h⟩;clear j;go_wp2_with fail
  go_ret2
  exact⟨rfl,h⟩
theorem SG(p:BA) w(W:p.size<=maxLen):
  Calls prog 19 #[.string p] w λe w'=>∃v,e=.returned (.tuple #[v,.int .i64 (jA p).2])/\zY w' 0 v (jA p).1/\Below w.heap.size w w':=by
 have I:=hid (λz=>Qk p z W);have a0:=hid (λz=>FM p z W);have G:=bG p;have Z:=hid (λv z hz=>Ox _ v z G.2 G.1 hz);unfold jA;generalize coded (zP p).1=C at *;generalize zP p=T at *;generalize qW p=K at *;clear G;cases U:(K.1 != 0)
 ·rw[lC (by simpa using U)]
  go_in
  go_wp2_with fail
  refine(I.o _).mono ?_;rintro e w1 ⟨rfl,h⟩;have a3:=h.size;go_wp2_with fail
  refine(a0.o _).mono ?_;rintro e a8 ⟨a6,rfl,Y,J⟩;have j:=h.trans (J.mono a3);have a4:=j.size;have a1:=hid Y;clear Y J h;go_wp2_with fail
  refine(Z.o a6 _ a1.o).mono ?_;rintro e a9 ⟨a7,rfl,a5,O⟩;have a2:=j.trans (O.mono a4);clear O j;go_wp2_with fail
  go_ret2
  exact⟨_,rfl,a5,a2⟩
 ·rw[lG (by simpa using U)]
  go_in
  go_wp2_with fail
  refine(I.o _).mono ?_;rintro e w1 ⟨rfl,h⟩;go_wp2_with fail
  go_ret2
  exact⟨_,rfl,zY.nil _ _,h⟩
theorem Ql p i:((i.op==5)=false/\xV p i=false)\/((i.op==5)=true/\decide (i.x+1<p)=false/\xV p i=false)\/((i.op==5)=true/\decide (i.x+1<p)=true/\xV p i=true):=by
 unfold xV;simp only[oU,gP,gM,lW];omega
theorem YH c p base v w(G:zY w base v c)(j:fit 100000000 c)(Z:p<=c.length):
  Calls prog 46 #[v,.int .i64 p] w λe w'=>e=.returned (.int .i64 (jY c p))/\w=w':=by
 have b6:=j.1;rcases aj G with ⟨rfl,ao,cap,rfl⟩ | ⟨b8,g,cap,rfl,b2,b3,b4,Y⟩
 ·have a4:p=0:=by simpa using Z
  subst a4;clear G j
  go_in
  go_wp2_with fail
  refine wM 1 ?_;rw[iM];go_wp2_with fail
  go_ret;exact⟨rfl,rfl⟩
 ·have I:=hid Y;have a0:=hid j.2;clear Y G j
  go_in
  go_wp2_with fail
  go_loop [5,6] (λn i=>∃k:Nat,p<=k/\k<=c.length/\i=.int .i64 k/\n=.int .i64 (tN c p k)) (λ_ i=>c.length-(intOf i).toNat)
  case atStart=>exact⟨p,lF _,Z,rfl,by rw[MP];rfl⟩
  case round =>
   obtain⟨k,a5,b5,rfl,rfl⟩:=hrel;have b7:=KQ c p k;by_cases h:k<c.length
   ·have b0:w.cell? ⟨g,k*4,none⟩=some (.int .i64 (c.getD k kC).op):=I.o k 0 h (by omega);have b1:w.cell? ⟨g,k*4+1,none⟩=some (.int .i64 (c.getD k kC).x):=I.o k 1 h (by omega);have a2:Ho 100000000 (c.getD k kC):=a0.o _ (by rw[lH,lN h];exact uK h);have O:Hid (tN c p (k+1)=tN c p k+if xV p (c.getD k kC)then 1 else 0):=Ph c p k a5 h;generalize c.getD k kC=U at *;obtain⟨a6,a7,a8,a9⟩:=a2;rcases Ql p U with ⟨W,e⟩ | ⟨W,a1,e⟩ | ⟨W,a1,e⟩
    all_goals
     have J:Hid (xV p U=_):=e;clear e;go_wp2_with fail
     go_round
     case rel=>exact⟨k+1,by omega,by omega,by go_num,by first|(rw[O.o,J.o];simp;done)|(rw[O.o,J.o];go_num)⟩
     case measure=>simp[intOf];omega
   ·have a3:k=c.length:=by omega
    subst a3;go_wp2_with fail
    go_ret;exact⟨rfl,rfl⟩
theorem Qm p i:((i.op==11)=false/\aY p i=false)\/((i.op==11)=true/\decide (p<i.y)=false/\aY p i=false)\/((i.op==11)=true/\decide (p<i.y)=true/\aY p i=true):=by
 unfold aY;simp only[oU,gP,gM,lW];omega
theorem YI c p base v w(W:zY w base v c)(a4:p<c.length)(b1:c.length<=300):
  Calls prog 73 #[v,.int .i64 p] w λe w'=>e=.returned (.bool (vw c p))/\w=w':=by
 rcases aj W with ⟨rfl,ao,cap,rfl⟩ | ⟨b2,g,cap,rfl,a7,a8,a9,Y⟩
 ·simp at a4
 ·have O:Hid (∀k j,k<c.length->j<4->w.cell? ⟨g,k*4+j,none⟩=(jE (c.getD k kC))[j]?):=Y;clear Y W
  go_in
  go_wp2_with fail
  go_loop [5] (λi=>∃k:Nat,k<=p/\i=.int .i64 k/\(c.take k).any (aY p)=false) (λi=>p-(intOf i).toNat)
  case atStart=>exact⟨0,gD _,rfl,rfl⟩
  case round =>
   obtain⟨k,b0,rfl,Z⟩:=hrel;have h:Hid ((c.take k).any (aY p)=false):=Z;clear Z;by_cases a3:k<p
   ·have a5:w.cell? ⟨g,k*4,none⟩=some (.int .i64 (c.getD k kC).op):=O.o k 0 (by omega) (by omega);have a6:w.cell? ⟨g,k*4+2,none⟩=some (.int .i64 (c.getD k kC).y):=O.o k 2 (by omega) (by omega);have I:Hid ((c.take (k+1)).any (aY p)=((c.take k).any (aY p)||aY p (c.getD k kC))):=Bh c _ k (by omega);have J:Hid (aY p (c.getD k kC)=true->vw c p=true):=λx=>uf c _ k p a3 (by omega) x
    generalize c.getD k kC=a0 at *;rcases Qm p a0 with ⟨U,e⟩ | ⟨U,a1,e⟩ | ⟨U,a1,e⟩
    ·have G:Hid ((c.take (k+1)).any (aY p)=false):=by show _=_;rw[I.o,h.o,e];rfl
     clear e I h J;go_wp2_with fail
     go_round
     case rel=>exact⟨k+1,by omega,by go_num,G.o⟩
     case measure=>simp[intOf];omega
    ·have G:Hid ((c.take (k+1)).any (aY p)=false):=by show _=_;rw[I.o,h.o,e];rfl
     clear e I h J;go_wp2_with fail
     go_round
     case rel=>exact⟨k+1,by omega,by go_num,G.o⟩
     case measure=>simp[intOf];omega
    ·have G:Hid (vw c p=true):=J.o e;clear e I h J;go_wp2_with fail
     go_ret;exact⟨jM (by rw[G.o]),rfl⟩
   ·have a2:k=p:=by omega
    subst a2;go_wp2_with fail
    go_ret;exact⟨jM (by unfold vw;rw[h.o]),rfl⟩
theorem Qn x q p:
  ((x.op==2)=true/\(x.x==p)=true/\mE x q p=true)\/
  ((x.op==2)=true/\(x.x==p)=false/\mE x q p=(x.y==p))\/
  ((x.op==2)=false/\(x.op==3)=true/\mE x q p=(x.x==p))\/
  ((x.op==2)=false/\(x.op==3)=false/\(x.op==5)=true/\mE x q p=(x.x==p))\/
  ((x.op==2)=false/\(x.op==3)=false/\(x.op==5)=false/\(x.op==11)=true/\mE x q p=(x.y==p))\/
  ((x.op==2)=false/\(x.op==3)=false/\(x.op==5)=false/\(x.op==11)=false/\(x.op==12)=true/\mE x q p=false)\/
  ((x.op==2)=false/\(x.op==3)=false/\(x.op==5)=false/\(x.op==11)=false/\(x.op==12)=false/\(x.op==13)=true/\mE x q p=false)\/
  ((x.op==2)=false/\(x.op==3)=false/\(x.op==5)=false/\(x.op==11)=false/\(x.op==12)=false/\(x.op==13)=false/\mE x q p=(q+1==p)):=by
 unfold mE;by_cases h:x.op=2
 ·cases U:(x.x==p) <;> simp[h,U]
 by_cases j:x.op=3
 ·simp[j]
 by_cases G:x.op=5
 ·simp[G]
 by_cases I:x.op=11
 ·simp[I]
 by_cases J:x.op=12
 ·simp[J]
 by_cases O:x.op=13
 ·simp[O]
 simp[h,j,G,I,J,O]
theorem OA c q p base v w(W:zY w base v c)(I:q<c.length)(a7:c.length<=300):
  Calls prog 104 #[v,.int .i64 q,.int .i64 p] w λe w'=>e=.returned (.bool (leads c q p))/\Below w.heap.size w w':=by
 rcases aj W with ⟨rfl,ao,cap,rfl⟩ | ⟨a8,g,cap,rfl,a4,a5,a6,G⟩
 ·simp at I
 ·have a0:w.cell? ⟨g,q*4,none⟩=some (.int .i64 (c.getD q kC).op):=G q 0 I (by omega);have a1:w.cell? ⟨g,q*4+1,none⟩=some (.int .i64 (c.getD q kC).x):=G q 1 I (by omega);have a2:w.cell? ⟨g,q*4+2,none⟩=some (.int .i64 (c.getD q kC).y):=G q 2 I (by omega);have a3:w.cell? ⟨g,q*4+3,none⟩=some (.string ⟨(c.getD q kC).set.toArray⟩):=G q 3 I (by omega);clear G W;have e:leads c q p=mE (c.getD q kC) q p:=rfl;rw[e];clear e;generalize c.getD q kC=Y at *;rcases Qn Y q p with ⟨h,j,e⟩ | ⟨h,j,e⟩ | ⟨h,j,e⟩ | ⟨h,j,J,e⟩ | ⟨h,j,J,O,e⟩ | ⟨h,j,J,O,U,e⟩ | ⟨h,j,J,O,U,Z,e⟩ | ⟨h,j,J,O,U,Z,e⟩
  all_goals
   rw[e];clear e
   go_in
   go_wp2_with fail
   go_ret;exact⟨rfl,by go_grown⟩
theorem Qo p i:((i.op==5)=false/\xW p i=false)\/((i.op==5)=true/\(i.x==p)=false/\xW p i=false)\/((i.op==5)=true/\(i.x==p)=true/\xW p i=true):=by
 unfold xW;simp only[oU,gP,gM,lW];omega
theorem Vr c p j G base v w(a8:zY w base v c)(c5:p<c.length)(b8:c.length<=300)(d1:0<=G)(d2:G<=4294967295):
  Calls prog 74 #[v,.int .i64 p,.int .i64 j,.int .i64 G] w λe w'=>e=.returned (.bool (picked c p j G))/\Below w.heap.size w w':=by
 have b3:=hid a8;rcases aj a8 with ⟨rfl,ao,cap,rfl⟩ | ⟨d4,g,cap,rfl,c8,b7,c9,b6⟩
 ·simp at c5
 ·have b2:=hid b6;clear b6 a8;cases b1:(j==2)
  ·have a6:¬j=2:=by simpa using b1
   have a1:Hid (picked c p j G=if j=1 then true else if j=3 then decide (1<kN c p c.length)else if j=4 then tu G (p % 32)else false):=by
    show _=_;unfold picked;rw[lC (λx=>a6 x.1)]
   clear a6
   go_in
   go_wp2_with fail
   go_loopw [9,10] (λn i wr=>∃k:Nat,k<=c.length/\i=.int .i64 k/\n=.int .i64 (kN c p k)/\Below w.heap.size w wr) (λ_ i _=>c.length-(intOf i).toNat)
   case atStart=>exact⟨0,gD _,rfl,rfl,lK _ _⟩
   case round =>
    obtain⟨k,c3,rfl,rfl,h⟩:=hrel;have a7:=h.size;have d0:=KS c p k;have J:=hid (Ga c p k);have a2:=hid (b3.o.below h);by_cases a0:k<c.length
    ·have a3:Hid (∀b,leads c k p=b->CT 104 #[.slice (some ⟨g,0,none⟩) c.length cap,.int .i64 k,.int .i64 p] wr λe w'=>e=.returned (.bool b)/\Below wr.heap.size wr w'):=λb b0=>by rw[<-b0];exact OA c k p base _ wr a2.o a0 b8
     cases U:leads c k p
     all_goals
      have W:Hid (leads c k p=_):=U;clear U;go_wp2_with fail
      refine(a3.o _ W.o).mono ?_;rintro e w1 ⟨rfl,O⟩;have Z:=h.trans (O.mono a7);clear O;go_wp2_with fail
      go_roundw
      case rel=>exact⟨k+1,by omega,by go_num,by first|(rw[J.o,W.o];simp;done)|(rw[J.o,W.o];go_num),Z⟩
      case measure=>simp[intOf];omega
    ·have c4:k=c.length:=by omega
     subst c4;clear J a2;cases a5:(j==1)
     ·cases a9:(j==3)
      ·cases b5:(j==4)
       ·go_wp2_with fail
        go_ret;exact⟨jM (by rw[a1.o,lC (by simpa using a5),lC (by simpa using a9),lC (by simpa using b5)]),h⟩
       ·go_wp2_with fail
        go_ret;exact⟨jM (by rw[a1.o,lC (by simpa using a5),lC (by simpa using a9),lG (by simpa using b5)];rfl),h⟩
      ·go_wp2_with fail
       go_ret;exact⟨jM (by rw[a1.o,lC (by simpa using a5),lG (by simpa using a9)];exact aQ.2 (by omega)),h⟩
     ·go_wp2_with fail
      go_ret;exact⟨jM (by rw[a1.o,lG (by simpa using a5)]),h⟩
  ·have a6:j=2:=by simpa using b1
   subst a6;clear b1
   have a1:Hid (c.any (xW p)=false->picked c p 2 G=false):=λx=>by
    unfold picked;rw[lC (by rw[x];simp),lC (by omega),lC (by omega),lC (by omega)]
   have c0:Hid (c.any (xW p)=true->picked c p 2 G=true):=λx=>by
    unfold picked;rw[lG ⟨rfl,x⟩]
   go_in
   go_wp2_with fail
   go_loopw [9,10] (λn i wr=>∃k m:Nat,k<=c.length/\m<=k/\i=.int .i64 k/\n=.int .i64 m/\Below w.heap.size w wr/\(c.take k).any (xW p)=false) (λ_ i _=>c.length-(intOf i).toNat)
   case atStart=>exact⟨0,0,gD _,lF _,rfl,rfl,lK _ _,rfl⟩
   case round =>
    obtain⟨k,m,c3,d3,rfl,rfl,h,b9⟩:=hrel;have Y:Hid ((c.take k).any (xW p)=false):=b9;clear b9;have a7:=h.size;have a2:Hid (zY wr base (.slice (some ⟨g,0,none⟩) c.length cap) c):=b3.o.below h;by_cases a0:k<c.length
    ·have c6:wr.cell? ⟨g,k*4,none⟩=some (.int .i64 (c.getD k kC).op):=(h.cell (p:=⟨g,k*4,none⟩) b7).trans (b2.o k 0 a0 (by omega));have c7:wr.cell? ⟨g,k*4+1,none⟩=some (.int .i64 (c.getD k kC).x):=(h.cell (p:=⟨g,k*4+1,none⟩) b7).trans (b2.o k 1 a0 (by omega));have a3:Hid (∀b,leads c k p=b->CT 104 #[.slice (some ⟨g,0,none⟩) c.length cap,.int .i64 k,.int .i64 p] wr λe w'=>e=.returned (.bool b)/\Below wr.heap.size wr w'):=λb b0=>by rw[<-b0];exact OA c k p base _ wr a2.o a0 b8
     have J:Hid ((c.take (k+1)).any (xW p)=((c.take k).any (xW p)||xW p (c.getD k kC))):=Bh c _ k a0
     have a4:Hid (xW p (c.getD k kC)=true->c.any (xW p)=true):=λx=>by
      have:=uf c (xW p) k c.length a0 (lF _) x
      rwa [rT]at this
     generalize c.getD k kC=c1 at *;rcases Qo p c1 with ⟨b4,e⟩ | ⟨b4,c2,e⟩ | ⟨b4,c2,e⟩
     ·have I:Hid ((c.take (k+1)).any (xW p)=false):=by show _=_;rw[J.o,Y.o,e];rfl
      clear e J Y a4;cases U:leads c k p
      all_goals
       have W:Hid (leads c k p=_):=U;clear U;go_wp2_with fail
       refine(a3.o _ W.o).mono ?_;rintro e w1 ⟨rfl,O⟩;have Z:Below w.heap.size w w1:=h.trans (O.mono a7);clear O;go_wp2_with fail
       go_roundw
       case rel=>first | exact⟨k+1,m,by omega,by omega,by go_num,rfl,Z,I.o⟩ | exact⟨k+1,m+1,by omega,by omega,by go_num,by go_num,Z,I.o⟩
       case measure=>simp[intOf];omega
     ·have I:Hid ((c.take (k+1)).any (xW p)=false):=by show _=_;rw[J.o,Y.o,e];rfl
      clear e J Y a4;cases U:leads c k p
      all_goals
       have W:Hid (leads c k p=_):=U;clear U;go_wp2_with fail
       refine(a3.o _ W.o).mono ?_;rintro e w1 ⟨rfl,O⟩;have Z:Below w.heap.size w w1:=h.trans (O.mono a7);clear O;go_wp2_with fail
       go_roundw
       case rel=>first | exact⟨k+1,m,by omega,by omega,by go_num,rfl,Z,I.o⟩ | exact⟨k+1,m+1,by omega,by omega,by go_num,by go_num,Z,I.o⟩
       case measure=>simp[intOf];omega
     ·have I:Hid (picked c p 2 G=true):=c0.o (a4.o e);clear e J Y a4 a3;go_wp2_with fail
      go_ret;exact⟨jM (by rw[I.o]),h⟩
    ·have I:Hid (picked c p 2 G=false):=a1.o (by have:=Y.o;rwa [show k=c.length by omega,rT]at this);clear Y a2;go_wp2_with fail
     go_ret;exact⟨jM (by rw[I.o]),h⟩
