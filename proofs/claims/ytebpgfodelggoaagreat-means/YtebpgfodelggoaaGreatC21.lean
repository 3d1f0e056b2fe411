import Derived.Test.YtebpgfodelggoaaGreatC20
import Derived.Test.YtebpgfodelggoaaGreatC19
import Derived.Laws.AppendOwnNone
set_option linter.all false
set_option maxRecDepth 100000
set_option maxHeartbeats 4000000
namespace Go.Proofs.YtebpgfodelggoaaGreat
open Go.RowKit _root_.Go.Proofs.Tryz Mt
theorem WO t:∀u∈jE t,u.oneCell'=true:=by
 intro u h;simp only[jE,oH,sS,wY]at h;rcases h with rfl | rfl | rfl | rfl <;> rfl
theorem Au(c:List zT):∀u∈c.flatMap jE,u.oneCell'=true:=by
 intro u j;obtain⟨i,_,h⟩:=eO.1 j;exact WO i u h
theorem Qe{w}{base}{v}{l}{t}(h:w.ownsRow base 112 4 v (l.length+1) (l.flatMap jE++jE t)):zY w base v (l++[t]):=by
 unfold zY;rw[lQ,wU,gT,aP,uJ];exact h
theorem xw(l:List zT):(l.flatMap jE).length=l.length*4:=by
 induction l with
 | nil=>rfl
 | cons t r h=>rw[gT,lQ,h];simp[jE];omega
theorem aj{w base v l}(j:zY w base v l):
  (l=[]/\∃ao cap,v=.slice ao 0 cap)\/
  (0<l.length/\∃g cap,v=.slice (some ⟨g,0,none⟩) l.length cap/\l.length<=cap/\g<w.heap.size/\base<=g/\∀k h,k<l.length->h<4->w.cell? ⟨g,k*4+h,none⟩=(jE (l.getD k kC))[h]?):=by
 by_cases G:l=[]
 ·left;subst G;refine⟨rfl,?_⟩;rcases j.2 with ⟨rfl,_⟩ | ⟨g,cap,I,rfl,_⟩
  ·exact⟨_,_,rfl⟩
  ·exact⟨_,_,rfl⟩
 ·right;have a0:=iU.2 G;refine⟨a0,?_⟩;rcases j.2 with ⟨rfl,a4⟩ | ⟨g,cap,I,rfl,O,W,J,a1,a2,a3⟩
  ·omega
  ·refine⟨g,cap,rfl,J,(lM.1 W).1,O,λk h Z Y=>?_⟩;have U:=gU (g:=g) (cap:=cap) j (k*4+h) (by omega);rw[U,jk l k h Z Y]
theorem WQ:(prog.info? 112).map (λi=>(i.zero,i.size,i.bytes))=some (some (.agg #[.int .i64 0,.int .i64 0,.int .i64 0,.string ⟨#[]⟩]),4,40):=by kernel_rfl
theorem Vg{c:List zT}{k}(h:k<c.length) n:vZ (c.take (k+1)) n=vZ (c.take k) n++[cO (c.getD k kC) n]:=by
 have:c.take (k+1)=c.take k++[c.getD k kC]:=by
  rw[sP h,lH,lN h];rfl
 rw[this];simp[vZ]
theorem Qf i n:
  ((i.op==2)=true/\cO i n=⟨i.op,i.x+n,i.y+n,i.set⟩)\/
  ((i.op==2)=false/\(i.op==3)=true/\cO i n=⟨i.op,i.x+n,i.y,i.set⟩)\/
  ((i.op==2)=false/\(i.op==3)=false/\(i.op==5)=true/\cO i n=⟨i.op,i.x+n,i.y,i.set⟩)\/
  ((i.op==2)=false/\(i.op==3)=false/\(i.op==5)=false/\(i.op==11)=true/\cO i n=⟨i.op,i.x,i.y+n,i.set⟩)\/
  ((i.op==2)=false/\(i.op==3)=false/\(i.op==5)=false/\(i.op==11)=false/\cO i n=i):=by
 unfold cO;simp only[oU,gP];by_cases h:i.op=2
 ·rw[lG h];simp[h]
 rw[lC h];by_cases G:i.op=3
 ·rw[lG (gG G)];simp[G]
 by_cases I:i.op=5
 ·rw[lG (lZ I)];simp[I]
 rw[lC (by omega)];by_cases j:i.op=11
 ·rw[lG j];simp[j]
 rw[lC j];simp[h,G,I,j]
theorem Ov c n base v w(a0:zY w base v c)(O:fit 1000000000 c)(d8:0<=n)(d9:n<=300):
  Calls prog 103 #[v,.int .i64 n] w λe w'=>∃W,e=.returned W/\zY w' w.heap.size W (vZ c n)/\Below w.heap.size w w':=by
 have d7:=O.1;rcases aj a0 with ⟨rfl,ao,cap,rfl⟩ | ⟨e0,g,cap,rfl,d4,U,d5,a5⟩
 ·clear a0 O
  go_in
  go_wp2_with fail
  refine wM 1 ?_;rw[iM]
  go_wp2
  go_ret;exact⟨_,rfl,oC _ _ _ _,lK _ _⟩
 ·obtain⟨c5,b7,c2,c3,c4⟩:=sK WQ;clear a0;have I:=hid a5;have a9:=hid O.2;clear a5 O
  go_in
  go_wp2_with fail
  go_loopw [5,6] (λv i wr=>∃k:Nat,k<=c.length/\i=.int .i64 k/\zY wr w.heap.size v (vZ (c.take k) n)/\Below w.heap.size w wr) (λ_ i _=>c.length-(intOf i).toNat)
  case atStart=>exact⟨0,gD _,rfl,oC _ _ _ _,lK _ _⟩
  case round =>
   obtain⟨k,d6,rfl,a7,h⟩:=hrel;have c1:=h.size;have b9:(vZ (c.take k) n).length=k:=by rw[vJ,uM];omega
   have G:Hid (zY wr w.heap.size u5 (vZ (c.take k) n)):=a7;clear a7;by_cases j:k<c.length
   ·have d0:wr.cell? ⟨g,k*4,none⟩=some (.int .i64 (c.getD k kC).op):=(h.cell (p:=⟨g,k*4,none⟩) U).trans (I.o k 0 j (by omega));have d1:wr.cell? ⟨g,k*4+1,none⟩=some (.int .i64 (c.getD k kC).x):=(h.cell (p:=⟨g,k*4+1,none⟩) U).trans (I.o k 1 j (by omega));have d2:wr.cell? ⟨g,k*4+2,none⟩=some (.int .i64 (c.getD k kC).y):=(h.cell (p:=⟨g,k*4+2,none⟩) U).trans (I.o k 2 j (by omega));have d3:wr.cell? ⟨g,k*4+3,none⟩=some (.string ⟨(c.getD k kC).set.toArray⟩):=(h.cell (p:=⟨g,k*4+3,none⟩) U).trans (I.o k 3 j (by omega));have a2:Hid (vZ (c.take (k+1)) n=vZ (c.take k) n++[cO (c.getD k kC) n]):=Vg j n;have b6:Ho 1000000000 (c.getD k kC):=a9.o _ (by rw[lH,lN j];exact uK j);generalize b5:c.getD k kC=Y at *;clear b5;obtain⟨c6,c7,c8,c9⟩:=b6;generalize a4:vZ (c.take k) n=P at *;have b1:Hid (vZ (c.take k) n=P):=a4;clear a4;rcases Qf Y n with ⟨J,e⟩ | ⟨J,Z,e⟩ | ⟨J,Z,a3,e⟩ | ⟨J,Z,a3,b4,e⟩ | ⟨J,Z,a3,b4,e⟩
    all_goals
     have a1:Hid (cO Y n=_):=e;clear e;go_wp2_with (first|(at_builtin;refine rZ _ rfl _ _ 40 rfl w.heap.size 112 c5 _ 4 40 underlying40 b7 c2 c3 c4 rfl (by decide) _ _ _ rfl (oM (oM G.o _) _) ⟨wr.heap.size+1,0,none⟩ 1 1 (jE (cO Y n)) rfl rfl ?_ (WO _) ?_ ?_ ?_ ?_;rotate_right))
     ·intro W w1 a8 a6 _
      have b2:Hid (zY w1 w.heap.size W (vZ (c.take (k+1)) n)):=by
       show zY _ _ _ _;rw[a2.o];exact Qe (by rw[b9];exact a8)
      have b3:Below w.heap.size w w1:=((h.alloc c1 _).alloc (by simp;omega) _).grown a6 (by simp;omega) (λq c0=>(lY G.o q c0).1);clear a8 a6 G a2 b1 a1
      go_wp2
      go_roundw
      case rel=>exact⟨k+1,by omega,by go_num,b2.o,b3⟩
      case measure=>simp[intOf];omega
     ·rw[a1.o];exact Jv _ _ (by simp) _ _
     ·unfold maxLen;omega
     ·omega
     ·simp;omega
   ·have b8:k=c.length:=by omega
    have b0:Hid (zY wr w.heap.size u5 (vZ c n)):=by
     have:=G.o;rw[b8,rT]at this;exact this
    clear G;go_wp2_with fail
    go_ret;exact⟨_,rfl,b0.o,h⟩
theorem GD{w}{base g cap}{c}(h:zY w base (.slice (some ⟨g,0,none⟩) c.length cap) c):∀j u,(c.flatMap jE)[j]?=some u->w.cell? ((⟨g,0,none⟩:Addr).add j)=some u:=
 World.ownsRow.cells h rfl
theorem SA{a b}(h:300<a.length):kF a b=a:=by unfold kF;rw[lG h]
theorem Qg{a b}(h:a.length<=300):kF a b=a++vZ b a.length:=by unfold kF;rw[lC (by omega)]
theorem zY.join{w}{base}{v}{a b}(h:w.ownsRow base 112 4 v (a.length+b.length) (a.flatMap jE++b.flatMap jE)):zY w base v (a++b):=by
 unfold zY;rw[lQ,wU];exact h
theorem yT a b c5 a8 w(W:zY w 0 c5 a)(b9:zY w 0 a8 b)(b6:fit 900000000 a)(a9:fit 900000000 b):
  Calls prog 72 #[c5,a8] w λe w'=>∃a7,e=.returned a7/\zY w' 0 a7 (kF a b)/\Below w.heap.size w w':=by
 have e4:=b6.1;have e5:=a9.1;have b7:=kX a9 (show(900000000:Int)<=1000000000 by omega);obtain⟨U,O,a4,a5,a6⟩:=sK WQ;have b2:=hid W;have b4:=hid b9;have b5:=hid (b7);clear b6 a9 b7 b9;have a2:=hid (vJ b (a.length:Int));by_cases c2:300<a.length
 ·rw[SA c2];rcases aj W with ⟨rfl,_⟩ | ⟨e3,g,cap,rfl,e0,e1,e2,d5⟩
  ·simp at c2
  ·clear d5 W
   go_in
   go_wp2_with fail
   go_ret;exact⟨_,rfl,b2.o,lK _ _⟩
 ·rw[Qg (by omega)];rcases W.2 with ⟨rfl,d6⟩ | ⟨g,cap,d2,rfl,_,_,_,_,_,_⟩
  ·have d7:=uI.1 d6;subst d7;clear W
   go_in
   go_wp2_with fail
   refine(Ov b _ 0 a8 _ b4.o b5.o (by omega) (by omega)).mono ?_;rintro e w1 ⟨a7,rfl,h,J⟩;rcases h.2 with ⟨rfl,c3⟩ | ⟨g,cap,d2,rfl,_,_,_,_,_,_⟩
   ·have Y:=hid h;clear h;go_wp2_with (first|(at_builtin;refine wpList_append_own_none rfl (.tmp 15) (.tmp 16) 40 rfl w.heap.size 112 U 4 underlying40 O _ 0 [] rfl (oC _ _ _ _) rfl ?_)|(at_builtin;refine wpList_append_own_none rfl (.tmp 18) (.tmp 19) 40 rfl w.heap.size 112 U 4 underlying40 O _ 0 [] rfl (oC _ _ _ _) rfl ?_))
    go_ret;exact⟨_,rfl,Y.o.base (gD _),J⟩
   ·have Y:=hid h;have a3:=J.size;clear h;go_wp2_with (first|(at_builtin;refine wpList_append_own_none rfl (.tmp 15) (.tmp 16) 40 rfl w.heap.size 112 U 4 underlying40 O _ 0 [] rfl (oC _ _ _ _) rfl ?_)|(at_builtin;refine rZ _ rfl (.tmp 18) (.tmp 19) 40 rfl w.heap.size 112 U _ 4 40 underlying40 O a4 a5 a6 rfl (by decide) _ 0 [] rfl (oC _ _ _ _) ⟨g,0,none⟩ _ cap ((vZ b 0).flatMap jE) rfl (xw _) (GD Y.o) (Au _) ?_ ?_ ?_ ?_;rotate_right))
    ·intro b0 b1 j G _;have c8:Hid (zY b1 w.heap.size b0 (vZ b 0)):=by show zY _ _ _ _;simpa[zY]using j
     have Z:=J.grown G a3 (λq I=>by simp[Value.ownBlock]at I);clear j G;go_wp2_with fail
     go_ret;exact⟨_,rfl,c8.o.base (gD _),Z⟩
    ·unfold maxLen;have a1:=a2.o;simp only[lV,uG]at a1;omega
    ·have a1:=a2.o;simp only[lV,uG]at a1;omega
    ·omega
  ·have d4:=W;clear W
   go_in
   go_wp2_with fail
   refine(Ov b _ 0 a8 _ b4.o b5.o (by omega) (by omega)).mono ?_;rintro e w1 ⟨a7,rfl,h,J⟩;have a3:=J.size;have b3:=hid (b2.o.below J);clear d4;rcases h.2 with ⟨rfl,c3⟩ | ⟨d3,d1,d9,rfl,_,_,_,_,_,_⟩
   ·have c0:=uI.1 c3;have c6:Hid (a++vZ b (a.length:Int)=a):=by show _=_;rw[c0,uJ]
    clear h c0;go_wp2_with (first|(at_builtin;refine rZ _ rfl (.tmp 15) (.tmp 16) 40 rfl w.heap.size 112 U _ 4 40 underlying40 O a4 a5 a6 rfl (by decide) _ 0 [] rfl (oC _ _ _ _) ⟨g,0,none⟩ _ cap (a.flatMap jE) rfl (xw _) (GD b3.o) (Au _) ?_ ?_ ?_ ?_;rotate_right))
    ·intro b0 b1 j G _;try simp only[rO,sN]at j
     have Z:=J.grown G a3 (λq I=>by simp[Value.ownBlock]at I);have a0:=hid j;clear j G;go_wp2_with (at_builtin;refine wpList_append_own_none rfl (.tmp 18) (.tmp 19) 40 rfl w.heap.size 112 U 4 underlying40 O _ _ _ rfl a0.o rfl ?_)
     go_ret;exact⟨_,rfl,by rw[c6.o];exact qP a0.o (gD _),Z⟩
    ·unfold maxLen;omega
    ·omega
    ·omega
   ·have Y:=hid h;clear h;go_wp2_with (first|(at_builtin;refine rZ _ rfl (.tmp 15) (.tmp 16) 40 rfl w.heap.size 112 U _ 4 40 underlying40 O a4 a5 a6 rfl (by decide) _ 0 [] rfl (oC _ _ _ _) ⟨g,0,none⟩ _ cap (a.flatMap jE) rfl (xw _) (GD b3.o) (Au _) ?_ ?_ ?_ ?_;rotate_right))
    ·intro b0 b1 j G _;try simp only[rO,sN]at j
     have Z:=J.grown G a3 (λq I=>by simp[Value.ownBlock]at I);have b8:=(lK _ _).grown G (lF _) (λq I=>by simp[Value.ownBlock]at I);have c7:=hid (Y.o.below b8);have d8:=Z.size;have a0:=hid j;clear j G Y b8;go_wp2_with (at_builtin;refine rZ _ rfl (.tmp 18) (.tmp 19) 40 rfl w.heap.size 112 U _ 4 40 underlying40 O a4 a5 a6 rfl (by decide) _ _ _ rfl a0.o ⟨d3,0,none⟩ _ d1 ((vZ b (a.length:Int)).flatMap jE) rfl (xw _) (GD c7.o) (Au _) ?_ ?_ ?_ ?_;rotate_right)
     ·intro e6 e7 c4 c1 _;have c9:=hid (zY.join c4);have d0:=Z.grown c1 d8 (λq I=>(lY a0.o q I).1);clear c4 c1;go_wp2_with fail
      go_ret;exact⟨_,rfl,c9.o.base (gD _),d0⟩
     ·unfold maxLen;have a1:=a2.o;omega
     ·have a1:=a2.o;omega
     ·omega
    ·unfold maxLen;omega
    ·omega
    ·omega
theorem nO(w:World) b(h:b=w.heap.size) i:zY (w.alloc (.cells #[.int .i64 i.op,.int .i64 i.x,.int .i64 i.y,.string ⟨i.set.toArray⟩] 112)) 0 (.slice (some ⟨b,0,none⟩) 1 1) [i]:=by
 subst h;refine⟨rfl,.inr ⟨w.heap.size,1,_,rfl,gD _,gF w _,lF _,by unfold maxLen;omega,rfl,?_⟩⟩;rfl
theorem Av{w base v c}(h:zY w base v c):∃ao cap,v=.slice ao c.length cap:=by
 rcases h.2 with ⟨rfl,j⟩ | ⟨g,cap,G,rfl,_⟩
 ·exact⟨none,0,by rw[j]⟩
 ·exact⟨_,_,rfl⟩
theorem IE x y late w:
  Calls prog 102 #[.int .i64 x,.int .i64 y,.bool late] w λe w'=>∃v',e=.returned v'/\zY w' 0 v' (vI x y late)/\Below w.heap.size w w':=by
 cases late
 ·go_in
  go_wp2_with fail
  go_ret;exact⟨_,rfl,nO w _ rfl ⟨2,x,y,[]⟩,by go_grown⟩
 ·go_in
  go_wp2_with fail
  go_ret;exact⟨_,rfl,nO w _ rfl ⟨2,y,x,[]⟩,by go_grown⟩
theorem dM{M} o x y s(h:-M<=x/\x<=M)(j:-M<=y/\y<=M):Ho M ⟨o,x,y,s⟩:=⟨h.1,h.2,j.1,j.2⟩
theorem Ow h c v w(G:zY w 0 v c)(j:fit 800000000 c)(a7:0<=h)(a8:h<=10):
  Calls prog 149 #[.int .i64 h,v] w λe w'=>∃v',e=.returned v'/\zY w' 0 v' (alone h c)/\Below w.heap.size w w':=by
 have a6:=j.1;have H:=hid G;have W:Hid (fit 900000000 c):=kX j (by omega);have Y:Hid (fit 900000000 [(⟨11,h,(c.length:Int)+2,[]⟩:zT)]):=dw (dM _ _ _ _ (by omega) (by omega)) (by omega)
 have Z:Hid (fit 900000000 (kF [(⟨11,h,(c.length:Int)+2,[]⟩:zT)] c)):=
  kX (bQ (kX (dw (M:=800000010) (dM _ _ _ _ (by omega) (by omega)) (by omega)) (oL _)) (kX j (by omega))) (by omega)
 have a0:Hid (fit 900000000 [(⟨12,0,0,[]⟩:zT)]):=dw (dM _ _ _ _ (by omega) (by omega)) (by omega);obtain⟨ao,cap,rfl⟩:=Av G;clear G j
 go_in
 go_wp2_with fail
 refine(yT [⟨11,h,(c.length:Int)+2,[]⟩] c _ _ _ (nO w _ rfl _) (H.o.below (by go_grown)) Y.o W.o).mono ?_;rintro e w1 ⟨a9,rfl,I,O⟩;have a1:=hid I;have J:=((lK _ _).alloc (lF _) _).trans (O.mono (by simp));have a4:=J.size;clear I O;go_wp2_with fail
 refine(yT _ [⟨12,0,0,[]⟩] _ _ _ (a1.o.below (by go_grown)) (nO w1 _ rfl _) Z.o a0.o).mono ?_;rintro e a5 ⟨b0,rfl,a2,U⟩;have a3:Below w.heap.size w a5:=(J.alloc a4 _).trans (U.mono (by simp;omega));clear U;go_wp2_with fail
 go_ret;exact⟨_,rfl,a2,a3⟩
theorem YB l t:
  ((t.kind==2)=true/\((closed l t.n=true/\may l t=0)\/(closed l t.n=false/\may l t=6)))\/
  ((t.kind==2)=false/\(t.kind==8)=true/\((pV l=true/\may l t=0)\/(pV l=false/\may l t=7)))\/
  ((t.kind==2)=false/\(t.kind==8)=false/\(t.kind==6)=true/\((10<=kE l/\may l t=8)\/(kE l<10/\(t.jB==4)=false/\may l t=0)\/(kE l<10/\(t.jB==4)=true/\decide (9<=kD l)=true/\may l t=9)\/(kE l<10/\(t.jB==4)=true/\decide (9<=kD l)=false/\may l t=0)))\/
  ((t.kind==2)=false/\(t.kind==8)=false/\(t.kind==6)=false/\(t.kind==7)=true/\(((kE l==0)=true/\may l t=10)\/((kE l==0)=false/\may l t=0)))\/
  ((t.kind==2)=false/\(t.kind==8)=false/\(t.kind==6)=false/\(t.kind==7)=false/\may l t=0):=by
 unfold may;simp only[oU,gP,gM,lW];by_cases I:t.kind=2
 ·rw[lG I];cases closed l t.n <;> simp[I]
 rw[lC I];by_cases J:t.kind=8
 ·rw[lG J];cases pV l <;> simp[J]
 rw[lC J];by_cases h:t.kind=6
 ·rw[lG h];by_cases U:10<=kE l
  ·rw[lG U];simp[h,U]
  ·rw[lC U];by_cases j:t.jB=4
   ·by_cases O:9<=kD l
    ·rw[lG ⟨j,O⟩];simp[h,j,O];omega
    ·rw[lC (λx=>O x.2)];simp[h,j,O];omega
   ·rw[lC (λx=>j x.1)];simp[h,j];omega
 rw[lC h];by_cases G:t.kind=7
 ·rw[lG G];by_cases W:kE l=0
  ·simp[G,W]
  ·simp[G,W]
 rw[lC G];simp[I,J,h,G]
theorem zDs l t v w(W:nH w v l)(U:l.length<=64):
  Calls prog 49 #[v,pY t] w λe w'=>e=.returned (.int .i64 (may l t))/\Below w.heap.size w w':=by
 have G:=hid (λo=>W.alloc o);clear W;have⟨b1,b2⟩:=Eh l;have⟨b3,b4⟩:=nU l;unfold pY;rcases YB l t with ⟨I,⟨h,e⟩ | ⟨h,e⟩⟩ | ⟨I,h,⟨J,e⟩ | ⟨J,e⟩⟩ | ⟨I,h,J,⟨j,e⟩ | ⟨j,O,e⟩ | ⟨j,O,Y,e⟩ | ⟨j,O,Y,e⟩⟩ | ⟨I,h,J,j,⟨O,e⟩ | ⟨O,e⟩⟩ | ⟨I,h,J,j,e⟩
 all_goals
  rw[e];clear e
  go_in
  go_wp2_with (first|(go_at_call 83;refine(Vd l _ _ _ (G.o _) U).mono ?_;rintro e w' ⟨rfl,rfl⟩)|(go_at_call 84;refine(Qb l _ _ (G.o _) U).mono ?_;rintro e w' ⟨rfl,rfl⟩)|(go_at_call 51;refine(FH l _ _ (G.o _) U).mono ?_;rintro e w' ⟨rfl,rfl⟩)|(go_at_call 50;refine(Gz l _ _ (G.o _) U).mono ?_;rintro e w' ⟨rfl,rfl⟩))
  go_ret;exact⟨rfl,by go_grown⟩
