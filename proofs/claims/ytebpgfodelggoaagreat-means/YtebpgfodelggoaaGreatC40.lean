import Derived.Test.YtebpgfodelggoaaGreatC39
set_option linter.all false
set_option maxRecDepth 100000
set_option maxHeartbeats 8000000
namespace Go.Proofs.YtebpgfodelggoaaGreat
open Go.RowKit _root_.Go.Proofs.Tryz Mt
def Takes(L:Nat)(w:World)(g:Nat)(so ao oo:Option Addr)(E:Int)(b':PB)(e:Ending)(w':World):Prop:=
 e=.returned (.int .i64 E)/\(E=0->∃bf nR jl sc' AY Ey,bO L w' g b' bf nR jl sc' AY Ey/\yC g so ao oo bf nR jl w w')/\Below L w w'
theorem IJ{L w g b so ao oo sc ac a3} t(h:bO L w g b so ao oo sc ac a3)(a0:b.zC.length<=900)(a1:b.zK.length<=900)(a2:b.seq<b.zK.length)(Z:b.last=-1\/∃k:Nat,b.last=k/\k<b.zC.length):
  CT 140 #[.pointer (some ⟨g,0,none⟩),jv t] w (Takes L w g so ao oo (if 10<=b.opn.length then 8 else if t.group=1/\9<=b.kG then 9 else 0) (b.kU t)):=by
 have Y:L<=w.heap.size:=by have:=h.lo;have:=(h.lt g (gG rfl)).2;omega
 by_cases J:10<=b.opn.length
 ·rw[lG J];exact(CY t h 8 (gG ⟨J,rfl⟩)).mono (λe w' I=>⟨I.1,λe=>by omega,I.2⟩)
 ·rw[lC J];by_cases j:t.group=1
  ·by_cases O:9<=b.kG
   ·rw[lG ⟨j,O⟩];exact(CY t h 9 (lZ ⟨J,j,O,rfl⟩)).mono (λe w' I=>⟨I.1,λe=>by omega,I.2⟩)
   ·rw[lC (λx=>O x.2)];exact(Ke t h a0 a1 a2 Z (by omega) j (by omega)).mono (λe w' ⟨U,bf,nR,jl,sc',AY,Ey,W,G⟩=>⟨U,λ_=>⟨bf,nR,jl,sc',AY,Ey,W,G⟩,G.low h Y⟩)
  ·rw[lC (λx=>j x.1)];exact(GQ t h a0 a1 a2 Z (by omega) j).mono (λe w' ⟨U,bf,nR,jl,sc',AY,Ey,W,G⟩=>⟨U,λ_=>⟨bf,nR,jl,sc',AY,Ey,W,G⟩,G.low h Y⟩)
structure BOk (b:PB):Prop where
 na:b.zC.length<=900
 ns:b.zK.length<=900
 no:b.opn.length<=900
 sq:b.seq<b.zK.length
 la:b.last=-1\/∃k:Nat,b.last=k/\k<b.zC.length
 tp:0<b.opn.length->b.top<b.zC.length/\∃nu hm:Nat,(b.qI b.top).num=nu/\nu<=9/\(b.qI b.top).home=hm
theorem Takes.of{L}{w j w'}{g}{b b'}{so ao oo bf nR jl}{sc ac W sc' AY Ey}{e}(h:bO L w g b so ao oo sc ac W)(I:Below w.heap.size w j)(O:e=.returned (.int .i64 0))(J:bO L w' g b' bf nR jl sc' AY Ey)(U:yC g so ao oo bf nR jl j w'):Takes L w g so ao oo 0 b' e w':=by
 have G:L<=w.heap.size:=by have:=h.lo;have:=(h.lt g (gG rfl)).2;omega
 have:=(yC.below (g:=g) (so:=so) (ao:=ao) (oo:=oo) I).trans U;exact⟨O,λ_=>⟨bf,nR,jl,sc',AY,Ey,J,this⟩,this.low h G⟩
theorem Takes.up{L w j w' g b b' so ao oo sc ac Y E e}(G:bO L w g b so ao oo sc ac Y)(I:Below w.heap.size w j)(h:Takes L j g so ao oo E b' e w'):Takes L w g so ao oo E b' e w':=by
 have W:L<=w.heap.size:=by have:=G.lo;have:=(G.lt g (gG rfl)).2;omega
 refine⟨h.1,λJ=>?_,(I.mono W).trans h.2.2⟩;obtain⟨bf,nR,jl,sc',AY,Ey,O,U⟩:=h.2.1 J;exact⟨bf,nR,jl,sc',AY,Ey,O,(yC.below I).trans U⟩
theorem zB3{L w g b so ao oo sc ac a1} t(J:bO L w g b so ao oo sc ac a1)(O:BOk b)(h:t.kind=1):
  Calls prog 117 #[.pointer (some ⟨g,0,none⟩),jv t] w (Takes L w g so ao oo (b.err t) (b.next t)):=by
 have a3:=hid J;have I:Below w.heap.size w (w.alloc (.cells (pQ t) 174)):=(lK _ _).alloc (lF _) _;have a0:=J.below I;have U:b.err t=0:=by unfold PB.err;rw[lG h]
 have W:b.next t=b.bar:=by unfold PB.next;rw[lG h]
 rw[U,W];clear U W;have j:Hid (CT 139 _ (w.alloc (.cells (pQ t) 174)) _):=Qs a0 (by have:=O.ns;omega) O.sq;have G:=hid I;clear J I a0 O;unfold jv;unfold pQ at j;unfold pQ at G |-;rw[h]at j G |-;clear h
 go_in
 go_wp2_with fail
 refine j.o.mono ?_;rintro e w1 ⟨rfl,a2,a4,Y,Z⟩;have R:Hid (bO L w1 g b.bar a2 ao oo a4 ac a1/\yC g so ao oo a2 ao oo _ w1):=⟨Y,Z⟩
 clear Y Z;go_wp2_with fail
 go_returns;exact Takes.of a3.o G.o rfl R.o.1 R.o.2
theorem Zg{L w g b so ao oo sc ac a3} t(O:bO L w g b so ao oo sc ac a3)(h:BOk b)(j:t.kind=2):
  Calls prog 117 #[.pointer (some ⟨g,0,none⟩),jv t] w (Takes L w g so ao oo (b.err t) (b.next t)):=by
 have a2:=hid O;have J:Below w.heap.size w (w.alloc (.cells (pQ t) 174)):=(lK _ _).alloc (lF _) _;have a1:=O.below J;have Y:b.err t=if 10<=b.opn.length then 8 else if t.group=1/\9<=b.kG then 9 else 0:=by unfold PB.err;rw[lC (by omega),lG j]
 have Z:b.next t=b.kU t:=by unfold PB.next;rw[lC (by omega),lG j]
 rw[Y,Z];clear Y Z;have W:=IJ t a1 h.na h.ns h.sq h.la;generalize (if 10<=b.opn.length then(8:Int)else if t.group=1/\9<=b.kG then 9 else 0)=E at *;have G:=hid W;have I:=hid J;clear W O J a1 h;unfold jv;unfold jv pQ at G;unfold pQ at I |-;rw[j]at G I |-;clear j
 go_in
 go_wp2_with fail
 refine G.o.mono ?_;rintro e w1 U;obtain⟨rfl,a0⟩:=(show e=.returned (.int .i64 E)/\Takes L (w.alloc _) g so ao oo E (b.kU t) e w1 from ⟨U.1,U⟩)
 have R:=hid a0;clear U a0;go_wp2_with fail
 go_returns;exact Takes.up a2.o I.o R.o
theorem VJ{L w g b so ao oo sc ac a3} t(O:bO L w g b so ao oo sc ac a3)(h:BOk b)(j:t.kind=3):
  Calls prog 117 #[.pointer (some ⟨g,0,none⟩),jv t] w (Takes L w g so ao oo (b.err t) (b.next t)):=by
 have a4:=hid O;have J:Below w.heap.size w (w.alloc (.cells (pQ t) 174)):=(lK _ _).alloc (lF _) _;have a2:=O.below J;have Y:b.err t=if b.opn.length=0 then 10 else 0:=by unfold PB.err;rw[lC (by omega),lC (by omega),lG j]
 have Z:b.next t=b.close:=by unfold PB.next;rw[lC (by omega),lC (by omega),lG j]
 rw[Y,Z];clear Y Z;have W:=Mi a2 (by have:=h.na;omega) (by have:=h.no;omega) h.tp _ rfl;generalize (if b.opn.length=0 then(10:Int)else 0)=E at *;have G:=hid W;have I:=hid J;clear W O J a2 h;unfold jv;unfold pQ at G;unfold pQ at I |-;rw[j]at G I |-;clear j
 go_in
 go_wp2_with fail
 refine G.o.mono ?_;rintro e w1 ⟨rfl,U,a1⟩;have R:Hid (Takes L _ g so ao oo E b.close (.returned (.int .i64 E)) w1):=⟨rfl,λa0=>⟨so,ao,oo,sc,ac,a3,(U a0).1,(U a0).2⟩,a1⟩
 clear U a1;go_wp2_with fail
 go_returns;exact Takes.up a4.o I.o R.o
theorem zB4{L w g b so ao oo sc ac a3} t(J:bO L w g b so ao oo sc ac a3)(O:BOk b)(h:t.kind=4):
  Calls prog 117 #[.pointer (some ⟨g,0,none⟩),jv t] w (Takes L w g so ao oo (b.err t) (b.next t)):=by
 have a4:=hid J;have I:Below w.heap.size w (w.alloc (.cells (pQ t) 174)):=(lK _ _).alloc (lF _) _;have a2:=J.below I;have Y:b.err t=if b.last=-1\/(b.qI b.last.toNat).rep.kind≠0 then 7 else 0:=by unfold PB.err;rw[lC (by omega),lC (by omega),lC (by omega),lG h]
 have Z:b.next t=b.repeated t:=by unfold PB.next;rw[lC (by omega),lC (by omega),lC (by omega),lG h]
 rw[Y,Z];clear Y Z;have W:=Kc t a2 (by have:=O.na;omega) O.la _ rfl;generalize (if b.last=-1\/(b.qI b.last.toNat).rep.kind≠0 then(7:Int)else 0)=E at *;have j:=hid W;have G:=hid I;clear W J I a2 O;unfold jv;unfold jv pQ at j;unfold pQ at G |-;rw[h]at j G |-;clear h
 go_in
 go_wp2_with fail
 refine j.o.mono ?_;rintro e w1 ⟨rfl,U,a1⟩;have R:Hid (Takes L _ g so ao oo E (b.repeated t) (.returned (.int .i64 E)) w1):=⟨rfl,λa0=>⟨so,ao,oo,sc,ac,a3,(U a0).1,(U a0).2⟩,a1⟩
 clear U a1;go_wp2_with fail
 go_returns;exact Takes.up a4.o G.o R.o
theorem Zh{L w g b so ao oo sc ac a3}(t:PT)(J:bO L w g b so ao oo sc ac a3)(h:BOk b)(O:t.kind=6)(n:Nat)(a1:t.number=n)(a6:n<=9):
  Calls prog 117 #[.pointer (some ⟨g,0,none⟩),jv t] w (Takes L w g so ao oo (b.err t) (b.next t)):=by
 have a4:=hid J;have I:Below w.heap.size w (w.alloc (.cells (pQ t) 174)):=(lK _ _).alloc (lF _) _;have a2:=J.below I;have W:b.err t=if(b.kG:Int)<t.number\/b.BH.getD t.number.toNat false=false then 6 else 0:=by unfold PB.err;rw[lC (by omega),lC (by omega),lC (by omega),lC (by omega),lG O]
 have Y:b.next t=b.zO t:=by unfold PB.next;rw[lC (by omega),lC (by omega),lC (by omega),lC (by omega)]
 rw[W,Y];clear W Y;have U:=Nh t a2 (by have:=h.na;omega) h.sq h.la n a1 a6 _ rfl;generalize (if(b.kG:Int)<t.number\/b.BH.getD t.number.toNat false=false then(6:Int)else 0)=E at *;have j:=hid U;have G:=hid I;clear U a1 J I a2 h;unfold jv;unfold jv pQ at j;unfold pQ at G |-;rw[O]at j G |-;clear O
 go_in
 go_wp2_with fail
 refine j.o.mono ?_;rintro e w1 ⟨rfl,Z,a0⟩;have R:Hid (Takes L _ g so ao oo E (b.zO t) (.returned (.int .i64 E)) w1):=⟨rfl,λa5=>by obtain⟨nR,AY,a7,a8⟩:=Z a5;exact⟨so,nR,oo,sc,AY,a3,a7,a8⟩,a0⟩
 clear Z a0;go_wp2_with fail
 go_returns;exact Takes.up a4.o G.o R.o
theorem IK{L w g b so ao oo sc ac a2} t(O:bO L w g b so ao oo sc ac a2)(j:BOk b)(h:t.kind=5\/t.kind=7\/t.kind=8):
  Calls prog 117 #[.pointer (some ⟨g,0,none⟩),jv t] w (Takes L w g so ao oo (b.err t) (b.next t)):=by
 have a1:=hid O;have J:Below w.heap.size w (w.alloc (.cells (pQ t) 174)):=(lK _ _).alloc (lF _) _;have a0:=O.below J;have U:b.err t=0:=by unfold PB.err;rw[lC (by omega),lC (by omega),lC (by omega),lC (by omega),lC (by omega)]
 have W:b.next t=b.zO t:=by unfold PB.next;rw[lC (by omega),lC (by omega),lC (by omega),lC (by omega)]
 rw[U,W];clear U W;have G:Hid (CT 144 _ (w.alloc (.cells (pQ t) 174)) _):=xu t a0 (by have:=j.na;omega) j.sq j.la;have I:=hid J;clear O J a0 j;rcases h with h | h | h
 all_goals
  unfold jv;unfold jv pQ at G;unfold pQ at I |-;rw[h]at G I |-;clear h
  go_in
  go_wp2_with fail
  refine G.o.mono ?_;rintro e w1 ⟨rfl,a4,a3,Y,Z⟩;have R:=hnd Y Z;clear Y Z;go_wp2_with fail
  go_returns;exact Takes.of a1.o I.o rfl R.o.1 R.o.2
end Go.Proofs.YtebpgfodelggoaaGreat
namespace Mt
def PB.zB5:PB:=⟨[],[],0,-1,[],0,List.replicate 10 false⟩
theorem zB6{b:PB}{l G}(h:b.Rel l G)(a2:l.length<=64):b.zC.length<=64/\b.zK.length<=65/\b.opn.length<=64/\(0<b.opn.length->b.top<b.zC.length/\∃nu j:Nat,(b.qI b.top).num=nu/\nu<=9/\(b.qI b.top).home=j):=by
 have Y:=h.al;have Z:=h.sl;have J:=h.len;have a0:=h.op;have a1:=Eh l;refine⟨by omega,by omega,by omega,λO=>?_⟩;have U:b.top=b.opn.getD (G.length-1) 0:=by unfold PB.top;rw[Dr _ _ O,J]
 have T:=h.Pt (G.length-1) (by omega);rw[<-U]at T;obtain⟨j,I,W⟩:=h.homes b.top T.1;have n:=h.nums b.top T.1;exact⟨T.1,(b.qI b.top).num.toNat,j,by omega,by omega,I⟩
theorem VK p l(k:Int)(h:0<=k)(j:k=p.size):vP p l k=(l,0,k):=by
 rw[dW p l k h (by omega),lG (by omega)]
theorem Te(p)(l)(k:Int)(h:0<=k)(G:k<p.size)(j:(kS p k).2≠0):vP p l k=([],(kS p k).2,k):=by
 rw[dW p l k h (by omega),lC (by omega),lG j]
theorem Tf(p)(l)(k:Int)(h:0<=k)(G:k<p.size)(I:(kS p k).2=0)(j:may l (kS p k).1≠0):vP p l k=([],may l (kS p k).1,k):=by
 rw[dW p l k h (by omega),lC (by omega),lC (by omega),lG j]
theorem Zi(p)(l)(k:Int)(h:0<=k)(j:k<p.size)(G:(kS p k).2=0)(I:may l (kS p k).1=0):vP p l k=vP p (l++[yU l (kS p k).1]) (kS p k).1.to:=by
 rw[dW p l k h (by omega),lC (by omega),lC (by omega),lC (by omega)]
structure Read (p:BA) (k:Nat) (b:PB) (l:List zU):Prop where
 le:k<=p.size
 len:l.length<=k
 run:b=PB.start.run l
 rel:∃stk,b.Rel l stk
 val:Valid l
 on:vP p l k=vP p [] 0
theorem VL p:Read p 0 PB.start []:=⟨by omega,by simp,rfl,⟨[],Xt⟩,by intro k h;simp at h,rfl⟩
theorem Zj{p}{k}{b}{l}(h:Read p k b l)(U:k<p.size)(j:(kS p k).2=0)(G:may l (kS p k).1=0):∃m:Nat,(kS p k).1.to=m/\k<m/\Read p m (b.next (jQ (kS p k).1)) (l++[yU l (kS p k).1]):=by
 have W:=tq p k (by omega) (by omega) j;obtain⟨m,J⟩:=oQ (show 0<=(kS p k).1.to by omega);have I:=Pn p k j;obtain⟨Y,O⟩:=h.rel;refine⟨m,J,by omega,by omega,by simp;have:=h.len;omega,?_,zAi O h.val I G,Fq h.val I G,?_⟩
 ·rw[PB.Kl,<-h.run];show _=b.next (jQ (yU l (kS p k).1));rw[Jh]
 ·rw[<-h.on,Zi p l k (by omega) (by omega) j G,J]
end Mt
namespace Go.Proofs.YtebpgfodelggoaaGreat
open Go.RowKit _root_.Go.Proofs.Tryz Mt
theorem zB7{p k b l}(h:Mt.Read p k b l)(Y:p.size<=64):BOk b:=by
 obtain⟨Z,j⟩:=h.rel;have W:=h.len;have U:=h.le;obtain⟨I,J,O,G⟩:=zB6 j (by omega);exact⟨by omega,by omega,by omega,j.sq,j.la,G⟩
theorem zB8{L w g b so ao oo sc ac Y p k l}(h:bO L w g b so ao oo sc ac Y)(G:Mt.Read p k b l)(U:p.size<=64) t(I:vg t):
  CT 117 #[.pointer (some ⟨g,0,none⟩),jv (jQ t)] w (Takes L w g so ao oo (may l t) (b.next (jQ t))):=by
 have j:=zB7 G U;obtain⟨a6,W⟩:=G.rel;rw[<-Rx W (BU G.val) I];obtain⟨⟨a2,a3⟩,Z,J,a0,a1⟩:=I;have O:t.kind=1\/t.kind=2\/t.kind=3\/t.kind=4\/t.kind=5\/t.kind=6\/t.kind=7\/t.kind=8:=by omega
 rcases O with e | e | e | e | e | e | e | e
 ·exact IK _ h j (by rw[qH,e];decide)
 ·obtain⟨a4,a5⟩:=J e;exact Zh _ h j (by rw[qH,e];decide) t.n.toNat (by simp[jQ,e];omega) (by omega)
 ·exact IK _ h j (by rw[qH,e];decide)
 ·exact IK _ h j (by rw[qH,e];decide)
 ·exact zB3 _ h j (by rw[qH,e];decide)
 ·exact Zg _ h j (by rw[qH,e];decide)
 ·exact VJ _ h j (by rw[qH,e];decide)
 ·exact zB4 _ h j (by rw[qH,e];decide)
theorem bB:(prog.info? 107).map (·.size)=some 2:=by kernel_rfl
theorem VN(p:BA) w(J:64<p.size)(h:p.size<=maxLen):
  Calls prog 89 #[.string p] w λe w'=>e=.returned (.tuple #[.agg #[.slice none 0 0,.slice none 0 0],.int .i64 1,.int .i64 0])/\Below w.heap.size w w':=by
 have j:decide (64<(p.size:Int))=true:=by simp;omega
 have G:decide (64<p.size)=true:=by simp;omega
 have I:p.size<=9223372036854775807:=by unfold maxLen at h;omega
 go_in
 go_wp2_with fail
 go_returns;exact⟨rfl,by go_grown⟩
end Go.Proofs.YtebpgfodelggoaaGreat
namespace Mt
theorem IL p(h:p.size<=64):zP p=if(vP p [] 0).2.1≠0 then vP p [] 0 else if 0<kE (vP p [] 0).1 then([],11,(p.size:Int))else((vP p [] 0).1,0,0):=by
 unfold zP;rw[lC (by omega),dP p h]
theorem Mk{p}(G:p.size<=64){e k}(h:vP p [] 0=([],e,k))(j:e≠0):(zP p).2=(e,k):=by
 rw[IL p G,h,lG j]
theorem Aw{p}(G:p.size<=64){l}{k}(h:vP p [] 0=(l,0,k))(j:0<kE l):(zP p).2=(11,(p.size:Int)):=by
 rw[IL p G,h,lC (by simp),lG j]
theorem Tg{p}(G:p.size<=64){l}{k}(h:vP p [] 0=(l,0,k))(j:¬0<kE l):zP p=(l,0,0):=by
 rw[IL p G,h,lC (by simp),lC j]
end Mt
namespace Go.Proofs.YtebpgfodelggoaaGreat
open Go.RowKit _root_.Go.Proofs.Tryz Mt
structure vQ (L:Nat) (w:World) (b:PB) (so ao:Option Addr) (sc ac:Nat):Prop where
 zK:w.ownsRow L 183 2 (.slice so b.zK.length sc) b.zK.length (b.zK.flatMap UK)
 zC:w.ownsRow L 200 20 (.slice ao b.zC.length ac) b.zC.length (b.zC.flatMap pU)
def fU(b:PB)(so ao:Option Addr)(sc ac:Nat):Value:=.agg #[.slice so b.zK.length sc,.slice ao b.zC.length ac]
def bN(b:PB)(so ao:Option Addr)(sc ac:Nat):Array Value:=#[.slice so b.zK.length sc,.slice ao b.zC.length ac]
def Builds(p:BA)(w:World)(e:Ending)(w':World):Prop:=
 ((zP p).2.1≠0->e=.returned (.tuple #[.agg #[.slice none 0 0,.slice none 0 0],.int .i64 (zP p).2.1,.int .i64 (zP p).2.2]))/\
 ((zP p).2.1=0->∃so ao sc ac,e=.returned (.tuple #[fU (PB.start.run (zP p).1) so ao sc ac,.int .i64 0,.int .i64 0])/\vQ w.heap.size w' (PB.start.run (zP p).1) so ao sc ac)/\Below w.heap.size w w'
theorem CG{p}{w w'}{e}{E k}(h:(zP p).2=(E,k))(G:E≠0)(J:e=.returned (.tuple #[.agg #[.slice none 0 0,.slice none 0 0],.int .i64 E,.int .i64 k]))(I:Below w.heap.size w w'):Builds p w e w':=by
 refine⟨λ_=>by rw[h];exact J,λj=>?_,I⟩;rw[h]at j;exact absurd j G
def CJ:Array Value:=#[.slice none 0 0,.slice none 0 0]
theorem OJ(w:World):bO (w.heap.size+1) ((w.alloc (.cells CJ 107)).alloc (.cells (bA PB.zB5 none none none 0 0 0) 171)) (w.heap.size+1) PB.zB5 none none none 0 0 0:=
 ⟨nA _ _ _,lF _,oC _ _ _ _,oC _ _ _ _,oC _ _ _ _,⟨by simp[blk],by simp[blk],by simp[blk],λq h=>by simp[blk]at h,λq h=>by simp[blk]at h⟩,rfl⟩
theorem Ni{j}{p u v:Tmp}{G}(I:j.results=#[.cell p G,.tmp u,.tmp v]) h P w:
  (results j h).run P w=
   ((asAddr (h.getD p undef)).run P w).andThen λa w₁=>((loadVar G a).run P w₁).andThen λx w₂=>.ok (.tuple #[x,h.getD u undef,h.getD v undef]) w₂:=by
 simp only[results,I];simp[aD,Result.andThen]
theorem Af{P}{G}{p u v:Tmp}(j)(n){d}(Z:P.underlying j=some d)(J:d.isRow=true)(O:(P.info? j).map (·.size)=some n)(W:G.results=#[.cell p j,.tmp u,.tmp v]){h}{w}{b}{t}{A}
  (U:h.getD p undef=.pointer (some ⟨b,0,none⟩)) (I:w.heap[b]?=some (.cells A t (0,0))) (Y:A.size=n):
  (results G h).run P w=.ok (.tuple #[.agg A,h.getD u undef,h.getD v undef]) w:=by
 rw[Ni W,U];have:=run_loadVar_mid (P:=P) w b 0 j A.toList _ (yE I) Z J (by rw[O];simp[Y]);simp[asAddr,Result.andThen,this]
theorem Ag:CJ.all (·.oneCell')=true:=by simp[CJ,Value.oneCell']
theorem zB9(p:BA) w(a5:p.size<=64):
  Calls prog 89 #[.string p] w (Builds p w):=by
 have i1:decide (64<(p.size:Int))=false:=by simp;omega
 have h:decide (64<p.size)=false:=by simp;omega
 have d3:=hid (dx (OJ w) (by decide))
 go_in
 go_wp2_with fail
 refine d3.o.mono ?_;rintro e w1 ⟨rfl,d0,c9,U,c5⟩;have f1:w1.heap[w.heap.size]?=some (.cells CJ 107 (0,0)):=(c5.block w.heap.size (by simp;omega) (by rintro(e | e | e | e);omega;simp[blk]at e;simp[blk]at e;simp[blk]at e)).trans (nN _ _ _);obtain⟨h9,i0,i8,_,_,_,_,f7⟩:=U.cells;have i9:=f7 2;have e6:=(((lK _ _).alloc (lF _) _).alloc (by simp) _).trans ((c5.low (OJ w) (by simp)).mono (by omega));have d7:=U.field (k:=2) (v:=.int .i64 0) (b':=PB.start) (bf:=d0) (nR:=none) (jl:=none) (sc':=c9) (AY:=0) (Ey:=0) (by unfold bA;rfl) U.zK U.zC U.opn U.ap U.cl
 have c0:Hid (bO (w.heap.size+1) (w1.setCell ⟨w.heap.size+1,2,none⟩ (.int .i64 0)) (w.heap.size+1) PB.start d0 none none c9 0 0/\(w1.setCell ⟨w.heap.size+1,2,none⟩ (.int .i64 0)).heap[w.heap.size]?=some (.cells CJ 107 (0,0))/\Below w.heap.size w (w1.setCell ⟨w.heap.size+1,2,none⟩ (.int .i64 0))):=
  ⟨d7,(lS _ _ _ _ (by show w.heap.size≠w.heap.size+1;omega)).trans f1,e6.setCell (p:=⟨w.heap.size+1,2,none⟩) (by simp) _⟩
 clear U c5 f1 f7 e6 d7 d3 h9 i0;go_wp2_with fail
 go_loopw [7] (λat' wr=>∃(k:Nat) (l:List zU) (b:PB) (so ao oo:Option Addr) (sc ac f4:Nat),at'=.int .i64 k/\Mt.Read p k b l/\bO (w.heap.size+1) wr (w.heap.size+1) b so ao oo sc ac f4/\wr.heap[w.heap.size]?=some (.cells CJ 107 (0,0))/\Below w.heap.size w wr) (λat' _=>p.size-(intOf at').toNat)
 case atStart=>exact⟨0,[],PB.start,d0,none,none,c9,0,0,rfl,VL p,c0.o.1,c0.o.2.1,c0.o.2.2⟩
 case round =>
  obtain⟨k,l,b,so,ao,oo,sc,ac,f4,rfl,c3,b4,hz,e2⟩:=hrel;have i4:=c3.le;have G:=hid c3;have a7:=hid b4;have b3:=hid hz;have b2:=hid e2;have i2:=(b4.lt _ (gG rfl)).2;obtain⟨_,_,_,_,j0,_,_,_⟩:=b4.cells;clear c3 b4 hz e2;by_cases g9:k<p.size
  ·have c6:=Pn p k;have a2:=hid (zA0 p k wr a5 (by omega) (by omega));by_cases j:(kS p k).2=0
   ·have a8:dX p k=(jQ (kS p k).1,0):=by unfold dX;rw[lG j]
    have f8:=hid (c6 j);have d4:=hid j;simp only[a8]at a2;clear c6 j a8;generalize e4:jQ (kS p k).1=T at *;have c2:=hid e4;clear e4;go_wp2_with fail
    refine a2.o.mono ?_;rintro e a0 ⟨rfl,h⟩;have g8:=h.size;have a1:=hnd (a7.o.below h) (And.intro ((h.block _ (by omega)).trans b3.o) (b2.o.trans (h.mono (by omega))));clear h a2;have f9:Hid (¬own (w.heap.size+1) so ao oo a0.heap.size):=λe8=>by have:=(a7.o.lt _ e8).2;omega
    go_wp2_with (first|(refine zN 174 8 qF (by rfl) (.tmp 8) (.tmp 26) (by rfl) a0.heap.size (pQ T) (by rfl) (by rfl) (by exact jP _ _) (by rfl) (by rfl) (pR _) ?_;intro d2 a6 b9 c8 a9)|(refine kY 174 8 underlying174 rfl qF (by rfl) (.tmp 8) (by rfl) a0.heap.size (by rfl) a6 (by rfl) ?_))
    have b7:=((lK _ _).alloc (lF _) _).trans (a9 _ (lF _));have h1:=(lM.1 a6).1;have a3:=zB8 (a1.o.1.below b7) G.o a5 (kS p k).1 f8.o;rw[c2.o]at a3;have b1:=hnd ((b7.block _ (by omega)).trans a1.o.2.1) (a1.o.2.2.trans (b7.mono (by omega)));have g0:=hid a6;clear a6 b9 c8 a9 b7;by_cases J:may l (kS p k).1=0
    ·obtain⟨m,e7,i5,c4⟩:=Zj G.o g9 d4.o J;rw[c2.o]at c4;have d6:=hid c4;have e5:T.en=m:=by rw[<-c2.o];exact e7
     rw[J]at a3;refine a3.mono ?_;clear a3 J e7 c4;rintro e f6 ⟨rfl,b5,W⟩;obtain⟨bf,nR,jl,sc',AY,Ey,e1,e3⟩:=b5 rfl;have f5:=(zB ((e3.block a0.heap.size h1 f9.o).trans g0.o)).1 1;change f6.cell? ⟨a0.heap.size,1,none⟩=some (.int .i64 T.en)at f5;rw[e5]at f5;have a4:=hnd e1 (And.intro ((W.block _ (by omega)).trans b1.o.1) (b1.o.2.trans (W.mono (by omega))));clear b5 W e1 e3 e5;have i6:=d6.o.le;go_wp2_with fail
     go_roundw
     case rel=>exact⟨m,_,_,bf,nR,jl,sc',AY,Ey,rfl,d6.o,a4.o.1,a4.o.2.1,a4.o.2.2⟩
     case measure=>simp[intOf];omega
    ·have I:Hid ((zP p).2=(may l (kS p k).1,(k:Int))):=Mk a5 (by rw[<-G.o.on];exact Tf p l k (by omega) (by omega) d4.o J) J;generalize may l (kS p k).1=M at *;have h2:(M==0)=false:=by simpa using J
     have h3:(M != 0)=true:=by simpa using J
     refine a3.mono ?_;clear a3;rintro e f6 ⟨rfl,b5,W⟩;have a4:=hnd ((W.block _ (by omega)).trans b1.o.1) (b1.o.2.trans (W.mono (by omega)));clear b5 W;have c1:=hid J;clear J;go_wp2_with (refine zN 107 2 bB (by rfl) (.tmp 2) (.tmp 34) (by rfl) w.heap.size CJ (by rfl) (by rfl) a4.o.1 (by rfl) (by rfl) Ag ?_;intro b0 Y b8 c7 Z)
     refine lT (Af 107 2 underlying107 rfl bB rfl (by rfl) Y (by rfl)) rfl ?_;exact CG I.o c1.o rfl (a4.o.2.trans (Z _ (lF _)))
   ·have a8:dX p k=(mJ,(kS p k).2):=by unfold dX;rw[lC j]
    have I:Hid ((zP p).2=((kS p k).2,(k:Int))):=Mk a5 (by rw[<-G.o.on];exact Te p l k (by omega) (by omega) j) j;simp only[a8]at a2;clear c6 a8;generalize (kS p k).2=M at *;have h2:(M==0)=false:=by simpa using j
    have h3:(M != 0)=true:=by simpa using j
    have c1:=hid j;clear j;go_wp2_with fail
    refine a2.o.mono ?_;rintro e a0 ⟨rfl,h⟩;have a1:=hnd ((h.block _ (by omega)).trans b3.o) (b2.o.trans (h.mono (by omega)));have g8:=h.size;clear h a2;go_wp2_with (first|(refine zN 174 8 qF (by rfl) (.tmp 8) (.tmp 26) (by rfl) a0.heap.size (pQ mJ) (by rfl) (by rfl) (by exact jP _ _) (by rfl) (by rfl) (pR _) ?_;intro d2 a6 b9 c8 a9;have d8:Hid (d2.heap[w.heap.size]?=some (.cells CJ 107 (0,0))/\Below w.heap.size w d2):=⟨(b9 _ (by omega)).trans ((kQ _ _ _ (by omega)).trans a1.o.1),(a1.o.2.alloc (by omega) _).trans (a9 _ (by omega))⟩;clear a6 b9 c8 a9)|(refine zN 107 2 bB (by rfl) (.tmp 2) (.tmp 34) (by rfl) w.heap.size CJ (by rfl) (by rfl) d8.o.1 (by rfl) (by rfl) Ag ?_;intro b0 Y b8 c7 Z))
    refine lT (Af 107 2 underlying107 rfl bB rfl (by rfl) Y (by rfl)) rfl ?_;exact CG I.o c1.o rfl (d8.o.2.trans (Z _ (lF _)))
  ·have i3:k=p.size:=by omega
   have d5:Hid (vP p [] 0=(l,0,(k:Int))):=by show _=_;rw[<-G.o.on];exact VK p l k (by omega) (by omega)
   have e9:(b.opn.length:Int)=kE l:=by
    obtain⟨h8,b6⟩:=G.o.rel;rw[b6.len,b6.op]
   have i7:b.opn.length<=64:=by
    obtain⟨h8,b6⟩:=G.o.rel;exact(zB6 b6 (by have:=G.o.len;omega)).2.2.1
   by_cases e8:0<b.opn.length
   ·have I:=hid (Mt.Aw a5 d5.o (by omega));have h4:decide (0<(b.opn.length:Int))=true:=by simp;omega
    have h5:decide (0<b.opn.length)=true:=by simp;omega
    clear e9;go_wp2_with (refine zN 107 2 bB (by rfl) (.tmp 2) (.tmp 43) (by rfl) w.heap.size CJ (by rfl) (by rfl) b3.o (by rfl) (by rfl) Ag ?_;intro b0 Y b8 c7 Z)
    refine lT (Af 107 2 underlying107 rfl bB rfl (by rfl) Y (by rfl)) rfl ?_;exact CG I.o (by decide) rfl (b2.o.trans (Z _ (lF _)))
   ·have I:=hid (Tg a5 d5.o (by omega));have h4:decide (0<(b.opn.length:Int))=false:=by simp only[lW];omega
    have h5:decide (0<b.opn.length)=false:=by simp only[lW];omega
    have g1:Hid (wr.rangeAt (w.heap.size+1) 0 (bN b so ao sc ac).toList):=λf2 v O=>by
     rw[rO,(zB a7.o.cell).1]
     match f2,O with
     | 0,O=>simpa[bN,bA]using O
     | 1,O=>simpa[bN,bA]using O
     | f2+2,O=>simp[bN]at O
    clear e9;go_wp2_with (first|(refine wpList_load_mid (by rfl) 107 (.tmp 46) (by rfl) (w.heap.size+1) 0 (by rfl) (bN b so ao sc ac).toList _ g1.o underlying107 rfl (by rw[bB];rfl) ?_)|(refine zN 107 2 bB (by rfl) (.tmp 2) (.tmp 47) (by rfl) w.heap.size (bN b so ao sc ac) (by rfl) (by rfl) b3.o (by rfl) (by rfl) (by simp[bN,Value.oneCell']) ?_;intro b0 Y b8 c7 Z))
    refine lT (Af 107 2 underlying107 rfl bB rfl (by rfl) Y (by rfl)) rfl ?_;have g6:=b2.o.trans (Z _ (lF _));refine⟨λd9=>absurd (by rw[I.o]) d9,λ_=>⟨so,ao,sc,ac,?_,?_⟩,g6⟩
    ·rw[I.o,<-G.o.run];rfl
    ·rw[I.o,<-G.o.run];have h6:=b8
     have f3:∀(o:Option Addr) (n c:Nat) (e:TypeId) (d1:Nat) (xs:List Value),wr.ownsRow (w.heap.size+1) e d1 (.slice o n c) n xs->b0.ownsRow w.heap.size e d1 (.slice o n c) n xs:=by
      intro o n c e d1 xs f0;have e0:=zR (w':=b0) f0 (λq h0=>h6 q (λe=>by have:=(lY f0 q (by rw[jC];exact h0)).1;omega));refine⟨e0.1,?_⟩;rcases e0.2 with g5 | ⟨g4,g2,g3,O,d9,g7,h7⟩
      ·exact .inl g5
      ·exact .inr ⟨g4,g2,g3,O,by omega,g7,h7⟩
     exact⟨f3 _ _ _ _ _ _ a7.o.zK,f3 _ _ _ _ _ _ a7.o.zC⟩
theorem Zk(p:BA) w(j:p.size<=maxLen):CT 89 #[.string p] w (Builds p w):=by
 by_cases G:p.size<=64
 ·exact zB9 p w G
 ·have I:(zP p).2=(1,0):=by unfold zP;rw[lG (by omega)]
  exact(VN p w (by omega) j).mono (λe w' h=>CG I (by decide) h.1 h.2)
theorem Ti(n:Nat) w:Calls prog 119 #[.int .i64 (n)] w λe w'=>e=.returned (.int .i64 (lim n))/\w=w':=by
 by_cases G:300<n
 ·have e:lim n=301:=by unfold lim;omega
  have h:decide (300<(n:Int))=true:=by simp;omega
  have j:decide (300<n)=true:=by simp;omega
  rw[e];clear e
  go_in
  go_wp2
  go_ret;exact⟨rfl,rfl⟩
 ·have e:lim n=n:=by unfold lim;omega
  have h:decide (300<(n:Int))=false:=by simp;omega
  have j:decide (300<n)=false:=by simp;omega
  rw[e];clear e
  go_in
  go_wp2
  go_ret;exact⟨rfl,rfl⟩
theorem zDF:rp none=mJ:=rfl
theorem zDG q(h:q.kind=8):rp (some q)=⟨4,q.to,0,0,q.n,q.m,q.jB+1,q.set⟩:=by
 show jQ q=_;unfold jQ;rw[h];rfl
theorem mO(x:Int)(n:Nat)(h:x=n) w:CT 119 #[.int .i64 x] w λe w'=>e=.returned (.int .i64 (lim n))/\w=w':=by subst h;exact Ti n w
theorem IQ(o:Nat) r w(a7:o<=301)(Y:BZ r)(O:Hr r):
  Calls prog 160 #[.int .i64 (o),jv (rp r)] w λe w'=>e=.returned (.int .i64 (lim (rG o r):Nat))/\Below w.heap.size w w':=by
 cases r with
 | none =>
  rw[zDF];have e:lim (rG o none)=o:=by show lim o=o;unfold lim;omega
  rw[e];clear e Y O;unfold jv pQ mJ
  go_in
  go_wp2_with fail
  go_ret;exact⟨rfl,by go_grown⟩
 | some q =>
  rw[zDG q (O q rfl)];obtain⟨a3,a8,a9,b0,b1,b2,a0⟩:=Y q rfl;obtain⟨n,W⟩:=oQ a3;have a2:n*o<=20*301:=sZ (by omega) a7;have I:((n:Int)*(o:Int))=((n*o:Nat):Int):=by simp
  have b8:0<=(n:Int)*(o:Int):=by rw[I];omega
  have b9:(n:Int)*(o:Int)<=6020:=by rw[I];omega
  have J:Hid (((n:Int)*(o:Int))=((n*o:Nat):Int)):=I;by_cases G:q.m=-1
  ·have j:rG o (some q)=n*o+(o+3)+(if q.jB=2 then 2 else 0):=by
    show AQ o q=_;unfold AQ;rw[lG G,show q.n.toNat=n by omega]
   rw[j,G,W];clear j Y O a0 I G W a2;unfold jv pQ;by_cases h:q.jB=2
   ·rw[lG h,h];clear h
    go_in
    go_wp2_with fail
    refine(mO _ (n*o+(o+3)+2) (by have:=J.o;omega) _).mono ?_;rintro e w1 ⟨rfl,rfl⟩;go_wp2_with fail
    go_ret;exact⟨rfl,by go_grown⟩
   ·have a4:(q.jB+1==3)=false:=by simp;omega
    rw[lC h];clear h
    go_in
    go_wp2_with fail
    refine(mO _ (n*o+(o+3)+0) (by have:=J.o;omega) _).mono ?_;rintro e w1 ⟨rfl,rfl⟩;go_wp2_with fail
    go_ret;exact⟨rfl,by go_grown⟩
  ·obtain⟨m,a1⟩:=oQ (show 0<=q.m by omega);obtain⟨d,a5⟩:∃d:Nat,m=n+d:=⟨m-n,by omega⟩
   subst a5
   have j:rG o (some q)=n*o+d*(o+1)+(if q.jB=2 then 2 else 0):=by
    show AQ o q=_;unfold AQ;rw[lC G,show q.n.toNat=n by omega,show(q.m-q.n).toNat=d by omega]
   have a6:d*(o+1)<=20*302:=sZ (by omega) (by omega);have U:((d:Int)*((o:Int)+1))=((d*(o+1):Nat):Int):=by simp
   have c0:0<=(d:Int)*((o:Int)+1):=by rw[U];omega
   have c1:(d:Int)*((o:Int)+1)<=6040:=by rw[U];omega
   have Z:=hid U;have b3:(((n+d:Nat):Int)==-1)=false:=by simp;omega
   have b5:(d:Int)<=20:=by omega
   have b6:(n:Int)<=20:=by omega
   have b7:((n+d:Nat):Int)-(n:Int)=d:=by omega
   have b4:(n:Int)+(d:Int)-(n:Int)=d:=by omega
   rw[j,a1,W];clear j Y O a0 I G W a2 a6 U a1;unfold jv pQ;by_cases h:q.jB=2
   ·rw[lG h,h];clear h
    go_in
    go_wp2_with fail
    refine(mO _ (n*o+d*(o+1)+2) (by have:=J.o;have:=Z.o;omega) _).mono ?_;rintro e w1 ⟨rfl,rfl⟩;go_wp2_with fail
    go_ret;exact⟨rfl,by go_grown⟩
   ·have a4:(q.jB+1==3)=false:=by simp;omega
    rw[lC h];clear h
    go_in
    go_wp2_with fail
    refine(mO _ (n*o+d*(o+1)+0) (by have:=J.o;have:=Z.o;omega) _).mono ?_;rintro e w1 ⟨rfl,rfl⟩;go_wp2_with fail
    go_ret;exact⟨rfl,by go_grown⟩
section
variable {L:Nat} {w:World} {b:PB} {so ao:Option Addr} {sc ac:Nat}
theorem vQ.below{w'}(h:vQ L w b so ao sc ac)(G:Below w.heap.size w w'):vQ L w' b so ao sc ac:=
 ⟨zR h.zK (λq j=>G.block q (lY h.zK q (by rw[jC];exact j)).2),zR h.zC (λq j=>G.block q (lY h.zC q (by rw[jC];exact j)).2)⟩
theorem vQ.xq(I:vQ L w b so ao sc ac) i(J:i<b.zK.length):∃h,so=some ⟨h,0,none⟩/\h<w.heap.size/\b.zK.length<=sc/\w.cell? ⟨h,i*2,none⟩=some (.int .i64 (b.xQ i).first)/\w.cell? ⟨h,i*2+1,none⟩=some (.int .i64 (b.xQ i).next):=by
 obtain⟨h,cap,j,_,U⟩:=World.ownsRow.form I.zK (by omega);simp only[oD]at j;obtain⟨rfl,_,rfl⟩:=j
 have c:∀G,G<2->w.cell? ⟨h,i*2+G,none⟩=(UK (b.xQ i))[G]?:=λG O=>by
  rw[gU I.zK _ (by omega),flat_get UK 2 PL ps0 _ _ _ J O];rfl
 rcases I.zK.2 with ⟨e,_⟩ | ⟨Z,W,Y,j,_,_,a0,_⟩
 ·simp at e
 ·simp only[oD]at j;exact⟨h,rfl,U,by omega,c 0 (by decide),c 1 (by decide)⟩
theorem vQ.CK(G:vQ L w b so ao sc ac) i(J:i<b.zC.length):∃ga,ao=some ⟨ga,0,none⟩/\ga<w.heap.size/\b.zC.length<=ac/\(∀h,h<20->w.cell? ⟨ga,i*20+h,none⟩=(pU (b.qI i))[h]?):=by
 obtain⟨I,cap,j,_,U⟩:=World.ownsRow.form G.zC (by omega);simp only[oD]at j;obtain⟨rfl,_,rfl⟩:=j
 have c:∀h,h<20->w.cell? ⟨I,i*20+h,none⟩=(pU (b.qI i))[h]?:=λh O=>by
  rw[gU G.zC _ (by omega),flat_get pU 20 Ez pa0 _ _ _ J O];rfl
 rcases G.zC.2 with ⟨e,_⟩ | ⟨Z,W,Y,j,_,_,a0,_⟩
 ·simp at e
 ·simp only[oD]at j;exact⟨I,rfl,U,by omega,c⟩
end
theorem fP:(prog.info? 200).map (·.size)=some 20:=by kernel_rfl
theorem Qu a:(pU a).toArray.all (·.oneCell')=true:=by
 rw[wH];simp[pU,WC,Value.oneCell']
def zDH(b:PB)(so ao:Option Addr)(sc ac:Nat)(N:Nat):Prop:=
 ∀(f:Fs),f.wf->f.ok->f.zJ.length<N->∀(s:Nat),s<b.zK.length->yO b 0 0 f (b.xQ s).first (b.xQ s).next->∀(L:Nat) (w:World),vQ L w b so ao sc ac->
  CT 118 #[fU b so ao sc ac,.int .i64 (s:Int)] w λe w'=>e=.returned (.int .i64 (lim f.re.len:Nat))/\Below w.heap.size w w'
theorem Nj{b so ao sc ac L w}(O:vQ L w b so ao sc ac) k(a8:k<b.zC.length)(b4:b.zC.length<=1000)(U:(b.qI k).body=-1):
  Calls prog 159 #[fU b so ao sc ac,.int .i64 (k)] w λe w'=>e=.returned (.int .i64 1)/\Below w.heap.size w w':=by
 obtain⟨h,rfl,a6,b2,W⟩:=O.CK k a8
 have J:∀j:World,(∀q,q<w.heap.size->j.heap[q]?=w.heap[q]?)->j.rangeAt h (k*20) (pU (b.qI k)):=λj a5 I v G=>by
  by_cases a7:I<20
  ·rw[gH (a:=⟨h,k*20+I,none⟩) (a5 h a6),W I a7];exact G
  ·rw[gQ (by rw[Ez];omega)]at G;simp at G
 have a3:=hid J;have a2:=hid U;clear J W O U;have b3:(k:Int)<(b.zC.length:Int):=by omega
 unfold fU;generalize b.qI k=A at *;generalize b.zC.length=N at *
 go_in
 go_wp2_with (first|(refine wpList_load_mid (by rfl) 200 (.tmp 10) (by rfl) h (k*20) (by rfl) (pU A) _ (a3.o _ (λq a9=>kQ _ _ _ a9)) underlying200 rfl (by rw[fP];rfl) ?_)|(refine zN 200 20 fP (by rfl) (.tmp 5) (.tmp 11) (by rfl) (w.heap.size+1) (pU A).toArray (by rfl) (by rfl) (by exact nA _ _ _) (by rfl) (by rfl) (Qu A) ?_;intro a1 Y b0 b1 Z;have a0:=(zB Y).1 17;change a1.cell? ⟨w.heap.size+1,17,none⟩=some (.int .i64 A.body)at a0;rw[a2.o]at a0;have a4:Hid (Below w.heap.size w a1):=(((lK _ _).alloc (lF _) _).alloc (by simp) _).trans (Z _ (by omega));clear Y b0 b1 Z))
 go_returns;exact⟨rfl,a4.o⟩
theorem Qv{b}{so ao}{sc ac N}(c0:zDH b so ao sc ac N){L}{w}(b2:vQ L w b so ao sc ac)(k)(d2:k<b.zC.length)(e0:b.zC.length<=1000)(e1:b.zK.length<=1000)(t)(i)(d4:t.kind=6)(d7:0<=t.jB/\t.jB<=4)(c9:i.wf)(c6:i.ok)(c5:i.zJ.length<N)
  (c8:(b.qI k).tok=jQ t) (q:Nat) (U:(b.qI k).body=q) (d3:q<b.zK.length) (c7:yO b 0 0 i (b.xQ q).first (b.xQ q).next):
  Calls prog 159 #[fU b so ao sc ac,.int .i64 (k)] w λe w'=>e=.returned (.int .i64 (lim (iy t i.re).len:Nat))/\Below w.heap.size w w':=by
 have a6:=hid (λY b3=>c0 i c9 c6 c5 q d3 c7 L Y (b2.below b3));obtain⟨a0,rfl,d0,d6,c2⟩:=b2.CK k d2
 have c1:∀Y:World,(∀q,q<w.heap.size->Y.heap[q]?=w.heap[q]?)->Y.rangeAt a0 (k*20) (pU (b.qI k)):=λY b3 b5 v b4=>by
  by_cases d1:b5<20
  ·rw[gH (a:=⟨a0,k*20+b5,none⟩) (b3 a0 d0),c2 b5 d1];exact b4
  ·rw[gQ (by rw[Ez];omega)]at b4;simp at b4
 have b9:=hid c1;have b7:=hid U;have c4:(b.qI k).tok.group=Ri t.jB:=by rw[c8];simp[jQ,d4]
 have b8:=hid c4;have d9:=BX i.re.len;have d8:(k:Int)<(b.zC.length:Int):=by omega
 have c3:(Ri t.jB==2)=decide (t.jB=3):=by
  unfold Ri;by_cases b1:t.jB=4
  ·rw[lG b1,b1];rfl
  ·rw[lC b1];by_cases h:t.jB=3
   ·rw[lG h,h];rfl
   ·rw[lC h];simp[h];omega
 have a5:Hid (lim (iy t i.re).len=if t.jB=3 then lim i.re.len else lim (lim i.re.len+2)):=by
  show _=_;rw[Xv];by_cases h:t.jB=3
  ·rw[lG h,lG h];rfl
  ·rw[lC h,lC h];unfold lim;omega
 clear c1 c2 b2 U c7 c9 c6 c5 c0 c8 c4;unfold fU;unfold fU at a6;generalize b.qI k=A at *;generalize b.zC.length=d5 at *;generalize lim i.re.len=a7 at *;cases h:decide (t.jB=3)
 ·rw[h]at c3;have W:Hid (lim (iy t i.re).len=lim (a7+2)):=by show _=_;rw[a5.o,lC (by simpa using h)]
  rw[W.o];clear a5 W h
  go_in
  go_wp2_with (first|(refine wpList_load_mid (by rfl) 200 (.tmp 10) (by rfl) a0 (k*20) (by rfl) (pU A) _ (b9.o _ (λq U=>kQ _ _ _ U)) underlying200 rfl (by rw[fP];rfl) ?_)|(refine zN 200 20 fP (by rfl) (.tmp 5) (.tmp 11) (by rfl) (w.heap.size+1) (pU A).toArray (by rfl) (by rfl) (by exact nA _ _ _) (by rfl) (by rfl) (Qu A) ?_;intro G I a1 b6 a2;have a3:=(zB I).1 17;change G.cell? ⟨w.heap.size+1,17,none⟩=some (.int .i64 A.body)at a3;rw[b7.o]at a3;have O:=(a1 w.heap.size (by omega)).trans (nN _ _ _);have a9:=(zB O).1 0;have b0:=(zB O).1 1;simp only[oI,gI,sG]at a9 b0;have j:Hid (Below w.heap.size w G/\G.heap[w.heap.size+1]?=some (.cells (pU A).toArray 200 (0,0))/\w.heap.size+1<G.heap.size):=⟨(((lK _ _).alloc (lF _) _).alloc (by simp) _).trans (a2 _ (by omega)),I,(lM.1 I).1⟩;clear I a1 b6 a2 O))
  refine(a6.o G j.o.1).mono ?_;rintro e a4 ⟨rfl,J⟩;have Z:=(zB ((J.block _ j.o.2.2).trans j.o.2.1)).1 2;change a4.cell? ⟨w.heap.size+1,2,none⟩=some (.int .i64 A.tok.group)at Z;rw[b8.o]at Z;have a8:Hid (Below w.heap.size w a4):=j.o.1.trans (J.mono (by have:=j.o.2.2;omega));clear J;go_wp2_with (go_at_call 119;refine(mO _ (a7+2) (by omega) _).mono ?_;rintro e w' ⟨rfl,rfl⟩)
  go_returns;exact⟨rfl,a8.o⟩
 ·rw[h]at c3;have W:Hid (lim (iy t i.re).len=a7):=by show _=_;rw[a5.o,lG (by simpa using h)]
  rw[W.o];clear a5 W h
  go_in
  go_wp2_with (first|(refine wpList_load_mid (by rfl) 200 (.tmp 10) (by rfl) a0 (k*20) (by rfl) (pU A) _ (b9.o _ (λq U=>kQ _ _ _ U)) underlying200 rfl (by rw[fP];rfl) ?_)|(refine zN 200 20 fP (by rfl) (.tmp 5) (.tmp 11) (by rfl) (w.heap.size+1) (pU A).toArray (by rfl) (by rfl) (by exact nA _ _ _) (by rfl) (by rfl) (Qu A) ?_;intro G I a1 b6 a2;have a3:=(zB I).1 17;change G.cell? ⟨w.heap.size+1,17,none⟩=some (.int .i64 A.body)at a3;rw[b7.o]at a3;have O:=(a1 w.heap.size (by omega)).trans (nN _ _ _);have a9:=(zB O).1 0;have b0:=(zB O).1 1;simp only[oI,gI,sG]at a9 b0;have j:Hid (Below w.heap.size w G/\G.heap[w.heap.size+1]?=some (.cells (pU A).toArray 200 (0,0))/\w.heap.size+1<G.heap.size):=⟨(((lK _ _).alloc (lF _) _).alloc (by simp) _).trans (a2 _ (by omega)),I,(lM.1 I).1⟩;clear I a1 b6 a2 O))
  refine(a6.o G j.o.1).mono ?_;rintro e a4 ⟨rfl,J⟩;have Z:=(zB ((J.block _ j.o.2.2).trans j.o.2.1)).1 2;change a4.cell? ⟨w.heap.size+1,2,none⟩=some (.int .i64 A.tok.group)at Z;rw[b8.o]at Z;have a8:Hid (Below w.heap.size w a4):=j.o.1.trans (J.mono (by have:=j.o.2.2;omega));clear J;go_wp2_with fail
  go_returns;exact⟨rfl,a8.o⟩
