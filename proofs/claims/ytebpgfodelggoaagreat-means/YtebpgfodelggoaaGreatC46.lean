import Derived.Test.YtebpgfodelggoaaGreatC45
set_option linter.all false
set_option maxRecDepth 100000
set_option maxHeartbeats 8000000
namespace Go.Proofs.YtebpgfodelggoaaGreat
open Go.RowKit _root_.Go.Proofs.Tryz Mt
def GV(k:Pk)(wo:Option Addr)(P:Told)(w:World)(q:List Int)(x:zT)(steps:Int)(hd:List Bool)(zA:Int)(W:List (List Int))(b:Bool)(w':World):Prop:=
 (x.op=2->b=false/\Waits k wo w steps hd zA ((W++[q.set 0 x.y])++[q.set 0 x.x]) w')/\
 (x.op=12\/x.op=13->b=true/\Waits k wo w steps hd zA W w')/\
 (x.op=11->b=false/\oq k wo P w q x w')/\
 (x.op≠2->x.op≠11->x.op≠12->x.op≠13->b=false/\Waits k wo w steps hd zA (wu W (kW k.t q x).2 (kW k.t q x).1) w')
section
variable {k:Pk} {w:World} {steps:Int} {hd:List Bool} {zA:Int} {wo:Option Addr} {wc:Nat} {W:List (List Int)}
theorem zV.QB(G:zV k w steps hd zA wo wc W) p h(J:p<k.c.length)(I:h<4):w.cell? ⟨k.gc,p*4+h,none⟩=(jE (k.c.getD p kC))[h]?:=by
 have j:=G.code;unfold zY at j;rw[gU j (p*4+h) (by omega),jk k.c p h J I]
structure EG (k:Pk) (wo:Option Addr) (wc:Nat) (w:World) (n:Nat) (q:List Int) (x:zT) (steps:Int) (hd:List Bool) (zA:Int) (W:List (List Int)) (w2:World):Prop where
 s:w2.heap[n]?=some (.cells (yH q) 83 (0,0))
 i:w2.heap[n+1]?=some (.cells (qQ x) 112 (0,0))
 b:Below n w w2
 z:w2.heap.size=n+2
 hn:n=w.heap.size
 p:zV k w steps hd zA wo wc W
section
variable {n:Nat} {q:List Int} {x:zT} {w2:World}
theorem EG.wait(j:EG k wo wc w n q x steps hd zA W w2) u z y(Z:u.length=43)(hz:Below n w2 z)(a3:W.length<=100000):
  CT 68 #[.pointer (some ⟨k.g,0,none⟩),.agg (yH u),.int .i64 y] z λe w'=>e=.returned (.tuple #[])/\Waits k wo w steps hd zA (W++[u.set 0 y]) w'/\(∀h,n<=h->h<z.heap.size->w'.heap[h]?=z.heap[h]?)/\z.heap.size<=w'.heap.size:=by
 have I:Below w.heap.size w z:=by rw[<-j.hn];exact j.b.trans hz
 have Y:=j.p.below I;have U:=j.p.lt;have a4:=j.hn;refine(jq u y Z Y (by omega)).mono ?_;rintro e w' ⟨rfl,a1,a0,O,G⟩;refine⟨rfl,⟨a1,a0,O,(jZ.below I).trans G⟩,λh a2 J=>G.block h J (by omega) (by omega) (λe=>by have:=(U.2.2.2.2.2 h e).2;omega),G.size⟩
theorem EG.set(j:EG k wo wc w n q x steps hd zA W w2)(G:q.length=43) h v:(w2.setCell ⟨n,h,none⟩ (.int .i64 v)).heap[n]?=some (.cells (yH (q.set h v)) 83 (0,0))/\Below n w2 (w2.setCell ⟨n,h,none⟩ (.int .i64 v))/\(w2.setCell ⟨n,h,none⟩ (.int .i64 v)).heap[n+1]?=some (.cells (qQ x) 112 (0,0)):=by
 refine⟨?_,(lK _ _).setCell (p:=⟨n,h,none⟩) (lF _) _,?_⟩
 ·rw[<-oh q G];exact lX w2 n h _ _ _ j.s
 ·exact(lS _ _ _ _ (by show n+1≠n;omega)).trans j.i
end
theorem Zp(h:zV k w steps hd zA wo wc W)(q:List Int)(a7:q.length=43)(pc a1:Nat)(c2:gt q 0=pc)(c3:gt q 1=a1)(d0:pc<k.c.length)(k3:k.c.length<=300)(k5:a1<=60)(k1:W.length<=90000)(P)(x)(g4:k.c.getD pc kC=x)
  (a2:x.op=4->0<=x.x/\x.x<11) (a3:x.op=5->0<=x.y/\x.y<11) (a0:x.op=6\/x.op=7->0<=x.x/\x.x<10) (a4:1<=x.op/\x.op<=13)
  (f9:∀z,zV k z steps hd zA wo wc W->(x.op=1\/x.op=8\/x.op=9\/x.op=10)->CT 100 #[.pointer (some ⟨k.g,0,none⟩),.agg (yH q),.agg (qQ x)] z λe w'=>e=.returned (.tuple #[])/\Waits k wo z steps hd zA (wu W (kW k.t q x).2 (kW k.t q x).1) w')
  (g2:∀z,zV k z steps hd zA wo wc W->x.op=11->CT 99 #[.pointer (some ⟨k.g,0,none⟩),.agg (yH q),.agg (qQ x)] z λe w'=>e=.returned (.tuple #[])/\oq k wo P z q x w'):
  Calls prog 70 #[.pointer (some ⟨k.g,0,none⟩),.agg (yH q)] w λe w'=>∃b,e=.returned (.bool b)/\GV k wo P w q x steps hd zA W b w':=by
 have f2:=h.cells.1;have d1:=h.QB pc 0 d0 (by omega);have d2:=h.QB pc 1 d0 (by omega);have d3:=h.QB pc 2 d0 (by omega);have d4:=h.QB pc 3 d0 (by omega);rw[g4]at d1 d2 d3 d4;have i5:=h.lt.1;have i6:=h.lt.2.1;have c6:=hid h;have k4:(pc:Int)<(k.c.length:Int):=by omega
 have h3:Hid ((x.op=4->0<=x.x/\x.x<11)/\(x.op=5->0<=x.y/\x.y<11)/\(x.op=6\/x.op=7->0<=x.x/\x.x<10)/\(1<=x.op/\x.op<=13)):=⟨a2,a3,a0,a4⟩
 have g9:Hid (∀z:World,zV k z steps hd zA wo wc W->(x.op=1\/x.op=8\/x.op=9\/x.op=10)->CT 100 #[.pointer (some ⟨k.g,0,none⟩),.agg (yH q),.agg (qQ x)] z λe w'=>e=.returned (.tuple #[])/\Waits k wo z steps hd zA (wu W (kW k.t q x).2 (kW k.t q x).1) w'):=f9;have h2:Hid (∀z:World,zV k z steps hd zA wo wc W->x.op=11->CT 99 #[.pointer (some ⟨k.g,0,none⟩),.agg (yH q),.agg (qQ x)] z λe w'=>e=.returned (.tuple #[])/\oq k wo P z q x w'):=g2;clear h a2 a3 a0 a4 f9 g2 g4;generalize g0:k.g=g at *;generalize k.gc=gc at *;generalize k.c.length=j8 at *;generalize k.cc=k0 at *
 go_in
 go_upto_region 1 with fail
 generalize c8:w.alloc (.cells (yH q) 83)=Z at *;have B1:Below w.heap.size w Z:=by rw[<-c8];exact(lK _ _).alloc (lF _) _
 have T1:Z.heap[w.heap.size]?=some (.cells (yH q) 83 (0,0)):=by rw[<-c8];exact gF _ _
 have e0:Z.heap.size=w.heap.size+1:=by rw[<-c8];simp
 have j7:Z.cell? ⟨w.heap.size,0,none⟩=some (.int .i64 pc):=by rw[(zB T1).1 0,<-c2];exact yX q 0 (by omega)
 have o:∀b I,b<w.heap.size->Z.cell? ⟨b,I,none⟩=w.cell? ⟨b,I,none⟩:=λb I i3=>gH (a:=⟨b,I,none⟩) (B1.block b i3)
 rw[<-o _ _ i5]at f2;rw[<-o _ _ i6]at d1 d2 d3 d4;have i9:Z.cell? ⟨gc,pc*4,none⟩=some (.int .i64 x.op):=d1;have j0:Z.cell? ⟨gc,pc*4+1,none⟩=some (.int .i64 x.x):=d2;have j1:Z.cell? ⟨gc,pc*4+2,none⟩=some (.int .i64 x.y):=d3;have j2:Z.cell? ⟨gc,pc*4+3,none⟩=some (.string ⟨x.set.toArray⟩):=d4;clear o d1 d2 d3 d4 c8;generalize b1:w.heap.size=n at *
 go_region
 have a5:EG k wo wc w n q x steps hd zA W (Z.alloc (.cells (qQ x) 112)).drew:=by
  refine⟨?_,?_,?_,by simp[e0],b1.symm,c6.o⟩
  ·show(Z.alloc _).heap[n]?=_;rw[kQ _ _ _ (by omega)];exact T1
  ·show(Z.alloc _).heap[n+1]?=_;rw[<-e0];exact gF _ _
  ·exact(B1.alloc (by omega) _).drew
 have g3:(Z.alloc (.cells (qQ x) 112)).drew=(Z.alloc (.cells #[.int .i64 x.op,.int .i64 x.x,.int .i64 x.y,.string ⟨x.set.toArray⟩] 112)).drew:=rfl;rw[g3]at a5;clear g3;generalize (Z.alloc (.cells #[.int .i64 x.op,.int .i64 x.x,.int .i64 x.y,.string ⟨x.set.toArray⟩] 112)).drew=w2 at *;have S2:=a5.s;have c1:=zB S2;have c9:=zB a5.i;have g5:w2.cell? ⟨n+1,0,none⟩=some (.int .i64 x.op):=c9.1 0;have c4:w2.cell? ⟨n+1,1,none⟩=some (.int .i64 x.x):=c9.1 1;have e6:w2.cell? ⟨n+1,2,none⟩=some (.int .i64 x.y):=c9.1 2;have s0:w2.cell? ⟨n,0,none⟩=some (.int .i64 pc):=by rw[c1.1 0,<-c2];exact yX q 0 (by omega)
 have s1:w2.cell? ⟨n,1,none⟩=some (.int .i64 a1):=by rw[c1.1 1,<-c3];exact yX q 1 (by omega)
 have d9:Hid (∀I,I<43->w2.cell? ⟨n,I,none⟩=some (.int .i64 (gt q I))/\w2.frozen? ⟨n,I,none⟩=false):=λI i7=>⟨by rw[c1.1 I];exact yX q I i7,c1.2 I⟩
 have b8:Hid (EG k wo wc w n q x steps hd zA W w2):=a5
 have b2:Hid (∀(u:List Int) (z:World) (y:Int),u.length=43->Below n w2 z->CT 68 #[.pointer (some ⟨g,0,none⟩),.agg (yH u),.int .i64 y] z λe w'=>e=.returned (.tuple #[])/\Waits k wo w steps hd zA (W++[u.set 0 y]) w'/\(∀I,n<=I->I<z.heap.size->w'.heap[I]?=z.heap[I]?)/\z.heap.size<=w'.heap.size):=λu z y i8 hz=>by
  rw[<-g0];exact a5.wait u z y i8 hz (by omega)
 have e9:Hid (zV k w2 steps hd zA wo wc W):=a5.p.below (by rw[b1];exact a5.b);have j9:=a5.z;have b6:Hid (Below n w w2):=a5.b;have h4:=h3.o;clear c1 c9 a5 j7 f2 i9 j0 j1 j2 T1 e0 B1
 have h0:Hid (((x.op==2)=true)\/((x.op==2)=false/\(x.op==3)=true)\/((x.op==2)=false/\(x.op==3)=false/\(x.op==4)=true)\/((x.op==2)=false/\(x.op==3)=false/\(x.op==4)=false/\(x.op==5)=true)
  \/ ((x.op==2)=false/\(x.op==3)=false/\(x.op==4)=false/\(x.op==5)=false/\(x.op==6)=true)\/((x.op==2)=false/\(x.op==3)=false/\(x.op==4)=false/\(x.op==5)=false/\(x.op==6)=false/\(x.op==7)=true)
  \/ ((x.op==2)=false/\(x.op==3)=false/\(x.op==4)=false/\(x.op==5)=false/\(x.op==6)=false/\(x.op==7)=false/\(x.op==11)=true)
  \/ ((x.op==2)=false/\(x.op==3)=false/\(x.op==4)=false/\(x.op==5)=false/\(x.op==6)=false/\(x.op==7)=false/\(x.op==11)=false/\(x.op==12)=true)
  \/ ((x.op==2)=false/\(x.op==3)=false/\(x.op==4)=false/\(x.op==5)=false/\(x.op==6)=false/\(x.op==7)=false/\(x.op==11)=false/\(x.op==12)=false/\(x.op==13)=true)
  \/ ((x.op==2)=false/\(x.op==3)=false/\(x.op==4)=false/\(x.op==5)=false/\(x.op==6)=false/\(x.op==7)=false/\(x.op==11)=false/\(x.op==12)=false/\(x.op==13)=false)):=by
  show _\/_;simp only[oU,gP];omega
 obtain⟨a2,a3,a0,a4⟩:=h4;rcases h0.o with a6 | ⟨a6,a8⟩ | ⟨a6,a8,a9⟩ | ⟨a6,a8,a9,b0⟩ | ⟨a6,a8,a9,b0,b4⟩ | ⟨a6,a8,a9,b0,b4,b9⟩ | ⟨a6,a8,a9,b0,b4,b9,c7⟩ | ⟨a6,a8,a9,b0,b4,b9,c7,e3⟩ | ⟨a6,a8,a9,b0,b4,b9,c7,e3,f3⟩ | ⟨a6,a8,a9,b0,b4,b9,c7,e3,f3⟩
 ·have j:Hid (x.op=2):=by show _=_;simpa using a6
  clear a2 a3 a0 a4;go_wp2_with (refine kY 83 43 underlying83 rfl jT (by rfl) (.tmp 3) (by rfl) n (by rfl) S2 (kK _) ?_)
  refine(b2.o q w2 x.y a7 (lK _ _)).mono ?_;rintro e J ⟨rfl,O,e5,k7⟩;obtain⟨c5,d5,f4,f6⟩:=O;have S3:J.heap[n]?=some (.cells (yH q) 83 (0,0)):=(e5 n (lF _) (by omega)).trans S2;have f0:=(e5 (n+1) (by omega) (by omega)).trans b8.o.i;have k8:J.cell? ⟨n+1,1,none⟩=some (.int .i64 x.x):=(zB f0).1 1;have d6:=jq q x.x a7 f4 (by simp;omega);rw[g0]at d6;have g7:Hid (CT 68 #[.pointer (some ⟨g,0,none⟩),.agg (yH q),.int .i64 x.x] J _):=d6;have h1:Hid (jZ k wo c5 w J):=f6;clear e5 f0 f4 f6 d6 g5 c4 e6 s0 s1 S2;go_wp2_with (refine kY 83 43 underlying83 rfl jT (by rfl) (.tmp 3) (by rfl) n (by rfl) S3 (kK _) ?_)
  refine g7.o.mono ?_;rintro e e7 ⟨rfl,j6,j5,f5,f7⟩;have Y:Hid (Waits k wo w steps hd zA ((W++[q.set 0 x.y])++[q.set 0 x.x]) e7):=⟨j6,j5,f5,h1.o.trans f7⟩
  clear f5 f7;go_wp2_with fail
  go_ret;have G:=j.o;exact⟨false,rfl,λ_=>⟨rfl,Y.o⟩,λh=>by omega,λh=>by omega,λh=>by omega⟩
 ·have j:Hid (x.op=3):=by show _=_;simpa using a8
  clear a2 a3 a0 a4;go_wp2_with (refine kY 83 43 underlying83 rfl jT (by rfl) (.tmp 3) (by rfl) n (by rfl) S2 (kK _) ?_)
  refine(b2.o q w2 x.x a7 (lK _ _)).mono ?_;rintro e J ⟨rfl,O,_,_⟩;have Y:Hid (Waits k wo w steps hd zA (W++[q.set 0 x.x]) J):=O;clear O;go_wp2_with fail
  go_ret;have G:=j.o;refine⟨false,rfl,λh=>by omega,λh=>by omega,λh=>by omega,λ_ _ _ _=>⟨rfl,?_⟩⟩;have:kW k.t q x=(q.set 0 x.x,true):=by unfold kW;rw[lC (by omega),lG G]
  rw[this,bE];exact Y.o
 ·have j:Hid (x.op=4):=by show _=_;simpa using a9
  have h7:=a2 j.o;obtain⟨X,U⟩:∃X:Nat,x.x=(X:Int):=⟨x.x.toNat,by omega⟩
  have i1:X<11:=by omega
  have i2:(X:Int)<11:=by omega
  rw[U]at c4;obtain⟨g6,e4⟩:=d9.o (32+X) (by omega);obtain⟨S3,b5,_⟩:=b8.o.set a7 (32+X) (a1:Int);have b7:Hid (Below n w2 (w2.setCell ⟨n,32+X,none⟩ (.int .i64 (a1:Int)))):=b5;have b3:Hid (x.x=(X:Int)):=U;clear a2 a3 a0 a4 S2 b5 h7 U;go_wp2_with (refine kY 83 43 underlying83 rfl jT (by rfl) (.tmp 3) (by rfl) n (by rfl) S3 (kK _) ?_)
  refine(b2.o _ _ _ (by simp[a7]) b7.o).mono ?_;rintro e J ⟨rfl,O,_,_⟩;have Y:Hid (Waits k wo w steps hd zA (W++[(q.set (32+X) (a1:Int)).set 0 ((pc:Int)+1)]) J):=O;clear O;go_wp2_with fail
  go_ret;have G:=j.o;refine⟨false,rfl,λh=>by omega,λh=>by omega,λh=>by omega,λ_ _ _ _=>⟨rfl,?_⟩⟩;have:kW k.t q x=((q.set (32+X) (a1:Int)).set 0 ((pc:Int)+1),true):=by unfold kW;rw[lC (by omega),lC (by omega),lG G,b3.o,c2,c3];rfl
  rw[this,bE];exact Y.o
 ·have j:Hid (x.op=5):=by show _=_;simpa using b0
  have h8:=a3 j.o;obtain⟨X,U⟩:∃X:Nat,x.y=(X:Int):=⟨x.y.toNat,by omega⟩
  have i1:X<11:=by omega
  have i2:(X:Int)<11:=by omega
  rw[U]at e6;obtain⟨g6,e4⟩:=d9.o (32+X) (by omega);have b3:Hid (x.y=(X:Int)):=U
  have e8:Hid (kW k.t q x=(q.set 0 x.x,gt q (32+X) != (a1:Int))):=by
   show _=_;have G:=j.o;unfold kW;rw[lC (by omega),lC (by omega),lC (by omega),lG G,U,c3];rfl
  have S3:w2.drew.heap[n]?=some (.cells (yH q) 83 (0,0)):=S2;clear a2 a3 a0 a4 S2 h8 U e4;cases g1:(gt q (32+X) != (a1:Int))
  ·go_wp2_with fail
   go_region
   go_wp2_with fail
   go_ret;have G:=j.o;refine⟨false,rfl,λh=>by omega,λh=>by omega,λh=>by omega,λ_ _ _ _=>⟨rfl,?_⟩⟩;rw[e8.o,g1,om];exact tL c6.o (by rw[b1];exact b6.o.drew)
  ·go_wp2_with fail
   go_region
   go_wp2_with (refine kY 83 43 underlying83 rfl jT (by rfl) (.tmp 3) (by rfl) n (by rfl) S3 (kK _) ?_)
   refine(b2.o q w2.drew x.x a7 (lK _ _).drew).mono ?_;rintro e J ⟨rfl,O,_,_⟩;have Y:Hid (Waits k wo w steps hd zA (W++[q.set 0 x.x]) J):=O;clear O;go_wp2_with fail
   go_ret;have G:=j.o;refine⟨false,rfl,λh=>by omega,λh=>by omega,λh=>by omega,λ_ _ _ _=>⟨rfl,?_⟩⟩;rw[e8.o,g1,bE];exact Y.o
 ·have j:Hid (x.op=6):=by show _=_;simpa using b4
  have h9:=a0 (gG j.o);obtain⟨X,U⟩:∃X:Nat,x.x=(X:Int):=⟨x.x.toNat,by omega⟩
  have f8:X<10:=by omega
  have k2:(X:Int)<10:=by omega
  rw[U]at c4;obtain⟨g6,e4⟩:=d9.o (22+X) (by omega);obtain⟨S3,b5,_⟩:=b8.o.set a7 (22+X) (a1:Int);have b7:Hid (Below n w2 (w2.setCell ⟨n,22+X,none⟩ (.int .i64 (a1:Int)))):=b5;have b3:Hid (x.x=(X:Int)):=U;clear a2 a3 a0 a4 S2 b5 h9 U;go_wp2_with (refine kY 83 43 underlying83 rfl jT (by rfl) (.tmp 3) (by rfl) n (by rfl) S3 (kK _) ?_)
  refine(b2.o _ _ _ (by simp[a7]) b7.o).mono ?_;rintro e J ⟨rfl,O,_,_⟩;have Y:Hid (Waits k wo w steps hd zA (W++[(q.set (22+X) (a1:Int)).set 0 ((pc:Int)+1)]) J):=O;clear O;go_wp2_with fail
  go_ret;have G:=j.o;refine⟨false,rfl,λh=>by omega,λh=>by omega,λh=>by omega,λ_ _ _ _=>⟨rfl,?_⟩⟩;have:kW k.t q x=((q.set (22+X) (a1:Int)).set 0 ((pc:Int)+1),true):=by unfold kW;rw[lC (by omega),lC (by omega),lC (by omega),lC (by omega),lG G,b3.o,c2,c3];rfl
  rw[this,bE];exact Y.o
 ·have j:Hid (x.op=7):=by show _=_;simpa using b9
  have i0:=a0 (lZ j.o);obtain⟨X,U⟩:∃X:Nat,x.x=(X:Int):=⟨x.x.toNat,by omega⟩
  have f8:X<10:=by omega
  rw[U]at c4;have b3:Hid (x.x=(X:Int)):=U;have g8:Hid (CT 98 #[.pointer (some ⟨n,0,none⟩),.int .i64 (X:Nat)] w2 _):=Kg w2 n q a7 S2 X f8;clear a2 a3 a0 a4 S2 i0 U;go_wp2_with fail
  refine g8.o.mono ?_;rintro e J ⟨rfl,S3,f1,j3,k9⟩;have b7:Hid (Below n w2 J):=f1 n (lF _);clear f1 j3 g5 c4 e6 s0 s1;go_wp2_with (refine kY 83 43 underlying83 rfl jT (by rfl) (.tmp 3) (by rfl) n (by rfl) S3 (kK _) ?_)
  refine(b2.o _ _ _ (by simp[a7]) b7.o).mono ?_;rintro e e7 ⟨rfl,O,_,_⟩;have Y:Hid (Waits k wo w steps hd zA (W++[((q.set (2+2*X) (gt q (22+X))).set (2+(2*X+1)) (a1:Int)).set 0 ((pc:Int)+1)]) e7):=O;clear O;go_wp2_with fail
  go_ret;have G:=j.o;refine⟨false,rfl,λh=>by omega,λh=>by omega,λh=>by omega,λ_ _ _ _=>⟨rfl,?_⟩⟩
  have:kW k.t q x=(((q.set (2+2*X) (gt q (22+X))).set (2+(2*X+1)) (a1:Int)).set 0 ((pc:Int)+1),true):=by
   have k6:=b3.o;unfold kW;rw[lC (by omega),lC (by omega),lC (by omega),lC (by omega),lC (by omega),lG G,c2,c3,show(2*x.x).toNat=2*X by omega,show(2*x.x+1).toNat=2*X+1 by omega,show x.x.toNat=X by omega]
  rw[this,bE];exact Y.o
 ·have j:Hid (x.op=11):=by show _=_;simpa using c7
  have d7:w2.heap[n+1]?=some (.cells (qQ x) 112 (0,0)):=b8.o.i;have d8:Hid (CT 99 #[.pointer (some ⟨g,0,none⟩),.agg (yH q),.agg (qQ x)] w2 λe w'=>e=.returned (.tuple #[])/\oq k wo P w2 q x w'):=h2.o w2 e9.o j.o;clear a2 a3 a0 a4;go_wp2_with (first|(refine kY 83 43 underlying83 rfl jT (by rfl) (.tmp 3) (by rfl) n (by rfl) S2 (kK _) ?_)|(refine kY 112 4 underlying112 rfl bZ (by rfl) (.tmp 5) (by rfl) (n+1) (by rfl) d7 (by rfl) ?_))
  refine d8.o.mono ?_;rintro e J ⟨rfl,c0⟩
  have Y:Hid (oq k wo P w q x J):=by
   obtain⟨q',b,j4,i4,zG,c5,d5,W',h5,h6,e1,e2⟩:=c0;exact⟨q',b,j4,i4,zG,c5,d5,W',h5,h6,e1,(jZ.below (by rw[b1];exact b6.o)).trans e2⟩
  clear c0;go_wp2_with fail
  go_ret;have G:=j.o;exact⟨false,rfl,λh=>by omega,λh=>by omega,λ_=>⟨rfl,Y.o⟩,λ_ h=>absurd G h⟩
 ·have j:Hid (x.op=12):=by show _=_;simpa using e3
  clear a2 a3 a0 a4;go_wp2_with fail
  go_ret;have G:=j.o;exact⟨true,rfl,λh=>by omega,λ_=>⟨rfl,tL c6.o (by rw[b1];exact b6.o)⟩,λh=>by omega,λ_ _ h=>absurd G h⟩
 ·have j:Hid (x.op=13):=by show _=_;simpa using f3
  clear a2 a3 a0 a4;go_wp2_with fail
  go_ret;have G:=j.o;exact⟨true,rfl,λh=>by omega,λ_=>⟨rfl,tL c6.o (by rw[b1];exact b6.o)⟩,λh=>by omega,λ_ _ _ h=>absurd G h⟩
 ·have j:Hid (x.op=1\/x.op=8\/x.op=9\/x.op=10):=by
   show _\/_;simp only[gP]at *;omega
  have d7:w2.heap[n+1]?=some (.cells (qQ x) 112 (0,0)):=b8.o.i;have d8:Hid (CT 100 #[.pointer (some ⟨g,0,none⟩),.agg (yH q),.agg (qQ x)] w2 λe w'=>e=.returned (.tuple #[])/\Waits k wo w2 steps hd zA (wu W (kW k.t q x).2 (kW k.t q x).1) w'):=g9.o w2 e9.o j.o;clear a2 a3 a0 a4;go_wp2_with (first|(refine kY 83 43 underlying83 rfl jT (by rfl) (.tmp 3) (by rfl) n (by rfl) S2 (kK _) ?_)|(refine kY 112 4 underlying112 rfl bZ (by rfl) (.tmp 5) (by rfl) (n+1) (by rfl) d7 (by rfl) ?_))
  refine d8.o.mono ?_;rintro e J ⟨rfl,c0⟩
  have Y:Hid (Waits k wo w steps hd zA (wu W (kW k.t q x).2 (kW k.t q x).1) J):=by
   obtain⟨c5,d5,e1,e2⟩:=c0;exact⟨c5,d5,e1,(jZ.below (by rw[b1];exact b6.o)).trans e2⟩
  clear c0;go_wp2_with fail
  go_ret;have G:=j.o;exact⟨false,rfl,λh=>by omega,λh=>by omega,λh=>by omega,λ_ _ _ _=>⟨rfl,Y.o⟩⟩
end
inductive Pairs (k:Pk) (A:Int->fO):List (List Int)->List (List Int)->Prop
 | nil:Pairs k A [] []
 | cons {s q:List Int} {ss qs:List (List Int)}:EJ k A s q->Pairs k A ss qs->Pairs k A (s::ss) (qs++[q])
theorem Pairs.len{k A h qs}(j:Pairs k A h qs):h.length=qs.length:=by
 induction j with
 | nil=>rfl
 | cons _ _ G=>simp[G]
theorem Pairs.o{k A h qs}(j:Pairs k A h qs)(J:0<qs.length):∃s q ss' qs',h=s::ss'/\qs=qs'++[q]/\EJ k A s q/\Pairs k A ss' qs':=by
 cases j with
 | nil=>simp at J
 | cons G I=>exact⟨_,_,_,_,rfl,rfl,G,I⟩
theorem EJ.lq{k A s q}(h:EJ k A s q):q.length=43:=vF.lq h.sim
theorem EJ.pc{k A s q}(h:EJ k A s q):gt q 0=(zX s)/\gt q 1=(vE s)/\zX s<k.c.length/\vE s<=k.t.size:=by
 have O:=vF.low h.sim 0 (by omega);have U:=vF.low h.sim 1 (by omega);have j:=h.good.Ai;have G:=h.good.pc1;have I:=h.good.Ht;have J:=h.good.pos1;unfold zX vE;omega
section
variable {k:Pk} {E:Env} {A:Int->fO} {w:World} {steps:Int} {hd kn:List Bool} {zA:Int} {wo:Option Addr} {wc:Nat} {W:List (List Int)}
theorem Tv(Z:Ctx k E A){s q}(h:EJ k A s q)(j:zV k w steps hd zA wo wc W)(a4:W.length<=90000)(a2:(k.c.getD (zX s) kC).op=1\/(k.c.getD (zX s) kC).op=8\/(k.c.getD (zX s) kC).op=9\/(k.c.getD (zX s) kC).op=10):
  CT 100 #[.pointer (some ⟨k.g,0,none⟩),.agg (yH q),.agg (qQ (k.c.getD (zX s) kC))] w λe w'=>e=.returned (.tuple #[])/\Waits k wo w steps hd zA (wu W (kW k.t q (k.c.getD (zX s) kC)).2 (kW k.t q (k.c.getD (zX s) kC)).1) w':=by
 obtain⟨I,J,a3,O⟩:=h.pc;have a7:=Z.known.len;have G:=Z.t60;have a1:=Z.known.ok (zX s) a3;generalize k.c.getD (zX s) kC=x at *;rcases a2 with o | o | o | o
 ·exact Tt j q h.lq _ _ I J (by omega) O G (by omega) x (by rw[o];rfl) a1.2.2.2.2.2.2.2
 ·have a9:=a1.2.2.2.2.1 (lZ (lZ o));obtain⟨X,Y⟩:∃X:Nat,x.x=(X:Int):=⟨x.x.toNat,by omega⟩
  have b0:=vF.low h.sim (2+2*X) (by omega);have b1:=vF.low h.sim (2+(2*X+1)) (by omega);have b2:=h.good.place X (by omega);have a0:=h.neg X (by omega);by_cases a8:gt s (2+2*X)<0
  ·have U:gt q (2+2*X)=-1/\gt q (2+(2*X+1))=-1:=by rcases a0 with a0 | a0 <;> omega
   rw[zCQ k.t q x X o Y U.1,om];exact Nl j q h.lq x X (by rw[o];rfl) (by rw[o];rfl) Y (by omega) (-1) (by omega) U.1 U.2
  ·obtain⟨a,a5⟩:∃a:Nat,gt s (2+2*X)=(a:Int):=⟨(gt s (2+2*X)).toNat,by omega⟩
   obtain⟨b,a6⟩:∃b:Nat,gt s (2+(2*X+1))=(b:Int):=⟨(gt s (2+(2*X+1))).toNat,by omega⟩
   exact Nn j q h.lq _ _ I J (by omega) O G (by omega) x X (by rw[o];rfl) (by rw[o];rfl) Y (by omega) a b (by omega) (by omega) (by omega) (by omega)
 ·exact Qy j q h.lq _ _ I J (by omega) O G (by omega) x (by rw[o];rfl) (by rw[o];rfl) (by rw[o];rfl)
 ·exact Qz j q h.lq _ _ I J (by omega) O G (by omega) x (by rw[o];rfl) (by rw[o];rfl) (by rw[o];rfl) (by rw[o];rfl)
end
def JH(k:Pk)(E:Env)(A:Int->fO)(R:Xp)(m:Nat)(W:List (List Int))(FW:Option Addr)(w1:World)(gn:Nat)(wr:World):Prop:=
 (1<=gn/\gn<=m/\∃hd kn zA GU wc' ss qs,zV k wr (k.zD+1-gn) hd zA GU wc' (W++qs)/\jZ k FW GU w1 wr/\Tab E hd kn/\kn.length=E.c.length*(E.t.size+1)*12/\(0<=zA/\zA<=5000)/\Pairs k A ss qs/\fG E (gn-1) ss kn zA=R/\qs.length+3*gn<=3*m+1)
 \/ (gn=0/\R.kI=true/\CO k FW w1 wr (W.length+3*m+1))
def VR(k:Pk)(E:Env)(A:Int->fO)(R:Xp)(m:Nat)(W qs:List (List Int))(FW:Option Addr)(w1:World)(q:List Int)(w':World):Prop:=
 ∃st hd zA GU wc',zV k w' st hd zA GU wc' (W++qs)/\jZ k FW GU w1 w'/\qs.length<=3*m+1/\((R.kI=true/\st=k.zD+1)\/(R.kI=false/\R.ok=true/\FV A R.st q/\st=k.zD-R.n/\zA=R.zA/\Tab E hd R.kn))
def WZ(k:Pk)(E:Env)(A:Int->fO)(r:Xp)(bound:Nat)(W:List (List Int)):Told:=λq' b st' hd' zG W' =>
 (r.kI=true/\st'=k.zD+1/\W'.length<=bound)\/(r.kI=false/\st'=k.zD-r.n/\b=r.ok/\(r.ok=true->FV A r.st q')/\zG=r.zA/\Tab E hd' r.kn/\W'=W)
section
variable {k:Pk} {E:Env} {A:Int->fO} {R:Xp} {m:Nat} {W:List (List Int)} {FW:Option Addr} {w1:World}
theorem Tw{gw}{hd}{zA}{h}{j}{w'}(I:R.kI=true)(G:zV k w' (k.zD+1) hd zA h j gw)(O:jZ k FW h w1 w')(J:gw.length<=W.length+3*m+1):JH k E A R m W FW w1 0 w':=
 lZ ⟨rfl,I,hd,zA,h,j,gw,G,O,J⟩
theorem QC{j qs}{hd kn}{zA}{G}{a0}{w'}{n}{s:List Int}{Z:List (List Int)}{U}{Y}(a3:n<=m)(I:zV k w' (k.zD+1-n) hd zA G a0 (W++qs))(O:jZ k FW G w1 w')(a7:Tab E hd kn)(a1:kn.length=E.c.length*(E.t.size+1)*12)(a6:0<=zA/\zA<=5000)(a4:Pairs k A j qs)
  (J:fG E n (s::Z) U Y=R) (a2:∀h,n=h+1->fG E n (s::Z) U Y=fG E h j kn zA) (a5:qs.length+3*n<=3*m+1):JH k E A R m W FW w1 n w':=by
 cases n with
 | zero =>
  have e:R.kI=true:=by rw[<-J,Fv]
  refine Tw e (gw:=W++qs) (by simpa using I) O (by rw[lQ];omega)
 | succ h=>exact gG ⟨by omega,a3,hd,kn,zA,G,a0,j,qs,I,O,a7,a1,a6,a4,by rw[<-J,a2 h rfl];rfl,a5⟩
theorem EJ.jump{s q}(I:Ctx k E A)(h:EJ k A s q)(v:Int)(j:0<=v)(G:v<k.c.length)(e:A v=A (gt s 0)):EJ k A (s.set 0 v) (q.set 0 v):=
 ⟨h.good.dY v j G,h.sim.jump e,h.neg.set 0 v (by omega)⟩
theorem VT(j:Ctx k E A){s q}{a0 J}{wo}{w w'}{hd kn}{zA}{b}{n}(G:EJ k A s q)(b7:Pairs k A a0 J)(g2:n+1<=m)
  (a8:Tab E hd (E.qK s kn zA)) (f3:kn.length=E.c.length*(E.t.size+1)*12) (f6:0<=zA/\zA<=5000) (b5:E.dead s kn=false) (U:fG E n (s::a0) kn zA=R) (g5:J.length+1+3*(n+1)<=3*m+1) (a5:jZ k FW wo w1 w)
  (e6:GV k wo (WZ k E A (zS E (n-1) (s.set 0 (gt s 0+1)) (E.qK s kn zA) (E.zG s kn zA)) ((W++J).length+3*n+1) (W++J)) w q (E.ins s) (k.zD+1-n) hd (E.zG s kn zA) (W++J) b w'):
  (b=true/\VR k E A R m W J FW w1 q w')\/(b=false/\∃gn',gn'<n+1/\JH k E A R m W FW w1 gn' w'):=by
 obtain⟨f0,e9,e8,e7⟩:=e6;have b9:(E.qK s kn zA).length=E.c.length*(E.t.size+1)*12:=by rw[E.Gc];exact f3
 have a7:=E.nX s kn zA f6;have a4:Mt.Good E.c.length E.t.size s:=by rw[j.ec,j.et];exact G.good
 have a1:Known E.c A:=by rw[j.ec];exact j.known
 have f5:((zX s:Nat):Int)=gt s 0:=by have:=G.good.Ai;unfold zX;omega
 have g4:=G.good.Ai;have c4:=a1.ok (zX s) a4.yS;by_cases c1:(E.ins s).op=12\/(E.ins s).op=13
 ·left;obtain⟨e,b2,b1,O,a6⟩:=e9 c1;refine⟨e,_,_,_,b2,b1,O,a5.trans a6,by omega,?_⟩;cases n with
  | zero =>
   left;refine⟨by rw[<-U,Fv],by simp⟩
  | succ h =>
   right;have d2:=XA E h s a0 kn zA b5 c1.symm;rw[U]at d2;rw[d2];exact⟨rfl,rfl,G.sim,by dsimp only;omega,rfl,a8⟩
 have c0:(E.ins s).op≠12:=λe=>c1 (gG e)
 have a9:(E.ins s).op≠13:=λe=>c1 (lZ e)
 obtain⟨g3,d3⟩:=fC a1 a4.yS a9;rw[f5]at d3;right;by_cases Z:(E.ins s).op=2
 ·obtain⟨e,b2,b1,O,a6⟩:=f0 Z;have b8:=c4.1 Z;rw[j.ec]at b8;obtain⟨d6,d7⟩:=d3.2.1 Z;refine⟨e,n,by omega,QC (by omega) (qs:=(J++[q.set 0 (E.ins s).y])++[q.set 0 (E.ins s).x]) (by simpa using O) (a5.trans a6) a8 b9 a7 (Pairs.cons (G.jump j _ (by have:=b8.1;rw[<-j.ec]at this;exact this) (by have:=b8.2.1;rw[<-j.ec]at this |-;exact this) d6) (Pairs.cons (G.jump j _ (by have:=b8.2.2.1;rw[<-j.ec]at this;exact this) (by have:=b8.2.2.2;rw[<-j.ec]at this |-;exact this) d7) b7)) U ?_ (by simp;omega)⟩;rintro h rfl;exact RF E h s a0 kn zA b5 Z
 by_cases Y:(E.ins s).op=11
 ·obtain⟨e,q',b',g8,d0,zG,b2,b1,W',g1,d8,b3,c2⟩:=e8 Y;have d5:=c4.2.2.2.2.2.1 Y;have c3:=a4.dY (gt s 0+1) (by omega) (by omega);have a3:=yK E a1.ok (n-1) (n-1) (s.set 0 (gt s 0+1)) (E.qK s kn zA) (E.zG s kn zA) (by omega) c3 a7;have f7:=Fw E A a1 (n-1) (n-1) (s.set 0 (gt s 0+1)) (E.qK s kn zA) (E.zG s kn zA) (by omega) c3 a7;have f8:=RJ E a1.ok (n-1) (n-1) (s.set 0 (gt s 0+1)) (E.qK s kn zA) (E.zG s kn zA) (by omega) c3 a7 (G.neg.set 0 _ (by omega));have g7:=xE E (n-1) (s.set 0 (gt s 0+1)) (E.qK s kn zA) (E.zG s kn zA);have a2:∀h,n=h+1->_:=λh (_:n=h+1)=>XB E h s a0 kn zA b5 Y
  have f4:=G.good.len;have f9:gt (s.set 0 (gt s 0+1)) 0=gt s 0+1:=qD _ _ _ (by omega);have g0:∀t:Int,gt (s.set 0 (gt s 0+1)) (22+t.toNat)=gt s (22+t.toNat):=λt=>zQ _ _ _ _ (by omega)
  rcases d8 with ⟨b0,rfl,f2⟩ | ⟨b0,e4,e1,e3,e2,c9,e0⟩
  ·
   have f1:R.kI=true:=by
    cases n with
    | zero=>rw[<-U,Fv]
    | succ h =>
     have:=a2 h rfl;rw[show h+1-1=h by omega]at b0;rw[U]at this;rw[this,lG b0]
   refine⟨e,0,by omega,Tw f1 b3 (a5.trans c2) ?_⟩;unfold wu;rw[lQ];rw[lQ]at f2;split
   ·simp only[lU,lV];omega
   ·simp only[lV];omega
  ·
   cases n with
   | zero=>rw[show(0:Nat)-1=0 from rfl,mF]at b0;cases b0
   | succ h =>
    rw[show h+1-1=h by omega]at *;have a2:=a2 h rfl;rw[lC (by rw[b0];exact oF)]at a2;generalize g6:zS E h (s.set 0 (gt s 0+1)) (E.qK s kn zA) (E.zG s kn zA)=r at *;subst e4;subst e1;subst e2;subst e0
    have I:(jG s (E.ins s) r.st r.ok).2=CZ (E.ins s) r.ok:=by
     unfold jG CZ;split
     ·rfl
     split
     ·rfl
     ·rfl
    have c8:k.zD-(r.n:Int)=k.zD+1-((r.n+1:Nat):Int):=by omega
    refine⟨e,r.n+1,by omega,?_⟩;have d1:r.kn.length=E.c.length*(E.t.size+1)*12:=by rw[a3.2.1];exact b9
    cases b6:CZ (E.ins s) r.ok with
    | false =>
     rw[b6,om,c8]at b3;rw[I,b6,lC oF,sN]at a2;exact gG ⟨by omega,by omega,d0,r.kn,r.zA,b2,b1,a0,J,b3,a5.trans c2,c9,d1,a3.2.2.1,b7,by rw[show r.n+1-1=r.n by omega,<-a2];exact U,by omega⟩
    | true =>
     rw[b6,bE,c8]at b3;rw[I,b6,lG rfl]at a2;have hap:(jG s (E.ins s) r.st r.ok).2=true:=by rw[I,b6]
     have b4:=jc a4 a3.1 (E.ins s) d5.1 d5.2.1 hap
     have c7:=XD (E:=E) (A:=A) (e:=q') a1 a4 G.sim Y a3.1 e3 a3.2.2.2.1 (λc5=>by
      obtain⟨u1,u2,u3⟩:=f7 c5;rw[f9]at u1 u2;exact⟨u1,λt a8=>(u2 t a8).trans (g0 t),u3⟩) hap
     have c6:=Lg f4 a3.2.2.2.1 G.neg f8 hap;rw[j.ec,j.et]at b4;refine gG ⟨by omega,by omega,d0,r.kn,r.zA,b2,b1,(jG s (E.ins s) r.st r.ok).1::a0,J++[Dt q (E.ins s) q'],by rw[<-gZ];exact b3,a5.trans c2,c9,d1,a3.2.2.1,Pairs.cons ⟨b4,c7,c6⟩ b7,by rw[show r.n+1-1=r.n by omega];rw[<-U,a2];rfl,by simp;omega⟩
 ·obtain⟨e,b2,b1,O,a6⟩:=e7 Z Y c0 a9;refine⟨e,n,by omega,?_⟩;have d4:=zAr (t:=E.t) a1 a4 G.sim Z Y c0 a9;have c5:(kW k.t q (E.ins s)).2=(kW E.t s (E.ins s)).2:=by rw[<-j.et];exact d4.1
  rw[c5]at O;cases I:(kW E.t s (E.ins s)).2 with
  | false =>
   rw[I,om]at O;refine QC (by omega) O (a5.trans a6) a8 b9 a7 b7 U ?_ (by omega);rintro h rfl;have:=RG E h s a0 kn zA b5 Z Y c0 a9;rw[I,lC oF,sN]at this;exact this
  | true =>
   rw[I,bE]at O;have b4:=yu a1.ok a4 (t:=E.t) Z Y a9 I;rw[j.ec,j.et]at b4;have c6:=RI (t:=E.t) G.good G.neg (x:=E.ins s) (λe=>c4.2.2.2.2.1 e);have c7:=d4.2 I
   have e5:Mt.Good k.c.length k.t.size (kW E.t s (E.ins s)).1:=by
    have d9:E.ins s=k.c.getD (zX s) kC:=by unfold Env.ins;rw[j.ec]
    rw[d9,j.et];exact b4
   refine QC (by omega) (qs:=J++[(kW k.t q (E.ins s)).1]) (by rw[<-gZ];exact O) (a5.trans a6) a8 b9 a7 (Pairs.cons (s:=(kW E.t s (E.ins s)).1) ⟨e5,by rw[<-j.et];exact c7,c6⟩ b7) U ?_ (by simp;omega);rintro h rfl;have:=RG E h s a0 kn zA b5 Z Y c0 a9;rw[I,lG rfl]at this;exact this
theorem VU{wo P w q x steps hd zA V b w'}(O:GV k wo P w q x steps hd zA V b w'):∃h,jZ k wo h w w':=by
 obtain⟨a0,Z,Y,U⟩:=O;by_cases J:x.op=2
 ·obtain⟨_,h,_,_,j⟩:=a0 J;exact⟨h,j⟩
 by_cases G:x.op=12\/x.op=13
 ·obtain⟨_,h,_,_,j⟩:=Z G;exact⟨h,j⟩
 by_cases I:x.op=11
 ·obtain⟨_,_,_,_,_,_,h,_,_,_,_,_,j⟩:=Y I;exact⟨h,j⟩
 ·obtain⟨_,h,_,_,j⟩:=U J I (λe=>G (gG e)) (λe=>G (lZ e));exact⟨h,j⟩
end
section
variable {k:Pk} {E:Env} {A:Int->fO}
theorem Zq(h:Ctx k E A){s q}(j:EJ k A s q) kn zA:E.dead q kn=E.dead s kn/\E.qK q kn zA=E.qK s kn zA/\E.zG q kn zA=E.zG s kn zA:=by
 obtain⟨I,J⟩:=zCO (E:=E) (A:=A) (by rw[h.ec];exact h.known) (λp G=>by rw[h.ec]at G |-;exact h.ar p G) (by rw[h.ec,h.et];exact j.good) j.sim;unfold Env.dead Env.qK Env.zG;rw[I,J];exact⟨rfl,rfl,rfl⟩
theorem Zr(j:Ctx k E A){s q}(h:EJ k A s q){n}(c5:zDP k E A n){w}{hd kn}{zA}{wo}{wc}{V}(b5:zV k w (k.zD+1-n) hd zA wo wc V)(a1:Tab E hd kn)(b8:kn.length=E.c.length*(E.t.size+1)*12)(c3:0<=zA/\zA<=5000)(b9:V.length+3*n+1<=50000)(c0:(n)<=k.zD+1):
  CT 70 #[.pointer (some ⟨k.g,0,none⟩),.agg (yH q)] w λe w'=>∃b,e=.returned (.bool b)/\GV k wo (WZ k E A (zS E (n-1) (s.set 0 (gt s 0+1)) kn zA) (V.length+3*n+1) V) w q (E.ins s) (k.zD+1-n) hd zA V b w':=by
 obtain⟨a9,c6,a3,d1⟩:=h.pc;have b7:=j.known.len;have c8:=j.t60;have a0:=j.known.ok (zX s) a3;have b0:E.ins s=k.c.getD (zX s) kC:=by unfold Env.ins;rw[j.ec]
 have a6:((zX s:Nat):Int)=gt s 0:=by have:=h.good.Ai;unfold zX;omega
 have I:(k.c.getD (zX s) kC).op≠13->Rule A (zX s:Nat) (k.c.getD (zX s) kC)/\zX s+1<k.c.length:=λY=>by
  obtain⟨a,b⟩:=fC j.known a3 Y;exact⟨b,a⟩
 have c1:1<=(k.c.getD (zX s) kC).op/\(k.c.getD (zX s) kC).op<=13:=by
  by_cases Y:(k.c.getD (zX s) kC).op=13
  ·omega
  ·have:=(I Y).1.2.2.2.2.2.2.2.2.2.2.2.2;omega
 rw[b0];refine Zp b5 q h.lq _ _ a9 c6 a3 b7 (by omega) (by omega) _ _ rfl ?_ ?_ ?_ c1 ?_ ?_
 ·intro o;have:=((I (by omega)).1.2.2.2.1 o).2.2;have:=a0.2.2.1 o;omega
 ·intro o;have:=((I (by omega)).1.2.2.2.2.1 o).2.2;omega
 ·intro o;have:=a0.2.2.2.2.1 (by omega);omega
 ·intro z hz G;exact Tv j h hz (by omega) G
 ·intro z hz G;obtain⟨a8,c9⟩:=I (by omega);rw[a6]at a8;have b6:=a8.2.2.2.2.2.2.2.1 G;have d0:=a0.2.2.2.2.2.1 G;have b4:=h.good.dY (gt s 0+1) (by have:=h.good.Ai;omega) (by omega)
  have b3:EJ k A (s.set 0 (gt s 0+1)) (q.set 0 (gt s 0+1)):=by
   refine⟨b4,?_,h.neg.set 0 _ (by omega)⟩;refine vF.to ?_;rw[b6.1];exact vF.less h.sim (λt a1=>a1) (oL _)
  refine QA hz q h.lq _ _ a9 (by omega) _ ?_ ?_
  ·intro c7 c4;have:=c5 c7 hd kn zA wo wc V _ _ c4 a1 b8 c3 b3 b9 c0;rw[a6];refine this.mono ?_;rintro e w' ⟨q',b,rfl,a7,c2⟩;refine⟨q',b,rfl,?_⟩;rcases c2 with ⟨a2,Z,zG,a5,a4,W',J,O,U⟩ | ⟨a2,b1,b2,Z,a5,a4,J,O,U⟩
   ·exact⟨_,Z,zG,a5,a4,W',a7,J,O,by omega,gG ⟨a2,rfl,U⟩⟩
   ·exact⟨_,Z,_,a5,a4,V,a7,J,O,by omega,lZ ⟨a2,rfl,b1,b2,rfl,U,rfl⟩⟩
  ·simp only[oU,gP];omega
end
section
variable {k:Pk} {E:Env} {A:Int->fO}
theorem VW w q:∃W1,W1=(w.alloc (.cells (yH q) 83)).alloc (.cells (yH []) 83)/\Below w.heap.size w W1/\W1.heap[w.heap.size]?=some (.cells (yH q) 83 (0,0))/\W1.heap[w.heap.size+1]?=some (.cells (yH []) 83 (0,0))/\W1.heap.size=w.heap.size+2:=
 ⟨_,rfl,((lK _ _).alloc (lF _) _).alloc (by simp) _,nN _ _ _,nA _ _ _,by simp⟩
theorem zV.OP{w}{steps}{hd}{zA}{wo}{wc}{V}{q}(h:zV k w steps hd zA wo wc (V++[q])):∃gw,wo=some ⟨gw,0,none⟩/\w.rangeAt gw (V.length*43) (fu q)/\V.length+1<=wc:=by
 have O:(V++[q]).length=V.length+1:=by simp
 obtain⟨gw,cap,G,_,a1⟩:=World.ownsRow.form h.wt (by omega);simp only[oD]at G;obtain⟨rfl,_,rfl⟩:=G;refine⟨gw,rfl,λI v j=>?_,?_⟩
 ·have J:I<43:=by
   rcases wZ I 43 with h | h
   ·exact h
   ·rw[gQ (by rw[yg];omega)]at j;cases j
  rw[gU h.wt _ (by rw[O];omega),OO _ V.length I (by omega) J];have:(V++[q]).getD V.length []=q:=by rw[lH,gL (lF _)];simp
  rw[this];simp[fu,J]at j;rw[<-j]
 ·rcases h.wt.2 with ⟨e,_⟩ | ⟨Z,U,Y,G,_,_,a0,_⟩
  ·simp at e
  ·simp only[oD]at G;omega
def CP:List Int:=List.replicate 43 0
theorem Ms:CP.length=43:=by simp[CP]
theorem Mv:yH CP=yH []:=WY λt h=>by
 unfold gt CP;rw[lH,oJ,lG h];rfl
theorem zCj(g2:Ctx k E A) m(o8:∀n,n<m->zDP k E A n):zDP k E A m:=by
 intro w hd kn zA wo wc W s q O o6 n7 o5 f9 n8 o0;obtain⟨p4,v5,v6,v7⟩:=f9.pc;obtain⟨r0,m9,B1,T1,l3,l5⟩:=VW w q;have g9:=O.below B1;have J:=g9.cells.2.2.2.2.2.2.2.2.2.1;have w4:r0.cell? ⟨w.heap.size,0,none⟩=some (.int .i64 (zX s:Nat)):=by rw[(zB T1).1 0,<-p4];exact yX q 0 (by omega)
 have h4:=jq q (zX s:Nat) f9.lq g9 (by omega);rw[set_self q 0 _ p4]at h4;have l0:=hid h4;have p9:=hid B1;have q5:=hid l3;have q8:=hid l5;have q1:=hid f9;have f0:=hid g2;have q3:=hid o8;have h3:=hnd o6 (And.intro n7 (And.intro o5 (And.intro n8 (And.intro o0 (And.intro g2.bud.1 g2.bud.2)))));have e5:=hid O;have k2:Hid (∃R,R=fG E (m-1) [s] kn zA):=⟨_,rfl⟩
 obtain⟨R,i1⟩:=k2.o
 have d5:Hid (∀q' b w',ED k E A (zS E (m-1) s kn zA) (W.length+3*m+1) wo w W q' b w'↔(q'.length=43/\((R.kI=true/\CO k wo w w' (W.length+3*m+1))\/(R.kI=false/\b=R.ok/\(R.ok=true->FV A R.st q')/\Left k E wo w w' R W)))):=λq' b w'=>by
  obtain⟨o9,p0,p1,p2,p3,j2⟩:=XC E (m-1) s kn zA;rw[<-i1]at o9 p0 p1 p2 p3 j2;unfold ED Left;rw[o9,p0,p1,p2,p3];constructor
  ·rintro⟨a,b | b⟩
   ·exact⟨a,gG b⟩
   ·exact⟨a,lZ ⟨b.1,b.2.1,λe4=>by rw[j2 e4];exact b.2.2.1 e4,b.2.2.2⟩⟩
  ·rintro⟨a,b | b⟩
   ·exact⟨a,gG b⟩
   ·exact⟨a,lZ ⟨b.1,b.2.1,λe4=>by rw[<-j2 e4];exact b.2.2.1 e4,b.2.2.2⟩⟩
 have k3:=hid i1;clear k2 i1 o6 n7 o5 n8 o0 f9 g2 o8 g9 h4 B1 l3 l5 v5 v6 v7 O;generalize I:k.g=g at *;generalize zX s=pc at *;go_enter func40,ntmps40
 go_upto_region 1 with fail
 show Code.wp _ _ _ _ ((w.alloc (.cells (yH q) 83)).alloc (.cells (yH []) 83));rw[<-m9];clear m9;generalize e3:w.heap.size=n at *;go_wp2_with (refine kY 83 43 underlying83 rfl jT (by rfl) (.tmp 3) (by rfl) n (by rfl) T1 (kK _) ?_)
 refine l0.o.mono ?_;rintro e w2 ⟨rfl,FW,p8,f5,d9⟩
 have c2:Hid (w2.heap[n+1]?=some (.cells (yH []) 83 (0,0))/\n+1<w2.heap.size/\n+1≠k.g/\n+1≠k.gh/\blk FW≠some (n+1)):=by
  have g0:=e5.o.lt;have hz:=q8.o;have:=d9.size;rw[e3]at g0;refine⟨(d9.block (n+1) (by omega) (by omega) (by omega) (λe=>by have:=(g0.2.2.2.2.2 _ e).2;omega)).trans q5.o,by omega,by omega,by omega,λe=>?_⟩;have:=d9.sub (n+1) (by omega) e;have:=(g0.2.2.2.2.2 _ this).2;omega
 have h2:Hid (jZ k wo FW w w2):=(jZ.below (by rw[e3];exact p9.o)).trans d9
 have k7:Hid (JH k E A R m W FW w2 m w2):=by
  obtain⟨g3,g4,g5,j6,j7,_⟩:=h3.o;have v0:m-1+1=m\/m=0:=by omega
  rcases v0 with g1 | g1
  ·exact gG ⟨by omega,lF _,hd,kn,zA,FW,p8,[s],[q],f5,jZ.refl _ _ _,g3,g4,g5,Pairs.cons (qs:=[]) q1.o Pairs.nil,k3.o.symm,by simp only[lU,lV];omega⟩
  ·refine lZ ⟨g1,?_,hd,zA,FW,p8,W++[q],by rw[g1]at f5;simpa using f5,jZ.refl _ _ _,by simp only[lQ,lU,lV];omega⟩;rw[k3.o,g1];rfl
 clear f5 d9 l0 w4 T1 J;go_wp2_with fail
 go_loopg [7] m (λt2 u7 wr=>JH k E A R m W FW w2 t2 wr)
 case atStart=>exact k7.o
 case round =>
  have e7:=hid hrel;clear hrel k7;rcases e7.o with ⟨x1,x2,e2,b9,b0,c0,b1,v9,qs,U,a4,f8,h9,i2,f6,f4,f3⟩ | ⟨x0,o3,e2,b0,c0,b1,V,U,a4,e0⟩
  ·by_cases j1:qs.length=0
   ·
    have v3:v9=[]:=uI.1 (by rw[f6.len];exact j1);have v1:=uI.1 j1;subst v3;subst v1;rw[uJ]at U;have J:=U.cells.2.2.2.2.2.2.2.2.2.1;rw[I]at J
    have d0:wr.heap[n+1]?=some (.cells (yH []) 83 (0,0)):=by
     obtain⟨u1,u2,u3,u4,u5⟩:=c2.o;exact(a4.block (n+1) u2 u3 u4 u5).trans u1
    have n6:decide ((W.length:Int)>(W.length:Int))=false:=by simp
    have b6:Hid (∀h:World,(∀i,i≠n+1->h.heap[i]?=wr.heap[i]?)->h.heap.size=wr.heap.size->Below n wr h->ED k E A (zS E (m-1) s kn zA) (W.length+3*m+1) wo w W CP false h):=λh Z z1 b3=>by
     refine(d5.o _ _ _).2 ⟨Ms,lZ ?_⟩;have r9:=f4.symm;rw[r9];obtain⟨u1,u2,u3,u4,u5⟩:=c2.o;have g0:=U.lt;have d7:=e5.o.lt;rw[e3]at d7;have i9:blk c0≠some (n+1):=λe=>u5 (a4.sub (n+1) u2 e)
     have i0:zV k h (k.zD-((gk-1:Nat):Int)) e2 b0 c0 b1 W:=by
      have:=U.same (Z _ (by omega)) (Z _ (by omega)) (Z _ (by omega)) (Z _ (by omega)) (Z _ (by omega)) (λi a5=>Z i (λe=>i9 (by rw[<-e];exact a5)));rw[show k.zD+1-(gk:Int)=k.zD-((gk-1:Nat):Int) by omega]at this;exact this
     have i3:jZ k wo c0 w h:=by
      have G:=h2.o.trans a4;exact⟨b3.os.trans G.os,b3.tape.trans G.tape,b3.output.trans G.output,gX G.size b3.size,λi a5 c6 d2 d3=>(Z i (by omega)).trans (G.block i a5 c6 d2 d3),G.sub⟩
     exact⟨rfl,rfl,λe=>(by cases e),e2,c0,b1,i0,i3,f8⟩
    clear U a4 f8 h9 i2 f6 f4 f3 e7 d5;go_wp2_with (refine zN 83 43 jT (by rfl) (.tmp 4) (.tmp 82) (by rfl) (n+1) (yH []) (by rfl) (by rfl) d0 (kK _) (kK _) (aV _) ?_;intro h a1 a8 c8 a2)
    refine lT (qA 83 43 underlying83 rfl jT rfl (by rfl) a1 (kK _)) rfl ⟨CP,false,?_,b6.o h a8 c8 (a2 n (by omega))⟩;rw[Mv];rfl
   ·
    obtain⟨s1,j,w3,a7,rfl,rfl,n3,o4⟩:=f6.o (by omega);rw[<-gZ]at U;obtain⟨gw,rfl,v2,x6⟩:=U.OP
    have e0:(W++a7).length+3*gk<=W.length+3*m:=by
     simp only[lQ,lU,lV]at f3 |-;omega
    have m8:a7.length+1+3*gk<=3*m+1:=by
     simp only[lQ,lU,lV]at f3;omega
    obtain⟨g3,g4,g5,j6,j7,p5,p6⟩:=h3.o;have Y:=U.cells;have J:=Y.2.2.2.2.2.2.2.2.2.1;have d1:=Y.2.2.2.1;have c4:=Y.2.2.2.2.2.2.2.2.2.2 9;have d6:=Y.2.2.2.2.2.2.2.2.2.2 3;rw[show((W++a7)++[j]).length=(W++a7).length+1 by rw[lQ];rfl]at J;have y3:W.length<=(W++a7).length:=by simp
    generalize m7:W++a7=V at *;rw[I]at J d1 c4 d6
    have e8:Hid (CT 41 #[.pointer (some ⟨g,0,none⟩)] wr λe w'=>e=.returned (.bool false)/\Below wr.heap.size wr w'):=by
     have:=FR U;rw[I]at this;refine this.mono ?_;rintro e w' ⟨rfl,i8⟩;exact⟨by rw[show decide (k.zD+1-(gk:Int)>k.zD)=false by rw[lW];omega],i8⟩
    have n6:decide (W.length<V.length+1)=true:=by rw[gM];omega
    have y2:decide ((W.length:Int)<(V.length:Int)+1)=true:=by rw[gM];omega
    have h1:=hid U;have k6:=hid a4;have e9:=hnd f8 (And.intro h9 (And.intro i2 (And.intro o4 (And.intro n3 (And.intro f4 (And.intro e0 (And.intro m8 m7)))))));have y1:(gk:Int)<=10001:=by omega
    have t3:(0:Int)<=k.zD+1-(gk:Int)/\k.zD+1-(gk:Int)<=10001:=by omega
    have k8:Hid (∃a3,a3=k.zD+1-(gk:Int)):=⟨_,rfl⟩
    obtain⟨a3,i6⟩:=k8.o;have k9:=hid i6;rw[<-i6]at t3 h1 d1;clear k8 i6;have x4:V.length<=60000:=by omega
    have t7:g<wr.heap.size:=by rw[<-I];exact U.lt.1
    clear U a4 f8 h9 i2 o4 n3 f4 e0 m8 m7 Y f3 f6 j1 g3 g4 g5 j6 j7 p5 p6 e7;go_wp2_with fail
    refine e8.o.mono ?_;rintro e a0 ⟨rfl,b8⟩;have d4:=hid b8;have e6:=hid (h1.o.below b8)
    have l1:a0.rangeAt gw (V.length*43) (fu j):=by
     obtain⟨x3,r8,h8,w9⟩:=e6.o.OP;cases r8;exact h8
    have r7:=(gH (a:=⟨g,9,none⟩) (b8.block g t7)).trans J;clear b8 J d1 c4 d6 v2 e8 h1;have t5:V.length*43+43<=60000*43+43:=by omega
    go_upto_region 6 with (first|(refine wpList_load_mid (by rfl) 83 (.tmp 44) (by rfl) gw (V.length*43) (by rfl) (fu j) _ l1 underlying83 rfl (by rw[jT];rfl) ?_)|(refine zN 83 43 jT (by rfl) (.tmp 8) (.tmp 45) (by rfl) a0.heap.size (yH j) (by rfl) (by rfl) (by exact jP _ _) (by rfl) (kK _) (aV _) ?_;intro h a1 a8 c8 a2))
    have g6:=((lK _ _).alloc (lF _) _).trans (a2 _ (lF _));have h0:=e6.o.below g6;have Y:=h0.cells;have J:=Y.2.2.2.2.2.2.2.2.2.1;have d1:=Y.2.2.2.1;have c4:=Y.2.2.2.2.2.2.2.2.2.2 9;have d6:=Y.2.2.2.2.2.2.2.2.2.2 3;rw[show(V++[j]).length=V.length+1 by rw[lQ];rfl]at J;rw[I]at J d1 c4 d6
    have k1:Hid (zV k ((h.setCell ⟨g,9,none⟩ (.slice (some ⟨gw,0,none⟩) V.length b1)).setCell ⟨g,3,none⟩ (.int .i64 (a3+1))) (a3+1) e2 b0 (some ⟨gw,0,none⟩) b1 V):=by
     have:=(h0.cut V.length (by simp)).zCd (a3+1);rw[I,aH]at this;exact this
    have c3:((h.setCell ⟨g,9,none⟩ (.slice (some ⟨gw,0,none⟩) V.length b1)).setCell ⟨g,3,none⟩ (.int .i64 (a3+1))).heap[a0.heap.size]?=some (.cells (yH j) 83 (0,0)):=by
     have o1:a0.heap.size≠g:=by have:=d4.o.size;omega
     rw[lS _ _ _ _ o1,lS _ _ _ _ o1];exact a1
    have k4:Hid (jZ k FW (some ⟨gw,0,none⟩) w2 ((h.setCell ⟨g,9,none⟩ (.slice (some ⟨gw,0,none⟩) V.length b1)).setCell ⟨g,3,none⟩ (.int .i64 (a3+1)))):=
     ((((k6.o.trans (jZ.below d4.o)).trans (jZ.below g6)).set (p:=⟨g,9,none⟩) (gG I.symm) _).set (p:=⟨g,3,none⟩) (gG I.symm) _)
    have g8:Hid (a0.heap.size≠g/\a0.heap.size≠k.gh/\gw≠a0.heap.size):=by
     have j0:=e6.o.lt;have c6:=j0.1;have d2:=j0.2.2.2.2.1;have d3:=(j0.2.2.2.2.2 gw rfl).2;rw[I]at c6;exact⟨by omega,by omega,by omega⟩
    clear a1 a8 c8 a2 g6 h0 Y l1 r7 e6 k6 d4 t5;go_upto_region 8 with fail
    generalize (h.setCell ⟨g,9,none⟩ (.slice (some ⟨gw,0,none⟩) V.length b1)).setCell ⟨g,3,none⟩ (.int .i64 (a3+1))=p7 at *;clear J d1 c4 d6;generalize y4:a0.heap.size=a6 at *
    have j9:Hid (CT 69 #[.pointer (some ⟨g,4,none⟩),.agg (yH j)] p7.drew λe w'=>e=.returned (.bool (E.dead s1 b9))/\jZ k (some ⟨gw,0,none⟩) (some ⟨gw,0,none⟩) p7.drew w'/\∃hd',zV k w' (a3+1) hd' (E.zG s1 b9 b0) (some ⟨gw,0,none⟩) b1 V/\Tab E hd' (E.qK s1 b9 b0)):=by
     obtain⟨u1,u2,u3,u4,u5,u6,u7,u8,u9⟩:=e9.o;obtain⟨y6,y7,y8,y9⟩:=u5.pc;have:=Zo f0.o k1.o.drew u1 u2 j (by omega) (by omega) u3;obtain⟨r4,r5,r6⟩:=Zq f0.o u5 b9 b0;rw[r4,r5,r6,I]at this;exact this
    have e1:∀z:World,z.heap[a6]?=some (.cells (yH j) 83 (0,0))->z.rangeAt a6 0 (yH j).toList:=λz hz=>yE hz
    refine wp_region_held_drew (S:=λz:World=>z.heap[a6]?=some (.cells (yH j) 83 (0,0))) (by kernel_rfl) c3 (λf2=>?_);refine qJ 0 62 (.pointer (some ⟨g,0,none⟩)) rfl (by kernel_rfl) (λ_ _ _ O=>O) (λz hz=>by clear f2 hz e1 c3;go_simp) (by assumption) ?_;simp only[Act.put,lD,lJ,lI];refine qJ 1 63 (.pointer (some ⟨g,0,none⟩)) rfl (by kernel_rfl) (λ_ _ _ O=>O) (λz hz=>by clear f2 hz e1 c3;go_simp) (by assumption) ?_;simp only[Act.put,lD,lJ,lI];refine qJ 2 64 (.pointer (some ⟨g,4,none⟩)) rfl (by kernel_rfl) (λ_ _ _ O=>O) (λz hz=>by clear f2 hz e1 c3;go_simp) (by assumption) ?_;simp only[Act.put,lD,lJ,lI];refine MN 3 65 (.agg (yH j)) rfl (by kernel_rfl) (λ_ _ _ O=>O) (yieldsIf_load_mid (by rfl) _ _ rfl _ _ rfl _ _ e1 underlying83 rfl (by rw[jT];rfl)) (by assumption) ?_;simp only[Act.put,lD,lJ,lI];refine wpAnyH_ready (rs:=[4]) (by kernel_rfl) (by simp) ?_;refine AllReadyH.cons rfl (λK m1=>?_) AllReadyH.nil;clear e1 f2
    go_simp
    refine j9.o.mono ?_;rintro e j8 ⟨rfl,i4,x9,b7,m6⟩
    have c9:j8.heap[a6]?=some (.cells (yH j) 83 (0,0)):=by
     obtain⟨j3,j4,j5⟩:=g8.o;refine(i4.block a6 ?_ (by rw[I];exact j3) j4 (λe=>j5 (by simpa[blk]using e))).trans c3;exact(lM.1 c3).1
    have k5:=hid (k4.o.drew.trans i4);have c1:=hnd b7 m6;clear i4 b7 m6 c3 j9 k4 k1
    go_simp
    refine m1.out _ _ c9 (λm0=>?_);clear m1 K;generalize n2:E.dead s1 b9=l7 at *;refine qJ 5 9 (.bool l7) rfl (by kernel_rfl) (λ_ _ _ O=>O) (λz hz=>by clear m0 hz c9;go_simp) (by assumption) ?_;simp only[Act.put,lD,lJ,lI];refine rP (by kernel_rfl) ?_ _;clear m0;cases l7
    ·have k0:Hid (CT 70 #[.pointer (some ⟨g,0,none⟩),.agg (yH j)] j8 λe w'=>∃b,e=.returned (.bool b)/\((b=true/\VR k E A R m W a7 FW w2 j w')\/(b=false/\∃c5,c5<gk/\JH k E A R m W FW w2 c5 w'))/\w'.heap[a6]?=some (.cells (yH j) 83 (0,0))):=by
      obtain⟨u1,u2,u3,u4,u5,u6,u7,u8,u9⟩:=e9.o;obtain⟨g3,g4,g5,j6,j7,p5,p6⟩:=h3.o;have i5:a3+1=k.zD+1-((gk-1:Nat):Int):=by rw[k9.o];omega
      have b7:=c1.o.1;rw[i5]at b7;have n9:=Zr f0.o u5 (q3.o (gk-1) (by omega)) b7 c1.o.2 (by rw[E.Gc];exact u2) (E.nX s1 b9 b0 u3) (by omega) (by omega);rw[I]at n9;refine n9.mono ?_;rintro e b4 ⟨b,rfl,m2⟩;refine⟨b,rfl,?_,?_⟩
      ·subst u9;have:=VT (m:=m) f0.o u5 u4 (n:=gk-1) (by omega) c1.o.2 u2 u3 n2 u6 (by omega) k5.o m2;rw[show gk-1+1=gk by omega]at this;exact this
      ·obtain⟨z0,t4⟩:=VU m2;obtain⟨j3,j4,j5⟩:=g8.o;exact(t4.block a6 (lM.1 c9).1 (by rw[I];exact j3) j4 (λe=>j5 (by simpa[blk]using e))).trans c9
     clear c1;go_wp2_with (refine kY 83 43 underlying83 rfl jT (by rfl) (.tmp 8) (by rfl) a6 (by rfl) c9 (kK _) ?_)
     refine k0.o.mono ?_;rintro e b4 ⟨b,rfl,l9,l2⟩;have g7:=hid l9;clear l9 k0 c9;cases b
     ·obtain⟨c5,n5,o2⟩:∃c5,c5<gk/\JH k E A R m W FW w2 c5 b4:=by
       rcases g7.o with ⟨e,_⟩ | ⟨_,O⟩
       ·cases e
       ·exact O
      have q4:=hid o2;have q2:=hid n5;clear o2 n5;go_wp2_with fail
      go_roundg c5
      case measure=>exact q2.o
      case rel=>exact q4.o
     ·obtain⟨y5,n1,v8,a9,b2,d8,f7,t9,m4⟩:VR k E A R m W a7 FW w2 j b4:=by
       rcases g7.o with ⟨_,O⟩ | ⟨e,_⟩
       ·exact O
       ·cases e
      have Y:=d8.cells;have J:=Y.2.2.2.2.2.2.2.2.2.1;have c4:=Y.2.2.2.2.2.2.2.2.2.2 9;rw[I]at J c4
      have l4:b4.heap[n+1]?=some (.cells (yH []) 83 (0,0)):=by
       obtain⟨u1,u2,u3,u4,u5⟩:=c2.o;exact(f7.block (n+1) u2 u3 u4 u5).trans u1
      have y0:g<b4.heap.size:=by rw[<-I];exact d8.lt.1
      have n0:W.length<=(W++a7).length:=by simp
      have hcut:=d8.cut W.length n0;rw[I,aH]at hcut;have h5:(b4.setCell ⟨g,9,none⟩ (.slice a9 W.length b2)).heap[a6]?=some (.cells (yH j) 83 (0,0)):=(lS _ _ _ _ g8.o.1).trans l2;have h6:(b4.setCell ⟨g,9,none⟩ (.slice a9 W.length b2)).heap[n+1]?=some (.cells (yH []) 83 (0,0)):=(lS _ _ _ _ (by show n+1≠g;rw[<-I];exact c2.o.2.2.1)).trans l4
      have b6:Hid (∀b5:World,(∀i,i≠n+1->b5.heap[i]?=(b4.setCell ⟨g,9,none⟩ (.slice a9 W.length b2)).heap[i]?)->Below n (b4.setCell ⟨g,9,none⟩ (.slice a9 W.length b2)) b5->ED k E A (zS E (m-1) s kn zA) (W.length+3*m+1) wo w W j true b5):=λb5 c7 f1=>by
       obtain⟨u1,u2,u3,u4,u5⟩:=c2.o;have d7:=e5.o.lt;rw[e3]at d7;have t6:blk a9≠some (n+1):=λe=>u5 (f7.sub (n+1) u2 e)
       have m3:=hcut.same (c7 _ (by omega)) (c7 _ (by omega)) (c7 _ (by omega)) (c7 _ (by omega)) (c7 _ (by omega)) (λi a5=>c7 i (λe=>t6 (by rw[<-e];exact a5)))
       have m5:jZ k wo a9 w b5:=by
        have G:=(h2.o.trans f7).set (p:=⟨g,9,none⟩) (gG I.symm) (.slice a9 W.length b2);exact⟨f1.os.trans G.os,f1.tape.trans G.tape,f1.output.trans G.output,gX G.size f1.size,λi a5 c6 d2 d3=>(c7 i (by omega)).trans (G.block i a5 c6 d2 d3),G.sub⟩
       refine(d5.o _ _ _).2 ⟨e9.o.2.2.2.2.1.lq,?_⟩;rcases m4 with ⟨h7,rfl⟩ | ⟨h7,r1,r2,rfl,rfl,r3⟩
       ·exact gG ⟨h7,n1,v8,a9,b2,W,m3,m5,by omega⟩
       ·exact lZ ⟨h7,r1.symm,λ_=>r2,n1,a9,b2,m3,m5,r3⟩
      have q7:Hid ((a9=none/\b2=0/\(W++a7).length=0)\/∃l8,a9=some ⟨l8,0,none⟩/\W.length<=b2):=by
       rcases d8.wt.2 with ⟨e,h8⟩ | ⟨t1,w7,w8,o7,_,_,x5,_⟩
       ·simp only[oD]at e;exact gG ⟨e.1,e.2.2,h8⟩
       ·simp only[oD]at o7;exact lZ ⟨t1,o7.1,by omega⟩
      clear d8 f7 t9 m4 Y hcut l4 l2 g7;rcases q7.o with ⟨rfl,rfl,hz⟩ | ⟨l8,rfl,x7⟩
      ·have i7:W.length=0:=by omega
       rw[hz]at J;rw[i7]at h5 h6 b6;have q6:=hid (uI.1 i7);clear n0 hz;generalize W.length=w6 at *;subst i7;go_wp2_with (first|(refine kY 83 43 underlying83 rfl jT (by rfl) (.tmp 8) (by rfl) a6 (by rfl) h5 (kK _) ?_)|(refine zN 83 43 jT (by rfl) (.tmp 4) (.tmp 81) (by rfl) (n+1) (yH j) (by rfl) (by rfl) h6 (kK _) (kK _) (aV _) ?_;intro b5 a1 a8 c8 a2))
       refine lT (qA 83 43 underlying83 rfl jT rfl (by rfl) a1 (kK _)) rfl ⟨j,true,rfl,?_⟩;have n4:=b6.o b5 a8 (a2 n (by omega));rw[show(0:Nat)+3*m+1=W.length+3*m+1 by rw[q6.o];rfl]at n4;exact n4
      ·have x8:(W.length:Int)<=(b2:Int):=by omega
       generalize (W++a7).length=w5 at *;go_wp2_with (first|(refine kY 83 43 underlying83 rfl jT (by rfl) (.tmp 8) (by rfl) a6 (by rfl) h5 (kK _) ?_)|(refine zN 83 43 jT (by rfl) (.tmp 4) (.tmp 81) (by rfl) (n+1) (yH j) (by rfl) (by rfl) h6 (kK _) (kK _) (aV _) ?_;intro b5 a1 a8 c8 a2))
       refine lT (qA 83 43 underlying83 rfl jT rfl (by rfl) a1 (kK _)) rfl ⟨j,true,rfl,b6.o b5 a8 (a2 n (by omega))⟩
    ·have q0:Hid (JH k E A R m W FW w2 (gk-1) j8):=by
      obtain⟨u1,u2,u3,u4,u5,u6,u7,u8,u9⟩:=e9.o;have i5:a3+1=k.zD+1-((gk-1:Nat):Int):=by rw[k9.o];omega
      have b7:=c1.o.1;rw[i5,<-u9]at b7;refine QC (by omega) b7 k5.o c1.o.2 (by rw[E.Gc];exact u2) (E.nX s1 b9 b0 u3) u4 u6 ?_ (by omega);intro v4 t8;rw[t8];exact Uo E v4 s1 w3 b9 b0 n2
     clear c1;go_wp2_with fail
     go_roundg (gk-1)
     case measure=>omega
     case rel=>exact q0.o
  ·have J:=U.cells.2.2.2.2.2.2.2.2.2.1;rw[I]at J
   have e8:Hid (CT 41 #[.pointer (some ⟨g,0,none⟩)] wr λe w'=>e=.returned (.bool true)/\Below wr.heap.size wr w'):=by
    have:=FR U;rw[I]at this;refine this.mono ?_;rintro e w' ⟨rfl,i8⟩;exact⟨by rw[show decide (k.zD+1>k.zD)=true by rw[gM];omega],i8⟩
   have d0:wr.heap[n+1]?=some (.cells (yH []) 83 (0,0)):=by
    obtain⟨u1,u2,u3,u4,u5⟩:=c2.o;exact(a4.block (n+1) u2 u3 u4 u5).trans u1
   have b6:Hid (∀a0 h:World,Below wr.heap.size wr a0->(∀i,i≠n+1->h.heap[i]?=a0.heap[i]?)->Below n a0 h->ED k E A (zS E (m-1) s kn zA) (W.length+3*m+1) wo w W CP false h):=λa0 h l6 Z b3=>by
    refine(d5.o _ _ _).2 ⟨Ms,gG ⟨o3,?_⟩⟩;obtain⟨u1,u2,u3,u4,u5⟩:=c2.o;have d7:=e5.o.lt;rw[e3]at d7;have i9:blk c0≠some (n+1):=λe=>u5 (a4.sub (n+1) u2 e)
    have i0:=(U.below l6).same (Z _ (by omega)) (Z _ (by omega)) (Z _ (by omega)) (Z _ (by omega)) (Z _ (by omega)) (λi a5=>Z i (λe=>i9 (by rw[<-e];exact a5)))
    have i3:jZ k wo c0 w h:=by
     have G:=(h2.o.trans a4).trans (jZ.below l6);exact⟨b3.os.trans G.os,b3.tape.trans G.tape,b3.output.trans G.output,gX G.size b3.size,λi a5 c6 d2 d3=>(Z i (by omega)).trans (G.block i a5 c6 d2 d3),G.sub⟩
    exact⟨e2,b0,c0,b1,V,i0,i3,e0⟩
   have hz:=(lM.1 d0).1;clear U a4 o3 e0 e7 d5;cases n6:decide (W.length<V.length)
   ·go_wp2_with (refine zN 83 43 jT (by rfl) (.tmp 4) (.tmp 82) (by rfl) (n+1) (yH []) (by rfl) (by rfl) d0 (kK _) (kK _) (aV _) ?_;intro h a1 a8 c8 a2)
    refine lT (qA 83 43 underlying83 rfl jT rfl (by rfl) a1 (kK _)) rfl ⟨CP,false,?_,b6.o wr h (lK _ _) a8 (a2 n (by omega))⟩;rw[Mv];rfl
   ·go_wp2_with fail
    refine e8.o.mono ?_;rintro e a0 ⟨rfl,b8⟩;have q9:=(b8.block _ hz).trans d0;have d4:=hid b8;clear b8 d0 J;go_wp2_with (refine zN 83 43 jT (by rfl) (.tmp 4) (.tmp 82) (by rfl) (n+1) (yH []) (by rfl) (by rfl) q9 (kK _) (kK _) (aV _) ?_;intro h a1 a8 c8 a2)
    refine lT (qA 83 43 underlying83 rfl jT rfl (by rfl) a1 (kK _)) rfl ⟨CP,false,?_,b6.o a0 h d4.o a8 (a2 n (by omega))⟩;rw[Mv];rfl
theorem zDR(h:Ctx k E A):∀m,zDP k E A m:=λm=>Nat.strongRecOn m λm j=>zCj h m j
end
