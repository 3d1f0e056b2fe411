import Derived.Test.YtebpgfodelggoaaGreatC43
import Derived.Test.YtebpgfodelggoaaGreatC44
set_option linter.all false
set_option maxRecDepth 100000
set_option maxHeartbeats 4000000
namespace Go.Proofs.YtebpgfodelggoaaGreat
open Go.RowKit _root_.Go.Proofs.Tryz Mt
def Waits(k:Pk)(wo:Option Addr)(w:World)(steps:Int)(hd:List Bool)(zA:Int)(W:List (List Int))(w':World):Prop:=∃GU wc',zV k w' steps hd zA GU wc' W/\jZ k wo GU w w'
def wu(W:List (List Int))(b:Bool)(q:List Int):List (List Int):=W++if b=true then[q]else[]
theorem om W q:wu W false q=W:=by simp[wu]
theorem bE W q:wu W true q=W++[q]:=by simp[wu]
section
variable {k:Pk} {w:World} {steps:Int} {hd:List Bool} {zA:Int} {wo:Option Addr} {wc:Nat} {W:List (List Int)}
theorem tL(j:zV k w steps hd zA wo wc W){w'}(h:Below w.heap.size w w'):Waits k wo w steps hd zA W w':=⟨wo,wc,j.below h,jZ.below h⟩
theorem ze w q x:∃W1,W1=(w.alloc (.cells (yH q) 83)).alloc (.cells (qQ x) 112)/\Below w.heap.size w W1/\W1.heap[w.heap.size]?=some (.cells (yH q) 83 (0,0))/\W1.heap[w.heap.size+1]?=some (.cells (qQ x) 112 (0,0))/\W1.heap.size=w.heap.size+2:=
 ⟨_,rfl,((lK _ _).alloc (lF _) _).alloc (by simp) _,nN _ _ _,nA _ _ _,by simp⟩
theorem Tt(U:zV k w steps hd zA wo wc W)(q:List Int)(b5:q.length=43)(pc h:Nat)(b3:gt q 0=pc)(b4:gt q 1=h)(d6:pc<=300)(d7:h<=k.t.size)(c2:k.t.size<=60)(d5:W.length<=100000) x(c0:(x.op==1)=true)(c1:x.set.length<=256):
  Calls prog 100 #[.pointer (some ⟨k.g,0,none⟩),.agg (yH q),.agg (qQ x)] w λe w'=>e=.returned (.tuple #[])/\Waits k wo w steps hd zA (wu W (kW k.t q x).2 (kW k.t q x).1) w':=by
 have b2:x.op=1:=by simpa using c0
 have a1:kW k.t q x=((q.set 1 ((h:Int)+1)).set 0 ((pc:Int)+1),if(h:Int)<k.t.size then hasB ⟨x.set.toArray⟩ (Rf k.t h)else false):=by
  unfold kW;rw[lG b2,b3,b4];rfl
 rw[a1];clear a1 b2;obtain⟨j,b1,B1,T1,O,d1⟩:=ze w q x;have a3:=hid U;have a4:=U.below B1;have a2:Hid (CT 123 #[.pointer (some ⟨k.g,0,none⟩),.int .i64 (h:Nat),.string ⟨x.set.toArray⟩] j _):=Tp a4 h c2 ⟨x.set.toArray⟩ (by rw[show(ByteArray.mk x.set.toArray).size=x.set.length from List.size_toArray ..];exact c1) (by omega);have Z:∀z:World,z.heap[w.heap.size]?=some (.cells (yH q) 83 (0,0))->z.cell? ⟨w.heap.size,0,none⟩=some (.int .i64 pc)/\z.cell? ⟨w.heap.size,1,none⟩=some (.int .i64 h)/\z.frozen? ⟨w.heap.size,1,none⟩=false:=λz hz=>⟨by rw[(zB hz).1 0,<-b3];exact yX q 0 (by omega),by rw[(zB hz).1 1,<-b4];exact yX q 1 (by omega),(zB hz).2 1⟩
 obtain⟨c8,c9,_⟩:=Z j T1;have a8:=hid Z;have c3:j.cell? ⟨w.heap.size+1,0,none⟩=some (.int .i64 x.op):=(zB O).1 0;have c4:j.cell? ⟨w.heap.size+1,3,none⟩=some (.string ⟨x.set.toArray⟩):=(zB O).1 3;have b6:Hid (Below w.heap.size w j):=B1;have a6:Hid (j.heap[w.heap.size]?=some (.cells (yH q) 83 (0,0))):=T1;clear U Z B1 O T1 a4;generalize d4:(if(h:Int)<k.t.size then hasB ⟨x.set.toArray⟩ (Rf k.t h)else false)=b at *;generalize b9:k.g=g at *
 go_in
 go_upto_region 1 with fail
 rw[<-b1];clear b1;generalize Y:w.heap.size=n at *;go_wp2_with fail
 refine a2.o.mono ?_;rintro e G ⟨rfl,I⟩;have a0:=hid (b6.o.trans (I.mono (by omega)));have T2:=(I.block n (by omega)).trans a6.o;obtain⟨d8,d9,d3⟩:=a8.o G T2;have d2:=I.size;clear I a2 c8 c9 c3 c4 a6 a8;cases b
 ·go_wp2_with fail
  go_returns;refine⟨rfl,?_⟩;rw[om];exact tL a3.o (by rw[Y];exact a0.o)
 ·have d0:=hid T2
  have T3:(G.setCell ⟨n,1,none⟩ (.int .i64 ((h:Int)+1))).heap[n]?=some (.cells (yH (q.set 1 ((h:Int)+1))) 83 (0,0)):=by
   rw[<-oh q b5];exact lX G n 1 _ _ _ T2
  have J:Below n w (G.setCell ⟨n,1,none⟩ (.int .i64 ((h:Int)+1))):=a0.o.setCell (p:=⟨n,1,none⟩) (lF _) _;have a5:zV k (G.setCell ⟨n,1,none⟩ (.int .i64 ((h:Int)+1))) steps hd zA wo wc W:=a3.o.below (by rw[Y];exact J);have a7:=hid (jq (q.set 1 ((h:Int)+1)) ((pc:Int)+1) (by simp[b5]) a5 (by omega));rw[b9]at a7;have b7:=hid J;clear T2 J a5;go_wp2_with (refine kY 83 43 underlying83 rfl jT (by rfl) (.tmp 4) (by rfl) n (by rfl) T3 (kK _) ?_)
  refine a7.o.mono ?_;rintro e c5 ⟨rfl,c7,c6,a9,b0⟩;have b8:Hid (Waits k wo w steps hd zA (W++[(q.set 1 ((h:Int)+1)).set 0 ((pc:Int)+1)]) c5):=⟨c7,c6,a9,(jZ.below (by rw[Y];exact b7.o)).trans b0⟩
  clear a9 b0;go_wp2_with fail
  go_returns;exact⟨rfl,by rw[bE];exact b8.o⟩
end
theorem set_self(q:List Int) i v(G:gt q i=v):q.set i v=q:=by
 apply iH;intro I;rw[wQ];by_cases h:i=I
 ·subst h;by_cases j:i<q.length
  ·subst G;simp[j,gt]
  ·simp[j]
 ·simp[h]
section
variable {k:Pk} {w:World} {steps:Int} {hd:List Bool} {zA:Int} {wo:Option Addr} {wc:Nat} {W:List (List Int)}
theorem Qy(O:zV k w steps hd zA wo wc W)(q:List Int)(a8:q.length=43)(pc h:Nat)(a7:gt q 0=pc)(Y:gt q 1=h)(c6:pc<=300)(c7:h<=k.t.size)(c8:k.t.size<=60)(c5:W.length<=100000) x(d0:(x.op==1)=false)(d1:(x.op==8)=false)(b7:(x.op==9)=true):
  Calls prog 100 #[.pointer (some ⟨k.g,0,none⟩),.agg (yH q),.agg (qQ x)] w λe w'=>e=.returned (.tuple #[])/\Waits k wo w steps hd zA (wu W (kW k.t q x).2 (kW k.t q x).1) w':=by
 have a6:x.op=9:=by simpa using b7
 have a0:kW k.t q x=(q.set 0 ((pc:Int)+1),(h:Int)==0):=by
  unfold kW;rw[lC (by omega),lC (by omega),lC (by omega),lC (by omega),lC (by omega),lC (by omega),lC (by omega),lG a6,a7,Y]
 rw[a0];clear a0 a6;obtain⟨j,G,B1,T1,a3,c1⟩:=ze w q x;have a1:=hid O;have J:=O.below B1;obtain⟨_,c2,_⟩:=J.cells;have a9:∀z:World,z.heap[w.heap.size]?=some (.cells (yH q) 83 (0,0))->z.cell? ⟨w.heap.size,0,none⟩=some (.int .i64 pc)/\z.cell? ⟨w.heap.size,1,none⟩=some (.int .i64 h)/\z.frozen? ⟨w.heap.size,1,none⟩=false:=λz hz=>⟨by rw[(zB hz).1 0,<-a7];exact yX q 0 (by omega),by rw[(zB hz).1 1,<-Y];exact yX q 1 (by omega),(zB hz).2 1⟩
 obtain⟨d2,d3,c3⟩:=a9 j T1;have c9:j.cell? ⟨w.heap.size+1,0,none⟩=some (.int .i64 x.op):=(zB a3).1 0;have Z:Hid (Below w.heap.size w j):=B1;have b3:Hid (j.heap[w.heap.size]?=some (.cells (yH q) 83 (0,0))):=T1;have b2:Hid (q.set 1 (h:Int)=q):=set_self q 1 _ Y;clear O a9 B1 a3 T1;cases c4:((h:Int)==0)
 ·clear J;generalize b5:k.g=g at *;generalize b6:k.t=t at *
  go_in
  go_upto_region 1 with fail
  rw[<-G];clear G;generalize U:w.heap.size=n at *;go_wp2_with fail
  go_returns;refine⟨rfl,?_⟩;rw[om];exact tL a1.o (by rw[U];exact Z.o)
 ·have T3:(j.setCell ⟨w.heap.size,1,none⟩ (.int .i64 (h:Int))).heap[w.heap.size]?=some (.cells (yH q) 83 (0,0)):=by
   have:=lX j w.heap.size 1 _ _ (.int .i64 (h:Int)) b3.o;rw[oh q a8,b2.o]at this;exact this
  have I:Below w.heap.size w (j.setCell ⟨w.heap.size,1,none⟩ (.int .i64 (h:Int))):=(Z.o).setCell (p:=⟨w.heap.size,1,none⟩) (lF _) _;have a2:=a1.o.below I;have b4:=hid (jq q ((pc:Int)+1) a8 a2 (by omega));have b0:=hid I;clear I a2 J;generalize b5:k.g=g at *;generalize b6:k.t=t at *
  go_in
  go_upto_region 1 with fail
  rw[<-G];clear G;generalize U:w.heap.size=n at *;go_wp2_with (refine kY 83 43 underlying83 rfl jT (by rfl) (.tmp 4) (by rfl) n (by rfl) T3 (kK _) ?_)
  refine b4.o.mono ?_;rintro e b8 ⟨rfl,c0,b9,a4,a5⟩;have b1:Hid (Waits k wo w steps hd zA (W++[q.set 0 ((pc:Int)+1)]) b8):=⟨c0,b9,a4,(jZ.below (by rw[U];exact b0.o)).trans a5⟩
  clear a4 a5;go_wp2_with fail
  go_returns;exact⟨rfl,by rw[bE];exact b1.o⟩
theorem Qz(O:zV k w steps hd zA wo wc W)(q:List Int)(a8:q.length=43)(pc h:Nat)(a7:gt q 0=pc)(Y:gt q 1=h)(c6:pc<=300)(c7:h<=k.t.size)(c8:k.t.size<=60)(c5:W.length<=100000) x(d0:(x.op==1)=false)(d1:(x.op==8)=false)(d2:(x.op==9)=false)(b7:(x.op==10)=true):
  Calls prog 100 #[.pointer (some ⟨k.g,0,none⟩),.agg (yH q),.agg (qQ x)] w λe w'=>e=.returned (.tuple #[])/\Waits k wo w steps hd zA (wu W (kW k.t q x).2 (kW k.t q x).1) w':=by
 have a6:x.op=10:=by simpa using b7
 have a0:kW k.t q x=(q.set 0 ((pc:Int)+1),(h:Int)==(k.t.size:Int)):=by
  unfold kW;rw[lC (by omega),lC (by omega),lC (by omega),lC (by omega),lC (by omega),lC (by omega),lC (by omega),lC (by omega),lG a6,a7,Y]
 rw[a0];clear a0 a6;obtain⟨j,G,B1,T1,a3,c1⟩:=ze w q x;have a1:=hid O;have J:=O.below B1;obtain⟨_,c2,_⟩:=J.cells;have a9:∀z:World,z.heap[w.heap.size]?=some (.cells (yH q) 83 (0,0))->z.cell? ⟨w.heap.size,0,none⟩=some (.int .i64 pc)/\z.cell? ⟨w.heap.size,1,none⟩=some (.int .i64 h)/\z.frozen? ⟨w.heap.size,1,none⟩=false:=λz hz=>⟨by rw[(zB hz).1 0,<-a7];exact yX q 0 (by omega),by rw[(zB hz).1 1,<-Y];exact yX q 1 (by omega),(zB hz).2 1⟩
 obtain⟨d3,d4,c3⟩:=a9 j T1;have c9:j.cell? ⟨w.heap.size+1,0,none⟩=some (.int .i64 x.op):=(zB a3).1 0;have Z:Hid (Below w.heap.size w j):=B1;have b3:Hid (j.heap[w.heap.size]?=some (.cells (yH q) 83 (0,0))):=T1;have b2:Hid (q.set 1 (h:Int)=q):=set_self q 1 _ Y;clear O a9 B1 a3 T1;cases c4:((h:Int)==(k.t.size:Int))
 ·clear J;generalize b5:k.g=g at *;generalize b6:k.t=t at *
  go_in
  go_upto_region 1 with fail
  rw[<-G];clear G;generalize U:w.heap.size=n at *;go_wp2_with fail
  go_region
  go_wp2_with fail
  go_returns;refine⟨rfl,?_⟩;rw[om];exact tL a1.o (by rw[U];exact Z.o.drew)
 ·have T3:(j.drew.setCell ⟨w.heap.size,1,none⟩ (.int .i64 (h:Int))).heap[w.heap.size]?=some (.cells (yH q) 83 (0,0)):=by
   have:=lX j.drew w.heap.size 1 _ _ (.int .i64 (h:Int)) b3.o;rw[oh q a8,b2.o]at this;exact this
  have I:Below w.heap.size w (j.drew.setCell ⟨w.heap.size,1,none⟩ (.int .i64 (h:Int))):=(Z.o.drew).setCell (p:=⟨w.heap.size,1,none⟩) (lF _) _;have a2:=a1.o.below I;have b4:=hid (jq q ((pc:Int)+1) a8 a2 (by omega));have b0:=hid I;clear I a2 J;generalize b5:k.g=g at *;generalize b6:k.t=t at *
  go_in
  go_upto_region 1 with fail
  rw[<-G];clear G;generalize U:w.heap.size=n at *;go_wp2_with (refine kY 83 43 underlying83 rfl jT (by rfl) (.tmp 4) (by rfl) n (by rfl) T3 (kK _) ?_)
  go_region
  go_wp2_with (refine kY 83 43 underlying83 rfl jT (by rfl) (.tmp 4) (by rfl) n (by rfl) T3 (kK _) ?_)
  refine b4.o.mono ?_;rintro e b8 ⟨rfl,c0,b9,a4,a5⟩;have b1:Hid (Waits k wo w steps hd zA (W++[q.set 0 ((pc:Int)+1)]) b8):=⟨c0,b9,a4,(jZ.below (by rw[U];exact b0.o)).trans a5⟩
  clear a4 a5;go_wp2_with fail
  go_returns;exact⟨rfl,by rw[bE];exact b1.o⟩
end
section
variable {k:Pk} {w:World} {steps:Int} {hd:List Bool} {zA:Int} {wo:Option Addr} {wc:Nat} {W:List (List Int)}
theorem zV.drewN(h:zV k w steps hd zA wo wc W) n:zV k (w.drewN n) steps hd zA wo wc W:=h.same rfl rfl rfl rfl rfl (λ_ _=>rfl)
theorem Nl(G:zV k w steps hd zA wo wc W)(q:List Int)(a8:q.length=43)(x:zT)(X:Nat)(b1:(x.op==1)=false)(a7:(x.op==8)=true)(J:x.x=X)(a3:X<10)(b)(a4:-100<=b/\b<=100)(O:gt q (2+2*X)=-1)(U:gt q (2+(2*X+1))=b):
  Calls prog 100 #[.pointer (some ⟨k.g,0,none⟩),.agg (yH q),.agg (qQ x)] w λe w'=>e=.returned (.tuple #[])/\Waits k wo w steps hd zA W w':=by
 obtain⟨h,I,B1,T1,j,a1⟩:=ze w q x;have Z:Hid (zV k w steps hd zA wo wc W):=G;have b2:h.cell? ⟨w.heap.size,2+2*X,none⟩=some (.int .i64 (-1)):=by rw[(zB T1).1 _,<-O];exact yX q _ (by omega)
 have b3:h.cell? ⟨w.heap.size,2+(2*X+1),none⟩=some (.int .i64 b):=by rw[(zB T1).1 _,<-U];exact yX q _ (by omega)
 have a9:h.cell? ⟨w.heap.size+1,0,none⟩=some (.int .i64 x.op):=(zB j).1 0;have b0:h.cell? ⟨w.heap.size+1,1,none⟩=some (.int .i64 (X:Nat)):=by rw[<-J];exact(zB j).1 1
 have Y:Hid (Below w.heap.size w h):=B1;have a6:((-1:Int) != -1)=false:=by decide
 have a2:(2*(X:Int)+1)<20:=by omega
 clear G B1 j T1 O U J;generalize a5:k.g=g at *
 go_in
 go_upto_region 1 with fail
 rw[<-I];clear I;generalize a0:w.heap.size=n at *;go_wp2_with fail
 go_quiet (fail)
 go_wp2_with fail
 go_quiet (fail)
 go_wp2_with fail
 go_returns;refine⟨rfl,?_⟩;exact tL Z.o (by rw[a0];exact below_drewN (below_drewN Y.o _) _)
theorem Mr{P}{f}{h}{X:World}{a b}{v}(G:Calls P f h (X.drewN (a+b)) λe w'=>e=.returned v/\∃m,w'=(X.drewN (a+b)).drewN m):
  Calls P f h (X.drewN (a+b)) λe I=>e=.returned v/\∃n,I=X.drewN (a+n):=G.mono λ_ _ j=>⟨j.1,by obtain⟨m,e⟩:=j.2;exact⟨b+m,by rw[e,World.drewN_drewN,uF]⟩⟩
theorem Nn(U:zV k w steps hd zA wo wc W)(q:List Int)(b5:q.length=43)(pc j:Nat)(b2:gt q 0=pc)(b3:gt q 1=j)(d4:pc<=300)(b4:j<=k.t.size)(c5:k.t.size<=60)(d2:W.length<=100000)(x:zT)(X:Nat)(d9:(x.op==1)=false)(c4:(x.op==8)=true)(Y:x.x=X)(d0:X<10)(a b:Nat)(Z:gt q (2+2*X)=a)(a0:gt q (2+(2*X+1))=b)(c2:a<=b)(c3:b<=k.t.size):
  Calls prog 100 #[.pointer (some ⟨k.g,0,none⟩),.agg (yH q),.agg (qQ x)] w λe w'=>e=.returned (.tuple #[])/\Waits k wo w steps hd zA (wu W (kW k.t q x).2 (kW k.t q x).1) w':=by
 obtain⟨I,J⟩:=zCP k.t q x pc j a b X (by simpa using c4) Y b2 b3 Z a0 c2 c3 b4;obtain⟨h,b0,B1,T1,O,c7⟩:=ze w q x;have a5:=hid U;have a6:zV k h steps hd zA wo wc W:=U.below B1;obtain⟨L,a7⟩:∃L:Nat,L=b-a:=⟨_,rfl⟩
 rw[<-a7]at I J
 have a2:Hid (∀N,CT 124 #[.pointer (some ⟨k.g,0,none⟩),.int .i64 (j:Nat),.int .i64 (a:Nat),.int .i64 ((b:Int)-a)] (h.drewN N) λe w'=>e=.returned (.bool (kW k.t q x).2)/\∃m,w'=(h.drewN N).drewN m):=λN=>by
  have:=Nk (a6.drewN N) j a L c5 b4 (by omega);rw[show((b:Int)-a)=(L:Int) by omega,I];exact this
 have e1:h.cell? ⟨w.heap.size,0,none⟩=some (.int .i64 pc):=by rw[(zB T1).1 _,<-b2];exact yX q _ (by omega)
 have e2:h.cell? ⟨w.heap.size,1,none⟩=some (.int .i64 j):=by rw[(zB T1).1 _,<-b3];exact yX q _ (by omega)
 have c8:h.frozen? ⟨w.heap.size,1,none⟩=false:=(zB T1).2 1;have e3:h.cell? ⟨w.heap.size,2+2*X,none⟩=some (.int .i64 a):=by rw[(zB T1).1 _,<-Z];exact yX q _ (by omega)
 have e4:h.cell? ⟨w.heap.size,2+(2*X+1),none⟩=some (.int .i64 b):=by rw[(zB T1).1 _,<-a0];exact yX q _ (by omega)
 have d7:h.cell? ⟨w.heap.size+1,0,none⟩=some (.int .i64 x.op):=(zB O).1 0;have d8:h.cell? ⟨w.heap.size+1,1,none⟩=some (.int .i64 (X:Nat)):=by rw[<-Y];exact(zB O).1 1
 have b6:Hid (Below w.heap.size w h):=B1;have d3:((a:Int) != -1)=true:=by rw[iX];omega
 have c9:(2*(X:Int)+1)<20:=by omega
 have b9:Hid (∀N,((h.drewN N).setCell ⟨w.heap.size,1,none⟩ (.int .i64 ((j:Int)+((b:Int)-a)))).heap[w.heap.size]?=some (.cells (yH (q.set 1 ((j:Int)+((b:Int)-a)))) 83 (0,0))):=λN=>by
  rw[<-oh q b5];exact lX (h.drewN N) w.heap.size 1 _ _ _ T1
 have a3:Hid (∀N,Below w.heap.size w ((h.drewN N).setCell ⟨w.heap.size,1,none⟩ (.int .i64 ((j:Int)+((b:Int)-a))))):=λN=>(below_drewN B1 N).setCell (p:=⟨w.heap.size,1,none⟩) (lF _) _
 have c0:Hid (∀N,CT 68 #[.pointer (some ⟨k.g,0,none⟩),.agg (yH (q.set 1 ((j:Int)+((b:Int)-a)))),.int .i64 ((pc:Int)+1)] ((h.drewN N).setCell ⟨w.heap.size,1,none⟩ (.int .i64 ((j:Int)+((b:Int)-a)))) λe w'=>e=.returned (.tuple #[])/\∃G a1,zV k w' steps hd zA G a1 (W++[(q.set 1 ((j:Int)+((b:Int)-a))).set 0 ((pc:Int)+1)])/\jZ k wo G ((h.drewN N).setCell ⟨w.heap.size,1,none⟩ (.int .i64 ((j:Int)+((b:Int)-a)))) w'):=
  λN=>jq (q.set 1 ((j:Int)+((b:Int)-a))) ((pc:Int)+1) (by simp[b5]) (a5.o.below (a3.o N)) (by omega)
 have a4:Hid ((b:Int)-a=(L:Int)):=by show _=_;omega
 have b7:Hid ((kW k.t q x).2=true->(kW k.t q x).1=(q.set 1 ((j:Int)+((b:Int)-a))).set 0 ((pc:Int)+1)):=by rw[a4.o];exact J
 have d6:(b:Int)<=60:=by omega
 clear U B1 O T1 Z a0 Y I J a6 a7 a4;generalize (kW k.t q x).1=e0 at *;generalize d5:(kW k.t q x).2=r at *;generalize d1:k.g=g at *
 go_in
 go_upto_region 1 with fail
 rw[<-b0];clear b0;generalize b1:w.heap.size=n at *;cases r
 ·go_wp2_with fail
  go_quiet (fail)
  go_wp2_with fail
  go_quiet ((go_at_call 124;exact Mr (a2.o _)))
  go_wp2_with fail
  go_returns;refine⟨rfl,?_⟩;rw[om];exact tL a5.o (by rw[b1];exact below_drewN (below_drewN b6.o _) _)
 ·have c1:=b7.o rfl;subst c1;go_wp2_with fail
  go_quiet (fail)
  go_wp2_with fail
  go_quiet ((go_at_call 124;exact Mr (a2.o _)))
  go_wp2_with (refine kY 83 43 underlying83 rfl jT (by rfl) (.tmp 4) (by rfl) n (by rfl) (b9.o _) (kK _) ?_)
  refine(c0.o _).mono ?_;rintro e c6 ⟨rfl,G,a1,a8,a9⟩;have b8:Hid (Waits k wo w steps hd zA (W++[(q.set 1 ((j:Int)+((b:Int)-a))).set 0 ((pc:Int)+1)]) c6):=⟨G,a1,a8,(jZ.below (by rw[b1];exact a3.o _)).trans a9⟩
  clear a8 a9;go_wp2_with fail
  go_returns;exact⟨rfl,by rw[bE];exact b8.o⟩
end
structure EJ (k:Pk) (A:Int->fO) (s q:List Int):Prop where
 good:Mt.Good k.c.length k.t.size s
 sim:FV A s q
 neg:Du s
def CO(k:Pk)(wo:Option Addr)(w w':World)(bound:Nat):Prop:=∃hd' zG GU wc' W',zV k w' (k.zD+1) hd' zG GU wc' W'/\jZ k wo GU w w'/\W'.length<=bound
theorem CO.more{k wo w w' a b}(h:CO k wo w w' a)(a0:a<=b):CO k wo w w' b:=by
 obtain⟨j,G,I,J,O,U,Y,Z⟩:=h;exact⟨j,G,I,J,O,U,Y,by omega⟩
theorem CO.after{k wo h w w1 w' a}(j:CO k h w1 w' a)(a1:jZ k wo h w w1):CO k wo w w' a:=by
 obtain⟨G,I,J,O,U,Y,Z,a0⟩:=j;exact⟨G,I,J,O,U,Y,a1.trans Z,a0⟩
def Left(k:Pk)(E:Env)(wo:Option Addr)(w w':World)(r:Xp)(W:List (List Int)):Prop:=∃hd' GU wc',zV k w' (k.zD-r.n) hd' r.zA GU wc' W/\jZ k wo GU w w'/\Tab E hd' r.kn
def ED(k:Pk)(E:Env)(A:Int->fO)(r:Xp)(bound:Nat)(wo:Option Addr)(w:World)(W:List (List Int))(q':List Int)(b:Bool)(w':World):Prop:=
 q'.length=43/\((r.kI=true/\CO k wo w w' bound)\/(r.kI=false/\b=r.ok/\(r.ok=true->FV A r.st q')/\Left k E wo w w' r W))
def zDP(k:Pk)(E:Env)(A:Int->fO)(m:Nat):Prop:=∀(w:World) (hd kn:List Bool) (zA:Int) (wo:Option Addr) (wc:Nat) (W:List (List Int)) (s q:List Int),
 zV k w (k.zD+1-m) hd zA wo wc W->Tab E hd kn->kn.length=E.c.length*(E.t.size+1)*12->0<=zA/\zA<=5000->EJ k A s q->W.length+3*m+1<=50000->(m:Int)<=k.zD+1->
 CT 40 #[.pointer (some ⟨k.g,0,none⟩),.agg (yH q)] w λe w'=>∃q' b,e=.returned (.tuple #[.agg (yH q'),.bool b])/\ED k E A (zS E (m-1) s kn zA) (W.length+3*m+1) wo w W q' b w'
def FT(q e:List Int)(i j:Nat):List Int:=(List.range 43).map λt=>if i<=t/\t<j then gt e t else gt q t
theorem IV q e i j t(h:t<43):gt (FT q e i j) t=if i<=t/\t<j then gt e t else gt q t:=by
 unfold gt FT;rw[lH,gN,sF h];rfl
theorem WY{q e:List Int}(h:∀t,t<43->gt q t=gt e t):yH q=yH e:=by
 unfold yH fu;congr 1;apply sM;intro t j;rw[h t (wK.1 j)]
theorem zCi q e(J:q.length=43)(I:e.length=43):yH (FT (FT q e 2 22) e 22 32)=yH (Bo q e):=by
 refine WY λt G=>?_
 rw[IV _ _ _ _ _ G,IV _ _ _ _ _ G,Jl q e J I];by_cases h:2<=t/\t<22
 ·rw[lC (by omega),lG h,lG (by omega)]
 ·by_cases j:22<=t/\t<32
  ·rw[lG j,lG (by omega)]
  ·rw[lC j,lC h,lC (by omega)]
theorem JF{w:World}{b}{q e}(U:w.heap[b]?=some (.cells (yH q) 83 (0,0)))(i n)(a7:i+n<=43):
  (w.setCells b i (((fu e).drop i).take n)).heap[b]?=some (.cells (yH (FT q e i (i+n))) 83 (0,0)):=by
 obtain⟨D,O,a0⟩:=Cj b 83 (((fu e).drop i).take n) i w _ U;rw[O];have a6:(((fu e).drop i).take n).length=n:=by rw[uM,wW,yg];omega
 have Y:=zB U;have a1:=zB O;have a2:D.size=43:=by rw[a0,kK]
 have:D=yH (FT q e i (i+n)):=by
  apply aO (by rw[a2,kK]);intro t a3 a4;have G:t<43:=by omega
  have j:=a1.1 t;rw[sD a3]at j;have h:=yX (FT q e i (i+n)) t G;rw[sD a4,IV _ _ _ _ _ G]at h;by_cases Z:i<=t/\t<i+n
  ·rw[lG Z]at h;have:=World.cell?_setCells_in b (((fu e).drop i).take n) i w (λa8 a5=>by rw[Y.1];rw[yX q _ (by omega)];rfl) (t-i) (by omega);rw[show i+(t-i)=t by omega]at this;rw[this]at j
   have I:(((fu e).drop i).take n)[t-i]?=some (.int .i64 (gt e t)):=by
    rw[oK (by omega),sW,show i+(t-i)=t by omega];simp[fu,G]
   rw[lN (by omega)]at I;rw[I]at j;rw[j]at h;injection h with h;exact h.symm
  ·rw[lC Z]at h
   have:=iV b (((fu e).drop i).take n) i w ⟨b,t,none⟩ (λ_ _=>by
    dsimp only;rcases wZ t i with J | J
    ·exact gG J
    ·exact lZ (by omega))
   rw[this,Y.1,yX q t G]at j;injection j with j;injection h with h;rw[<-j,<-h]
 rw[this]
theorem Ah{w:World}{b i j} h(G:h≠b):(w.setCells b i j).heap[h]?=w.heap[h]?:=vG b j i w h G
theorem Az:(prog.info? 27).map (·.size)=some 20:=by kernel_rfl
theorem JG:(prog.info? 80).map (·.size)=some 10:=by kernel_rfl
theorem EF{w:World}{b}{e}(j:w.heap[b]?=some (.cells (yH e) 83 (0,0)))(i n):w.rangeAt b i (((fu e).drop i).take n):=λG v h=>by
 rw[(zB j).1]
 have:(fu e)[i+G]?=some v:=by
  rw[List.getElem?_take]at h;split at h
  ·rwa [sW]at h
  ·cases h
 simpa[yH]using this
abbrev Told:=List Int->Bool->Int->List Bool->Int->List (List Int)->Prop
def zDQ(k:Pk)(wo:Option Addr)(P:Told)(z:World)(q':List Int)(b:Bool)(w':World):Prop:=∃st' hd' zG GU wc' W',q'.length=43/\zV k w' st' hd' zG GU wc' W'/\jZ k wo GU z w'/\W'.length<=99999/\P q' b st' hd' zG W'
def CZ(x:zT)(b:Bool):Bool:=if x.x=0 then b else if x.x=1 then b else !b
def oq(k:Pk)(wo:Option Addr)(P:Told)(w:World)(q:List Int)(x:zT)(w':World):Prop:=∃q' b st' hd' zG GU wc' W',q'.length=43/\P q' b st' hd' zG W'/\zV k w' st' hd' zG GU wc' (wu W' (CZ x b) (Dt q x q'))/\jZ k wo GU w w'
section
variable {k:Pk} {w:World} {steps:Int} {hd:List Bool} {zA:Int} {wo:Option Addr} {wc:Nat} {W:List (List Int)}
structure zEV (k:Pk) (wo:Option Addr) (P:Told) (w:World) (n m:Nat) (q:List Int) (x:zT) (q':List Int) (b:Bool) (w5:World):Prop where
 s:w5.heap[n]?=some (.cells (yH q) 83 (0,0))
 i:w5.heap[n+1]?=some (.cells (qQ x) 112 (0,0))
 e:w5.heap[m]?=some (.cells (yH q') 83 (0,0))
 nm:n<m/\n≠m
 done:∃st' hd' zG GU wc' W',q'.length=43/\zV k w5 st' hd' zG GU wc' W'/\jZ k wo GU w w5/\W'.length<=99999/\P q' b st' hd' zG W'/\(k.g<n/\k.gc<n/\k.gl<n/\k.gs<n/\k.gh<n)/\(∀z,blk GU=some z->z≠n)
 hn:n=w.heap.size
theorem QA(c8:zV k w steps hd zA wo wc W)(q:List Int)(b8:q.length=43)(x)(pc:Nat)(i9:gt q 0=pc)(k2:pc<=300)(P)
  (h1:∀z,zV k z steps hd zA wo wc W->CT 40 #[.pointer (some ⟨k.g,0,none⟩),.agg (yH (q.set 0 ((pc)+1)))] z λe w'=>∃q' b,e=.returned (.tuple #[.agg (yH q'),.bool b])/\zDQ k wo P z q' b w')
  (h2:(x.x==0)=true\/((x.x==0)=false/\(x.x==1)=true)\/((x.x==0)=false/\(x.x==1)=false/\(x.x==2)=true)):
  Calls prog 99 #[.pointer (some ⟨k.g,0,none⟩),.agg (yH q),.agg (qQ x)] w λe w'=>e=.returned (.tuple #[])/\oq k wo P w q x w':=by
 obtain⟨h9,g9,B1,T1,g1,g2⟩:=ze w q x;have c4:=hid c8;have e6:=hid h1;have h7:=hid h2;have e9:=hid g1;have e1:=hid B1;have U:=hid g2;obtain⟨k0⟩:Nonempty (k.g<w.heap.size):=⟨c8.lt.1⟩
 clear c8 h1 h2 g1 B1 g2;generalize i8:k.g=g at *
 go_in
 go_upto_region 1 with fail
 rw[<-g9];clear g9;generalize b7:w.heap.size=n at *;have h6:=hid T1;go_upto_region 2 with (first|(refine kY 83 43 underlying83 rfl jT (by rfl) (.tmp 4) (by rfl) n (by rfl) T1 (kK _) ?_)|(refine zN 83 43 jT (by rfl) (.tmp 6) (.tmp 9) (by rfl) h9.heap.size (yH q) (by rfl) (by rfl) (by exact jP _ _) (by rfl) (kK _) (aV _) ?_;intro I Z a5 c1 b2))
 have S2:I.heap[n]?=some (.cells (yH q) 83 (0,0)):=by rw[a5 n (by have:=U.o;omega),kQ _ _ _ (by have:=U.o;omega)];exact T1
 have f0:I.heap[n+1]?=some (.cells (qQ x) 112 (0,0)):=by rw[a5 (n+1) (by have:=U.o;omega),kQ _ _ _ (by have:=U.o;omega)];exact e9.o
 have d5:Below n w I:=(e1.o.alloc (by have:=U.o;omega) _).trans (b2 n (by have:=U.o;omega));rw[U.o]at Z;have g3:I.heap.size=n+3:=by rw[c1];simp[U.o]
 have j6:I.cell? ⟨n,0,none⟩=some (.int .i64 pc):=by rw[(zB S2).1 0,<-i9];exact yX q 0 (by omega)
 have j7:I.cell? ⟨n+2,0,none⟩=some (.int .i64 (gt q 0)):=by rw[(zB Z).1 0];exact yX q 0 (by omega)
 have i2:=(zB Z).2 0
 have e0:(I.setCell ⟨n+2,0,none⟩ (.int .i64 ((pc:Int)+1))).heap[n+2]?=some (.cells (yH (q.set 0 ((pc:Int)+1))) 83 (0,0)):=by
  rw[<-oh q b8];exact lX I (n+2) 0 _ _ _ Z
 have S3:(I.setCell ⟨n+2,0,none⟩ (.int .i64 ((pc:Int)+1))).heap[n]?=some (.cells (yH q) 83 (0,0)):=(lS _ _ _ _ (by show n≠n+2;omega)).trans S2;have f1:(I.setCell ⟨n+2,0,none⟩ (.int .i64 ((pc:Int)+1))).heap[n+1]?=some (.cells (qQ x) 112 (0,0)):=(lS _ _ _ _ (by show n+1≠n+2;omega)).trans f0;have c2:Below n w (I.setCell ⟨n+2,0,none⟩ (.int .i64 ((pc:Int)+1))):=d5.setCell (p:=⟨n+2,0,none⟩) (by show n<=n+2;omega) _;have i0:(I.setCell ⟨n+2,0,none⟩ (.int .i64 ((pc:Int)+1))).heap.size=n+3:=by simp[World.setCell,g3]
 have h8:=U.o;rw[h8];clear Z a5 c1 b2 T1 S2 f0 d5 g3 h6 e9 e1 U;go_upto_region 3 with fail
 clear j6 j7 i2;generalize I.setCell ⟨n+2,0,none⟩ (.int .i64 ((pc:Int)+1))=d4 at *;have e5:zV k d4 steps hd zA wo wc W:=c4.o.below (by rw[b7];exact c2);have e7:=hid (e6.o d4 e5);have e2:=hid c2;have e8:=hid S3;have e4:=hid f1;clear e5 c2 S3 f1 e6;go_wp2_with (refine kY 83 43 underlying83 rfl jT (by rfl) (.tmp 6) (by rfl) (n+2) (by rfl) e0 (kK _) ?_)
 refine e7.o.mono ?_;rintro e b3 ⟨q',b,rfl,g8⟩;have e3:=hid g8;clear g8 e0 e7;go_upto_region 4 with (refine zN 83 43 jT (by rfl) (.tmp 7) (.tmp 18) (by rfl) b3.heap.size (yH q') (by rfl) (by rfl) (by exact jP _ _) (by rfl) (kK _) (aV _) ?_;intro j Z a5 c1 b2)
 have Y:Hid (zEV k wo P w n b3.heap.size q x q' b j):=by
  obtain⟨a6,a3,zG,a7,b4,W',a0,a9,G,c7,b0⟩:=e3.o;have d2:=c4.o.lt;rw[b7]at d2
  have h0:∀h,n<=h->h<n+3->j.heap[h]?=d4.heap[h]?:=λh g6 g7=>by
   have:=G.size;rw[a5 h (by omega),kQ _ _ _ (by omega)];exact G.block h (by omega) (by omega) (by omega) (λe=>by have:=(d2.2.2.2.2.2 h e).2;omega)
  have k3:=G.size;have d6:Below b3.heap.size b3 j:=((lK _ _).alloc (lF _) _).trans (b2 _ (lF _));refine⟨(h0 n (by omega) (by omega)).trans e8.o,(h0 (n+1) (by omega) (by omega)).trans e4.o,Z,by omega,⟨a6,a3,zG,a7,b4,W',a0,a9.below d6,((jZ.below (by rw[b7];exact e2.o)).trans G).trans (jZ.below d6),c7,b0,by omega,λz hz e=>?_⟩,b7.symm⟩;have:=G.sub z (by omega) hz;have:=(d2.2.2.2.2.2 z this).2;omega
 clear Z a5 c1 b2 e3 e8 e4 e2 c4 i0;generalize b3.heap.size=m at *;have c9:=zB Y.o.i;have j1:j.cell? ⟨n+1,1,none⟩=some (.int .i64 x.x):=c9.1 1;have h3:j.cell? ⟨n+1,2,none⟩=some (.int .i64 x.y):=c9.1 2;have b5:=Y.o.e;have b6:=Y.o.s
 have c3:Hid (CZ x b=false->oq k wo P w q x j):=λd0=>by
  obtain⟨a6,a3,zG,a7,b4,W',a0,a9,G,c7,b0,_⟩:=Y.o.done;exact⟨q',b,a6,a3,zG,a7,b4,W',a0,b0,by rw[d0,om];exact a9,G⟩
 have d3:q'.length=43:=by obtain⟨_,_,_,_,_,_,a0,_⟩:=Y.o.done;exact a0
 have c5:Hid (∀(u:List Int) (z:World) (y:Int),u.length=43->Below n j z->(∀h,h≠n->z.heap[h]?=j.heap[h]?)->CT 68 #[.pointer (some ⟨g,0,none⟩),.agg (yH u),.int .i64 y] z λe w'=>e=.returned (.tuple #[])/\(CZ x b=true->u.set 0 y=Dt q x q'->oq k wo P w q x w')):=λu z y b1 hz a2=>by
  obtain⟨a6,a3,zG,a7,b4,W',a0,a9,G,c7,b0,j8,i1⟩:=Y.o.done;have i5:zV k z a6 a3 zG a7 b4 W':=a9.same (a2 _ (by omega)) (a2 _ (by omega)) (a2 _ (by omega)) (a2 _ (by omega)) (a2 _ (by omega)) (λi d1=>a2 i (i1 i d1))
  have i7:jZ k wo a7 w z:=by
   refine⟨hz.os.trans G.os,hz.tape.trans G.tape,hz.output.trans G.output,gX G.size hz.size,λi d1 g6 g7 i3=>(a2 i (by omega)).trans (G.block i d1 g6 g7 i3),G.sub⟩
  have:=jq u y b1 i5 (by omega);rw[i8]at this;refine this.mono ?_;rintro e w' ⟨rfl,j5,j4,i4,i6⟩;refine⟨rfl,λd0 j0=>⟨q',b,a6,a3,zG,j5,j4,W',a0,b0,?_,i7.trans i6⟩⟩;rw[d0,bE,<-j0];exact i4
 clear c9;have k1:=Y.o.nm;rcases h7.o with O | ⟨O,a1⟩ | ⟨O,a1,j9⟩
 ·cases b
  ·go_wp2_with fail
   go_returns;exact⟨rfl,c3.o (by unfold CZ;rw[lG (by simpa using O)])⟩
  ·go_wp2_with (refine kY 83 43 underlying83 rfl jT (by rfl) (.tmp 7) (by rfl) m (by rfl) b5 (kK _) ?_)
   refine(c5.o _ _ _ d3 (lK _ _) (λ_ _=>rfl)).mono ?_;rintro e J ⟨rfl,hF⟩;have a8:Hid (oq k wo P w q x J):=hF (by unfold CZ;rw[lG (by simpa using O)]) (by unfold Dt;rw[lG (by simpa using O)]);clear hF;go_wp2_with fail
   go_returns;exact⟨rfl,a8.o⟩
 ·cases b
  ·go_wp2_with fail
   go_returns;exact⟨rfl,c3.o (by unfold CZ;rw[lC (by simpa using O),lG (by simpa using a1)])⟩
  ·have f6:=EF b5 2 20
   have f9:j.there n 2 20:=λh a4=>by
    have:=zB b6;rw[this.1,this.2,yX q _ (by omega)];exact⟨rfl,rfl⟩
   have c6:=JF (e:=q') b6 2 20 (by omega);have d9:(j.setCells n 2 (((fu q').drop 2).take 20)).heap[m]?=some (.cells (yH q') 83 (0,0)):=(Ah m (by omega)).trans b5;have f2:(j.setCells n 2 (((fu q').drop 2).take 20)).heap[n+1]?=some (.cells (qQ x) 112 (0,0)):=(Ah (n+1) (by omega)).trans Y.o.i;have d7:Below n j (j.setCells n 2 (((fu q').drop 2).take 20)):=(below_setCells n _ 2 j n (lF _)).1;have f4:∀h,h≠n->(j.setCells n 2 (((fu q').drop 2).take 20)).heap[h]?=j.heap[h]?:=λh a4=>Ah h a4
   have b9:(((fu q').drop 2).take 20).toArray.size=20:=by simp[fu]
   have c0:(((fu q').drop 22).take 10).toArray.size=10:=by simp[fu]
   have g4:(((fu q').drop 2).take 20).toArray.all (·.oneCell')=true:=by
    rw[wH,iO];intro u b1;exact Qx q' u (List.mem_of_mem_drop (oW b1))
   have g5:(((fu q').drop 22).take 10).toArray.all (·.oneCell')=true:=by
    rw[wH,iO];intro u b1;exact Qx q' u (List.mem_of_mem_drop (oW b1))
   go_upto_region 11 with (first|(refine wpList_load_mid (by rfl) 27 (.tmp 33) (by rfl) m 2 (by rfl) (((fu q').drop 2).take 20) _ f6 underlying27 rfl (by rw[Az,<-b9];rfl) ?_)|(refine wpList_store_mid (by rfl) 27 (.tmp 35) (.tmp 34) (by rfl) n 2 (((fu q').drop 2).take 20).toArray (by rfl) (by rfl) (by rw[b9];exact f9) (by rw[Az,b9]) g4 ?_))
   generalize j.setCells n 2 (((fu q').drop 2).take 20)=J at *;have f7:=EF d9 22 10
   have g0:J.there n 22 10:=λh a4=>by
    have:=zB c6;rw[this.1,this.2,yX _ _ (by omega)];exact⟨rfl,rfl⟩
   have f8:=JF (e:=q') c6 22 10 (by omega);rw[show 2+20=22 from rfl,show 22+10=32 from rfl,zCi q q' b8 d3]at f8;have f3:(J.setCells n 22 (((fu q').drop 22).take 10)).heap[n+1]?=some (.cells (qQ x) 112 (0,0)):=(Ah (n+1) (by omega)).trans f2;have d8:Below n j (J.setCells n 22 (((fu q').drop 22).take 10)):=d7.trans (below_setCells n _ 22 J n (lF _)).1;have f5:∀h,h≠n->(J.setCells n 22 (((fu q').drop 22).take 10)).heap[h]?=j.heap[h]?:=λh a4=>(Ah h a4).trans (f4 h a4)
   have h4:Hid (Below n j (J.setCells n 22 (((fu q').drop 22).take 10))):=d8;have h5:Hid (∀h,h≠n->(J.setCells n 22 (((fu q').drop 22).take 10)).heap[h]?=j.heap[h]?):=f5;clear d7 f4 c6 f2 f9 f6 g4 b9 d8 f5 b5 b6 j1 h3;go_upto_region 12 with (first|(refine wpList_load_mid (by rfl) 80 (.tmp 36) (by rfl) m 22 (by rfl) (((fu q').drop 22).take 10) _ f7 underlying80 rfl (by rw[JG,<-c0];rfl) ?_)|(refine wpList_store_mid (by rfl) 80 (.tmp 38) (.tmp 37) (by rfl) n 22 (((fu q').drop 22).take 10).toArray (by rfl) (by rfl) (by rw[c0];exact g0) (by rw[JG,c0]) g5 ?_))
   generalize J.setCells n 22 (((fu q').drop 22).take 10)=j2 at *;have h3:j2.cell? ⟨n+1,2,none⟩=some (.int .i64 x.y):=(zB f3).1 2;clear f7 g0 f3 c0 g5 d9;go_wp2_with (refine kY 83 43 underlying83 rfl jT (by rfl) (.tmp 4) (by rfl) n (by rfl) f8 (kK _) ?_)
   refine(c5.o _ _ _ (Gh q q' b8 d3) h4.o h5.o).mono ?_;rintro e j3 ⟨rfl,hF⟩;have a8:Hid (oq k wo P w q x j3):=hF (by unfold CZ;rw[lC (by simpa using O),lG (by simpa using a1)]) (by unfold Dt;rw[lC (by simpa using O),lG (by simpa using a1)]);clear hF;go_wp2_with fail
   go_returns;exact⟨rfl,a8.o⟩
 ·cases b
  ·go_wp2_with (refine kY 83 43 underlying83 rfl jT (by rfl) (.tmp 4) (by rfl) n (by rfl) b6 (kK _) ?_)
   refine(c5.o _ _ _ b8 (lK _ _) (λ_ _=>rfl)).mono ?_;rintro e J ⟨rfl,hF⟩;have a8:Hid (oq k wo P w q x J):=hF (by unfold CZ;rw[lC (by simpa using O),lC (by simpa using a1)];rfl) (by unfold Dt;rw[lC (by simpa using O),lC (by simpa using a1)]);clear hF;go_wp2_with fail
   go_returns;exact⟨rfl,a8.o⟩
  ·go_wp2_with fail
   go_returns;exact⟨rfl,c3.o (by unfold CZ;rw[lC (by simpa using O),lC (by simpa using a1)];rfl)⟩
end
