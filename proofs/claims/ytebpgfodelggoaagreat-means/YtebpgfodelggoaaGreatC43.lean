import Derived.Test.YtebpgfodelggoaaGreatC42
set_option linter.all false
set_option maxRecDepth 100000
set_option maxHeartbeats 2000000
namespace Go.Proofs.YtebpgfodelggoaaGreat
open Go.RowKit _root_.Go.Proofs.Tryz Mt
section
variable {k:Pk} {w:World} {steps:Int} {hd:List Bool} {zA:Int} {wo:Option Addr} {wc:Nat} {W:List (List Int)}
theorem Tp(O:zV k w steps hd zA wo wc W) h(c2:k.t.size<=60)(p:BA)(c0:p.size<=256)(c1:h<=60):Calls prog 123 #[.pointer (some ⟨k.g,0,none⟩),.int .i64 (h:Nat),.string p] w λe w'=>e=.returned (.bool (if(h:Int)<k.t.size then hasB p (Rf k.t h)else false))/\Below w.heap.size w w':=by
 obtain⟨a3,a4,a5,a6,a7,a8,a9,b0,b1,b2,b4⟩:=O.cells;have b5:=O.lt.1;clear O b4 a3 a5 a6 a7 a8 a9 b0 b1 b2;generalize k.g=g at *;generalize k.t=t at *;by_cases G:h<t.size
 ·have b6:(h:Int)<t.size:=by omega
  rw[lG b6];have b3:Rf t h=((t[h]'G).toNat:Int):=by unfold Rf;rw[dif_pos G]
  rw[b3];have b7:decide ((h:Int)>=(t.size:Int))=false:=by simp;omega
  go_in
  go_wp2_with fail
  go_loopw [7] (λi wr=>∃j:Nat,j<=p.size/\i=.int .i64 j/\Gb p ((t[h]'G).toNat:Int) j=false/\Below w.heap.size w wr) (λi _=>p.size-(intOf i).toNat)
  case atStart=>exact⟨0,gD _,rfl,rfl,lK _ _⟩
  case round =>
   obtain⟨j,b9,rfl,a1,U⟩:=hrel;have b8:wr.cell? ⟨g,1,none⟩=some (.string t):=by rw[U.cell (p:=⟨g,1,none⟩) b5];exact a4
   have Z:=hid a1;have I:=hid U;clear a1 U;by_cases Y:j<p.size
   ·cases a0:(((p[j]'Y).toNat:Int)==((t[h]'G).toNat:Int))
    ·have a2:Hid (Gb p ((t[h]'G).toNat:Int) (j+1)=false):=by show _=_;rw[KV p _ j Y,Z.o,a0];rfl
     go_wp2_with fail
     go_region
     go_wp2_with fail
     go_roundw
     case rel=>exact⟨j+1,by omega,by go_num,a2.o,I.o.drew⟩
     case measure=>simp[intOf];omega
    ·have J:=hid (Rp p _ j Y a0);go_wp2_with fail
     go_region
     go_wp2_with fail
     go_ret;exact⟨jM (by rw[J.o]),I.o.drew⟩
   ·have J:Hid (hasB p ((t[h]'G).toNat:Int)=false):=by
     have:=Z.o
     rwa [show j=p.size by omega,NH]at this
    go_wp2_with fail
    go_ret;exact⟨jM (by rw[J.o]),I.o⟩
 ·rw[lC (by omega)];have b7:decide ((h:Int)>=(t.size:Int))=true:=by simp;omega
  go_in
  go_wp2_with fail
  go_ret;exact⟨rfl,lK _ _⟩
end
section
variable {k:Pk} {w:World} {steps:Int} {hd:List Bool} {zA:Int} {wo:Option Addr} {wc:Nat} {W:List (List Int)}
theorem Nk(Y:zV k w steps hd zA wo wc W) j a n(c4:k.t.size<=60)(c3:j<=k.t.size)(b8:a+n<=k.t.size):Calls prog 124 #[.pointer (some ⟨k.g,0,none⟩),.int .i64 (j),.int .i64 (a),.int .i64 (n)] w λe w'=>e=.returned (.bool (if(k.t.size:Int)<j+n then false else HV k.t j a n))/\∃m,w'=w.drewN m:=by
 obtain⟨a4,a5,a6,a7,a8,a9,b0,b1,b2,b3,b4⟩:=Y.cells;have b9:=Y.lt.1;clear Y b4 a4 a6 a7 a8 a9 b0 b1 b2 b3;generalize k.g=g at *;generalize k.t=t at *;by_cases a0:(t.size:Int)<j+n
 ·rw[lG a0];have b5:decide ((n:Int)>(t.size:Int)-j)=true:=by simp;omega
  go_in
  go_wp2_with fail
  go_ret;exact⟨rfl,0,rfl⟩
 ·rw[lC a0];have b5:decide ((n:Int)>(t.size:Int)-j)=false:=by simp;omega
  have c2:j+n<=t.size:=by omega
  clear a0
  go_in
  go_wp2_with fail
  go_loopw [9] (λi wr=>∃h:Nat,h<=n/\i=.int .i64 h/\HV t j a h=true/\∃m,wr=w.drewN m) (λi _=>n-(intOf i).toNat)
  case atStart=>exact⟨0,gD _,rfl,rfl,0,rfl⟩
  case round =>
   obtain⟨h,c0,rfl,a3,m,Z⟩:=hrel;have b7:wr.cell? ⟨g,1,none⟩=some (.string t):=by rw[Z];exact a5
   have a2:=hid a3;have O:=hid Z;clear a3 Z;by_cases c1:h<n
   ·have G:j+h<t.size:=by omega
    have I:a+h<t.size:=by omega
    have c5:(j:Int)+h<t.size:=by omega
    have c6:(a:Int)+h<t.size:=by omega
    have c7:(0:Int)<=(a:Int)+h:=by omega
    have c8:(0:Int)<=(j:Int)+h:=by omega
    have a1:Hid (HV t j a (h+1)=(((t[j+h]'G).toNat:Int)==((t[a+h]'I).toNat:Int))):=by show _=_;rw[NQ,a2.o,Bool.true_and,HY t _ G,HY t _ I]
    cases J:(((t[j+h]'G).toNat:Int)==((t[a+h]'I).toNat:Int))
    ·have U:Hid (HV t j a n=false):=by
      show _=_;have:=NR t j a (h+1) (n-(h+1)) (by rw[a1.o,J]);rw[show h+1+(n-(h+1))=n by omega]at this;exact this
     have b6:(((t[j+h]'G).toNat:Int) != ((t[a+h]'I).toNat:Int))=true:=by simp only[bne,J];rfl
     go_wp2_with fail
     go_region
     go_wp2_with fail
     go_ret;exact⟨jM (by rw[U.o]),m+1,by rw[O.o];rfl⟩
    ·have b6:(((t[j+h]'G).toNat:Int) != ((t[a+h]'I).toNat:Int))=false:=by simp only[bne,J];rfl
     go_wp2_with fail
     go_region
     go_wp2_with fail
     go_roundw
     case rel=>exact⟨h+1,by omega,by go_num,by rw[a1.o,J],m+1,by rw[O.o];rfl⟩
     case measure=>simp[intOf];omega
   ·have U:Hid (HV t j a n=true):=by
     have:=a2.o
     rwa [show h=n by omega]at this
    go_wp2_with fail
    go_ret;exact⟨jM (by rw[U.o]),m,O.o⟩
end
theorem Kg(w)(b)(q)(a5:q.length=43)(U:w.heap[b]?=some (.cells (yH q) 83 (0,0)))(x)(b6:x<10):Calls prog 98 #[.pointer (some ⟨b,0,none⟩),.int .i64 (x:Nat)] w λe w'=>e=.returned (.tuple #[])/\w'.heap[b]?=some (.cells (yH ((q.set (2+2*x) (gt q (22+x))).set (2+(2*x+1)) (gt q 1))) 83 (0,0))/\(∀L,L<=b->Below L w w')/\(∀h,h≠b->w'.heap[h]?=w.heap[h]?)/\w'.heap.size=w.heap.size:=by
 have j:=zB U;have a1:w.cell? ⟨b,1,none⟩=some (.int .i64 (gt q 1)):=by rw[j.1 1];exact yX q 1 (by omega)
 have b1:w.cell? ⟨b,22+x,none⟩=some (.int .i64 (gt q (22+x))):=by rw[j.1 _];exact yX q _ (by omega)
 have b0:w.cell? ⟨b,2+2*x,none⟩=some (.int .i64 (gt q (2+2*x))):=by rw[j.1 _];exact yX q _ (by omega)
 have a2:w.cell? ⟨b,2+(2*x+1),none⟩=some (.int .i64 (gt q (2+(2*x+1)))):=by rw[j.1 _];exact yX q _ (by omega)
 have b2:=j.2 (2+2*x);have a4:=j.2 (2+(2*x+1));have G:=hid U;clear j U
 go_in
 go_wp2_with fail
 go_region
 go_wp2_with fail
 have T1:=lX w b (2+2*x) _ _ (.int .i64 (gt q (22+x))) G.o;rw[oh q a5]at T1;have Y:∀L,L<=b->Below L w (w.setCell ⟨b,2+2*x,none⟩ (.int .i64 (gt q (22+x)))).drew:=λL I=>((lK L w).setCell (p:=⟨b,2+2*x,none⟩) I _).drew
 have Z:∀h,h≠b->(w.setCell ⟨b,2+2*x,none⟩ (.int .i64 (gt q (22+x)))).drew.heap[h]?=w.heap[h]?:=λh J=>lS _ _ _ _ J
 have a0:(w.setCell ⟨b,2+2*x,none⟩ (.int .i64 (gt q (22+x)))).drew.heap.size=w.heap.size:=by simp[World.setCell]
 have O:(w.setCell ⟨b,2+2*x,none⟩ (.int .i64 (gt q (22+x)))).drew.heap[b]?=some (.cells (yH (q.set (2+2*x) (gt q (22+x)))) 83 (0,0)):=T1;have a7:Hid (∀L,L<=b->Below L w (w.setCell ⟨b,2+2*x,none⟩ (.int .i64 (gt q (22+x)))).drew):=Y;have a8:Hid (∀h,h≠b->(w.setCell ⟨b,2+2*x,none⟩ (.int .i64 (gt q (22+x)))).drew.heap[h]?=w.heap[h]?):=Z;have a9:Hid ((w.setCell ⟨b,2+2*x,none⟩ (.int .i64 (gt q (22+x)))).drew.heap.size=w.heap.size):=a0;clear T1 Y Z a0 b0 a2 a1 b1 b2 a4 G;generalize (w.setCell ⟨b,2+2*x,none⟩ (.int .i64 (gt q (22+x)))).drew=w1 at *;have a3:gt (q.set (2+2*x) (gt q (22+x))) 1=gt q 1:=zQ _ _ _ _ (by omega);have j:=zB O;have a1:w1.cell? ⟨b,1,none⟩=some (.int .i64 (gt q 1)):=by rw[j.1 1,<-a3];exact yX _ 1 (by omega)
 have a2:w1.cell? ⟨b,2+(2*x+1),none⟩=some (.int .i64 (gt (q.set (2+2*x) (gt q (22+x))) (2+(2*x+1)))):=by rw[j.1 _];exact yX _ _ (by omega)
 have a4:=j.2 (2+(2*x+1));have b3:(q.set (2+2*x) (gt q (22+x))).length=43:=by simp[a5]
 have G:Hid (w1.heap[b]?=some (.cells (yH (q.set (2+2*x) (gt q (22+x)))) 83 (0,0))):=O;clear O j a3;generalize b4:q.set (2+2*x) (gt q (22+x))=a6 at *;generalize gt a6 (2+(2*x+1))=z at *;generalize b5:gt q 1=y at *
 go_region
 go_wp2_with fail
 have T2:=lX w1 b (2+(2*x+1)) _ _ (.int .i64 y) G.o;rw[oh a6 b3]at T2;go_returns;refine⟨rfl,by rw[b4,b5];exact T2,λL I=>(a7.o L I).trans ((lK L w1).setCell (p:=⟨b,2+(2*x+1),none⟩) I _).drew,λh J=>?_,?_⟩
 ·exact(lS _ _ _ _ J).trans (a8.o h J)
 ·rw[<-a9.o];simp[World.setCell]
