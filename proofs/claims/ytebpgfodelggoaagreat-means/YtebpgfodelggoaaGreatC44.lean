import Derived.Test.YtebpgfodelggoaaGreatC42
set_option linter.all false
set_option maxRecDepth 100000
set_option maxHeartbeats 4000000
namespace Go.Proofs.YtebpgfodelggoaaGreat
open Go.RowKit _root_.Go.Proofs.Tryz Mt
structure Ctx (k:Pk) (E:Env) (A:Int->fO):Prop where
 ec:E.c=k.c
 et:E.t=k.t
 known:Known k.c A
 ar:∀p,p<k.c.length->E.ar.getD p 0=jY k.c p
 vk:∀p,E.vk p<=11
 lp:∀p,p<k.c.length->k.lp.getD p 0=(E.vk p:Int)
 sl:∀p,p<k.c.length->k.sl.getD p 0=if E.qU.getD p false=true then(E.base p:Int)else -1
 t60:k.t.size<=60
 bud:0<=k.zD/\k.zD<=10000
section
variable {k:Pk} {w:World} {steps:Int} {hd:List Bool} {zA:Int} {wo:Option Addr} {wc:Nat} {W:List (List Int)}
theorem zV.zFs(h:zV k w steps hd zA wo wc W) p(G:p<k.c.length):w.cell? ⟨k.gl,p,none⟩=some (.int .i64 (k.lp.getD p 0)):=by
 have j:=h.ll;rw[gU h.lps p (by omega),lH,gN,lN (by omega)];rfl
theorem zV.zEU(h:zV k w steps hd zA wo wc W) p(G:p<k.c.length):w.cell? ⟨k.gs,p,none⟩=some (.int .i64 (k.sl.getD p 0)):=by
 have j:=h.ls;rw[gU h.sls p (by omega),lH,gN,lN (by omega)];rfl
theorem zV.zFt(h:zV k w steps hd zA wo wc W) p(j:p<hd.length):w.cell? ⟨k.gh,p,none⟩=some (.bool (hd.getD p false))/\w.frozen? ⟨k.gh,p,none⟩=false:=by
 refine⟨?_,rA h.hds p⟩;rw[gU h.hds p (by omega),lH,gN,lN (by omega)];rfl
theorem Tq(I:zV k w steps hd zA wo wc W)(q:List Int)(pc O a B:Nat)(d6:gt q 0=pc)(b2:gt q 1=O)(b3:pc<k.c.length)(e8:k.c.length<=300)(f3:O<=k.t.size)(f4:k.t.size<=60)(b1:k.lp.getD pc 0= a)(e6:a<=11)(b5:k.sl.getD pc 0= B)(e5:B<=300000):
  Calls prog 97 #[.pointer (some ⟨k.g,4,none⟩),.agg (yH q)] w λe w'=>e=.returned (.int .i64 ((B+kR q a*(k.t.size+1)+O:Nat):Int))/\Below w.heap.size w w':=by
 obtain⟨b9,c0,c1,c2,a5,a6,a7,c3,c4,c5,d0⟩:=I.cells;have a3:=I.lt.1;have d1:=I.lt.2.2.1;have d2:=I.lt.2.2.2.1;have a2:=I.zFs pc b3;have cs:=I.zEU pc b3;rw[b1]at a2;rw[b5]at cs;clear I d0 b9 c0 c1 c2 c3 c4 c5 b1 b5;have f2:(pc:Int)<(k.c.length:Int):=by omega
 generalize k.g=g at *;generalize k.t.size=T at *;generalize k.c.length=a4 at *;generalize k.gl=a8 at *;generalize k.gs=a9 at *;generalize k.cl=c6 at *;generalize k.cs=c7 at *
 go_in
 go_upto_region 1 with fail
 generalize Y:w.alloc (.cells (yH q) 83)=j at *;have B1:Below w.heap.size w j:=by rw[<-Y];exact(lK _ _).alloc (lF _) _
 have T1:j.heap[w.heap.size]?=some (.cells (yH q) 83 (0,0)):=by rw[<-Y];exact gF _ _
 have b8:j.heap.size=w.heap.size+1:=by rw[<-Y];simp
 clear Y
 have a1:Hid (∀h,h<43->∀z:World,Below j.heap.size j z->z.cell? ⟨w.heap.size,h,none⟩=some (.int .i64 (gt q h))):=λh b0 z hz=>by
  rw[gH (a:=⟨w.heap.size,h,none⟩) (hz.block w.heap.size (by omega)),(zB T1).1 h];exact yX q h b0
 have b7:Hid (∀z:World,Below j.heap.size j z->z.cell? ⟨g,5,none⟩=some (.slice (some ⟨a8,0,none⟩) a4 c6)/\z.cell? ⟨g,6,none⟩=some (.slice (some ⟨a9,0,none⟩) a4 c7)/\z.cell? ⟨g,4,none⟩=some (.int .i64 ((T:Int)+1))/\z.cell? ⟨a8,pc,none⟩=some (.int .i64 a)/\z.cell? ⟨a9,pc,none⟩=some (.int .i64 B)):=λz hz=>by
  have o:∀b h,b<w.heap.size->z.cell? ⟨b,h,none⟩=w.cell? ⟨b,h,none⟩:=λb h c9=>gH (a:=⟨b,h,none⟩) ((hz.block b (by omega)).trans (B1.block b c9))
  exact⟨(o _ _ a3).trans a6,(o _ _ a3).trans a7,(o _ _ a3).trans a5,(o _ _ d1).trans a2,(o _ _ d2).trans cs⟩
 have b6:Hid (Below w.heap.size w j):=B1;have c8:w.heap.size<=j.heap.size:=by omega
 clear T1 B1 b8 a5 a6 a7 a2 cs;generalize d5:w.heap.size=n at *;go_wp2_with fail
 go_loopw [5,6] (λe i wr=>∃h:Nat,h<=a/\i=.int .i64 h/\e=.int .i64 (kR q h:Nat)/\Below j.heap.size j wr) (λ_ i _=>a-(intOf i).toNat)
 case atStart=>exact⟨0,gD _,rfl,rfl,lK _ _⟩
 case round =>
  obtain⟨h,b0,rfl,rfl,J⟩:=hrel;obtain⟨e1,e2,e0,e3,e4⟩:=b7.o wr J;have d8:=a1.o 0 (by omega) wr J;have d9:=a1.o 1 (by omega) wr J;rw[d6]at d8;rw[b2]at d9;have Z:Hid (Below j.heap.size j wr):=J;have f5:=BN q h;by_cases f0:h<a
  ·have f6:=a1.o (32+h) (by omega) wr J;have d4:decide ((h:Int)<(a:Int))=true:=by simp;omega
   have e9:(h:Int)<11:=by omega
   have U:Hid (kR q (h+1)=kR q h+if gt q (32+h)==gt q 1 then 1 else 0):=BM q h;rw[b2]at U;clear J;cases b4:(gt q (32+h)==(O:Int))
   ·have a0:Hid (kR q (h+1)=kR q h):=by show _=_;rw[U.o,b4];rfl
    clear U;generalize kR q h=G at *;generalize gt q (32+h)=d7 at *;go_wp2_with fail
    go_region
    go_wp2_with fail
    go_region
    go_wp2_with fail
    go_roundw
    case rel=>exact⟨h+1,by omega,by go_num,by rw[a0.o],Z.o.drew.drew⟩
    case measure=>simp[intOf];omega
   ·have a0:Hid (kR q (h+1)=kR q h+1):=by show _=_;rw[U.o,b4];rfl
    clear U;generalize kR q h=G at *;generalize gt q (32+h)=d7 at *;go_wp2_with fail
    go_region
    go_wp2_with fail
    go_region
    go_wp2_with fail
    go_roundw
    case rel=>exact⟨h+1,by omega,by go_num,by rw[a0.o];go_num,Z.o.drew.drew⟩
    case measure=>simp[intOf];omega
  ·have e:h=a:=by omega
   subst e;have d4:decide ((h:Int)<(h:Int))=false:=by simp
   clear J;generalize d3:kR q h=G at *;have f1:((G*(T+1):Nat):Int)=(G:Int)*((T:Int)+1):=by push_cast;rfl
   have e7:G*(T+1)<=11*61:=sZ (by omega) (by omega);go_wp2_with fail
   go_region
   go_wp2_with fail
   go_region
   go_wp2_with fail
   go_ret;refine⟨?_,by rw[d5];exact b6.o.trans ((Z.o.drew.drew).mono c8)⟩;show Ending.returned (.int .i64 ((B:Int)+(G:Int)*((T:Int)+1)+(O:Int)))=_;rw[d3];have:(((B+G*(T+1)+O:Nat)):Int)=(B:Int)+(G:Int)*((T:Int)+1)+(O:Int):=by push_cast;rfl
   rw[this]
end
section
variable {k:Pk} {E:Env} {A:Int->fO} {w:World} {steps:Int} {hd kn:List Bool} {zA:Int} {wo:Option Addr} {wc:Nat} {W:List (List Int)}
theorem zCg(h:zV k w steps hd zA wo wc W)(q:List Int)(pc:Nat)(b0:gt q 0=pc)(b1:pc<k.c.length)(b6:k.c.length<=300)(U:k.sl.getD pc 0=-1):
  Calls prog 69 #[.pointer (some ⟨k.g,4,none⟩),.agg (yH q)] w λe w'=>e=.returned (.bool false)/\Below w.heap.size w w':=by
 obtain⟨Y,Z,a0,a1,a2,a3,J,a4,a5,a6,a7⟩:=h.cells;have a8:=h.lt.1;have a9:=h.lt.2.2.2.1;have cs:=h.zEU pc b1;rw[U]at cs;clear h a7 Y Z a0 a1 a2 a3 a4 a5 a6 U;have b7:(pc:Int)<(k.c.length:Int):=by omega
 generalize k.g=g at *;generalize k.c.length=b2 at *;generalize k.gs=O at *;generalize k.cs=b3 at *
 go_in
 go_upto_region 1 with fail
 generalize I:w.alloc (.cells (yH q) 83)=G at *;have j:Hid (Below w.heap.size w G):=by rw[<-I];exact(lK _ _).alloc (lF _) _
 have T1:G.heap[w.heap.size]?=some (.cells (yH q) 83 (0,0)):=by rw[<-I];exact gF _ _
 have b8:G.cell? ⟨w.heap.size,0,none⟩=some (.int .i64 pc):=by rw[(zB T1).1 0,<-b0];exact yX q 0 (by omega)
 have b4:=(gH (a:=⟨g,6,none⟩) (j.o.block g a8)).trans J;have b5:=(gH (a:=⟨O,pc,none⟩) (j.o.block O a9)).trans cs;clear I J cs T1
 go_region
 go_wp2_with fail
 go_ret;exact⟨rfl,j.o.drew⟩
theorem zDO(G:zV k w steps hd zA wo wc W)(q:List Int)(pc S B:Nat)(d7:gt q 0=pc)(d8:pc<k.c.length)(e5:k.c.length<=300)(c7:k.sl.getD pc 0=(B))(d4:S<hd.length)(e9:hd.length<=300000)(f2:0<=zA/\zA<=5000)
  (c3:∀z,zV k z steps hd zA wo wc W->CT 97 #[.pointer (some ⟨k.g,4,none⟩),.agg (yH q)] z λe w'=>e=.returned (.int .i64 (S))/\Below z.heap.size z w'):
  Calls prog 69 #[.pointer (some ⟨k.g,4,none⟩),.agg (yH q)] w λe w'=>e=.returned (.bool (hd.getD S false))/\jZ k wo wo w w'/\
   zV k w' steps (yV hd zA S) (qB hd zA S) wo wc W:=by
 obtain⟨a5,a6,a7,a8,a9,b0,a0,b1,b2,b3,a1⟩:=G.cells;have d5:=G.lt.1;have d6:=G.lt.2.2.2.1;have cs:=G.zEU pc d8;rw[c7]at cs;have b8:=hid G;have c9:=hid c3;clear G a1 a5 a6 a7 a8 a9 b0 b1 b2 b3 c7 c3;have f1:(pc:Int)<(k.c.length:Int):=by omega
 generalize U:k.g=g at *;generalize k.c.length=e0 at *;generalize k.gs=c1 at *;generalize k.cs=e2 at *
 go_in
 go_upto_region 1 with fail
 generalize b4:w.alloc (.cells (yH q) 83)=I at *;have Y:Hid (Below w.heap.size w I):=by rw[<-b4];exact(lK _ _).alloc (lF _) _
 have T1:I.heap[w.heap.size]?=some (.cells (yH q) 83 (0,0)):=by rw[<-b4];exact gF _ _
 have d9:I.cell? ⟨w.heap.size,0,none⟩=some (.int .i64 pc):=by rw[(zB T1).1 0,<-d7];exact yX q 0 (by omega)
 have d0:=(gH (a:=⟨g,6,none⟩) (Y.o.block g d5)).trans a0;have d1:=(gH (a:=⟨c1,pc,none⟩) (Y.o.block c1 d6)).trans cs;have f0:((B:Int)==-1)=false:=by rw[gP];omega
 clear b4 a0 cs;have T2:=T1;have Z:=hid Y.o.drew;clear T1;generalize c5:w.heap.size=n at *
 go_region
 go_wp2_with (refine kY 83 43 underlying83 rfl jT (by rfl) (.tmp 3) (by rfl) n (by rfl) T2 (kK q) ?_)
 have b9:zV k I.drew steps hd zA wo wc W:=b8.o.below (by rw[c5];exact Z.o);have b6:=c9.o I.drew b9;have b7:=hid b6;clear b9 b6 d9 d0 d1 T2;refine b7.o.mono ?_;rintro e c8 ⟨rfl,c2⟩;have a2:Below w.heap.size w c8:=by rw[c5];exact Z.o.trans (c2.mono (by have:=Z.o.size;omega))
 have j:=b8.o.below a2;clear c2 b7 Z Y;obtain⟨a5,a6,a7,a8,a9,b0,a0,b1,b2,b3,a1⟩:=j.cells;obtain⟨c0,e3⟩:=j.zFt S d4;have d2:=a1 8;rw[U]at b1 b2 d2;have e4:(S:Int)<(hd.length:Int):=by omega
 have a4:=hid j;have a3:=hid a2;have e8:k.gh≠g:=by rw[<-U];exact j.Ky.2.2.2
 have e7:g<c8.heap.size:=by rw[<-U];exact j.lt.1
 clear j a2 a5 a6 a7 a8 a9 b0 a0 b3 a1;generalize c4:k.gh=d3 at *;generalize e6:k.ch=e1 at *;cases h:hd.getD S false
 ·rw[h]at c0;cases c6:decide (zA>0)
  ·have b5:¬0<zA:=by simpa using c6
   go_wp2_with fail
   go_ret;refine⟨by rw[h];rfl,jZ.below a3.o,?_⟩;have J:yV hd zA S=hd:=by unfold yV;rw[h,lC oF,lC (by omega)]
   have O:qB hd zA S=zA:=by unfold qB;rw[h,lC oF,lC (by omega)]
   rw[J,O];exact a4.o
  ·have b5:0<zA:=by simpa using c6
   go_wp2_with fail
   go_ret;have J:yV hd zA S=hd.set S true:=by unfold yV;rw[h,lC oF,lG b5]
   have O:qB hd zA S=zA-1:=by unfold qB;rw[h,lC oF,lG b5]
   rw[J,O];have M:=(a4.o.zDM S).zDL (zA-1);rw[U,c4]at M;refine⟨by rw[h];rfl,?_,M⟩;exact((jZ.below a3.o).set (p:=⟨d3,S,none⟩) (lZ (gG c4.symm)) _).set (p:=⟨g,8,none⟩) (gG U.symm) _
 ·rw[h]at c0;go_wp2_with fail
  go_ret;refine⟨by rw[h];rfl,jZ.below a3.o,?_⟩;have J:yV hd zA S=hd:=by unfold yV;rw[h,lG rfl]
  have O:qB hd zA S=zA:=by unfold qB;rw[h,lG rfl]
  rw[J,O];exact a4.o
theorem Zo(h:Ctx k E A)(a4:zV k w steps hd zA wo wc W)(a1:Tab E hd kn)(b5:kn.length=E.c.length*(E.t.size+1)*12)(q:List Int)(c5:0<=gt q 0/\gt q 0<k.c.length)(c6:0<=gt q 1/\gt q 1<=k.t.size)(c1:0<=zA/\zA<=5000):
  CT 69 #[.pointer (some ⟨k.g,4,none⟩),.agg (yH q)] w λe w'=>e=.returned (.bool (E.dead q kn))/\jZ k wo wo w w'/\∃hd',zV k w' steps hd' (E.zG q kn zA) wo wc W/\Tab E hd' (E.qK q kn zA):=by
 have a5:gt q 0=(zX q:Nat):=by unfold zX;omega
 have b9:gt q 1=(vE q:Nat):=by unfold vE;omega
 have a3:=h.known.len;have I:zX q<k.c.length:=by omega
 cases a2:E.isIn q
 ·have b7:¬E.qU.getD (zX q) false=true:=by
   have:E.qU.getD (zX q) false=false:=a2;rw[this];exact oF
  have U:=h.sl _ I;rw[lC b7]at U;obtain⟨c2,c3,c4⟩:=E.zAt q kn zA a2;rw[c2,c3,c4];refine(zCg a4 q _ a5 I a3 U).mono ?_;rintro e w' ⟨rfl,a8⟩;exact⟨rfl,jZ.below a8,hd,a4.below a8,a1⟩
 ·have b4:E.qU.getD (zX q) false=true:=a2;have U:=h.sl _ I;rw[lG b4]at U;have b8:zX q<E.c.length:=by rw[h.ec];exact I
  have c0:vE q<=E.t.size:=by rw[h.et];omega
  obtain⟨Y,b0,b1,a7⟩:=a1.ask b5 h.vk q zA b8 c0 a2;have a9:=E.Ko h.vk
  have b6:hd.length<=300000:=by
   rw[a1.len];refine gX (a9 _) ?_;rw[h.ec,h.et];have:=h.t60;exact gX (sZ a3 (oO 12 (show k.t.size+1<=61 by omega))) (by omega)
  have b2:E.base (zX q)<=300000:=by
   refine gX (a9 _) ?_;rw[h.et];have:=h.t60;exact gX (sZ (show zX q<=300 by omega) (oO 12 (show k.t.size+1<=61 by omega))) (by omega)
  have b3:∀z:World,zV k z steps hd zA wo wc W->CT 97 #[.pointer (some ⟨k.g,4,none⟩),.agg (yH q)] z λe w'=>e=.returned (.int .i64 (E.slot (zX q) (vE q) (kR q (E.vk (zX q))):Nat))/\Below z.heap.size z w':=λz hz=>by
   have:=Tq hz q _ _ _ _ a5 b9 I a3 (by omega) h.t60 (h.lp _ I) (h.vk _) U b2;unfold Env.slot;rw[h.et];exact this
  refine(zDO a4 q _ _ _ a5 I a3 U b0 b6 c1 b3).mono ?_;rintro e w' ⟨rfl,a6,J⟩;cases j:E.dead q kn
  ·have G:¬hd.getD (E.slot (zX q) (vE q) (kR q (E.vk (zX q)))) false=true:=by rw[Y,j];exact oF
   by_cases O:0<zA
   ·have Z:yV hd zA (E.slot (zX q) (vE q) (kR q (E.vk (zX q))))=hd.set (E.slot (zX q) (vE q) (kR q (E.vk (zX q)))) true:=by unfold yV;rw[lC G,lG O]
    have a0:qB hd zA (E.slot (zX q) (vE q) (kR q (E.vk (zX q))))=zA-1:=by unfold qB;rw[lC G,lG O]
    rw[Z,a0]at J;obtain⟨u1,u2⟩:=(a7 j).1 O;exact⟨by rw[Y,j],a6,_,by rw[u2];exact J,u1⟩
   ·have Z:yV hd zA (E.slot (zX q) (vE q) (kR q (E.vk (zX q))))=hd:=by unfold yV;rw[lC G,lC O]
    have a0:qB hd zA (E.slot (zX q) (vE q) (kR q (E.vk (zX q))))=zA:=by unfold qB;rw[lC G,lC O]
    rw[Z,a0]at J;obtain⟨u1,u2⟩:=(a7 j).2 O;exact⟨by rw[Y,j],a6,_,by rw[u2];exact J,by rw[u1];exact a1⟩
  ·have G:hd.getD (E.slot (zX q) (vE q) (kR q (E.vk (zX q)))) false=true:=by rw[Y,j]
   have Z:yV hd zA (E.slot (zX q) (vE q) (kR q (E.vk (zX q))))=hd:=by unfold yV;rw[lG G]
   have a0:qB hd zA (E.slot (zX q) (vE q) (kR q (E.vk (zX q))))=zA:=by unfold qB;rw[lG G]
   rw[Z,a0]at J;obtain⟨u1,u2⟩:=b1 j;exact⟨by rw[Y,j],a6,_,by rw[u2];exact J,by rw[u1];exact a1⟩
end
