import Derived.Test.YtebpgfodelggoaaGreatC17
set_option linter.all false
set_option maxRecDepth 100000
set_option maxHeartbeats 4000000
namespace Go.Proofs.YtebpgfodelggoaaGreat
open Go.RowKit _root_.Go.Proofs.Tryz Mt
theorem OI{L}{w:World}{e}{j g n cap}{xs}(h:w.ownsRow L e j (.slice (some ⟨g,0,none⟩) n cap) n xs)(o m)(J:o+m<=n*j):w.there g o m:=by
 intro G I;rw[gU h (o+G) (by omega)];refine⟨?_,rA h _⟩;have:=h.1;rw[lN (by omega)];rfl
theorem yC.setMany{g so ao oo bf nR jl a w}(j:yC g so ao oo bf nR jl a w) q o h(I:own g bf nR jl q):yC g so ao oo bf nR jl a (w.setCells q o h):=
 j.trans ⟨(below_setCells q h o w 0 (gD _)).1.os,(below_setCells q h o w 0 (gD _)).1.tape,(below_setCells q h o w 0 (gD _)).1.output,aB (below_setCells q h o w 0 (gD _)).2.symm,λi J G=>vG q h o w i (λe=>G (by rw[e];exact I)),λ_ _ j=>j⟩
theorem Kc{L w g b so ao oo b4 Y b3} t(h:bO L w g b so ao oo b4 Y b3)(d1:b.zC.length<=1000)(c2:b.last=-1\/∃k:Nat,b.last=k/\k<b.zC.length)
 E(a2:E=if b.last=-1\/(b.qI b.last.toNat).rep.kind≠0 then 7 else 0):
  Calls prog 142 #[.pointer (some ⟨g,0,none⟩),jv t] w λe w'=>e=.returned (.int .i64 E)/\(E=0->bO L w' g (b.repeated t) so ao oo b4 Y b3/\yC g so ao oo so ao oo w w')/\Below L w w':=by
 have a8:=hid h;obtain⟨_,b7,_,a3,_,_,_,a6⟩:=h.cells;have b1:=(h.lt g (gG rfl)).2;have a4:L<=w.heap.size:=by have:=h.lo;omega
 rcases c2 with Z | ⟨k,Z,c1⟩
 ·have a0:Hid (E=7):=by show _=_;rw[a2,lG (gG Z)]
  rw[Z]at a3;clear h a2 a6 Z;unfold jv pQ
  go_in
  go_wp2_with fail
  go_quiet (fail)
  go_wp2_with fail
  go_returns;exact⟨by rw[a0.o];rfl,λe=>by have:=a0.o;omega,(below_drewN ((lK _ _).alloc (lF _) _) _).mono a4⟩
 ·obtain⟨j,c0,b0,c7,c8⟩:=h.Bv (by omega);subst c0;have a7:b.last.toNat=k:=by rw[Z];simp
  have c6:((k:Int)==-1)=false:=by simp
  have c5:=(h.zy k 9 (by omega) (by decide)).1;change w.cell? ⟨j,k*20+9,none⟩=some (.int .i64 (b.qI k).rep.kind)at c5;rw[Z]at a3;have d0:(k:Int)<(b.zC.length:Int):=by omega
  cases b2:((b.qI k).rep.kind != 0)
  ·have a0:Hid (E=0):=by show _=_;rw[a2,a7,lC (by rintro(x | x);omega;exact x (by simpa using b2))]
   have b5:Hid (b.repeated t={ b with zC:=b.zC.set k { b.qI k with rep:=t } }):=by show _=_;unfold PB.repeated;rw[a7]
   have b6:Hid (∀a1:World,Below w.heap.size w a1->a1.there j (k*20+9) (pQ t).size):=λa1 G=>OI (h.below G).zC _ _ (by rw[RY];omega)
   clear h a2 a6 Z;unfold jv
   go_in
   go_wp2_with fail
   go_quiet (fail)
   go_upto_region 3 with fail
   have G:Below w.heap.size w ((w.alloc (.cells (pQ t) 174)).drewN nq):=below_drewN ((lK _ _).alloc (lF _) _) _;have I:((w.alloc (.cells (pQ t) 174)).drewN nq).heap[w.heap.size]?=some (.cells (pQ t) 174 (0,0)):=by rw[World.heap_drewN];exact gF _ _
   have a9:=hid G;generalize c9:(w.alloc (.cells (pQ t) 174)).drewN nq=a1 at *;have b8:=(G.cell (p:=⟨g,1,none⟩) b1).trans b7;have b9:=(G.cell (p:=⟨g,3,none⟩) b1).trans a3;have J:∀z:World,(z.heap[w.heap.size]?=some (.cells (pQ t) 174 (0,0))/\z.cell? ⟨g,1,none⟩=some (.slice (some ⟨j,0,none⟩) b.zC.length Y)/\z.cell? ⟨g,3,none⟩=some (.int .i64 k))->z.cell? ⟨g,1,none⟩=some (.slice (some ⟨j,0,none⟩) b.zC.length Y):=λz hz=>hz.2.1
   have O:∀z:World,(z.heap[w.heap.size]?=some (.cells (pQ t) 174 (0,0))/\z.cell? ⟨g,1,none⟩=some (.slice (some ⟨j,0,none⟩) b.zC.length Y)/\z.cell? ⟨g,3,none⟩=some (.int .i64 k))->z.cell? ⟨g,3,none⟩=some (.int .i64 k):=λz hz=>hz.2.2
   have U:∀z:World,(z.heap[w.heap.size]?=some (.cells (pQ t) 174 (0,0))/\z.cell? ⟨g,1,none⟩=some (.slice (some ⟨j,0,none⟩) b.zC.length Y)/\z.cell? ⟨g,3,none⟩=some (.int .i64 k))->z.rangeAt w.heap.size 0 (pQ t).toList:=λz hz=>yE hz.1
   have S0:a1.drew.heap[w.heap.size]?=some (.cells (pQ t) 174 (0,0))/\a1.drew.cell? ⟨g,1,none⟩=some (.slice (some ⟨j,0,none⟩) b.zC.length Y)/\a1.drew.cell? ⟨g,3,none⟩=some (.int .i64 k):=⟨I,b8,b9⟩
   refine wp_region_held_drew (S:=λz:World=>z.heap[w.heap.size]?=some (.cells (pQ t) 174 (0,0))/\z.cell? ⟨g,1,none⟩=some (.slice (some ⟨j,0,none⟩) b.zC.length Y)/\z.cell? ⟨g,3,none⟩=some (.int .i64 k)) (by kernel_rfl) S0 (λW=>?_);refine qJ 0 26 (.pointer (some ⟨g,0,none⟩)) rfl (by kernel_rfl) (λ_ _ _ h=>h) (λz hz=>by clear W hz J O U S0 I G;go_simp) (by assumption) ?_;simp only[Act.put,lD,lJ,lI];refine qJ 1 27 (.pointer (some ⟨g,0,none⟩)) rfl (by kernel_rfl) (λ_ _ _ h=>h) (λz hz=>by clear W hz J O U S0 I G;go_simp) (by assumption) ?_;simp only[Act.put,lD,lJ,lI];refine qJ 2 28 (.pointer (some ⟨g,0,none⟩)) rfl (by kernel_rfl) (λ_ _ _ h=>h) (λz hz=>by clear W hz J O U S0 I G;go_simp) (by assumption) ?_;simp only[Act.put,lD,lJ,lI];refine qJ 3 29 (.pointer (some ⟨g,1,none⟩)) rfl (by kernel_rfl) (λ_ _ _ h=>h) (λz hz=>by clear W hz J O U S0 I G;go_simp) (by assumption) ?_;simp only[Act.put,lD,lJ,lI];refine qJ 4 30 (.slice (some ⟨j,0,none⟩) b.zC.length Y) rfl (by kernel_rfl) (λ_ _ _ h=>h) (λz hz=>by have c4:=J z hz;clear W hz J O U S0 I G;go_simp) (by assumption) ?_;simp only[Act.put,lD,lJ,lI];refine qJ 5 31 (.pointer (some ⟨g,0,none⟩)) rfl (by kernel_rfl) (λ_ _ _ h=>h) (λz hz=>by clear W hz J O U S0 I G;go_simp) (by assumption) ?_;simp only[Act.put,lD,lJ,lI];refine qJ 6 32 (.pointer (some ⟨g,0,none⟩)) rfl (by kernel_rfl) (λ_ _ _ h=>h) (λz hz=>by clear W hz J O U S0 I G;go_simp) (by assumption) ?_;simp only[Act.put,lD,lJ,lI];refine qJ 7 33 (.pointer (some ⟨g,3,none⟩)) rfl (by kernel_rfl) (λ_ _ _ h=>h) (λz hz=>by clear W hz J O U S0 I G;go_simp) (by assumption) ?_;simp only[Act.put,lD,lJ,lI];refine qJ 8 34 (.int .i64 k) rfl (by kernel_rfl) (λ_ _ _ h=>h) (λz hz=>by have c4:=O z hz;clear W hz J O U S0 I G;go_simp) (by assumption) ?_;simp only[Act.put,lD,lJ,lI];refine MN 9 35 (.agg (pQ t)) rfl (by kernel_rfl) (λ_ _ _ h=>h) (yieldsIf_load_mid (by rfl) _ _ rfl _ _ rfl _ _ U underlying174 rfl (by rw[qF];rfl)) (by assumption) ?_;simp only[Act.put,lD,lJ,lI];refine qJ 10 36 (.pointer (some ⟨j,k*20,none⟩)) rfl (by kernel_rfl) (λ_ _ _ h=>h) (λz hz=>by clear W hz J O U S0 I G;go_simp) (by assumption) ?_;simp only[Act.put,lD,lJ,lI];refine qJ 11 37 (.pointer (some ⟨j,k*20+9,none⟩)) rfl (by kernel_rfl) (λ_ _ _ h=>h) (λz hz=>by clear W hz J O U S0 I G;go_simp) (by assumption) ?_;simp only[Act.put,lD,lJ,lI];refine Bu 12 _ rfl rfl (by kernel_rfl) (by kernel_rfl) _ _ _ rfl j (k*20+9) (pQ t) (by kernel_rfl) (by kernel_rfl) (b6.o _ a9.o.drew) (by rw[qF];rfl) (pR _) rfl ?_;have c3:w.heap.size≠j:=by omega
   refine⟨⟨(vG j _ _ _ _ c3).trans S0.1,(gH (a:=⟨g,1,none⟩) (vG j _ _ _ _ (iB b0))).trans S0.2.1,(gH (a:=⟨g,3,none⟩) (vG j _ _ _ _ (iB b0))).trans S0.2.2⟩,?_⟩;clear W J O U S0 I G;go_wp2_with fail
   go_returns;have a5:=a9.o.drew;refine⟨by rw[a0.o];rfl,λ_=>?_,?_⟩
   ·rw[b5.o];exact⟨(a8.o.below a5).Gs k 9 (pQ t).toList { b.qI k with rep:=t } c1 (by show 9+(pQ t).size<=20;rw[RY];decide) rfl,(yC.below a5).setMany j _ _ (lZ (lZ (gG rfl)))⟩
   ·exact(((yC.below a5).setMany j (k*20+9) (pQ t).toList (lZ (lZ (gG rfl))))).low a8.o a4
  ·have a0:Hid (E=7):=by show _=_;rw[a2,a7,lG (lZ (by simpa using b2))]
   clear h a2 a6 Z;unfold jv pQ
   go_in
   go_wp2_with fail
   go_quiet (fail)
   go_wp2_with fail
   go_returns;exact⟨by rw[a0.o];rfl,λe=>by have:=a0.o;omega,(below_drewN ((lK _ _).alloc (lF _) _) _).mono a4⟩
theorem zDE{L}{w:World}{e}{n m cap g}{xs}(h:w.ownsRow L e 1 (.slice (some ⟨g,0,none⟩) n cap) n xs)(a2:m<=n):w.ownsRow L e 1 (.slice (some ⟨g,0,none⟩) m cap) m (xs.take m):=by
 have a0:=h.1;refine⟨by rw[uM];omega,?_⟩;rcases h.2 with ⟨e,_⟩ | ⟨Z,Y,G,j,U,W,a1,I,J,O⟩
 ·simp at e
 ·simp only[oD,oP,uO,wJ,iE]at j;obtain⟨rfl,rfl⟩:=j;refine .inr ⟨g,cap,G,rfl,U,W,by omega,I,J,?_⟩;rw[<-O,iK,iW (by omega),Nat.mul_one]
theorem Qt l m(h:l.length=m+1):(PK l).take m=PK l.dropLast:=by
 unfold PK;rw[List.dropLast_eq_take,h,List.map_take];rfl
theorem zES b so ao oo I j G h v:(bA b so ao oo I j G).setIfInBounds (6+h) (.bool v)=bA { b with BH:=b.BH.set h v } so ao oo I j G:=by
 unfold bA;rw[lD,show 6+h=h+1+1+1+1+1+1 by omega];simp only[lI,uW]
theorem Mi{L w g b so ao oo a0 W I}(j:bO L w g b so ao oo a0 W I)(e3:b.zC.length<=1000)(c5:b.opn.length<=1000)(a9:0<b.opn.length->b.top<b.zC.length/\∃h Z:Nat,(b.qI b.top).num=h/\h<=9/\(b.qI b.top).home=Z)
 E(a7:E=if b.opn.length=0 then 10 else 0):
  Calls prog 141 #[.pointer (some ⟨g,0,none⟩)] w λe w'=>e=.returned (.int .i64 E)/\(E=0->bO L w' g b.close so ao oo a0 W I/\yC g so ao oo so ao oo w w')/\Below L w w':=by
 have G:=hid j;obtain⟨_,c8,c9,d0,b6,_,a8,Y⟩:=j.cells;have e1:=(j.lt g (gG rfl)).2;have c3:L<=w.heap.size:=by have:=j.lo;omega
 by_cases a3:b.opn.length=0
 ·have a5:Hid (E=10):=by show _=_;rw[a7,lG a3]
  rw[a3]at b6;clear j a7 Y a9 a8 a3
  go_in
  go_wp2_with fail
  go_returns;exact⟨by rw[a5.o];rfl,λe=>by have:=a5.o;omega,lK _ _⟩
 ·have a5:Hid (E=0):=by show _=_;rw[a7,lC a3]
  obtain⟨m,Z⟩:∃m,b.opn.length=m+1:=⟨b.opn.length-1,by omega⟩
  obtain⟨b7,h,a4,b1,e5,b0⟩:=a9 (by omega);obtain⟨go,c6,d9,e0,c2⟩:=j.zC6 (by omega);subst c6;obtain⟨J,c4,d6,d7,d8⟩:=j.Bv (by omega);subst c4;have c7:=j.zC7 m (by omega)
  have b9:b.opn.getD m 0=b.top:=by
   unfold PB.top;rw[Dr _ _ (by omega),Z];rfl
  rw[b9]at c7;have b5:=(j.zy b.top 8 b7 (by decide)).1;have b4:=(j.zy b.top 18 b7 (by decide)).1;change w.cell? ⟨J,b.top*20+8,none⟩=some (.int .i64 (b.qI b.top).num)at b5;change w.cell? ⟨J,b.top*20+18,none⟩=some (.int .i64 (b.qI b.top).home)at b4;rw[b1]at b5;rw[b0]at b4;have kn:=a8 h (by omega);have d2:=Y 2;have d3:=Y 3;have d4:=Y 4;have d5:=Y (6+h);have e6:(6+h==4)=false:=by simp;omega
  have e4:(h:Int)<10:=by omega
  rw[Z]at b6 c2;have b2:Hid ((b.qI b.top).num.toNat=h/\(b.qI b.top).home.toNat=a4):=⟨by rw[b1];simp,by rw[b0];simp⟩
  have a6:=hid Z;have e2:m<=1000:=by omega
  generalize b8:b.top=T at *;have c0:=hid b8;clear j a7 Y a9 a8 a3 b9 b8 Z c5 b1 b0;generalize b.BH.getD h false=d1 at *;generalize b.zC.length=N at *
  go_in
  go_wp2_with fail
  go_region
  go_wp2_with fail
  go_returns
  have a1:=G.o.field (k:=4) (v:=.slice (some ⟨go,0,none⟩) m I) (b':={ b with opn:=b.opn.dropLast }) (bf:=so) (nR:=some ⟨J,0,none⟩) (jl:=some ⟨go,0,none⟩) (sc':=a0) (AY:=W) (Ey:=I) (by unfold bA;simp[List.length_dropLast,a6.o]) G.o.zK G.o.zC (by
   have r:=zDE G.o.opn (m:=m) (by rw[a6.o];omega);rw[Qt _ _ a6.o]at r;simpa[List.length_dropLast,a6.o]using r) G.o.ap G.o.cl
  have O:=a1.field (k:=6+h) (v:=.bool true) (b':={ b with opn:=b.opn.dropLast,BH:=b.BH.set h true }) (bf:=so) (nR:=some ⟨J,0,none⟩) (jl:=some ⟨go,0,none⟩) (sc':=a0) (AY:=W) (Ey:=I) (by rw[zES]) a1.zK a1.zC a1.opn a1.ap (by simp[G.o.cl]);have U:=O.field (k:=2) (v:=.int .i64 a4) (b':={ b with opn:=b.opn.dropLast,BH:=b.BH.set h true,seq:=a4 }) (bf:=so) (nR:=some ⟨J,0,none⟩) (jl:=some ⟨go,0,none⟩) (sc':=a0) (AY:=W) (Ey:=I) (by unfold bA;simp) O.zK O.zC O.opn O.ap O.cl
  have a2:b.close={ b with opn:=b.opn.dropLast,BH:=b.BH.set h true,seq:=a4,last:=(T:Int) }:=by
   unfold PB.close;rw[c0.o,b2.o.1,b2.o.2]
  have c1:=U.field (k:=3) (v:=.int .i64 T) (b':=b.close) (bf:=so) (nR:=some ⟨J,0,none⟩) (jl:=some ⟨go,0,none⟩) (sc':=a0) (AY:=W) (Ey:=I) (by rw[a2];unfold bA;simp) (by rw[a2];exact U.zK) (by rw[a2];exact U.zC) (by rw[a2];exact U.opn) U.ap (by rw[a2];exact U.cl);have b3:=(((((yC.refl g so (some ⟨J,0,none⟩) (some ⟨go,0,none⟩) w).set (p:=⟨g,4,none⟩) (gG rfl) (.slice (some ⟨go,0,none⟩) m I)).set (p:=⟨g,6+h,none⟩) (gG rfl) (.bool true)).set (p:=⟨g,2,none⟩) (gG rfl) (.int .i64 a4)).set (p:=⟨g,3,none⟩) (gG rfl) (.int .i64 T)).drew;exact⟨by rw[a5.o];rfl,λ_=>⟨c1.drew,b3⟩,b3.low G.o c3⟩
end Go.Proofs.YtebpgfodelggoaaGreat
namespace Mt
def PB.push(b:PB)(k:Nat):PB:={ b with opn:=b.opn++[k] }
theorem WU(b:PB) g:b.into g={ (b.push g).newSeq with zC:=b.zC.set g { b.qI g with body:=b.zK.length },seq:=b.zK.length,last:=-1 }:=rfl
end Mt
namespace Go.Proofs.YtebpgfodelggoaaGreat
open Go.RowKit _root_.Go.Proofs.Tryz Mt
theorem Mj:(prog.info? 3).map (λi=>(i.zero,i.size,i.bytes))=some (some (.int .i64 0),1,8):=by kernel_rfl
theorem Tc{L}{w w0 w1}{g}{b}{so ao oo}{Z W b1 q cap k}(j:bO L w g b so ao oo Z W b1)(G:Below w.heap.size w w0)(b2:w.heap.size<w0.heap.size)(I:w0.grownBy w1 (blk oo))(J:blk oo=some q\/q=w0.heap.size)
  (a4:w1.ownsRow L 3 1 (.slice (some ⟨q,0,none⟩) (b.opn.length+1) cap) (b.opn.length+1) (PK b.opn++[.int .i64 (k)])):
  bO L (w1.setCell ⟨g,4,none⟩ (.slice (some ⟨q,0,none⟩) (b.opn.length+1) cap)) g (b.push k) so ao (some ⟨q,0,none⟩) Z W cap/\yC g so ao oo so ao (some ⟨q,0,none⟩) w (w1.setCell ⟨g,4,none⟩ (.slice (some ⟨q,0,none⟩) (b.opn.length+1) cap)):=by
 have U:∀k,own g so ao oo k->k<w0.heap.size:=λk h=>by have:=(j.lt k h).2;omega
 have n:q≠g/\blk so≠some q/\blk ao≠some q:=by
  rcases J with e | e
  ·exact⟨λx=>j.ap.2.2.1 (by rw[e,x]),λx=>(j.ap.2.2.2.1 q x).2 e,λx=>j.ap.2.2.2.2 q x e⟩
  ·subst e;exact⟨λe=>by have:=U g (gG rfl);omega,λe=>by have:=U _ (lZ (gG e));omega,λe=>by have:=U _ (lZ (lZ (gG e)));omega⟩
 obtain⟨a8,a9,b0⟩:=n;have a6:=j.grown G I g (gG rfl) (λe=>j.ap.2.2.1 e.symm);have a7:∀k,blk so=some k->w1.heap[k]?=w.heap[k]?:=λk h=>j.grown G I k (lZ (gG h)) (λe=>(j.ap.2.2.2.1 k h).2 e.symm)
 have a5:∀k,blk ao=some k->w1.heap[k]?=w.heap[k]?:=λk h=>j.grown G I k (lZ (lZ (gG h))) (λe=>j.ap.2.2.2.2 k h e.symm)
 have hap:blk so≠some g/\blk ao≠some g/\blk (some ⟨q,0,none⟩)≠some g/\(∀k,blk so=some k->blk ao≠some k/\blk (some ⟨q,0,none⟩)≠some k)/\(∀k,blk ao=some k->blk (some ⟨q,0,none⟩)≠some k):=
  ⟨j.ap.1,j.ap.2.1,λe=>a8 (by simpa[blk]using e),λk h=>⟨(j.ap.2.2.2.1 k h).1,λe=>a9 (by simp[blk]at e;rw[h,e])⟩,λk h=>λe=>b0 (by simp[blk]at e;rw[h,e])⟩
 have o:∀O,O≠g->(w1.setCell ⟨g,4,none⟩ (.slice (some ⟨q,0,none⟩) (b.opn.length+1) cap)).heap[O]?=w1.heap[O]?:=λO h=>lS _ _ _ _ h
 refine⟨⟨?_,j.lo,?_,?_,?_,hap,j.cl⟩,?_⟩
 ·have a2:=lX w1 g 4 _ _ (.slice (some ⟨q,0,none⟩) (b.opn.length+1) cap) (by rw[a6];exact j.cell);rw[a2];unfold bA PB.push;simp
 ·exact zR j.zK (λk h=>by rw[o k (λe=>j.ap.1 (by rw[<-e];exact h)),a7 k h])
 ·exact zR j.zC (λk h=>by rw[o k (λe=>j.ap.2.1 (by rw[<-e];exact h)),a5 k h])
 ·have a0:(b.push k).opn.length=b.opn.length+1:=by simp[PB.push]
  have a1:PK (b.push k).opn=PK b.opn++[.int .i64 (k:Int)]:=by simp[PB.push,PK]
  rw[a0,a1];exact zR a4 (λk h=>o k (by simp[blk]at h;omega))
 ·refine⟨I.os.trans G.os,I.tape.trans G.tape,I.output.trans G.output,?_,λk h Y=>?_,λk h a3=>?_⟩
  ·have:=I.size;have:=G.size;simp[World.setCell];omega
  ·rw[o k (λe=>Y (gG e)),I.block k (by have:=G.size;omega) (λe=>Y (lZ (lZ (lZ e.symm)))),G.block k h]
  ·rcases a3 with e | e | e | e
   ·exact gG e
   ·exact lZ (gG e)
   ·exact lZ (lZ (gG e))
   ·simp[blk]at e;subst e;rcases J with J | J
    ·exact lZ (lZ (lZ J))
    ·omega
theorem CY{L w g b so ao oo a1 O a0} t(h:bO L w g b so ao oo a1 O a0) E(Z:(10<=b.opn.length/\E=8)\/(¬10<=b.opn.length/\t.group=1/\9<=b.kG/\E=9)):
  Calls prog 140 #[.pointer (some ⟨g,0,none⟩),jv t] w λe w'=>e=.returned (.int .i64 E)/\Below L w w':=by
 obtain⟨_,_,_,_,a4,a5,_,_⟩:=h.cells;have a7:=(h.lt g (gG rfl)).2;have J:L<=w.heap.size:=by have:=h.lo;omega
 clear h;generalize b.opn.length=j at *;generalize b.kG=G at *;unfold jv pQ;rcases Z with ⟨Y,rfl⟩ | ⟨Y,I,a6,rfl⟩
 ·have U:decide (10<=(j:Int))=true:=by simp;omega
  have W:decide (10<=j)=true:=by simp;omega
  go_in
  go_wp2_with fail
  go_returns;exact⟨rfl,((lK _ _).alloc (lF _) _).mono J⟩
 ·have U:decide (10<=(j:Int))=false:=by simp;omega
  have W:decide (10<=j)=false:=by simp;omega
  have a2:decide (9<=(G:Int))=true:=by simp;omega
  have a3:decide (9<=G)=true:=by simp;omega
  rw[I];clear I
  go_in
  go_wp2_with fail
  go_returns;exact⟨rfl,((lK _ _).alloc (lF _) _).mono J⟩
theorem GQ{L w g b so ao oo f0 g1 a7} t(W:bO L w g b so ao oo f0 g1 a7)(k0:b.zC.length<=900)(k1:b.zK.length<=900)(e4:b.seq<b.zK.length)(e1:b.last=-1\/∃k:Nat,b.last=k/\k<b.zC.length)(e2:b.opn.length<10)(e0:t.group≠1):
  Calls prog 140 #[.pointer (some ⟨g,0,none⟩),jv t] w λe w'=>e=.returned (.int .i64 0)/\∃bf nR jl sc' AY Ey,bO L w' g (b.kU t) bf nR jl sc' AY Ey/\yC g so ao oo bf nR jl w w':=by
 obtain⟨h2,g6,g9,h0,h1⟩:=sK Mj;have f7:=hid W;obtain⟨_,_,_,_,g2,g3,_,_⟩:=W.cells;have j6:=(W.lt g (gG rfl)).2;have j4:L<=w.heap.size:=by have:=W.lo;omega
 have b6:Below w.heap.size w (w.alloc (.cells (pQ t) 174)):=(lK _ _).alloc (lF _) _;have b5:=hid (xu t (W.below b6) (by omega) e4 e1);have d4:=hid b6;obtain⟨c4,e6,e7,h3,e8,e9,h4,h5,h6⟩:=BS t e4 e1;have i3:decide (10<=(b.opn.length:Int))=false:=by simp;omega
 have i4:decide (10<=b.opn.length)=false:=by simp;omega
 have i5:(t.group==1)=false:=by simpa using e0
 have d3:Hid (b.kU t=PB.into (b.zO t) b.zC.length):=by
  show _=_;unfold PB.kU PB.number;rw[lC (by simpa using e0)]
 obtain⟨e,Z⟩:∃e:PB,e=b.zO t:=⟨_,rfl⟩
 rw[<-Z]at d3;have b9:e.zK.length=b.zK.length:=by rw[Z];exact e6
 have g5:e.zC.length=b.zC.length+1:=by rw[Z];exact c4
 have a4:e.opn=b.opn:=by rw[Z];exact e8
 have d2:=hid Z;have b2:Hid (((b.zO t).last=b.zC.length/\(b.zO t).kG=b.kG)/\(b.zO t).zC.length=b.zC.length+1):=⟨⟨e7,e9⟩,c4⟩
 clear W b6 Z c4 e6 e7 h3 e8 e9 h4 h5 h6;unfold jv;unfold pQ at b5 d4 |-
 go_in
 go_wp2_with fail
 refine b5.o.mono ?_;rintro i8 w1 ⟨rfl,d7,G,j,Y⟩;have d5:=(yC.below d4.o).trans Y;obtain⟨c9,a9,d0,b0,_,f2,_,a1⟩:=j.cells;rw[b2.o.1.1]at b0;rw[b2.o.1.2]at f2;have d9:w1.heap[w.heap.size]?=_:=(Y.block w.heap.size (by simp) (λe2=>by have:=(f7.o.lt _ e2).2;omega)).trans (gF _ _);have f1:=(zB d9).1 2;simp only[oI,gI,sG]at f1;have j7:=(j.lt g (gG rfl)).2;have b4:=hnd j d5;clear j Y d5 a1 d9 b5;go_upto_region 10 with fail
 obtain⟨h,a6⟩:∃h:World,h=w1:=⟨_,rfl⟩
 have I:bO L h g e so d7 oo f0 G a7:=by rw[a6,d2.o];exact b4.o.1
 have d6:yC g so ao oo so d7 oo w h:=by rw[a6];exact b4.o.2
 rw[<-a6];clear a6 c9 a9 d0 b0 f2 f1 b4 b2 d2
 ·skip
  have a3:=hnd I d6;obtain⟨h8,h9,i0,i1,f3,i2,_,f5⟩:=I.cells;have f6:=f5 4;have f4:h.cell? ⟨g,4,none⟩=some (.slice oo b.opn.length a7):=by rw[f3,a4]
  have f8:Hid (h.ownsRow L 3 1 (.slice oo b.opn.length a7) b.opn.length (PK b.opn)):=by show World.ownsRow _ _ _ _ _ _ _;have:=I.opn;rw[a4]at this;exact this
  have j8:=(I.lt g (gG rfl)).2;have j5:L<=h.heap.size:=by have:=I.lo;omega
  clear I d6 h8 h9 i0 i1 f3 i2 f5;go_wp2_with (at_builtin;refine wpList_append_lies _ rfl (.tmp 56) (.tmp 58) 41 rfl L 3 h2 _ 1 8 underlying41 g6 g9 h0 h1 rfl (by decide) _ _ _ rfl (f8.o.alloc _) ⟨h.heap.size,0,none⟩ 1 1 [.int .i64 (b.zC.length:Int)] rfl rfl ?c1 ?c2 (by decide) ?c3 ?c4 ?c5 (h.heap.size+1) ?c6 ?_)
  case c1=>exact World.news_of_block (cs:=#[.int .i64 (b.zC.length:Int)]) (gF _ _)
  case c2=>intro u e5;simp at e5;subst e5;rfl
  case c3=>unfold maxLen;omega
  case c4=>omega
  case c5=>simp;omega
  case c6=>simp
  intro q cap k3 e3 a5 c0 k2;rw[jC]at a5 c0;have b8:Below h.heap.size h (h.alloc (.cells #[.int .i64 (b.zC.length:Int)] 3)):=(lK _ _).alloc (lF _) _;have a2:=Tc (k:=b.zC.length) a3.o.1 b8 (by simp) a5 (by simpa using c0) (by rw[a4];exact e3);rw[a4]at a2;have c5:=a3.o.1.grown b8 a5 g (gG rfl) (λe=>a3.o.1.ap.2.2.1 e.symm);have i6:=(gH (a:=⟨g,4,none⟩) c5).trans f4;have i9:=(rC (a:=⟨g,4,none⟩) c5).trans f6;have b3:=hnd a2.1 (a3.o.2.trans a2.2);have g8:(e.push b.zC.length).zK.length<=1000:=by show e.zK.length<=1000;rw[b9];omega
  have b1:=dx b3.o.1 g8;have h7:(e.push b.zC.length).zK.length=b.zK.length:=b9;rw[h7]at b1;have d1:=hid b1;clear a2 e3 a5 c0 c5 b8 b1 f6 f4;go_wp2_with fail
  refine d1.o.mono ?_;rintro i7 a8 ⟨rfl,c8,c7,j,Y⟩;obtain⟨c9,a9,d0,b0,_,_,_,a1⟩:=j.cells;have k4:=a1 2;have k5:=a1 3;obtain⟨U,g4,j1,j2,d8⟩:=j.Bv (by show 0<e.zC.length;omega);subst g4;have b7:=j.zy b.zC.length 17 (by show _<e.zC.length;omega) (by decide);have g0:=b7.1;have j0:=b7.2;change a8.cell? ⟨U,b.zC.length*20+17,none⟩=some (.int .i64 (e.qI b.zC.length).body)at g0;change a8.cell? ⟨g,1,none⟩=some (.slice (some ⟨U,0,none⟩) e.zC.length G)at a9;rw[g5]at a9;change a8.cell? ⟨g,2,none⟩=some (.int .i64 e.seq)at d0;change a8.cell? ⟨g,3,none⟩=some (.int .i64 e.last)at b0;have j3:b.zC.length+1<=G:=by change e.zC.length<=G at d8;omega
  have j9:=(j.lt g (gG rfl)).2;have R:=hnd j (b3.o.2.trans Y);clear j Y a1 b7 d1 b3 c9 d8;go_wp2_with fail
  go_returns;have g7:b.zC.length<(e.push b.zC.length).newSeq.zC.length:=by show _<e.zC.length;omega
  have J:=R.o.1.Gs b.zC.length 17 [.int .i64 b.zK.length] { e.qI b.zC.length with body:=b.zK.length } g7 (by simp) rfl;have O:=J.field (k:=2) (v:=.int .i64 b.zK.length) (b':={ (e.push b.zC.length).newSeq with zC:=e.zC.set b.zC.length { e.qI b.zC.length with body:=b.zK.length },seq:=b.zK.length }) (bf:=c8) (nR:=some ⟨U,0,none⟩) (jl:=some ⟨q,0,none⟩) (sc':=c7) (AY:=G) (Ey:=cap) (by unfold bA;simp;rfl) J.zK J.zC J.opn J.ap J.cl
  have a0:b.kU t={ (e.push b.zC.length).newSeq with zC:=e.zC.set b.zC.length { e.qI b.zC.length with body:=b.zK.length },seq:=b.zK.length,last:=-1 }:=by
   rw[d3.o,WU,b9]
  have f9:=O.field (k:=3) (v:=.int .i64 (-1)) (b':=b.kU t) (bf:=c8) (nR:=some ⟨U,0,none⟩) (jl:=some ⟨q,0,none⟩) (sc':=c7) (AY:=G) (Ey:=cap) (by rw[a0];unfold bA;simp) (by rw[a0];exact O.zK) (by rw[a0];exact O.zC) (by rw[a0];exact O.opn) O.ap (by rw[a0];exact O.cl);refine⟨rfl,c8,some ⟨U,0,none⟩,some ⟨q,0,none⟩,c7,G,cap,f9,?_⟩;exact(((R.o.2.set (p:=⟨U,b.zC.length*20+17,none⟩) (lZ (lZ (gG rfl))) _).set (p:=⟨g,2,none⟩) (gG rfl) _).set (p:=⟨g,3,none⟩) (gG rfl) _)
theorem Ke{L w g b so ao oo Y e2 J} t(a2:bO L w g b so ao oo Y e2 J)(l2:b.zC.length<=900)(l3:b.zK.length<=900)(f1:b.seq<b.zK.length)(e8:b.last=-1\/∃k:Nat,b.last=k/\k<b.zC.length)(e9:b.opn.length<10)(e7:t.group=1)(l1:b.kG<9):
  Calls prog 140 #[.pointer (some ⟨g,0,none⟩),jv t] w λe w'=>e=.returned (.int .i64 0)/\∃bf nR jl sc' AY Ey,bO L w' g (b.kU t) bf nR jl sc' AY Ey/\yC g so ao oo bf nR jl w w':=by
 obtain⟨i0,h4,h7,h8,h9⟩:=sK Mj;have g3:Hid (bO L w g b so ao oo Y e2 J):=a2;obtain⟨_,_,_,_,g7,g8,_,_⟩:=a2.cells;have k7:g<w.heap.size:=(a2.lt g (gG rfl)).2;have k5:L<=w.heap.size:=by have:=a2.lo;omega
 have c4:Below w.heap.size w (w.alloc (.cells (pQ t) 174)):=(lK _ _).alloc (lF _) _;have b1:Hid (CT 144 #[.pointer (some ⟨g,0,none⟩),.agg (pQ t)] (w.alloc (.cells (pQ t) 174)) _):=xu t (a2.below c4) (by omega) f1 e8;have c0:Hid (Below w.heap.size w (w.alloc (.cells (pQ t) 174))):=c4;obtain⟨d1,f3,f4,i1,f5,d2,i2,i3,i4⟩:=BS t f1 e8;have j2:decide (10<=(b.opn.length:Int))=false:=by simp;omega
 have j3:decide (10<=b.opn.length)=false:=by simp;omega
 have j4:decide (9<=(b.kG:Int))=false:=by simp;omega
 have j5:decide (9<=b.kG)=false:=by simp;omega
 have d9:Hid (b.kU t=PB.into { b.zO t with kG:=b.kG+1,zC:=(b.zO t).zC.set b.zC.length { (b.zO t).qI b.zC.length with num:=(b.kG:Int)+1 } } b.zC.length):=by
  show _=_;unfold PB.kU PB.number;rw[e7];simp[d2]
 obtain⟨e,a4⟩:∃e:PB,e={ b.zO t with kG:=b.kG+1,zC:=(b.zO t).zC.set b.zC.length { (b.zO t).qI b.zC.length with num:=(b.kG:Int)+1 } }:=⟨_,rfl⟩
 rw[<-a4]at d9;have c9:e.zK.length=b.zK.length:=by rw[a4];exact f3
 have h3:e.zC.length=b.zC.length+1:=by rw[a4];simp[d1]
 have b3:e.opn=b.opn:=by rw[a4];exact f5
 have d8:Hid (e={ b.zO t with kG:=b.kG+1,zC:=(b.zO t).zC.set b.zC.length { (b.zO t).qI b.zC.length with num:=(b.kG:Int)+1 } }):=a4;have W:Hid (((b.zO t).last=b.zC.length/\(b.zO t).kG=b.kG)/\(b.zO t).zC.length=b.zC.length+1):=⟨⟨f4,d2⟩,d1⟩
 clear a2 c4 a4 d1 f3 f4 i1 f5 d2 i2 i3 i4;unfold jv;unfold pQ at b1 c0 |-;rw[e7]at b1 c0 |-
 go_in
 go_wp2_with fail
 refine b1.o.mono ?_;rintro j8 w1 ⟨rfl,c7,I,G,a3⟩;have e0:yC g so ao oo so c7 oo w w1:=(yC.below c0.o).trans a3;obtain⟨d5,a9,d6,b7,_,f8,_,a5⟩:=G.cells;rw[W.o.1.1]at b7;rw[W.o.1.2]at f8;have e6:w1.heap[w.heap.size]?=_:=(a3.block w.heap.size (by simp) (λe9=>by have:=(g3.o.lt _ e9).2;omega)).trans (gF _ _);have f7:=(zB e6).1 2;simp only[oI,gI,sG]at f7;have k8:g<w1.heap.size:=(G.lt g (gG rfl)).2;have O:Hid (bO L w1 g (b.zO t) so c7 oo Y I J/\yC g so ao oo so c7 oo w w1):=⟨G,e0⟩
 obtain⟨h,h2,h0,h1,e3⟩:=G.Bv (by rw[W.o.2];omega);subst h2;have d4:=G.zy b.zC.length 8 (by rw[W.o.2];omega) (by decide);have f6:=d4.1;have i6:=d4.2;change w1.cell? ⟨h,b.zC.length*20+8,none⟩=some (.int .i64 ((b.zO t).qI b.zC.length).num)at f6;rw[W.o.2]at a9 e3;have g9:=a5 5;clear G a3 e0 a5 e6 d4 b1;go_wp2_with fail
 go_region
 go_upto_region 10 with fail
 obtain⟨j,b5⟩:∃j:World,j=((w1.setCell ⟨g,5,none⟩ (.int .i64 ((b.kG:Int)+1))).setCell ⟨h,b.zC.length*20+8,none⟩ (.int .i64 ((b.kG:Int)+1))).drew:=⟨_,rfl⟩
 have a0:bO L j g e so (some ⟨h,0,none⟩) oo Y I J:=by
  rw[b5,d8.o];have U:=O.o.1.field (k:=5) (v:=.int .i64 ((b.kG:Int)+1)) (b':={ b.zO t with kG:=b.kG+1 }) (bf:=so) (nR:=some ⟨h,0,none⟩) (jl:=oo) (sc':=Y) (AY:=I) (Ey:=J) (by unfold bA;simp) O.o.1.zK O.o.1.zC O.o.1.opn O.o.1.ap O.o.1.cl;exact(U.Gs b.zC.length 8 [.int .i64 ((b.kG:Int)+1)] { (b.zO t).qI b.zC.length with num:=(b.kG:Int)+1 } (by show _<(b.zO t).zC.length;rw[W.o.2];omega) (by simp) rfl).drew
 have e1:yC g so ao oo so (some ⟨h,0,none⟩) oo w j:=by
  rw[b5];exact((O.o.2.set (p:=⟨g,5,none⟩) (gG rfl) _).set (p:=⟨h,b.zC.length*20+8,none⟩) (lZ (lZ (gG rfl))) _).drew
 rw[<-b5];clear b5 d5 a9 d6 b7 f8 f7 f6 i6 g9 O W d8
 ·clear h0 h1 e3;have b2:Hid (bO L j g e so (some ⟨h,0,none⟩) oo Y I J/\yC g so ao oo so (some ⟨h,0,none⟩) oo w j):=⟨a0,e1⟩
  obtain⟨i7,i8,i9,j0,f9,j1,_,g1⟩:=a0.cells;have g2:=g1 4;have g0:j.cell? ⟨g,4,none⟩=some (.slice oo b.opn.length J):=by rw[f9,b3]
  have g4:Hid (j.ownsRow L 3 1 (.slice oo b.opn.length J) b.opn.length (PK b.opn)):=by show World.ownsRow _ _ _ _ _ _ _;have:=a0.opn;rw[b3]at this;exact this
  have k9:g<j.heap.size:=(a0.lt g (gG rfl)).2;have k6:L<=j.heap.size:=by have:=a0.lo;omega
  clear a0 e1 i7 i8 i9 j0 f9 j1 g1;go_wp2_with (at_builtin;refine wpList_append_lies _ rfl (.tmp 56) (.tmp 58) 41 rfl L 3 i0 _ 1 8 underlying41 h4 h7 h8 h9 rfl (by decide) _ _ _ rfl (g4.o.alloc _) ⟨j.heap.size,0,none⟩ 1 1 [.int .i64 (b.zC.length:Int)] rfl rfl ?c1 ?c2 (by decide) ?c3 ?c4 ?c5 (j.heap.size+1) ?c6 ?_)
  case c1=>exact World.news_of_block (cs:=#[.int .i64 (b.zC.length:Int)]) (gF _ _)
  case c2=>intro u f2;simp at f2;subst f2;rfl
  case c3=>unfold maxLen;omega
  case c4=>omega
  case c5=>simp;omega
  case c6=>simp
  intro q cap a8 f0 b4 d0 l4;rw[jC]at b4 d0;have c8:Below j.heap.size j (j.alloc (.cells #[.int .i64 (b.zC.length:Int)] 3)):=(lK _ _).alloc (lF _) _;have b0:=Tc (k:=b.zC.length) b2.o.1 c8 (by simp) b4 (by simpa using d0) (by rw[b3];exact f0);rw[b3]at b0;have d3:a8.heap[g]?=j.heap[g]?:=b2.o.1.grown c8 b4 g (gG rfl) (λe=>b2.o.1.ap.2.2.1 e.symm);have j6:a8.cell? ⟨g,4,none⟩=some (.slice oo b.opn.length J):=(gH (a:=⟨g,4,none⟩) d3).trans g0;have j9:a8.frozen? ⟨g,4,none⟩=false:=(rC (a:=⟨g,4,none⟩) d3).trans g2;have b9:Hid (bO L (a8.setCell ⟨g,4,none⟩ (.slice (some ⟨q,0,none⟩) (b.opn.length+1) cap)) g (e.push b.zC.length) so (some ⟨h,0,none⟩) (some ⟨q,0,none⟩) Y I cap/\yC g so ao oo so (some ⟨h,0,none⟩) (some ⟨q,0,none⟩) w (a8.setCell ⟨g,4,none⟩ (.slice (some ⟨q,0,none⟩) (b.opn.length+1) cap))):=⟨b0.1,b2.o.2.trans b0.2⟩
  have h6:(e.push b.zC.length).zK.length<=1000:=by show e.zK.length<=1000;rw[c9];omega
  have b8:=dx b9.o.1 h6;have i5:(e.push b.zC.length).zK.length=b.zK.length:=c9;rw[i5]at b8;have d7:Hid (CT _ _ _ _):=b8;clear b0 f0 b4 d0 d3 c8 b8 g2 g0;go_wp2_with fail
  refine d7.o.mono ?_;rintro j7 Z ⟨rfl,a7,b6,G,a3⟩;obtain⟨d5,a9,d6,b7,_,_,_,a5⟩:=G.cells;have l5:=a5 2;have l6:=a5 3;obtain⟨k1,e5,k2,k3,e4⟩:=G.Bv (by show 0<e.zC.length;omega);simp only[oP,uO,wJ,iE]at e5;subst e5;have c5:=G.zy b.zC.length 17 (by show _<e.zC.length;omega) (by decide);have g6:=c5.1;have k0:=c5.2;change Z.cell? ⟨h,b.zC.length*20+17,none⟩=some (.int .i64 (e.qI b.zC.length).body)at g6;change Z.cell? ⟨g,1,none⟩=some (.slice (some ⟨h,0,none⟩) e.zC.length I)at a9;rw[h3]at a9;change Z.cell? ⟨g,2,none⟩=some (.int .i64 e.seq)at d6;change Z.cell? ⟨g,3,none⟩=some (.int .i64 e.last)at b7;have k4:b.zC.length+1<=I:=by change e.zC.length<=I at e4;omega
  have l0:g<Z.heap.size:=(G.lt g (gG rfl)).2;have R:Hid (bO L Z g (e.push b.zC.length).newSeq a7 (some ⟨h,0,none⟩) (some ⟨q,0,none⟩) b6 I cap/\yC g so ao oo a7 (some ⟨h,0,none⟩) (some ⟨q,0,none⟩) w Z):=⟨G,b9.o.2.trans a3⟩
  clear G a3 a5 c5 d7 b9 d5 e4;go_wp2_with fail
  go_returns;have h5:b.zC.length<(e.push b.zC.length).newSeq.zC.length:=by show _<e.zC.length;omega
  have U:=R.o.1.Gs b.zC.length 17 [.int .i64 b.zK.length] { e.qI b.zC.length with body:=b.zK.length } h5 (by simp) rfl;have a1:=U.field (k:=2) (v:=.int .i64 b.zK.length) (b':={ (e.push b.zC.length).newSeq with zC:=e.zC.set b.zC.length { e.qI b.zC.length with body:=b.zK.length },seq:=b.zK.length }) (bf:=a7) (nR:=some ⟨h,0,none⟩) (jl:=some ⟨q,0,none⟩) (sc':=b6) (AY:=I) (Ey:=cap) (by unfold bA;simp;rfl) U.zK U.zC U.opn U.ap U.cl
  have a6:b.kU t={ (e.push b.zC.length).newSeq with zC:=e.zC.set b.zC.length { e.qI b.zC.length with body:=b.zK.length },seq:=b.zK.length,last:=-1 }:=by
   rw[d9.o,WU,c9]
  have g5:=a1.field (k:=3) (v:=.int .i64 (-1)) (b':=b.kU t) (bf:=a7) (nR:=some ⟨h,0,none⟩) (jl:=some ⟨q,0,none⟩) (sc':=b6) (AY:=I) (Ey:=cap) (by rw[a6];unfold bA;simp) (by rw[a6];exact a1.zK) (by rw[a6];exact a1.zC) (by rw[a6];exact a1.opn) a1.ap (by rw[a6];exact a1.cl);refine⟨rfl,a7,some ⟨h,0,none⟩,some ⟨q,0,none⟩,b6,I,cap,g5,?_⟩;exact(((R.o.2.set (p:=⟨h,b.zC.length*20+17,none⟩) (lZ (lZ (gG rfl))) _).set (p:=⟨g,2,none⟩) (gG rfl) _).set (p:=⟨g,3,none⟩) (gG rfl) _)
