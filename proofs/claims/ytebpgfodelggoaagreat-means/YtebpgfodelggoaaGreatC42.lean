import Derived.Test.YtebpgfodelggoaaGreatC41
import Derived.Test.YtebpgfodelggoaaGreatC07
set_option linter.all false
set_option maxRecDepth 100000
set_option maxHeartbeats 4000000
namespace Go.Proofs.YtebpgfodelggoaaGreat
open Go.RowKit _root_.Go.Proofs.Tryz Mt
def fu(q:List Int):List Value:=(List.range 43).map λi=>Value.int .i64 (gt q i)
def yH(q:List Int):Array Value:=(fu q).toArray
theorem yg q:(fu q).length=43:=by simp[fu]
theorem kK q:(yH q).size=43:=by simp[yH,fu]
theorem yX q h(j:h<43):(yH q)[h]?=some (.int .i64 (gt q h)):=by
 simp[yH,fu,j]
theorem aV q:(yH q).all (·.oneCell')=true:=by
 rw[Array.all_eq_true];intro i h;simp[yH,fu,Value.oneCell']
theorem Qx q:∀u∈fu q,u.oneCell'=true:=by
 intro u h;simp only[fu,uY]at h;obtain⟨i,_,rfl⟩:=h;rfl
theorem oh q(J:q.length=43) h v:(yH q).setIfInBounds h (.int .i64 v)=yH (q.set h v):=by
 apply aO
 ·simp[yH,fu]
 ·intro i I j;have G:i<43:=by simpa[yH,fu]using j
  rw[Array.getElem_setIfInBounds (by simpa[yH,fu]using G)];simp only[yH,fu,List.getElem_toArray,uX,uQ];rw[AJ];by_cases e:h=i
  ·rw[lG e,lG ⟨e,by omega⟩]
  ·rw[lC e,lC (by omega)]
def WW(w:World)(v:Value)(b:List Int):Prop:=w.ownsRow 0 3 1 v b.length (b.map (Value.int .i64))
def VP(w:World)(v:Value)(b:List Bool):Prop:=w.ownsRow 0 4 1 v b.length (b.map Value.bool)
theorem jT:(prog.info? 83).map (·.size)=some 43:=by kernel_rfl
structure Pk where
 L:Nat
 g:Nat
 gc:Nat
 gl:Nat
 gs:Nat
 gh:Nat
 cc:Nat
 cl:Nat
 cs:Nat
 ch:Nat
 c:List zT
 t:BA
 zD:Int
 lp:List Int
 sl:List Int
structure zV (k:Pk) (w:World) (steps:Int) (hd:List Bool) (zA:Int) (wo:Option Addr) (wc:Nat) (W:List (List Int)):Prop where
 cell:w.heap[k.g]?=some (.cells #[.slice (some ⟨k.gc,0,none⟩) k.c.length k.cc,.string k.t,.int .i64 k.zD,.int .i64 steps,.int .i64 ((k.t.size:Int)+1),.slice (some ⟨k.gl,0,none⟩) k.c.length k.cl,.slice (some ⟨k.gs,0,none⟩) k.c.length k.cs,.slice (some ⟨k.gh,0,none⟩) hd.length k.ch,.int .i64 zA,.slice wo W.length wc] 79 (0,0))
 code:zY w 0 (.slice (some ⟨k.gc,0,none⟩) k.c.length k.cc) k.c
 lps:WW w (.slice (some ⟨k.gl,0,none⟩) k.lp.length k.cl) k.lp
 sls:WW w (.slice (some ⟨k.gs,0,none⟩) k.sl.length k.cs) k.sl
 hds:VP w (.slice (some ⟨k.gh,0,none⟩) hd.length k.ch) hd
 wt:w.ownsRow k.L 83 43 (.slice wo W.length wc) W.length (W.flatMap fu)
 lo:k.L<=k.g/\k.L<=k.gh
 ll:k.lp.length=k.c.length
 ls:k.sl.length=k.c.length
 Ky:k.gc≠k.g/\k.gl≠k.g/\k.gs≠k.g/\k.gh≠k.g
 aph:k.gc≠k.gh/\k.gl≠k.gh/\k.gs≠k.gh
 OM:blk wo≠some k.g/\blk wo≠some k.gc/\blk wo≠some k.gl/\blk wo≠some k.gs/\blk wo≠some k.gh
structure jZ (k:Pk) (wo GU:Option Addr) (w w':World):Prop where
 os:w'.os=w.os
 tape:w'.tape=w.tape
 output:w'.output=w.output
 size:w.heap.size<=w'.heap.size
 block:∀i,i<w.heap.size->i≠k.g->i≠k.gh->blk wo≠some i->w'.heap[i]?=w.heap[i]?
 sub:∀i,i<w.heap.size->blk GU=some i->blk wo=some i
theorem jZ.refl k wo w:jZ k wo wo w w:=⟨rfl,rfl,rfl,lF _,λ_ _ _ _ _=>rfl,λ_ _ h=>h⟩
theorem jZ.trans{k wo w1 U a b c}(h:jZ k wo w1 a b)(G:jZ k w1 U b c):jZ k wo U a c:=
 ⟨G.os.trans h.os,G.tape.trans h.tape,G.output.trans h.output,gX h.size G.size,
 λi j I J O=>(G.block i (rF j h.size) I J (λe=>O (h.sub i j e))).trans (h.block i j I J O),λi j Y=>h.sub i j (G.sub i (rF j h.size) Y)⟩
theorem jZ.below{k wo a b}(h:Below a.heap.size a b):jZ k wo wo a b:=⟨h.os,h.tape,h.output,h.size,λi j _ _ _=>h.block i j,λ_ _ h=>h⟩
theorem jZ.drew{k wo w1 a w}(h:jZ k wo w1 a w):jZ k wo w1 a w.drew:=h.trans (jZ.below (lK _ _).drew)
theorem jZ.set{k wo w1 a w}(j:jZ k wo w1 a w){p}(h:p.block=k.g\/p.block=k.gh\/blk w1=some p.block) u:jZ k wo w1 a (w.setCell p u):=
 j.trans ⟨rfl,rfl,rfl,by simp[World.setCell],λi O G I J=>lS _ _ _ _ (λe=>by rcases h with h | h | h;exact G (by rw[e,h]);exact I (by rw[e,h]);exact J (by rw[e,h])),λ_ _ j=>j⟩
section
variable {k:Pk} {w:World} {steps:Int} {hd:List Bool} {zA:Int} {wo:Option Addr} {wc:Nat} {W:List (List Int)}
theorem zV.lt(h:zV k w steps hd zA wo wc W):k.g<w.heap.size/\k.gc<w.heap.size/\k.gl<w.heap.size/\k.gs<w.heap.size/\k.gh<w.heap.size/\(∀i,blk wo=some i->k.L<=i/\i<w.heap.size):=
 ⟨(lM.1 h.cell).1,(lY h.code k.gc rfl).2,(lY h.lps k.gl rfl).2,(lY h.sls k.gs rfl).2,(lY h.hds k.gh rfl).2,λi j=>lY h.wt i (by rw[jC];exact j)⟩
theorem zV.same{w'}(h:zV k w steps hd zA wo wc W)(I:w'.heap[k.g]?=w.heap[k.g]?)(G:w'.heap[k.gc]?=w.heap[k.gc]?)(O:w'.heap[k.gl]?=w.heap[k.gl]?)(U:w'.heap[k.gs]?=w.heap[k.gs]?)(J:w'.heap[k.gh]?=w.heap[k.gh]?)(Y:∀i,blk wo=some i->w'.heap[i]?=w.heap[i]?):zV k w' steps hd zA wo wc W:=
 ⟨by rw[I];exact h.cell,zR h.code (λq j=>by cases j;exact G),zR h.lps (λq j=>by cases j;exact O),zR h.sls (λq j=>by cases j;exact U),zR h.hds (λq j=>by cases j;exact J),zR h.wt Y,h.lo,h.ll,h.ls,h.Ky,h.aph,h.OM⟩
theorem zV.below{w'}(j:zV k w steps hd zA wo wc W)(h:Below w.heap.size w w'):zV k w' steps hd zA wo wc W:=by
 obtain⟨I,J,O,U,Y,Z⟩:=j.lt;exact j.same (h.block _ I) (h.block _ J) (h.block _ O) (h.block _ U) (h.block _ Y) (λi G=>h.block _ (Z i G).2)
theorem zV.drew(h:zV k w steps hd zA wo wc W):zV k w.drew steps hd zA wo wc W:=h.same rfl rfl rfl rfl rfl (λ_ _=>rfl)
theorem jZ.low{G w'}(j:zV k w steps hd zA wo wc W)(h:jZ k wo G w w')(I:k.L<=w.heap.size):Below k.L w w':=
 ⟨h.os,h.tape,h.output,h.size,λi J=>h.block i (by omega) (λe=>by have:=j.lo.1;omega) (λe=>by have:=j.lo.2;omega) (λe=>by have:=(j.lt.2.2.2.2.2 i e).1;omega)⟩
theorem zV.cells(G:zV k w steps hd zA wo wc W):w.cell? ⟨k.g,0,none⟩=some (.slice (some ⟨k.gc,0,none⟩) k.c.length k.cc)/\w.cell? ⟨k.g,1,none⟩=some (.string k.t)/\w.cell? ⟨k.g,2,none⟩=some (.int .i64 k.zD)/\w.cell? ⟨k.g,3,none⟩=some (.int .i64 steps)/\w.cell? ⟨k.g,4,none⟩=some (.int .i64 ((k.t.size:Int)+1))
  /\ w.cell? ⟨k.g,5,none⟩=some (.slice (some ⟨k.gl,0,none⟩) k.c.length k.cl)/\w.cell? ⟨k.g,6,none⟩=some (.slice (some ⟨k.gs,0,none⟩) k.c.length k.cs)/\w.cell? ⟨k.g,7,none⟩=some (.slice (some ⟨k.gh,0,none⟩) hd.length k.ch)/\w.cell? ⟨k.g,8,none⟩=some (.int .i64 zA)/\w.cell? ⟨k.g,9,none⟩=some (.slice wo W.length wc)/\(∀j,w.frozen? ⟨k.g,j,none⟩=false):=by
 have h:=zB G.cell;exact⟨h.1 0,h.1 1,h.1 2,h.1 3,h.1 4,h.1 5,h.1 6,h.1 7,h.1 8,h.1 9,h.2⟩
theorem zV.zCd(h:zV k w steps hd zA wo wc W) v:zV k (w.setCell ⟨k.g,3,none⟩ (.int .i64 v)) v hd zA wo wc W:=by
 have o:∀i,i≠k.g->(w.setCell ⟨k.g,3,none⟩ (.int .i64 v)).heap[i]?=w.heap[i]?:=λi G=>lS _ _ _ _ G
 refine⟨?_,zR h.code (λq j=>by cases j;exact o _ h.Ky.1),zR h.lps (λq j=>by cases j;exact o _ h.Ky.2.1),zR h.sls (λq j=>by cases j;exact o _ h.Ky.2.2.1),zR h.hds (λq j=>by cases j;exact o _ h.Ky.2.2.2),zR h.wt (λq j=>o q (λe=>h.OM.1 (by rw[<-e];exact j))),h.lo,h.ll,h.ls,h.Ky,h.aph,h.OM⟩;have:=lX w k.g 3 _ _ (.int .i64 v) h.cell;rw[this];rfl
theorem zV.zDL(h:zV k w steps hd zA wo wc W) v:zV k (w.setCell ⟨k.g,8,none⟩ (.int .i64 v)) steps hd v wo wc W:=by
 have o:∀i,i≠k.g->(w.setCell ⟨k.g,8,none⟩ (.int .i64 v)).heap[i]?=w.heap[i]?:=λi G=>lS _ _ _ _ G
 refine⟨?_,zR h.code (λq j=>by cases j;exact o _ h.Ky.1),zR h.lps (λq j=>by cases j;exact o _ h.Ky.2.1),zR h.sls (λq j=>by cases j;exact o _ h.Ky.2.2.1),zR h.hds (λq j=>by cases j;exact o _ h.Ky.2.2.2),zR h.wt (λq j=>o q (λe=>h.OM.1 (by rw[<-e];exact j))),h.lo,h.ll,h.ls,h.Ky,h.aph,h.OM⟩;have:=lX w k.g 8 _ _ (.int .i64 v) h.cell;rw[this];rfl
theorem zV.zDM(h:zV k w steps hd zA wo wc W) i:zV k (w.setCell ⟨k.gh,i,none⟩ (.bool true)) steps (hd.set i true) zA wo wc W:=by
 have o:∀G,G≠k.gh->(w.setCell ⟨k.gh,i,none⟩ (.bool true)).heap[G]?=w.heap[G]?:=λG I=>lS _ _ _ _ I
 have J:=(uU h.hds i (.bool true)).1;refine⟨?_,zR h.code (λq j=>by cases j;exact o _ h.aph.1),zR h.lps (λq j=>by cases j;exact o _ h.aph.2.1),zR h.sls (λq j=>by cases j;exact o _ h.aph.2.2),?_,zR h.wt (λq j=>o q (λe=>h.OM.2.2.2.2 (by rw[<-e];exact j))),h.lo,h.ll,h.ls,h.Ky,h.aph,h.OM⟩
 ·rw[o k.g (iB h.Ky.2.2.2),gY];exact h.cell
 ·unfold VP;rw[gY,uW];exact J
theorem VQ(W:List (List Int)):(W.flatMap fu).length=W.length*43:=by
 induction W with
 | nil=>rfl
 | cons a r h=>rw[gT,lQ,yg,h,lU,oV];omega
theorem JE:∀(W:List (List Int)) (n),(W.flatMap fu).take (n*43)=(W.take n).flatMap fu
 | [],n=>by simp
 | a::r,0=>by simp
 | a::r,n+1=>by
  rw[gT,uH,gT,rX,yg,oG (by rw[yg,oV];omega),show(n+1)*43-43=n*43 by omega,JE r n]
theorem OO:∀(W:List (List Int)) (i j),i<W.length->j<43->(W.flatMap fu)[i*43+j]?=some (.int .i64 (gt (W.getD i []) j))
 | [],i,j,h,_=>by simp at h
 | a::r,0,j,_,hj=>by
  rw[gT,gK (by rw[yg];omega)];simp[fu,hj]
 | a::r,i+1,j,h,hj=>by
  rw[gT,gL (by rw[yg];omega),yg,show(i+1)*43+j-43=i*43+j by omega,OO r i j (by simpa using h) hj];simp
theorem zV.cut(h:zV k w steps hd zA wo wc W) n(U:n<=W.length):zV k (w.setCell ⟨k.g,9,none⟩ (.slice wo n wc)) steps hd zA wo wc (W.take n):=by
 have o:∀i,i≠k.g->(w.setCell ⟨k.g,9,none⟩ (.slice wo n wc)).heap[i]?=w.heap[i]?:=λi O=>lS _ _ _ _ O
 have G:(W.take n).length=n:=by rw[uM];omega
 refine⟨?_,zR h.code (λq j=>by cases j;exact o _ h.Ky.1),zR h.lps (λq j=>by cases j;exact o _ h.Ky.2.1),zR h.sls (λq j=>by cases j;exact o _ h.Ky.2.2.1),zR h.hds (λq j=>by cases j;exact o _ h.Ky.2.2.2),?_,h.lo,h.ll,h.ls,h.Ky,h.aph,h.OM⟩
 ·have:=lX w k.g 9 _ _ (.slice wo n wc) h.cell;rw[this,G];rfl
 ·rw[G];refine zR (w:=w) ?_ (λq j=>o q (λe=>h.OM.1 (by rw[<-e];exact j)));have J:=h.wt;refine⟨by rw[VQ,G],?_⟩;rcases J.2 with ⟨e,a3⟩ | ⟨gw,cap,I,e,Y,Z,a4,a0,a1,a2⟩
  ·left;simp only[oD]at e;obtain⟨rfl,_,rfl⟩:=e;have:n=0:=by omega
   subst this;exact⟨rfl,rfl⟩
  ·right;simp only[oD]at e;obtain⟨rfl,_,rfl⟩:=e;refine⟨gw,wc,I,rfl,Y,Z,by omega,a0,a1,?_⟩;rw[<-JE,<-a2,iK];congr 1;have:=oO 43 U;omega
theorem zCe{w0 w1}{q cap}{x}(h:zV k w steps hd zA wo wc W)(G:Below w.heap.size w w0)(b7:w.heap.size<w0.heap.size)(J:w0.grownBy w1 (blk wo))(O:blk wo=some q\/q=w0.heap.size)
  (a4:w1.ownsRow k.L 83 43 (.slice (some ⟨q,0,none⟩) (W.length+1) cap) (W.length+1) (W.flatMap fu++fu x)):
  zV k (w1.setCell ⟨k.g,9,none⟩ (.slice (some ⟨q,0,none⟩) (W.length+1) cap)) steps hd zA (some ⟨q,0,none⟩) cap (W++[x])/\jZ k wo (some ⟨q,0,none⟩) w (w1.setCell ⟨k.g,9,none⟩ (.slice (some ⟨q,0,none⟩) (W.length+1) cap)):=by
 obtain⟨a6,a7,a8,a9,b0,b8⟩:=h.lt
 have n:q≠k.g/\q≠k.gc/\q≠k.gl/\q≠k.gs/\q≠k.gh:=by
  rcases O with e | e
  ·exact⟨λx=>h.OM.1 (by rw[e,x]),λx=>h.OM.2.1 (by rw[e,x]),λx=>h.OM.2.2.1 (by rw[e,x]),λx=>h.OM.2.2.2.1 (by rw[e,x]),λx=>h.OM.2.2.2.2 (by rw[e,x])⟩
  ·omega
 obtain⟨b1,b2,b3,b4,b5⟩:=n;have I:∀i,i<w.heap.size->blk wo≠some i->w1.heap[i]?=w.heap[i]?:=λi j a5=>by rw[J.block i (by have:=G.size;omega) (λe=>a5 e.symm),G.block i j]
 have o:∀i,i≠k.g->(w1.setCell ⟨k.g,9,none⟩ (.slice (some ⟨q,0,none⟩) (W.length+1) cap)).heap[i]?=w1.heap[i]?:=λi j=>lS _ _ _ _ j
 have U:∀i,i≠q->blk (some (⟨q,0,none⟩:Addr))≠some i:=λi j e=>j (by simp[blk]at e;exact e.symm)
 refine⟨⟨?_,zR h.code (λi j=>by cases j;rw[o _ h.Ky.1,I _ a7 h.OM.2.1]),zR h.lps (λi j=>by cases j;rw[o _ h.Ky.2.1,I _ a8 h.OM.2.2.1]),zR h.sls (λi j=>by cases j;rw[o _ h.Ky.2.2.1,I _ a9 h.OM.2.2.2.1]),zR h.hds (λi j=>by cases j;rw[o _ h.Ky.2.2.2,I _ b0 h.OM.2.2.2.2]),?_,h.lo,h.ll,h.ls,h.Ky,h.aph,U _ (iB b1),U _ (iB b2),U _ (iB b3),U _ (iB b4),U _ (iB b5)⟩,?_⟩
 ·have a3:=lX w1 k.g 9 _ _ (.slice (some ⟨q,0,none⟩) (W.length+1) cap) (by rw[I k.g a6 h.OM.1];exact h.cell);rw[a3];simp
 ·have Z:(W++[x]).length=W.length+1:=by simp
  have a0:(W++[x]).flatMap fu=W.flatMap fu++fu x:=by simp
  rw[Z,a0];exact zR a4 (λi j=>o i (by simp[blk]at j;omega))
 ·refine⟨J.os.trans G.os,J.tape.trans G.tape,J.output.trans G.output,?_,λi j a1 b6 a2=>?_,λi j Y=>?_⟩
  ·have:=J.size;have:=G.size;simp[World.setCell];omega
  ·rw[o i a1,I i j a2]
  ·simp[blk]at Y;subst Y;rcases O with O | O
   ·exact O
   ·omega
end
theorem zDN:(prog.info? 83).map (λi=>(i.zero,i.size,i.bytes))=some (some (.agg (yH [])),43,344):=by kernel_rfl
theorem WX x{h:TypeInfo}(j:h.size=43):Instr.fill (λi=>some (i*h.size,h.size)) ((Array.range (1*h.size)).map ((Value.agg (yH [])).cells[· % (Value.agg (yH [])).cells.size]!)) [(0,.agg (yH x))]=some (yH x):=by
 rw[j];unfold yH fu;kernel_rfl
section
variable {k:Pk} {w:World} {steps:Int} {hd:List Bool} {zA:Int} {wo:Option Addr} {wc:Nat} {W:List (List Int)}
theorem FR(h:zV k w steps hd zA wo wc W):Calls prog 41 #[.pointer (some ⟨k.g,0,none⟩)] w λe w'=>e=.returned (.bool (decide (steps>k.zD)))/\Below w.heap.size w w':=by
 obtain⟨j,G,a1,a2,I,J,O,U,Y,Z,a0⟩:=h.cells;clear h a0 j G I J O U Y Z;generalize k.g=g at *;generalize k.zD=B at *
 go_in
 go_wp2_with fail
 go_region
 go_wp2_with fail
 go_ret;exact⟨rfl,(lK _ _).drew⟩
theorem zCf{w1}{n m cap}{T E}{G a2}{h}(I:zV k w steps hd zA wo wc W)(O:Below w.heap.size w h)(Z:n<h.heap.size)(a3:w.heap.size<=n)(Y:h.heap[n]?=some (.cells T G (0,0)))(j:(h.drew.alloc (.cells E a2)).grownBy w1 (Value.slice wo m cap).ownBlock):
  w1.heap[n]?=some (.cells T G (0,0))/\(∀o,w1.cell? ⟨k.g,o,none⟩=w.cell? ⟨k.g,o,none⟩)/\(∀o,w1.frozen? ⟨k.g,o,none⟩=w.frozen? ⟨k.g,o,none⟩):=by
 rw[jC]at j;obtain⟨a0,a5,a6,a7,a8,a1⟩:=I.lt;have a4:=O.size
 have U:w1.heap[n]?=some (.cells T G (0,0)):=by
  rw[j.block _ (by simp;omega) (λe=>by have:=(a1 _ e.symm).2;omega),kQ _ _ _ (by simpa using Z)];exact Y
 have J:w1.heap[k.g]?=w.heap[k.g]?:=by
  rw[j.block _ (by simp;omega) (λe=>I.OM.1 e.symm),kQ _ _ _ (by simp;omega)];exact O.block _ a0
 exact⟨U,λo=>gH (a:=⟨k.g,o,none⟩) J,λo=>rC (a:=⟨k.g,o,none⟩) J⟩
theorem jq q G(a1:q.length=43)(h:zV k w steps hd zA wo wc W)(e7:W.length<=1000000):
  Calls prog 68 #[.pointer (some ⟨k.g,0,none⟩),.agg (yH q),.int .i64 G] w λe w'=>e=.returned (.tuple #[])/\∃GU wc',zV k w' steps hd zA GU wc' (W++[q.set 0 G])/\jZ k wo GU w w':=by
 obtain⟨b1,a2,b0,Y,e1⟩:=sK zDN;have a7:=hid h;obtain⟨c5,c6,c7,c8,c9,d0,d1,d2,d3,b7,c0⟩:=h.cells;have d6:=c0 9;have d8:=h.lt.1;have e6:k.L<=w.heap.size:=by have:=h.lo;omega
 have c4:=hid h.wt;clear h c0 c5 c6 c7 c8 c9 d0 d1 d2 d3;have b5:=hid (oh q a1 0 G)
 go_in
 go_upto_region 1 with fail
 generalize a4:w.alloc (.cells (yH q) 83)=I at *;have B1:Below w.heap.size w I:=by rw[<-a4];exact(lK _ _).alloc (lF _) _
 have T1:I.heap[w.heap.size]?=some (.cells (yH q) 83 (0,0)):=by rw[<-a4];exact gF _ _
 have b6:I.heap.size=w.heap.size+1:=by rw[<-a4];simp
 have e2:I.cell? ⟨w.heap.size,0,none⟩=some (.int .i64 (gt q 0)):=by rw[(zB T1).1 0];exact yX q 0 (by omega)
 have e3:=(zB T1).2 0;clear a4;go_upto_region 2 with fail
 have a3:Below w.heap.size w (I.setCell ⟨w.heap.size,0,none⟩ (.int .i64 G)):=B1.setCell (p:=⟨w.heap.size,0,none⟩) (lF _) _
 have T2:(I.setCell ⟨w.heap.size,0,none⟩ (.int .i64 G)).heap[w.heap.size]?=some (.cells (yH (q.set 0 G)) 83 (0,0)):=by
  have:=lX I w.heap.size 0 _ _ (.int .i64 G) T1;rw[this];rw[<-b5.o]
 have O:(I.setCell ⟨w.heap.size,0,none⟩ (.int .i64 G)).heap.size=w.heap.size+1:=by simp[World.setCell,b6]
 generalize I.setCell ⟨w.heap.size,0,none⟩ (.int .i64 G)=Z at *;clear e2 e3 T1 B1 b6 b5;have e9:(q.set 0 G).length=43:=by simp[a1]
 generalize e0:q.set 0 G=x at *;generalize c3:w.heap.size=n at *
 ·skip
  have U:∀z:World,z.heap[n]?=some (.cells (yH x) 83 (0,0))->z.rangeAt n 0 (yH x).toList:=λz hz=>yE hz
  have e4:Z.cell? ⟨k.g,9,none⟩=some (.slice wo W.length wc):=by rw[gH (a:=⟨k.g,9,none⟩) (a3.block k.g d8)];exact b7
  refine wp_region_held_drew (S:=λz:World=>z.heap[n]?=some (.cells (yH x) 83 (0,0))) (by kernel_rfl) T2 (λa0=>?_);generalize a9:k.g=J at *;refine qJ 0 8 (.pointer (some ⟨J,0,none⟩)) rfl (by kernel_rfl) (λ_ _ _ h=>h) (λz hz=>by clear a0 hz U T2;go_simp) (by assumption) ?_;refine qJ 1 9 (.pointer (some ⟨J,0,none⟩)) rfl (by kernel_rfl) (λ_ _ _ h=>h) (λz hz=>by clear a0 hz U T2;go_simp) (by assumption) ?_;refine qJ 2 10 (.pointer (some ⟨J,0,none⟩)) rfl (by kernel_rfl) (λ_ _ _ h=>h) (λz hz=>by clear a0 hz U T2;go_simp) (by assumption) ?_;refine qJ 3 11 (.pointer (some ⟨J,9,none⟩)) rfl (by kernel_rfl) (λ_ _ _ h=>h) (λz hz=>by clear a0 hz U T2;go_simp) (by assumption) ?_;refine MN 5 13 (.agg (yH x)) rfl (by kernel_rfl) (λ_ _ _ h=>h) (yieldsIf_load_mid (by rfl) _ _ rfl _ _ rfl _ _ U underlying83 rfl (by rw[jT];rfl)) (by assumption) ?_;simp only[Act.put,lD,lJ,lI]
  have S1:(Z.drew.alloc (.cells (yH x) 83)).heap[n]?=some (.cells (yH x) 83 (0,0)):=
   (kQ _ _ _ (by simp[O])).trans T2
  have c2:Z.drew.heap.size=n+1:=by simpa using O
  have d9:(Z.drew.alloc (.cells (yH x) 83)).heap[n+1]?=some (.cells (yH x) 83 (0,0)):=by
   rw[<-c2];exact gF _ _
  refine wpAnyH_ready (rs:=[4,6]) (by kernel_rfl) (by simp) ?_;refine AllReadyH.cons rfl (λK j=>?_) (AllReadyH.cons rfl (λK j=>?_) AllReadyH.nil)
  all_goals
   first
   | (
     refine mK rfl 77 83 (.tmp 13) rfl (yH x) b1 _ (.agg (yH x)) underlying77 a2 b0 (by rw[Y];decide) (by rw[Y];decide) (by rfl) (WX _ Y) ?_;refine j.out _ _ S1 (λd7=>?_);clear j K;simp only[Act.put,lD,lJ,lI];refine wpAnyH_ready (rs:=[4]) (by kernel_rfl) (by simp) ?_;refine AllReadyH.cons rfl (λK j=>?_) AllReadyH.nil;try clear a0
     try clear U
     go_simp
     refine j.out _ _ S1 (λb9=>?_);clear j K
     )
   | (
     try clear a0
     try clear U
     go_simp
     refine j.out _ _ T2 (λb9=>?_);clear j K;refine wpAnyH_ready (rs:=[6]) (by kernel_rfl) (by simp) ?_;refine AllReadyH.cons rfl (λK j=>?_) AllReadyH.nil;refine mK rfl 77 83 (.tmp 13) rfl (yH x) b1 _ (.agg (yH x)) underlying77 a2 b0 (by rw[Y];decide) (by rw[Y];decide) (by rfl) (WX _ Y) ?_;refine j.out _ _ S1 (λd7=>?_);clear j K;simp only[Act.put,lD,lJ,lI,c2]
     )
  all_goals
   refine wpAnyH_ready (rs:=[7]) (by kernel_rfl) (by simp) ?_;refine AllReadyH.cons rfl (λK j=>?_) AllReadyH.nil;refine step_append_lies _ rfl (.tmp 12) (.tmp 14) 77 rfl k.L 83 b1 _ 43 344 underlying77 a2 b0 Y e1 (kK []) (by decide) (.slice wo W.length wc) W.length (W.flatMap fu) (by rfl) (oM (w:=Z.drew) (zR c4.o (λi a2=>by have:=(a7.o.lt.2.2.2.2.2 i a2).2;exact a3.block i (by omega))) _) ⟨n+1,0,none⟩ 1 1 (fu x) (by rfl) (by rw[yg]) (World.news_of_block (cs:=(yH x)) d9) (Qx x) (by decide) (by unfold maxLen;omega) (by omega) (by simp[O];omega) (n+2) (by simp[O]) ?_;intro q cap w1 c1 a5 a1 e8;obtain⟨a6,b2,b3⟩:=zCf a7.o (by rw[c3];exact a3) (by omega) (by omega) T2 a5;refine j.out _ _ a6 (λb8=>?_);clear j K;have d4:=b2 9;rw[a9,b7]at d4;have d5:=b3 9;rw[a9,d6]at d5
   have b4:Hid (zV k (w1.setCell ⟨k.g,9,none⟩ (.slice (some ⟨q,0,none⟩) (W.length+1) cap)) steps hd zA (some ⟨q,0,none⟩) cap (W++[x])/\jZ k wo (some ⟨q,0,none⟩) w (w1.setCell ⟨k.g,9,none⟩ (.slice (some ⟨q,0,none⟩) (W.length+1) cap))):=
    zCe a7.o (w0:=Z.drew.alloc (.cells (yH x) 83)) (by rw[c3];exact(a3.drew).alloc (by simp[O]) _) (by simp[O];omega) (by rw[jC]at a5;exact a5) (by rw[jC]at a1;simpa[O]using a1) c1
   try rw[a9]at b4
   have e5:=(lM.1 a6).1
   have a8:(w1.setCell ⟨J,9,none⟩ (.slice (some ⟨q,0,none⟩) (W.length+1) cap)).heap[n]?=some (.cells (yH x) 83 (0,0)):=
    (lS _ _ _ _ (by show n≠J;omega)).trans a6
   clear b2 b3 a5 c1 a1 T2 S1;refine qJ 8 16 (.pointer (some ⟨J,0,none⟩)) rfl (by kernel_rfl) (λ_ _ _ h=>h) (λz hz=>by clear b8 hz a8;go_simp) (by assumption) ?_;refine qJ 9 17 (.pointer (some ⟨J,9,none⟩)) rfl (by kernel_rfl) (λ_ _ _ h=>h) (λz hz=>by clear b8 hz a8;go_simp) (by assumption) ?_;simp only[Act.put,lD,lJ,lI];refine wpAnyH_ready (rs:=[10]) (by kernel_rfl) (by simp) ?_;refine AllReadyH.cons rfl (λK j=>?_) AllReadyH.nil
   go_simp
   refine j.out _ _ a8 (λb9=>?_);clear j K;refine rP (by kernel_rfl) ?_ _;go_wp2_with fail
   go_returns;exact⟨rfl,some ⟨q,0,none⟩,cap,by rw[e0];exact b4.o⟩
end
