import Derived.Test.YtebpgfodelggoabGreatC35
import Derived.Test.YtebpgfodelggoabGreatC36
set_option linter.unusedVariables false
set_option linter.unusedSimpArgs false
set_option maxRecDepth 100000
set_option maxHeartbeats 4000000
namespace Go.Proofs.YtebpgfodelggoabGreat
open Go.RowKit
def stC (q:List Int):List Value:=(List.range 43).map fun i=>Value.int .i64 (Mt.gt q i)
def stA (q:List Int):Array Value:=(stC q).toArray
theorem zCc (q:List Int):(stC q).length=43:=by simp [stC]
theorem zS (q:List Int):(stA q).size=43:=by simp [stA,stC]
theorem qF (q:List Int) (j:Nat) (hj:j<43):(stA q)[j]?=some (.int .i64 (Mt.gt q j)):=by
 simp [stA,stC,hj]
theorem zSC (q:List Int):(stA q).toList=stC q:=rfl
theorem zAQ (q:List Int):(stA q).all (·.oneCell')=true:=by
 rw [Array.all_eq_true]
 intro i hi
 simp [stA,stC,Value.oneCell']
theorem zJU (q:List Int):∀ u∈stC q,u.oneCell'=true:=by
 intro u hu
 simp only [stC,List.mem_map] at hu
 obtain ⟨i,_,rfl⟩:=hu
 rfl
theorem zBl (q:List Int) (hq:q.length=43) (j:Nat) (v:Int):(stA q).setIfInBounds j (.int .i64 v)=stA (q.set j v):=by
 apply Array.ext
 ·simp [stA,stC]
 ·intro i h1 h2
  have hi:i<43:=by simpa [stA,stC] using h2
  rw [Array.getElem_setIfInBounds (by simpa [stA,stC] using hi)]
  simp only [stA,stC,List.getElem_toArray,List.getElem_map,List.getElem_range]
  rw [Mt.zDx]
  by_cases e:j=i
  ·rw [if_pos e,if_pos ⟨e,by omega⟩]
  ·rw [if_neg e,if_neg (by omega)]
def zPF (w:World) (v:Value) (b:List Int):Prop:=w.ownsRow 0 3 1 v b.length (b.map (Value.int .i64))
def zNO (w:World) (v:Value) (b:List Bool):Prop:=w.ownsRow 0 4 1 v b.length (b.map Value.bool)
theorem Tryz.sizeSt:(Tryz.prog.info? 130).map (·.size)=some 43:=by kernel_rfl
structure Pk where
 L:Nat
 g:Nat
 gc:Nat
 gl:Nat
 gs:Nat
 gh:Nat
 cc:Nat
 cl:Nat
 cs:Nat
 ch:Nat
 c:List Mt.Ins
 t:ByteArray
 budget:Int
 lp:List Int
 sl:List Int
structure zL (k:Pk) (w:World) (steps:Int) (hd:List Bool) (room:Int) (wo:Option Addr) (wc:Nat) (W:List (List Int)):Prop where
 cell:w.heap[k.g]?=some (.cells #[.slice (some ⟨k.gc,0,none⟩) k.c.length k.cc,.string k.t,.int .i64 k.budget,.int .i64 steps,.int .i64 ((k.t.size:Int)+1),.slice (some ⟨k.gl,0,none⟩) k.c.length k.cl,.slice (some ⟨k.gs,0,none⟩) k.c.length k.cs,.slice (some ⟨k.gh,0,none⟩) hd.length k.ch,.int .i64 room,.slice wo W.length wc] 126 (0,0))
 code:zB w 0 (.slice (some ⟨k.gc,0,none⟩) k.c.length k.cc) k.c
 lps:zPF w (.slice (some ⟨k.gl,0,none⟩) k.lp.length k.cl) k.lp
 sls:zPF w (.slice (some ⟨k.gs,0,none⟩) k.sl.length k.cs) k.sl
 hds:zNO w (.slice (some ⟨k.gh,0,none⟩) hd.length k.ch) hd
 wt:w.ownsRow k.L 130 43 (.slice wo W.length wc) W.length (W.flatMap stC)
 lo:k.L≤k.g∧k.L≤k.gh
 ll:k.lp.length=k.c.length
 ls:k.sl.length=k.c.length
 apg:k.gc≠k.g∧k.gl≠k.g∧k.gs≠k.g∧k.gh≠k.g
 aph:k.gc≠k.gh∧k.gl≠k.gh∧k.gs≠k.gh
 apw:blk wo≠some k.g∧blk wo≠some k.gc∧blk wo≠some k.gl∧blk wo≠some k.gs∧blk wo≠some k.gh
structure kY (k:Pk) (wo wo':Option Addr) (w w':World):Prop where
 os:w'.os=w.os
 tape:w'.tape=w.tape
 output:w'.output=w.output
 size:w.heap.size≤w'.heap.size
 block:∀ i,i<w.heap.size→i≠k.g→i≠k.gh→blk wo≠some i→w'.heap[i]?=w.heap[i]?
 sub:∀ i,i<w.heap.size→blk wo'=some i→blk wo=some i
theorem kY.refl (k:Pk) (wo:Option Addr) (w:World):kY k wo wo w w:=⟨rfl,rfl,rfl,Nat.le_refl _,fun _ _ _ _ _=>rfl,fun _ _ h=>h⟩
theorem kY.trans {k:Pk} {wo w1 w2:Option Addr} {a b c:World} (h:kY k wo w1 a b) (j:kY k w1 w2 b c):kY k wo w2 a c :=
 ⟨j.os.trans h.os,j.tape.trans h.tape,j.output.trans h.output,Nat.le_trans h.size j.size,
 fun i hi h1 h2 h3=>(j.block i (Nat.lt_of_lt_of_le hi h.size) h1 h2 (fun e=>h3 (h.sub i hi e))).trans (h.block i hi h1 h2 h3),fun i hi ho=>h.sub i hi (j.sub i (Nat.lt_of_lt_of_le hi h.size) ho)⟩
theorem kY.below {k:Pk} {wo:Option Addr} {a b:World} (h:Below a.heap.size a b):kY k wo wo a b:=⟨h.os,h.tape,h.output,h.size,fun i hi _ _ _=>h.block i hi,fun _ _ h=>h⟩
theorem kY.drew {k:Pk} {wo w1:Option Addr} {a w:World} (h:kY k wo w1 a w):kY k wo w1 a w.drew:=h.trans (kY.below (Below.refl _ _).drew)
theorem kY.set {k:Pk} {wo w1:Option Addr} {a w:World} (h:kY k wo w1 a w) {p:Addr} (hp:p.block=k.g∨p.block=k.gh∨blk w1=some p.block) (u:Value):kY k wo w1 a (w.setCell p u) :=
 h.trans ⟨rfl,rfl,rfl,by simp [World.setCell],fun i hi h1 h2 h3=>Below.heap_setCell _ _ _ _ (fun e=>by rcases hp with hp | hp | hp;exact h1 (by rw [e,hp]);exact h2 (by rw [e,hp]);exact h3 (by rw [e,hp])),fun _ _ h=>h⟩
section
variable {k:Pk} {w:World} {steps:Int} {hd:List Bool} {room:Int} {wo:Option Addr} {wc:Nat} {W:List (List Int)}
theorem zL.lt (h:zL k w steps hd room wo wc W):k.g<w.heap.size∧k.gc<w.heap.size∧k.gl<w.heap.size∧k.gs<w.heap.size∧k.gh<w.heap.size∧(∀ i,blk wo=some i→k.L≤i∧i<w.heap.size) :=
 ⟨(Array.getElem?_eq_some_iff.1 h.cell).1,(World.ownsRow.lt h.code k.gc rfl).2,(World.ownsRow.lt h.lps k.gl rfl).2,(World.ownsRow.lt h.sls k.gs rfl).2,(World.ownsRow.lt h.hds k.gh rfl).2,fun i hi=>World.ownsRow.lt h.wt i (by rw [zY];exact hi)⟩
theorem zL.same {w':World} (h:zL k w steps hd room wo wc W) (hg:w'.heap[k.g]?=w.heap[k.g]?) (hc:w'.heap[k.gc]?=w.heap[k.gc]?) (hl:w'.heap[k.gl]?=w.heap[k.gl]?) (hs:w'.heap[k.gs]?=w.heap[k.gs]?) (hh:w'.heap[k.gh]?=w.heap[k.gh]?) (hw:∀ i,blk wo=some i→w'.heap[i]?=w.heap[i]?):zL k w' steps hd room wo wc W :=
 ⟨by rw [hg];exact h.cell,zJ h.code (fun q hq=>by cases hq;exact hc),zJ h.lps (fun q hq=>by cases hq;exact hl),zJ h.sls (fun q hq=>by cases hq;exact hs),zJ h.hds (fun q hq=>by cases hq;exact hh),zJ h.wt hw,h.lo,h.ll,h.ls,h.apg,h.aph,h.apw⟩
theorem zL.below {w':World} (h:zL k w steps hd room wo wc W) (hb:Below w.heap.size w w'):zL k w' steps hd room wo wc W:=by
 obtain ⟨l1,l2,l3,l4,l5,l6⟩:=h.lt
 exact h.same (hb.block _ l1) (hb.block _ l2) (hb.block _ l3) (hb.block _ l4) (hb.block _ l5) (fun i hi=>hb.block _ (l6 i hi).2)
theorem zL.drew (h:zL k w steps hd room wo wc W):zL k w.drew steps hd room wo wc W:=h.same rfl rfl rfl rfl rfl (fun _ _=>rfl)
theorem kY.low {wo':Option Addr} {w':World} (h:zL k w steps hd room wo wc W) (hs:kY k wo wo' w w') (hL:k.L≤w.heap.size):Below k.L w w' :=
 ⟨hs.os,hs.tape,hs.output,hs.size,fun i hi=>hs.block i (by omega) (fun e=>by have:=h.lo.1;omega) (fun e=>by have:=h.lo.2;omega) (fun e=>by have:=(h.lt.2.2.2.2.2 i e).1;omega)⟩
theorem zL.cells (h:zL k w steps hd room wo wc W):w.cell? ⟨k.g,0,none⟩=some (.slice (some ⟨k.gc,0,none⟩) k.c.length k.cc)∧w.cell? ⟨k.g,1,none⟩=some (.string k.t)∧w.cell? ⟨k.g,2,none⟩=some (.int .i64 k.budget)∧w.cell? ⟨k.g,3,none⟩=some (.int .i64 steps)∧w.cell? ⟨k.g,4,none⟩=some (.int .i64 ((k.t.size:Int)+1))
  ∧ w.cell? ⟨k.g,5,none⟩=some (.slice (some ⟨k.gl,0,none⟩) k.c.length k.cl)∧w.cell? ⟨k.g,6,none⟩=some (.slice (some ⟨k.gs,0,none⟩) k.c.length k.cs)∧w.cell? ⟨k.g,7,none⟩=some (.slice (some ⟨k.gh,0,none⟩) hd.length k.ch)∧w.cell? ⟨k.g,8,none⟩=some (.int .i64 room)∧w.cell? ⟨k.g,9,none⟩=some (.slice wo W.length wc)∧(∀ j,w.frozen? ⟨k.g,j,none⟩=false):=by
 have hb:=zA h.cell
 exact ⟨hb.1 0,hb.1 1,hb.1 2,hb.1 3,hb.1 4,hb.1 5,hb.1 6,hb.1 7,hb.1 8,hb.1 9,hb.2⟩
theorem zL.zPG (h:zL k w steps hd room wo wc W) (v:Int):zL k (w.setCell ⟨k.g,3,none⟩ (.int .i64 v)) v hd room wo wc W:=by
 have o:∀ i,i≠k.g→(w.setCell ⟨k.g,3,none⟩ (.int .i64 v)).heap[i]?=w.heap[i]?:=fun i hi=>Below.heap_setCell _ _ _ _ hi
 refine ⟨?_,zJ h.code (fun q hq=>by cases hq;exact o _ h.apg.1),zJ h.lps (fun q hq=>by cases hq;exact o _ h.apg.2.1),zJ h.sls (fun q hq=>by cases hq;exact o _ h.apg.2.2.1),zJ h.hds (fun q hq=>by cases hq;exact o _ h.apg.2.2.2),zJ h.wt (fun q hq=>o q (fun e=>h.apw.1 (by rw [← e];exact hq))),h.lo,h.ll,h.ls,h.apg,h.aph,h.apw⟩
 have:=Go.heap_setCell_same w k.g 3 _ _ (.int .i64 v) h.cell
 rw [this];rfl
theorem zL.zRd (h:zL k w steps hd room wo wc W) (v:Int):zL k (w.setCell ⟨k.g,8,none⟩ (.int .i64 v)) steps hd v wo wc W:=by
 have o:∀ i,i≠k.g→(w.setCell ⟨k.g,8,none⟩ (.int .i64 v)).heap[i]?=w.heap[i]?:=fun i hi=>Below.heap_setCell _ _ _ _ hi
 refine ⟨?_,zJ h.code (fun q hq=>by cases hq;exact o _ h.apg.1),zJ h.lps (fun q hq=>by cases hq;exact o _ h.apg.2.1),zJ h.sls (fun q hq=>by cases hq;exact o _ h.apg.2.2.1),zJ h.hds (fun q hq=>by cases hq;exact o _ h.apg.2.2.2),zJ h.wt (fun q hq=>o q (fun e=>h.apw.1 (by rw [← e];exact hq))),h.lo,h.ll,h.ls,h.apg,h.aph,h.apw⟩
 have:=Go.heap_setCell_same w k.g 8 _ _ (.int .i64 v) h.cell
 rw [this];rfl
theorem zL.zRe (h:zL k w steps hd room wo wc W) (i:Nat):zL k (w.setCell ⟨k.gh,i,none⟩ (.bool true)) steps (hd.set i true) room wo wc W:=by
 have o:∀ j,j≠k.gh→(w.setCell ⟨k.gh,i,none⟩ (.bool true)).heap[j]?=w.heap[j]?:=fun j hj=>Below.heap_setCell _ _ _ _ hj
 have hk:=(World.ownsRow.stored h.hds i (.bool true)).1
 refine ⟨?_,zJ h.code (fun q hq=>by cases hq;exact o _ h.aph.1),zJ h.lps (fun q hq=>by cases hq;exact o _ h.aph.2.1),zJ h.sls (fun q hq=>by cases hq;exact o _ h.aph.2.2),?_,zJ h.wt (fun q hq=>o q (fun e=>h.apw.2.2.2.2 (by rw [← e];exact hq))),h.lo,h.ll,h.ls,h.apg,h.aph,h.apw⟩
 ·rw [o k.g (Ne.symm h.apg.2.2.2),List.length_set];exact h.cell
 ·unfold zNO
  rw [List.length_set,List.map_set];exact hk
theorem zLV (W:List (List Int)):(W.flatMap stC).length=W.length*43:=by
 induction W with
 | nil=>rfl
 | cons a r ih=>rw [List.flatMap_cons,List.length_append,zCc,ih,List.length_cons,Nat.add_mul];omega
theorem zFL:∀ (W:List (List Int)) (n:Nat),(W.flatMap stC).take (n*43)=(W.take n).flatMap stC
 | [],n=>by simp
 | a::r,0=>by simp
 | a::r,n+1=>by
  rw [List.flatMap_cons,List.take_succ_cons,List.flatMap_cons,List.take_append,zCc,List.take_of_length_le (by rw [zCc,Nat.add_mul];omega),show (n+1)*43-43=n*43 by omega,zFL r n]
theorem zIF:∀ (W:List (List Int)) (i j:Nat),i<W.length→j<43→(W.flatMap stC)[i*43+j]?=some (.int .i64 (Mt.gt (W.getD i []) j))
 | [],i,j,h,_=>by simp at h
 | a::r,0,j,_,hj=>by
  rw [List.flatMap_cons,List.getElem?_append_left (by rw [zCc];omega)]
  simp [stC,hj]
 | a::r,i+1,j,h,hj=>by
  rw [List.flatMap_cons,List.getElem?_append_right (by rw [zCc];omega),zCc,show (i+1)*43+j-43=i*43+j by omega,zIF r i j (by simpa using h) hj]
  simp
theorem zL.cut (h:zL k w steps hd room wo wc W) (n:Nat) (hn:n≤W.length):zL k (w.setCell ⟨k.g,9,none⟩ (.slice wo n wc)) steps hd room wo wc (W.take n):=by
 have o:∀ i,i≠k.g→(w.setCell ⟨k.g,9,none⟩ (.slice wo n wc)).heap[i]?=w.heap[i]?:=fun i hi=>Below.heap_setCell _ _ _ _ hi
 have hl:(W.take n).length=n:=by rw [List.length_take];omega
 refine ⟨?_,zJ h.code (fun q hq=>by cases hq;exact o _ h.apg.1),zJ h.lps (fun q hq=>by cases hq;exact o _ h.apg.2.1),zJ h.sls (fun q hq=>by cases hq;exact o _ h.apg.2.2.1),zJ h.hds (fun q hq=>by cases hq;exact o _ h.apg.2.2.2),?_,h.lo,h.ll,h.ls,h.apg,h.aph,h.apw⟩
 ·have:=Go.heap_setCell_same w k.g 9 _ _ (.slice wo n wc) h.cell
  rw [this,hl];rfl
 ·rw [hl]
  refine zJ (w:=w) ?_ (fun q hq=>o q (fun e=>h.apw.1 (by rw [← e];exact hq)))
  have h0:=h.wt
  refine ⟨by rw [zLV,hl],?_⟩
  rcases h0.2 with ⟨e,e2⟩ | ⟨gw,cap,cur,e,r1,r2,r3,r4,r5,r6⟩
  ·left
   simp only [Value.slice.injEq] at e
   obtain ⟨rfl,_,rfl⟩:=e
   have:n=0:=by omega
   subst this;exact ⟨rfl,rfl⟩
  ·right
   simp only [Value.slice.injEq] at e
   obtain ⟨rfl,_,rfl⟩:=e
   refine ⟨gw,wc,cur,rfl,r1,r2,by omega,r4,r5,?_⟩
   rw [← zFL,← r6,List.take_take]
   congr 1
   have:=Nat.mul_le_mul_right 43 hn
   omega
theorem zPH {w0 w1:World} {q cap:Nat} {x:List Int} (h:zL k w steps hd room wo wc W) (h0:Below w.heap.size w w0) (hs0:w.heap.size<w0.heap.size) (hg:w0.grownBy w1 (blk wo)) (hq:blk wo=some q∨q=w0.heap.size)
  (hown:w1.ownsRow k.L 130 43 (.slice (some ⟨q,0,none⟩) (W.length+1) cap) (W.length+1) (W.flatMap stC++stC x)) :
  zL k (w1.setCell ⟨k.g,9,none⟩ (.slice (some ⟨q,0,none⟩) (W.length+1) cap)) steps hd room (some ⟨q,0,none⟩) cap (W++[x])∧kY k wo (some ⟨q,0,none⟩) w (w1.setCell ⟨k.g,9,none⟩ (.slice (some ⟨q,0,none⟩) (W.length+1) cap)):=by
 obtain ⟨l1,l2,l3,l4,l5,l6⟩:=h.lt
 have n:q≠k.g∧q≠k.gc∧q≠k.gl∧q≠k.gs∧q≠k.gh:=by
  rcases hq with e | e
  ·exact ⟨fun x=>h.apw.1 (by rw [e,x]),fun x=>h.apw.2.1 (by rw [e,x]),fun x=>h.apw.2.2.1 (by rw [e,x]),fun x=>h.apw.2.2.2.1 (by rw [e,x]),fun x=>h.apw.2.2.2.2 (by rw [e,x])⟩
  ·omega
 obtain ⟨n1,n2,n3,n4,n5⟩:=n
 have kk:∀ i,i<w.heap.size→blk wo≠some i→w1.heap[i]?=w.heap[i]?:=fun i hi hr=>by rw [hg.block i (by have:=h0.size;omega) (fun e=>hr e.symm),h0.block i hi]
 have o:∀ i,i≠k.g→(w1.setCell ⟨k.g,9,none⟩ (.slice (some ⟨q,0,none⟩) (W.length+1) cap)).heap[i]?=w1.heap[i]?:=fun i hi=>Below.heap_setCell _ _ _ _ hi
 have ne:∀ i,i≠q→blk (some (⟨q,0,none⟩:Addr))≠some i:=fun i hi e=>hi (by simp [blk] at e;exact e.symm)
 refine ⟨⟨?_,zJ h.code (fun i hi=>by cases hi;rw [o _ h.apg.1,kk _ l2 h.apw.2.1]),zJ h.lps (fun i hi=>by cases hi;rw [o _ h.apg.2.1,kk _ l3 h.apw.2.2.1]),zJ h.sls (fun i hi=>by cases hi;rw [o _ h.apg.2.2.1,kk _ l4 h.apw.2.2.2.1]),zJ h.hds (fun i hi=>by cases hi;rw [o _ h.apg.2.2.2,kk _ l5 h.apw.2.2.2.2]),?_,h.lo,h.ll,h.ls,h.apg,h.aph,ne _ (Ne.symm n1),ne _ (Ne.symm n2),ne _ (Ne.symm n3),ne _ (Ne.symm n4),ne _ (Ne.symm n5)⟩,?_⟩
 ·have hc:=Go.heap_setCell_same w1 k.g 9 _ _ (.slice (some ⟨q,0,none⟩) (W.length+1) cap) (by rw [kk k.g l1 h.apw.1];exact h.cell)
  rw [hc];simp
 ·have e1:(W++[x]).length=W.length+1:=by simp
  have e2:(W++[x]).flatMap stC=W.flatMap stC++stC x:=by simp
  rw [e1,e2]
  exact zJ hown (fun i hi=>o i (by simp [blk] at hi;omega))
 ·refine ⟨hg.os.trans h0.os,hg.tape.trans h0.tape,hg.output.trans h0.output,?_,fun i hi h1 h2 h3=>?_,fun i hi ho=>?_⟩
  ·have:=hg.size;have:=h0.size;simp [World.setCell];omega
  ·rw [o i h1,kk i hi h3]
  ·simp [blk] at ho
   subst ho
   rcases hq with hq | hq
   ·exact hq
   ·omega
end
theorem Tryz.infoSt:(Tryz.prog.info? 130).map (fun i=>(i.zero,i.size,i.bytes))=some (some (.agg (stA [])),43,344):=by kernel_rfl
theorem zNP (x:List Int) {i0:TypeInfo} (hz1:i0.size=43):Instr.fill (fun i=>some (i*i0.size,i0.size)) ((Array.range (1*i0.size)).map ((Value.agg (stA [])).cells[· % (Value.agg (stA [])).cells.size]!)) [(0,.agg (stA x))]=some (stA x):=by
 rw [hz1];unfold stA stC;kernel_rfl
section
variable {k:Pk} {w:World} {steps:Int} {hd:List Bool} {room:Int} {wo:Option Addr} {wc:Nat} {W:List (List Int)}
theorem zEd (h:zL k w steps hd room wo wc W):Calls Tryz.prog 79 #[.pointer (some ⟨k.g,0,none⟩)] w fun e w'=>e=.returned (.bool (decide (steps>k.budget)))∧Below w.heap.size w w':=by
 obtain ⟨c0,c1,c2,c3,c4,c5,c6,c7,c8,c9,hf⟩:=h.cells
 clear h hf c0 c1 c4 c5 c6 c7 c8 c9
 generalize k.g=g at *
 generalize k.budget=B at *
 go_enter Tryz.func79,Tryz.ntmps79
 go_wp2_with fail
 go_region
 go_wp2_with fail
 go_ret
 exact ⟨rfl,(Below.refl _ _).drew⟩
theorem zPI {w1:World} {n m cap:Nat} {T E:Array Value} {ty te:TypeId} {W2:World} (h:zL k w steps hd room wo wc W) (hb:Below w.heap.size w W2) (hn:n<W2.heap.size) (hnn:w.heap.size≤n) (hT:W2.heap[n]?=some (.cells T ty (0,0))) (hg:(W2.drew.alloc (.cells E te)).grownBy w1 (Value.slice wo m cap).ownBlock) :
  w1.heap[n]?=some (.cells T ty (0,0))∧(∀ o,w1.cell? ⟨k.g,o,none⟩=w.cell? ⟨k.g,o,none⟩)∧(∀ o,w1.frozen? ⟨k.g,o,none⟩=w.frozen? ⟨k.g,o,none⟩):=by
 rw [zY] at hg
 obtain ⟨l1,l2,l3,l4,l5,l6⟩:=h.lt
 have hsz:=hb.size
 have h1:w1.heap[n]?=some (.cells T ty (0,0)):=by
  rw [hg.block _ (by simp;omega) (fun e=>by have:=(l6 _ e.symm).2;omega),kG _ _ _ (by simpa using hn)]
  exact hT
 have h2:w1.heap[k.g]?=w.heap[k.g]?:=by
  rw [hg.block _ (by simp;omega) (fun e=>h.apw.1 e.symm),kG _ _ _ (by simp;omega)]
  exact hb.block _ l1
 exact ⟨h1,fun o=>World.cell?_of_block (a:=⟨k.g,o,none⟩) h2,fun o=>World.frozen?_of_block (a:=⟨k.g,o,none⟩) h2⟩
theorem zAX (q:List Int) (inst:Int) (hq:q.length=43) (h:zL k w steps hd room wo wc W) (hn:W.length≤1000000) :
  Calls Tryz.prog 113 #[.pointer (some ⟨k.g,0,none⟩),.agg (stA q),.int .i64 inst] w fun e w'=>e=.returned (.tuple #[])∧∃ wo' wc',zL k w' steps hd room wo' wc' (W++[q.set 0 inst])∧kY k wo wo' w w':=by
 obtain ⟨i0,hi,hz0,hz1,hz2⟩:=info_parts Tryz.infoSt
 have HB:Hid (zL k w steps hd room wo wc W):=h
 obtain ⟨c0,c1,c2,c3,c4,c5,c6,c7,c8,c9,hf⟩:=h.cells
 have f9:=hf 9
 have hg:k.g<w.heap.size:=h.lt.1
 have hL:k.L≤w.heap.size:=by have:=h.lo;omega
 have HO:Hid (w.ownsRow k.L 130 43 (.slice wo W.length wc) W.length (W.flatMap stC)):=h.wt
 clear h hf c0 c1 c2 c3 c4 c5 c6 c7 c8
 have zTv:Hid ((stA q).setIfInBounds 0 (.int .i64 inst)=stA (q.set 0 inst)):=zBl q hq 0 inst
 go_enter Tryz.func113,Tryz.ntmps113
 go_upto_region 1 with fail
 generalize hW1:w.alloc (.cells (stA q) 130)=W1 at *
 have B1:Below w.heap.size w W1:=by rw [← hW1];exact (Below.refl _ _).alloc (Nat.le_refl _) _
 have T1:W1.heap[w.heap.size]?=some (.cells (stA q) 130 (0,0)):=by rw [← hW1];exact heap_alloc_new _ _
 have Z1:W1.heap.size=w.heap.size+1:=by rw [← hW1];simp
 have x0:W1.cell? ⟨w.heap.size,0,none⟩=some (.int .i64 (Mt.gt q 0)):=by rw [(zA T1).1 0];exact qF q 0 (by omega)
 have y0:W1.frozen? ⟨w.heap.size,0,none⟩=false:=(zA T1).2 0
 clear hW1
 go_upto_region 2 with fail
 have B2:Below w.heap.size w (W1.setCell ⟨w.heap.size,0,none⟩ (.int .i64 inst)):=B1.setCell (p:=⟨w.heap.size,0,none⟩) (Nat.le_refl _) _
 have T2:(W1.setCell ⟨w.heap.size,0,none⟩ (.int .i64 inst)).heap[w.heap.size]?=some (.cells (stA (q.set 0 inst)) 130 (0,0)):=by
  have:=Go.heap_setCell_same W1 w.heap.size 0 _ _ (.int .i64 inst) T1
  rw [this];rw [← zTv.out]
 have Z2:(W1.setCell ⟨w.heap.size,0,none⟩ (.int .i64 inst)).heap.size=w.heap.size+1:=by simp [World.setCell,Z1]
 generalize W1.setCell ⟨w.heap.size,0,none⟩ (.int .i64 inst)=W2 at *
 clear x0 y0 T1 B1 Z1 zTv
 have hxl:(q.set 0 inst).length=43:=by simp [hq]
 generalize hqx:q.set 0 inst=x at *
 generalize hwn:w.heap.size=n at *
 ·skip
  have hcr:∀ z:World,z.heap[n]?=some (.cells (stA x) 130 (0,0))→z.rangeAt n 0 (stA x).toList:=fun z hz=>yV hz
  have C9:W2.cell? ⟨k.g,9,none⟩=some (.slice wo W.length wc):=by rw [World.cell?_of_block (a:=⟨k.g,9,none⟩) (B2.block k.g hg)];exact c9
  refine wp_region_held_drew (S:=fun z:World=>z.heap[n]?=some (.cells (stA x) 130 (0,0))) (by kernel_rfl) T2 (fun hH=>?_)
  generalize hkg:k.g=G at *
  refine zP 0 8 (.pointer (some ⟨G,0,none⟩)) rfl rfl (by kernel_rfl) (by kernel_rfl) (by kernel_rfl) (fun _ _ _ h=>h) (Or.inl ⟨by rfl,fun z hz=>by clear hH hz hcr T2;go_simp⟩) (by assumption) ?_
  simp only [Act.put,List.setIfInBounds_toArray,List.set_cons_zero,List.set_cons_succ]
  refine zP 1 9 (.pointer (some ⟨G,0,none⟩)) rfl rfl (by kernel_rfl) (by kernel_rfl) (by kernel_rfl) (fun _ _ _ h=>h) (Or.inl ⟨by rfl,fun z hz=>by clear hH hz hcr T2;go_simp⟩) (by assumption) ?_
  simp only [Act.put,List.setIfInBounds_toArray,List.set_cons_zero,List.set_cons_succ]
  refine zP 2 10 (.pointer (some ⟨G,0,none⟩)) rfl rfl (by kernel_rfl) (by kernel_rfl) (by kernel_rfl) (fun _ _ _ h=>h) (Or.inl ⟨by rfl,fun z hz=>by clear hH hz hcr T2;go_simp⟩) (by assumption) ?_
  simp only [Act.put,List.setIfInBounds_toArray,List.set_cons_zero,List.set_cons_succ]
  refine zP 3 11 (.pointer (some ⟨G,9,none⟩)) rfl rfl (by kernel_rfl) (by kernel_rfl) (by kernel_rfl) (fun _ _ _ h=>h) (Or.inl ⟨by rfl,fun z hz=>by clear hH hz hcr T2;go_simp⟩) (by assumption) ?_
  simp only [Act.put,List.setIfInBounds_toArray,List.set_cons_zero,List.set_cons_succ]
  refine zP 5 13 (.agg (stA x)) rfl rfl (by kernel_rfl) (by kernel_rfl) (by kernel_rfl) (fun _ _ _ h=>h) (yieldsIf_load_mid (by rfl) _ _ rfl _ _ rfl _ _ hcr Tryz.underlying130 rfl (by rw [Tryz.sizeSt];rfl)) (by assumption) ?_
  simp only [Act.put,List.setIfInBounds_toArray,List.set_cons_zero,List.set_cons_succ]
  have S1:(W2.drew.alloc (.cells (stA x) 130)).heap[n]?=some (.cells (stA x) 130 (0,0)) :=
   (kG _ _ _ (by simp [Z2])).trans T2
  have hsz:W2.drew.heap.size=n+1:=by simpa using Z2
  have hnw:(W2.drew.alloc (.cells (stA x) 130)).heap[n+1]?=some (.cells (stA x) 130 (0,0)):=by
   rw [← hsz];exact heap_alloc_new _ _
  refine wpAnyH_ready (rs:=[4,6]) (by kernel_rfl) (by simp) ?_
  refine AllReadyH.cons rfl (fun K hK=>?_) (AllReadyH.cons rfl (fun K hK=>?_) AllReadyH.nil)
  all_goals
   first
   | (
     refine zAP rfl 124 130 (.tmp 13) rfl (stA x) i0 _ (.agg (stA x)) Tryz.underlying124 hi hz0 (by rw [hz1];decide) (by rw [hz1];decide) (by rfl) (zNP _ hz1) ?_
     refine hK.out _ _ S1 (fun hH2=>?_)
     clear hK K
     simp only [Act.put,List.setIfInBounds_toArray,List.set_cons_zero,List.set_cons_succ]
     refine wpAnyH_ready (rs:=[4]) (by kernel_rfl) (by simp) ?_
     refine AllReadyH.cons rfl (fun K hK=>?_) AllReadyH.nil
     try clear hH
     try clear hcr
     go_simp
     refine hK.out _ _ S1 (fun hH4=>?_)
     clear hK K
     )
   | (
     try clear hH
     try clear hcr
     go_simp
     refine hK.out _ _ T2 (fun hH4=>?_)
     clear hK K
     refine wpAnyH_ready (rs:=[6]) (by kernel_rfl) (by simp) ?_
     refine AllReadyH.cons rfl (fun K hK=>?_) AllReadyH.nil
     refine zAP rfl 124 130 (.tmp 13) rfl (stA x) i0 _ (.agg (stA x)) Tryz.underlying124 hi hz0 (by rw [hz1];decide) (by rw [hz1];decide) (by rfl) (zNP _ hz1) ?_
     refine hK.out _ _ S1 (fun hH2=>?_)
     clear hK K
     simp only [Act.put,List.setIfInBounds_toArray,List.set_cons_zero,List.set_cons_succ,hsz]
     )
  all_goals
   refine wpAnyH_ready (rs:=[7]) (by kernel_rfl) (by simp) ?_
   refine AllReadyH.cons rfl (fun K hK=>?_) AllReadyH.nil
   refine step_append_lies _ rfl (.tmp 12) (.tmp 14) 124 rfl k.L 130 i0 _ 43 344 Tryz.underlying124 hi hz0 hz1 hz2 (zS []) (by decide) (.slice wo W.length wc) W.length (W.flatMap stC) (by rfl) (World.ownsRow.alloc (w:=W2.drew) (zJ HO.out (fun i hi=>by have:=(HB.out.lt.2.2.2.2.2 i hi).2;exact B2.block i (by omega))) _) ⟨n+1,0,none⟩ 1 1 (stC x) (by rfl) (by rw [zCc]) (World.news_of_block (cs:=(stA x)) hnw) (zJU x) (by decide) (by unfold maxLen;omega) (by omega) (by simp [Z2];omega) (n+2) (by simp [Z2]) ?_
   intro q cap w1 hown hgrow hq zLJ
   obtain ⟨A1,A2,A3⟩:=zPI HB.out (by rw [hwn];exact B2) (by omega) (by omega) T2 hgrow
   refine hK.out _ _ A1 (fun hH3=>?_)
   clear hK K
   have d1:=A2 9
   rw [hkg,c9] at d1
   have e1:=A3 9
   rw [hkg,f9] at e1
   have HM:Hid (zL k (w1.setCell ⟨k.g,9,none⟩ (.slice (some ⟨q,0,none⟩) (W.length+1) cap)) steps hd room (some ⟨q,0,none⟩) cap (W++[x])∧kY k wo (some ⟨q,0,none⟩) w (w1.setCell ⟨k.g,9,none⟩ (.slice (some ⟨q,0,none⟩) (W.length+1) cap))) :=
    zPH HB.out (w0:=W2.drew.alloc (.cells (stA x) 130)) (by rw [hwn];exact (B2.drew).alloc (by simp [Z2]) _) (by simp [Z2];omega) (by rw [zY] at hgrow;exact hgrow) (by rw [zY] at hq;simpa [Z2] using hq) hown
   try rw [hkg] at HM
   have SZ:n<w1.heap.size:=(Array.getElem?_eq_some_iff.1 A1).1
   have S4:(w1.setCell ⟨G,9,none⟩ (.slice (some ⟨q,0,none⟩) (W.length+1) cap)).heap[n]?=some (.cells (stA x) 130 (0,0)) :=
    (Below.heap_setCell _ _ _ _ (by show n≠G;omega)).trans A1
   clear A2 A3 hgrow hown hq T2 S1
   simp only [Act.put,List.setIfInBounds_toArray,List.set_cons_zero,List.set_cons_succ]
   refine zP 8 16 (.pointer (some ⟨G,0,none⟩)) rfl rfl (by kernel_rfl) (by kernel_rfl) (by kernel_rfl) (fun _ _ _ h=>h) (Or.inl ⟨by rfl,fun z hz=>by clear hH3 hz S4;go_simp⟩) (by assumption) ?_
   simp only [Act.put,List.setIfInBounds_toArray,List.set_cons_zero,List.set_cons_succ]
   refine zP 9 17 (.pointer (some ⟨G,9,none⟩)) rfl rfl (by kernel_rfl) (by kernel_rfl) (by kernel_rfl) (fun _ _ _ h=>h) (Or.inl ⟨by rfl,fun z hz=>by clear hH3 hz S4;go_simp⟩) (by assumption) ?_
   simp only [Act.put,List.setIfInBounds_toArray,List.set_cons_zero,List.set_cons_succ]
   refine wpAnyH_ready (rs:=[10]) (by kernel_rfl) (by simp) ?_
   refine AllReadyH.cons rfl (fun K hK=>?_) AllReadyH.nil
   go_simp
   refine hK.out _ _ S4 (fun hH4=>?_)
   clear hK K
   refine wpAnyH_done (by kernel_rfl) ?_ _
   go_wp2_with fail
   go_returns
   exact ⟨rfl,some ⟨q,0,none⟩,cap,by rw [hqx];exact HM.out⟩
end
section
variable {k:Pk} {w:World} {steps:Int} {hd:List Bool} {room:Int} {wo:Option Addr} {wc:Nat} {W:List (List Int)}
theorem zJV (h:zL k w steps hd room wo wc W) (pos:Nat) (ht:k.t.size≤60) (p:ByteArray) (hp:p.size≤256) (hpos:pos≤60):Calls Tryz.prog 150 #[.pointer (some ⟨k.g,0,none⟩),.int .i64 (pos:Nat),.string p] w fun e w'=>e=.returned (.bool (if (pos:Int)<k.t.size then Mt.hasB p (Mt.byI k.t pos) else false))∧Below w.heap.size w w':=by
 obtain ⟨c0,c1,c2,c3,c4,c5,c6,c7,c8,c9,hf⟩:=h.cells
 have hg:k.g<w.heap.size:=h.lt.1
 clear h hf c0 c2 c3 c4 c5 c6 c7 c8 c9
 generalize k.g=g at *
 generalize k.t=t at *
 by_cases hlt:pos<t.size
 ·have hlt':(pos:Int)<t.size:=by omega
  rw [if_pos hlt']
  have hby:Mt.byI t pos=((t[pos]'hlt).toNat:Int):=by unfold Mt.byI;rw [dif_pos hlt]
  rw [hby]
  have hno:decide ((pos:Int)≥(t.size:Int))=false:=by simp;omega
  go_enter Tryz.func150,Tryz.ntmps150
  go_wp2_with fail
  go_loopw [7] (fun i wr=>∃ j:Nat,j≤p.size∧i=.int .i64 j∧Mt.zFf p ((t[pos]'hlt).toNat:Int) j=false∧Below w.heap.size w wr) (fun i _=>p.size-(intOf i).toNat)
  case atStart=>exact ⟨0,Nat.zero_le _,rfl,rfl,Below.refl _ _⟩
  case round =>
   obtain ⟨j,hj,rfl,hr,hbr⟩:=hrel
   have d1:wr.cell? ⟨g,1,none⟩=some (.string t):=by rw [hbr.cell (p:=⟨g,1,none⟩) hg];exact c1
   have HR:Hid (Mt.zFf p ((t[pos]'hlt).toNat:Int) j=false):=hr
   have HBR:Hid (Below w.heap.size w wr):=hbr
   clear hr hbr
   by_cases hjl:j<p.size
   ·cases hq:(((p[j]'hjl).toNat:Int)==((t[pos]'hlt).toNat:Int))
    ·have HN:Hid (Mt.zFf p ((t[pos]'hlt).toNat:Int) (j+1)=false):=by show _=_;rw [Mt.zGr p _ j hjl,HR.out,hq];rfl
     go_wp2_with fail
     go_region
     go_wp2_with fail
     go_roundw
     case rel=>exact ⟨j+1,by omega,by go_num,HN.out,HBR.out.drew⟩
     case measure=>simp [intOf];omega
    ·have HE:Hid (Mt.hasB p ((t[pos]'hlt).toNat:Int)=true):=Mt.zKm p _ j hjl hq
     go_wp2_with fail
     go_region
     go_wp2_with fail
     go_ret
     exact ⟨kM (by rw [HE.out]),HBR.out.drew⟩
   ·have HE:Hid (Mt.hasB p ((t[pos]'hlt).toNat:Int)=false):=by
     have:=HR.out
     rwa [show j=p.size by omega,Mt.zIe] at this
    go_wp2_with fail
    go_ret
    exact ⟨kM (by rw [HE.out]),HBR.out⟩
 ·rw [if_neg (by omega)]
  have hno:decide ((pos:Int)≥(t.size:Int))=true:=by simp;omega
  go_enter Tryz.func150,Tryz.ntmps150
  go_wp2_with fail
  go_ret
  exact ⟨rfl,Below.refl _ _⟩
end
end Go.Proofs.YtebpgfodelggoabGreat
