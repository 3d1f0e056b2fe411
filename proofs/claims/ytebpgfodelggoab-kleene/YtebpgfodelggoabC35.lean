import Derived.Test.YtebpgfodelggoabC34
import Derived.Deep.DeepCutAuto
import Derived.Test.YtebpgfodelggoabC13
set_option linter.unusedVariables false
set_option linter.unusedSimpArgs false
set_option maxRecDepth 100000
set_option maxHeartbeats 4000000
namespace Go.Proofs.Ytebpgfodelggoab
open Go.RowKit
def insA (i:Mt.Ins):Array Value:=#[.int .i64 i.op,.int .i64 i.x,.int .i64 i.y,.string ⟨i.set.toArray⟩]
theorem insA_all (i:Mt.Ins):(insA i).all (·.oneCell')=true:=by simp [insA,Value.oneCell']
theorem insC_len (i:Mt.Ins):(insCells i).length=4:=rfl
theorem Try.sizeIn:(Try.prog.info? 70).map (·.size)=some 4:=by kernel_rfl
theorem Try.infoIn:(Try.prog.info? 70).map (fun i=>(i.zero,i.size,i.bytes))=some (some (.agg (insA Mt.ins0)),4,40):=by kernel_rfl
structure LAt (L:Nat) (w:World) (g:Nat) (b:Mt.PB) (so ao:Option Addr) (sc ac:Nat) (co:Option Addr) (cc:Nat) (c:List Mt.Ins) (d:Int):Prop where
 cell:w.heap[g]?=some (.cells #[.slice so b.seqs.length sc,.slice ao b.atoms.length ac,.slice co c.length cc,.int .i64 d] 108 (0,0))
 lo:L≤g
 tree:TreeAt 0 w b so ao sc ac
 code:w.ownsRow L 70 4 (.slice co c.length cc) c.length (c.flatMap insCells)
 ap:blk co≠some g∧blk so≠some g∧blk ao≠some g∧(∀ q,blk co=some q→blk so≠some q∧blk ao≠some q)
structure LStep (g:Nat) (co co':Option Addr) (w w':World):Prop where
 os:w'.os=w.os
 tape:w'.tape=w.tape
 output:w'.output=w.output
 size:w.heap.size≤w'.heap.size
 block:∀ k,k<w.heap.size→k≠g→blk co≠some k→w'.heap[k]?=w.heap[k]?
 sub:∀ k,k<w.heap.size→blk co'=some k→blk co=some k
theorem LStep.refl (g:Nat) (co:Option Addr) (w:World):LStep g co co w w:=⟨rfl,rfl,rfl,Nat.le_refl _,fun _ _ _ _=>rfl,fun _ _ h=>h⟩
theorem LStep.trans {g:Nat} {co c1 c2:Option Addr} {a b c:World} (h:LStep g co c1 a b) (k:LStep g c1 c2 b c):LStep g co c2 a c :=
 ⟨k.os.trans h.os,k.tape.trans h.tape,k.output.trans h.output,Nat.le_trans h.size k.size,
 fun i hi h1 h2=>(k.block i (Nat.lt_of_lt_of_le hi h.size) h1 (fun e=>h2 (h.sub i hi e))).trans (h.block i hi h1 h2),fun i hi ho=>h.sub i hi (k.sub i (Nat.lt_of_lt_of_le hi h.size) ho)⟩
theorem LStep.below {g:Nat} {co:Option Addr} {a b:World} (h:Below a.heap.size a b):LStep g co co a b:=⟨h.os,h.tape,h.output,h.size,fun i hi _ _=>h.block i hi,fun _ _ h=>h⟩
theorem LStep.drew {g:Nat} {co c1:Option Addr} {a w:World} (h:LStep g co c1 a w):LStep g co c1 a w.drew:=h.trans (LStep.below (Below.refl _ _).drew)
theorem LStep.set {g:Nat} {co c1:Option Addr} {a w:World} (h:LStep g co c1 a w) {p:Addr} (hp:p.block=g∨blk c1=some p.block) (u:Value):LStep g co c1 a (w.setCell p u) :=
 h.trans ⟨rfl,rfl,rfl,by simp [World.setCell],fun i hi h1 h2=>Below.heap_setCell _ _ _ _ (fun e=>by rcases hp with hp | hp;exact h1 (by rw [e,hp]);exact h2 (by rw [e,hp])),fun _ _ h=>h⟩
theorem LStep.setMany {g:Nat} {co c1:Option Addr} {a w:World} (h:LStep g co c1 a w) (q o:Nat) (vs:List Value) (hp:q=g∨blk c1=some q):LStep g co c1 a (w.setCells q o vs) :=
 h.trans ⟨(below_setCells q vs o w 0 (Nat.zero_le _)).1.os,(below_setCells q vs o w 0 (Nat.zero_le _)).1.tape,(below_setCells q vs o w 0 (Nat.zero_le _)).1.output,Nat.le_of_eq (below_setCells q vs o w 0 (Nat.zero_le _)).2.symm,fun i hi h1 h2=>setCells_oth q vs o w i (fun e=>by rcases hp with hp | hp;exact h1 (by rw [e,hp]);exact h2 (by rw [e,hp])),fun _ _ h=>h⟩
section
variable {L:Nat} {w:World} {g:Nat} {b:Mt.PB} {so ao:Option Addr} {sc ac:Nat} {co:Option Addr} {cc:Nat} {c:List Mt.Ins} {d:Int}
theorem LAt.lt (h:LAt L w g b so ao sc ac co cc c d):g<w.heap.size∧(∀ k,blk co=some k→L≤k∧k<w.heap.size)∧(∀ k,blk so=some k→k<w.heap.size)∧(∀ k,blk ao=some k→k<w.heap.size) :=
 ⟨(Array.getElem?_eq_some_iff.1 h.cell).1,fun k hk=>World.ownsRow.lt h.code k (by rw [ownBlock_blk];exact hk),fun k hk=>(World.ownsRow.lt h.tree.seqs k (by rw [ownBlock_blk];exact hk)).2,fun k hk=>(World.ownsRow.lt h.tree.atoms k (by rw [ownBlock_blk];exact hk)).2⟩
theorem LAt.below {w':World} (h:LAt L w g b so ao sc ac co cc c d) (hb:Below w.heap.size w w'):LAt L w' g b so ao sc ac co cc c d :=
 ⟨by rw [hb.block _ h.lt.1];exact h.cell,h.lo,h.tree.below hb,row_keep h.code (fun q hq=>hb.block q (h.lt.2.1 q hq).2),h.ap⟩
theorem LAt.drew (h:LAt L w g b so ao sc ac co cc c d):LAt L w.drew g b so ao sc ac co cc c d:=⟨h.cell,h.lo,⟨row_keep h.tree.seqs (fun _ _=>rfl),row_keep h.tree.atoms (fun _ _=>rfl)⟩,row_keep h.code (fun _ _=>rfl),h.ap⟩
theorem LStep.low {c1:Option Addr} {w':World} (h:LAt L w g b so ao sc ac co cc c d) (hs:LStep g co c1 w w') (hL:L≤w.heap.size):Below L w w' :=
 ⟨hs.os,hs.tape,hs.output,hs.size,fun k hk=>hs.block k (by omega) (fun e=>by have:=h.lo;omega) (fun e=>by have:=(h.lt.2.1 k e).1;omega)⟩
theorem LAt.cells (h:LAt L w g b so ao sc ac co cc c d):w.cell? ⟨g,0,none⟩=some (.slice so b.seqs.length sc)∧w.cell? ⟨g,1,none⟩=some (.slice ao b.atoms.length ac)∧w.cell? ⟨g,2,none⟩=some (.slice co c.length cc)∧w.cell? ⟨g,3,none⟩=some (.int .i64 d)∧(∀ k,w.frozen? ⟨g,k,none⟩=false):=by
 have hb:=cell_block h.cell
 exact ⟨hb.1 0,hb.1 1,hb.1 2,hb.1 3,hb.2⟩
theorem LAt.form (h:LAt L w g b so ao sc ac co cc c d) (hn:0<c.length):∃ gc,co=some ⟨gc,0,none⟩∧gc≠g∧gc<w.heap.size∧c.length≤cc:=by
 obtain ⟨gs,cap,hv,_,hlt⟩:=World.ownsRow.form h.code hn
 simp only [Value.slice.injEq] at hv
 obtain ⟨rfl,_,rfl⟩:=hv
 rcases h.code.2 with ⟨e,_⟩ | ⟨g',cap',cur,hv,_,_,hc,_⟩
 ·simp at e
 ·simp only [Value.slice.injEq] at hv
  exact ⟨gs,rfl,fun e=>h.ap.1 (by rw [blk_some,e]),hlt,by omega⟩
theorem LAt.codeSet {gc:Nat} (h:LAt L w g b so ao sc ac (some ⟨gc,0,none⟩) cc c d) (i j:Nat) (vs:List Value) (a':Mt.Ins) (hi:i<c.length) (hj:j+vs.length≤4) (he:insCells a'=setMany (insCells (c.getD i Mt.ins0)) j vs) :
  LAt L (w.setCells gc (i*4+j) vs) g b so ao sc ac (some ⟨gc,0,none⟩) cc (c.set i a') d:=by
 have o:∀ k,k≠gc→(w.setCells gc (i*4+j) vs).heap[k]?=w.heap[k]?:=fun k hk=>setCells_oth gc vs _ w k hk
 have ne:gc≠g:=fun e=>h.ap.1 (by rw [blk_some,e])
 refine ⟨?_,h.lo,⟨row_keep h.tree.seqs (fun k hk=>o k (fun e=>(h.ap.2.2.2 gc rfl).1 (by rw [← e];exact hk))),row_keep h.tree.atoms (fun k hk=>o k (fun e=>(h.ap.2.2.2 gc rfl).2 (by rw [← e];exact hk)))⟩,?_,h.ap⟩
 ·rw [o g (Ne.symm ne),List.length_set];exact h.cell
 ·have r:=row_setCells vs (i*4+j) w _ h.code
  rw [flat_setMany insCells 4 insC_len c i j vs a' hi hj (fun a ha=>by rw [he,List.getD_eq_getElem?_getD,ha];rfl)] at r
  simpa using r
theorem LAt.loopsSet (h:LAt L w g b so ao sc ac co cc c d) (d':Int):LAt L (w.setCell ⟨g,3,none⟩ (.int .i64 d')) g b so ao sc ac co cc c d':=by
 have o:∀ k,k≠g→(w.setCell ⟨g,3,none⟩ (.int .i64 d')).heap[k]?=w.heap[k]?:=fun k hk=>Below.heap_setCell _ _ _ _ hk
 refine ⟨?_,h.lo,⟨row_keep h.tree.seqs (fun k hk=>o k (fun e=>h.ap.2.1 (by rw [← e];exact hk))),row_keep h.tree.atoms (fun k hk=>o k (fun e=>h.ap.2.2.1 (by rw [← e];exact hk)))⟩,row_keep h.code (fun k hk=>o k (fun e=>h.ap.1 (by rw [← e];exact hk))),h.ap⟩
 have:=Go.heap_setCell_same w g 3 _ _ (.int .i64 d') h.cell
 rw [this];rfl
theorem put_mem {w0 w1:World} {q cap:Nat} {x:Mt.Ins} (h:LAt L w g b so ao sc ac co cc c d) (h0:Below w.heap.size w w0) (hs0:w.heap.size<w0.heap.size) (hg:w0.grownBy w1 (blk co)) (hq:blk co=some q∨q=w0.heap.size)
  (hown:w1.ownsRow L 70 4 (.slice (some ⟨q,0,none⟩) (c.length+1) cap) (c.length+1) (c.flatMap insCells++insCells x)) :
  LAt L (w1.setCell ⟨g,2,none⟩ (.slice (some ⟨q,0,none⟩) (c.length+1) cap)) g b so ao sc ac (some ⟨q,0,none⟩) cap (c++[x]) d∧LStep g co (some ⟨q,0,none⟩) w (w1.setCell ⟨g,2,none⟩ (.slice (some ⟨q,0,none⟩) (c.length+1) cap)):=by
 obtain ⟨lg,lc,ls,la⟩:=h.lt
 have n:q≠g∧blk so≠some q∧blk ao≠some q:=by
  rcases hq with e | e
  ·exact ⟨fun x=>h.ap.1 (by rw [e,x]),(h.ap.2.2.2 q e).1,(h.ap.2.2.2 q e).2⟩
  ·subst e
   exact ⟨by omega,fun e=>by have:=ls _ e;omega,fun e=>by have:=la _ e;omega⟩
 obtain ⟨n1,n2,n3⟩:=n
 have kk:∀ k,k<w.heap.size→blk co≠some k→w1.heap[k]?=w.heap[k]?:=fun k hk hr=>by rw [hg.block k (by have:=h0.size;omega) (fun e=>hr e.symm),h0.block k hk]
 have o:∀ k,k≠g→(w1.setCell ⟨g,2,none⟩ (.slice (some ⟨q,0,none⟩) (c.length+1) cap)).heap[k]?=w1.heap[k]?:=fun k hk=>Below.heap_setCell _ _ _ _ hk
 refine ⟨⟨?_,h.lo,⟨?_,?_⟩,?_,fun e=>n1 (by simpa [blk] using e),h.ap.2.1,h.ap.2.2.1,fun k hk=>by simp [blk] at hk;subst hk;exact ⟨n2,n3⟩⟩,?_⟩
 ·have hc:=Go.heap_setCell_same w1 g 2 _ _ (.slice (some ⟨q,0,none⟩) (c.length+1) cap) (by rw [kk g lg h.ap.1];exact h.cell)
  rw [hc];simp
 ·exact row_keep h.tree.seqs (fun k hk=>by rw [o k (fun e=>h.ap.2.1 (by rw [← e];exact hk)),kk k (ls k hk) (fun e=>(h.ap.2.2.2 k e).1 hk)])
 ·exact row_keep h.tree.atoms (fun k hk=>by rw [o k (fun e=>h.ap.2.2.1 (by rw [← e];exact hk)),kk k (la k hk) (fun e=>(h.ap.2.2.2 k e).2 hk)])
 ·have e1:(c++[x]).length=c.length+1:=by simp
  have e2:(c++[x]).flatMap insCells=c.flatMap insCells++insCells x:=by simp
  rw [e1,e2]
  exact row_keep hown (fun k hk=>o k (by simp [blk] at hk;omega))
 ·refine ⟨hg.os.trans h0.os,hg.tape.trans h0.tape,hg.output.trans h0.output,?_,fun k hk h1 h2=>?_,fun k hk ho=>?_⟩
  ·have:=hg.size;have:=h0.size;simp [World.setCell];omega
  ·rw [o k h1,kk k hk h2]
  ·simp [blk] at ho
   subst ho
   rcases hq with hq | hq
   ·exact hq
   ·omega
end
theorem fill_ins (x:Mt.Ins) {i0:TypeInfo} (hz1:i0.size=4):Instr.fill (fun i=>some (i*i0.size,i0.size)) ((Array.range (1*i0.size)).map ((Value.agg (insA Mt.ins0)).cells[· % (Value.agg (insA Mt.ins0)).cells.size]!)) [(0,.agg (insA x))]=some (insA x):=by
 rw [hz1];unfold insA;kernel_rfl
theorem ins_after {L:Nat} {w w1:World} {g:Nat} {b:Mt.PB} {so ao:Option Addr} {sc ac:Nat} {co:Option Addr} {cc:Nat} {c:List Mt.Ins} {d:Int} {T E:Array Value} {ty te:TypeId} {n k:Nat} (h:LAt L w g b so ao sc ac co cc c d) (hg:(((w.alloc (.cells T ty)).drew).alloc (.cells E te)).grownBy w1 (Value.slice co n k).ownBlock) :
  w1.heap[w.heap.size]?=some (.cells T ty (0,0))∧(∀ o,w1.cell? ⟨g,o,none⟩=w.cell? ⟨g,o,none⟩)∧(∀ o,w1.frozen? ⟨g,o,none⟩=w.frozen? ⟨g,o,none⟩):=by
 rw [ownBlock_blk] at hg
 have hlg:g<w.heap.size:=h.lt.1
 have h1:w1.heap[w.heap.size]?=some (.cells T ty (0,0)):=by
  rw [hg.block _ (by simp;omega) (fun e=>by have:=(h.lt.2.1 _ e.symm).2;omega),heap_old _ _ _ (by simp)]
  exact heap_alloc_new _ _
 have h2:w1.heap[g]?=w.heap[g]?:=by
  rw [hg.block _ (by simp;omega) (fun e=>h.ap.1 e.symm),heap_old _ _ _ (by simp;omega)]
  exact heap_old _ _ _ hlg
 exact ⟨h1,fun o=>World.cell?_of_block (a:=⟨g,o,none⟩) h2,fun o=>World.frozen?_of_block (a:=⟨g,o,none⟩) h2⟩
theorem put_prog {L:Nat} {w:World} {g:Nat} {b:Mt.PB} {so ao:Option Addr} {sc ac:Nat} {co:Option Addr} {cc:Nat} {c:List Mt.Ins} {d:Int} (x:Mt.Ins) (h:LAt L w g b so ao sc ac co cc c d) (hn:c.length≤1000000) :
  Calls Try.prog 53 #[.pointer (some ⟨g,0,none⟩),.agg (insA x)] w fun e w'=>e=.returned (.int .i64 c.length)∧∃ q cap,LAt L w' g b so ao sc ac (some ⟨q,0,none⟩) cap (c++[x]) d∧LStep g co (some ⟨q,0,none⟩) w w':=by
 obtain ⟨i0,hi,hz0,hz1,hz2⟩:=info_parts Try.infoIn
 have HB:Hid (LAt L w g b so ao sc ac co cc c d):=h
 obtain ⟨c0,c1,c2,c3,hf⟩:=h.cells
 have f2:=hf 2
 have hg:g<w.heap.size:=h.lt.1
 have hL:L≤w.heap.size:=by have:=h.lo;omega
 have HO:Hid (w.ownsRow L 70 4 (.slice co c.length cc) c.length (c.flatMap insCells)):=h.code
 clear h hf
 go_enter Try.func53,Try.ntmps53
 go_upto_region 2 with fail
 go_cut [] (fun wx=>∃ q cap,LAt L wx g b so ao sc ac (some ⟨q,0,none⟩) cap (c++[x]) d∧LStep g co (some ⟨q,0,none⟩) w wx)
 case first =>
  have hcr:∀ z:World,z.heap[w.heap.size]?=some (.cells (insA x) 70 (0,0))→z.rangeAt w.heap.size 0 (insA x).toList:=fun z hz=>rangeAt_blk hz
  have S0:(w.alloc (.cells (insA x) 70)).heap[w.heap.size]?=some (.cells (insA x) 70 (0,0)):=heap_alloc_new _ _
  have C2:(w.alloc (.cells (insA x) 70)).cell? ⟨g,2,none⟩=some (.slice co c.length cc):=by rw [World.cell?_of_block (a:=⟨g,2,none⟩) (heap_old w _ g hg)];exact c2
  refine wp_region_held_drew (S:=fun z:World=>z.heap[w.heap.size]?=some (.cells (insA x) 70 (0,0))) (by kernel_rfl) S0 (fun hH=>?_)
  refine takeAt 0 11 (.pointer (some ⟨g,0,none⟩)) rfl rfl (by kernel_rfl) (by kernel_rfl) (by kernel_rfl) (fun _ _ _ h=>h) (Or.inl ⟨by rfl,fun z hz=>by clear hH hz hcr S0;go_simp⟩) (by assumption) ?_
  simp only [Act.put,List.setIfInBounds_toArray,List.set_cons_zero,List.set_cons_succ]
  refine takeAt 1 12 (.pointer (some ⟨g,0,none⟩)) rfl rfl (by kernel_rfl) (by kernel_rfl) (by kernel_rfl) (fun _ _ _ h=>h) (Or.inl ⟨by rfl,fun z hz=>by clear hH hz hcr S0;go_simp⟩) (by assumption) ?_
  simp only [Act.put,List.setIfInBounds_toArray,List.set_cons_zero,List.set_cons_succ]
  refine takeAt 2 13 (.pointer (some ⟨g,0,none⟩)) rfl rfl (by kernel_rfl) (by kernel_rfl) (by kernel_rfl) (fun _ _ _ h=>h) (Or.inl ⟨by rfl,fun z hz=>by clear hH hz hcr S0;go_simp⟩) (by assumption) ?_
  simp only [Act.put,List.setIfInBounds_toArray,List.set_cons_zero,List.set_cons_succ]
  refine takeAt 3 14 (.pointer (some ⟨g,2,none⟩)) rfl rfl (by kernel_rfl) (by kernel_rfl) (by kernel_rfl) (fun _ _ _ h=>h) (Or.inl ⟨by rfl,fun z hz=>by clear hH hz hcr S0;go_simp⟩) (by assumption) ?_
  simp only [Act.put,List.setIfInBounds_toArray,List.set_cons_zero,List.set_cons_succ]
  refine takeAt 5 16 (.agg (insA x)) rfl rfl (by kernel_rfl) (by kernel_rfl) (by kernel_rfl) (fun _ _ _ h=>h) (yieldsIf_load_mid (by rfl) _ _ rfl _ _ rfl _ _ hcr Try.underlying70 rfl (by rw [Try.sizeIn];rfl)) (by assumption) ?_
  simp only [Act.put,List.setIfInBounds_toArray,List.set_cons_zero,List.set_cons_succ]
  have S1:((w.alloc (.cells (insA x) 70)).drew.alloc (.cells (insA x) 70)).heap[w.heap.size]?=some (.cells (insA x) 70 (0,0)) :=
   (heap_old _ _ _ (by simp)).trans S0
  have hsz:(w.alloc (.cells (insA x) 70)).drew.heap.size=w.heap.size+1:=by simp
  have hnw:((w.alloc (.cells (insA x) 70)).drew.alloc (.cells (insA x) 70)).heap[w.heap.size+1]?=some (.cells (insA x) 70 (0,0)):=by
   rw [← hsz];exact heap_alloc_new _ _
  refine wpAnyH_ready (rs:=[4,6]) (by kernel_rfl) (by simp) ?_
  refine AllReadyH.cons rfl (fun K hK=>?_) (AllReadyH.cons rfl (fun K hK=>?_) AllReadyH.nil)
  all_goals
   first
   | (
     refine step_build1 rfl 44 70 (.tmp 16) rfl (insA x) i0 _ (.agg (insA x)) Try.underlying44 hi hz0 (by rw [hz1];decide) (by rw [hz1];decide) (by rfl) (fill_ins _ hz1) ?_
     refine hK.out _ _ S1 (fun hH2=>?_)
     clear hK K
     simp only [Act.put,List.setIfInBounds_toArray,List.set_cons_zero,List.set_cons_succ]
     refine wpAnyH_ready (rs:=[4]) (by kernel_rfl) (by simp) ?_
     refine AllReadyH.cons rfl (fun K hK=>?_) AllReadyH.nil
     try clear hH
     try clear hcr
     go_simp
     refine hK.out _ _ S1 (fun hH4=>?_)
     clear hK K
     )
   | (
     try clear hH
     try clear hcr
     go_simp
     refine hK.out _ _ S0 (fun hH4=>?_)
     clear hK K
     refine wpAnyH_ready (rs:=[6]) (by kernel_rfl) (by simp) ?_
     refine AllReadyH.cons rfl (fun K hK=>?_) AllReadyH.nil
     refine step_build1 rfl 44 70 (.tmp 16) rfl (insA x) i0 _ (.agg (insA x)) Try.underlying44 hi hz0 (by rw [hz1];decide) (by rw [hz1];decide) (by rfl) (fill_ins _ hz1) ?_
     refine hK.out _ _ S1 (fun hH2=>?_)
     clear hK K
     simp only [Act.put,List.setIfInBounds_toArray,List.set_cons_zero,List.set_cons_succ,hsz]
     )
  all_goals
   refine wpAnyH_ready (rs:=[7]) (by kernel_rfl) (by simp) ?_
   refine AllReadyH.cons rfl (fun K hK=>?_) AllReadyH.nil
   refine step_append_lies _ rfl (.tmp 15) (.tmp 17) 44 rfl L 70 i0 _ 4 40 Try.underlying44 hi hz0 hz1 hz2 rfl (by decide) (.slice co c.length cc) c.length (c.flatMap insCells) (by rfl) (World.ownsRow.alloc (w:=(w.alloc (.cells (insA x) 70)).drew) (HO.out.alloc _) _) ⟨w.heap.size+1,0,none⟩ 1 1 (insCells x) (by rfl) (by rfl) (World.news_of_block (cs:=(insA x)) hnw) (by intro u hu;simp [insCells] at hu;rcases hu with h | h | h | h <;> subst h <;> rfl) (by decide) (by unfold maxLen;omega) (by omega) (by simp;omega) (w.heap.size+2) (by simp) ?_
   intro q cap w1 hown hgrow hq hqlt
   obtain ⟨A1,A2,A3⟩:=ins_after HB.out hgrow
   refine hK.out _ _ A1 (fun hH3=>?_)
   clear hK K
   have d1:=(A2 2).trans c2
   have e1:=(A3 2).trans f2
   have HM:Hid (LAt L (w1.setCell ⟨g,2,none⟩ (.slice (some ⟨q,0,none⟩) (c.length+1) cap)) g b so ao sc ac (some ⟨q,0,none⟩) cap (c++[x]) d∧LStep g co (some ⟨q,0,none⟩) w (w1.setCell ⟨g,2,none⟩ (.slice (some ⟨q,0,none⟩) (c.length+1) cap))) :=
    put_mem HB.out (w0:=(w.alloc (.cells (insA x) 70)).drew.alloc (.cells (insA x) 70)) ((((Below.refl _ _).alloc (Nat.le_refl _) _).drew).alloc (by simp) _) (by simp;omega) (by rw [ownBlock_blk] at hgrow;exact hgrow) (by rw [ownBlock_blk] at hq;simpa using hq) hown
   have SZ:w.heap.size<w1.heap.size:=(Array.getElem?_eq_some_iff.1 A1).1
   have S4:(w1.setCell ⟨g,2,none⟩ (.slice (some ⟨q,0,none⟩) (c.length+1) cap)).heap[w.heap.size]?=some (.cells (insA x) 70 (0,0)) :=
    (Below.heap_setCell _ _ _ _ (by show w.heap.size≠g;omega)).trans A1
   clear A2 A3 hgrow hown hq S0 S1
   simp only [Act.put,List.setIfInBounds_toArray,List.set_cons_zero,List.set_cons_succ]
   refine takeAt 8 19 (.pointer (some ⟨g,0,none⟩)) rfl rfl (by kernel_rfl) (by kernel_rfl) (by kernel_rfl) (fun _ _ _ h=>h) (Or.inl ⟨by rfl,fun z hz=>by clear hH3 hz S4;go_simp⟩) (by assumption) ?_
   simp only [Act.put,List.setIfInBounds_toArray,List.set_cons_zero,List.set_cons_succ]
   refine takeAt 9 20 (.pointer (some ⟨g,2,none⟩)) rfl rfl (by kernel_rfl) (by kernel_rfl) (by kernel_rfl) (fun _ _ _ h=>h) (Or.inl ⟨by rfl,fun z hz=>by clear hH3 hz S4;go_simp⟩) (by assumption) ?_
   simp only [Act.put,List.setIfInBounds_toArray,List.set_cons_zero,List.set_cons_succ]
   refine wpAnyH_ready (rs:=[10]) (by kernel_rfl) (by simp) ?_
   refine AllReadyH.cons rfl (fun K hK=>?_) AllReadyH.nil
   go_simp
   refine hK.out _ _ S4 (fun hH4=>?_)
   clear hK K
   refine wpAnyH_done (by kernel_rfl) ?_ _
   go_wp2_with fail
   go_meet
   case rel=>exact ⟨q,cap,HM.out.1,HM.out.2⟩
 case rest =>
  obtain ⟨q,cap,hP,hSt⟩:=hcut
  have HP:Hid (LAt L wc g b so ao sc ac (some ⟨q,0,none⟩) cap (c++[x]) d):=hP
  have HSt:Hid (LStep g co (some ⟨q,0,none⟩) w wc):=hSt
  clear hP hSt
  go_wp2_with fail
  go_ret
  exact ⟨rfl,q,cap,HP.out,HSt.out⟩
def stC (q:List Int):List Value:=(List.range 43).map fun i=>Value.int .i64 (Mt.gt q i)
def stA (q:List Int):Array Value:=(stC q).toArray
theorem stC_len (q:List Int):(stC q).length=43:=by simp [stC]
theorem stA_size (q:List Int):(stA q).size=43:=by simp [stA,stC]
theorem stA_at (q:List Int) (j:Nat) (hj:j<43):(stA q)[j]?=some (.int .i64 (Mt.gt q j)):=by
 simp [stA,stC,hj]
theorem stA_all (q:List Int):(stA q).all (·.oneCell')=true:=by
 rw [Array.all_eq_true]
 intro i hi
 simp [stA,stC,Value.oneCell']
theorem stC_all (q:List Int):∀ u∈stC q,u.oneCell'=true:=by
 intro u hu
 simp only [stC,List.mem_map] at hu
 obtain ⟨i,_,rfl⟩:=hu
 rfl
theorem stA_set (q:List Int) (hq:q.length=43) (j:Nat) (v:Int):(stA q).setIfInBounds j (.int .i64 v)=stA (q.set j v):=by
 apply Array.ext
 ·simp [stA,stC]
 ·intro i h1 h2
  have hi:i<43:=by simpa [stA,stC] using h2
  rw [Array.getElem_setIfInBounds (by simpa [stA,stC] using hi)]
  simp only [stA,stC,List.getElem_toArray,List.getElem_map,List.getElem_range]
  rw [Mt.gt_set]
  by_cases e:j=i
  ·rw [if_pos e,if_pos ⟨e,by omega⟩]
  ·rw [if_neg e,if_neg (by omega)]
def oInts (w:World) (v:Value) (b:List Int):Prop:=w.ownsRow 0 3 1 v b.length (b.map (Value.int .i64))
def oBools (w:World) (v:Value) (b:List Bool):Prop:=w.ownsRow 0 4 1 v b.length (b.map Value.bool)
theorem Try.sizeSt:(Try.prog.info? 100).map (·.size)=some 43:=by kernel_rfl
structure Pk where
 L:Nat
 g:Nat
 gc:Nat
 gl:Nat
 gs:Nat
 gh:Nat
 cc:Nat
 cl:Nat
 cs:Nat
 ch:Nat
 c:List Mt.Ins
 t:ByteArray
 budget:Int
 lp:List Int
 sl:List Int
structure PlayAt (k:Pk) (w:World) (steps:Int) (hd:List Bool) (room:Int) (wo:Option Addr) (wc:Nat) (W:List (List Int)):Prop where
 cell:w.heap[k.g]?=some (.cells #[.slice (some ⟨k.gc,0,none⟩) k.c.length k.cc,.string k.t,.int .i64 k.budget,.int .i64 steps,.int .i64 ((k.t.size:Int)+1),.slice (some ⟨k.gl,0,none⟩) k.c.length k.cl,.slice (some ⟨k.gs,0,none⟩) k.c.length k.cs,.slice (some ⟨k.gh,0,none⟩) hd.length k.ch,.int .i64 room,.slice wo W.length wc] 96 (0,0))
 code:ownIns w 0 (.slice (some ⟨k.gc,0,none⟩) k.c.length k.cc) k.c
 lps:oInts w (.slice (some ⟨k.gl,0,none⟩) k.lp.length k.cl) k.lp
 sls:oInts w (.slice (some ⟨k.gs,0,none⟩) k.sl.length k.cs) k.sl
 hds:oBools w (.slice (some ⟨k.gh,0,none⟩) hd.length k.ch) hd
 wt:w.ownsRow k.L 100 43 (.slice wo W.length wc) W.length (W.flatMap stC)
 lo:k.L≤k.g∧k.L≤k.gh
 ll:k.lp.length=k.c.length
 ls:k.sl.length=k.c.length
 apg:k.gc≠k.g∧k.gl≠k.g∧k.gs≠k.g∧k.gh≠k.g
 aph:k.gc≠k.gh∧k.gl≠k.gh∧k.gs≠k.gh
 apw:blk wo≠some k.g∧blk wo≠some k.gc∧blk wo≠some k.gl∧blk wo≠some k.gs∧blk wo≠some k.gh
structure PStep (k:Pk) (wo wo':Option Addr) (w w':World):Prop where
 os:w'.os=w.os
 tape:w'.tape=w.tape
 output:w'.output=w.output
 size:w.heap.size≤w'.heap.size
 block:∀ i,i<w.heap.size→i≠k.g→i≠k.gh→blk wo≠some i→w'.heap[i]?=w.heap[i]?
 sub:∀ i,i<w.heap.size→blk wo'=some i→blk wo=some i
theorem PStep.refl (k:Pk) (wo:Option Addr) (w:World):PStep k wo wo w w:=⟨rfl,rfl,rfl,Nat.le_refl _,fun _ _ _ _ _=>rfl,fun _ _ h=>h⟩
theorem PStep.trans {k:Pk} {wo w1 w2:Option Addr} {a b c:World} (h:PStep k wo w1 a b) (j:PStep k w1 w2 b c):PStep k wo w2 a c :=
 ⟨j.os.trans h.os,j.tape.trans h.tape,j.output.trans h.output,Nat.le_trans h.size j.size,
 fun i hi h1 h2 h3=>(j.block i (Nat.lt_of_lt_of_le hi h.size) h1 h2 (fun e=>h3 (h.sub i hi e))).trans (h.block i hi h1 h2 h3),fun i hi ho=>h.sub i hi (j.sub i (Nat.lt_of_lt_of_le hi h.size) ho)⟩
theorem PStep.below {k:Pk} {wo:Option Addr} {a b:World} (h:Below a.heap.size a b):PStep k wo wo a b:=⟨h.os,h.tape,h.output,h.size,fun i hi _ _ _=>h.block i hi,fun _ _ h=>h⟩
theorem PStep.drew {k:Pk} {wo w1:Option Addr} {a w:World} (h:PStep k wo w1 a w):PStep k wo w1 a w.drew:=h.trans (PStep.below (Below.refl _ _).drew)
theorem PStep.set {k:Pk} {wo w1:Option Addr} {a w:World} (h:PStep k wo w1 a w) {p:Addr} (hp:p.block=k.g∨p.block=k.gh∨blk w1=some p.block) (u:Value):PStep k wo w1 a (w.setCell p u) :=
 h.trans ⟨rfl,rfl,rfl,by simp [World.setCell],fun i hi h1 h2 h3=>Below.heap_setCell _ _ _ _ (fun e=>by rcases hp with hp | hp | hp;exact h1 (by rw [e,hp]);exact h2 (by rw [e,hp]);exact h3 (by rw [e,hp])),fun _ _ h=>h⟩
section
variable {k:Pk} {w:World} {steps:Int} {hd:List Bool} {room:Int} {wo:Option Addr} {wc:Nat} {W:List (List Int)}
theorem PlayAt.lt (h:PlayAt k w steps hd room wo wc W):k.g<w.heap.size∧k.gc<w.heap.size∧k.gl<w.heap.size∧k.gs<w.heap.size∧k.gh<w.heap.size∧(∀ i,blk wo=some i→k.L≤i∧i<w.heap.size) :=
 ⟨(Array.getElem?_eq_some_iff.1 h.cell).1,(World.ownsRow.lt h.code k.gc rfl).2,(World.ownsRow.lt h.lps k.gl rfl).2,(World.ownsRow.lt h.sls k.gs rfl).2,(World.ownsRow.lt h.hds k.gh rfl).2,fun i hi=>World.ownsRow.lt h.wt i (by rw [ownBlock_blk];exact hi)⟩
theorem PlayAt.same {w':World} (h:PlayAt k w steps hd room wo wc W) (hg:w'.heap[k.g]?=w.heap[k.g]?) (hc:w'.heap[k.gc]?=w.heap[k.gc]?) (hl:w'.heap[k.gl]?=w.heap[k.gl]?) (hs:w'.heap[k.gs]?=w.heap[k.gs]?) (hh:w'.heap[k.gh]?=w.heap[k.gh]?) (hw:∀ i,blk wo=some i→w'.heap[i]?=w.heap[i]?):PlayAt k w' steps hd room wo wc W :=
 ⟨by rw [hg];exact h.cell,row_keep h.code (fun q hq=>by cases hq;exact hc),row_keep h.lps (fun q hq=>by cases hq;exact hl),row_keep h.sls (fun q hq=>by cases hq;exact hs),row_keep h.hds (fun q hq=>by cases hq;exact hh),row_keep h.wt hw,h.lo,h.ll,h.ls,h.apg,h.aph,h.apw⟩
theorem PlayAt.below {w':World} (h:PlayAt k w steps hd room wo wc W) (hb:Below w.heap.size w w'):PlayAt k w' steps hd room wo wc W:=by
 obtain ⟨l1,l2,l3,l4,l5,l6⟩:=h.lt
 exact h.same (hb.block _ l1) (hb.block _ l2) (hb.block _ l3) (hb.block _ l4) (hb.block _ l5) (fun i hi=>hb.block _ (l6 i hi).2)
theorem PlayAt.drew (h:PlayAt k w steps hd room wo wc W):PlayAt k w.drew steps hd room wo wc W:=h.same rfl rfl rfl rfl rfl (fun _ _=>rfl)
theorem PStep.low {wo':Option Addr} {w':World} (h:PlayAt k w steps hd room wo wc W) (hs:PStep k wo wo' w w') (hL:k.L≤w.heap.size):Below k.L w w' :=
 ⟨hs.os,hs.tape,hs.output,hs.size,fun i hi=>hs.block i (by omega) (fun e=>by have:=h.lo.1;omega) (fun e=>by have:=h.lo.2;omega) (fun e=>by have:=(h.lt.2.2.2.2.2 i e).1;omega)⟩
theorem PlayAt.cells (h:PlayAt k w steps hd room wo wc W):w.cell? ⟨k.g,0,none⟩=some (.slice (some ⟨k.gc,0,none⟩) k.c.length k.cc)∧w.cell? ⟨k.g,1,none⟩=some (.string k.t)∧w.cell? ⟨k.g,2,none⟩=some (.int .i64 k.budget)∧w.cell? ⟨k.g,3,none⟩=some (.int .i64 steps)∧w.cell? ⟨k.g,4,none⟩=some (.int .i64 ((k.t.size:Int)+1))
  ∧ w.cell? ⟨k.g,5,none⟩=some (.slice (some ⟨k.gl,0,none⟩) k.c.length k.cl)∧w.cell? ⟨k.g,6,none⟩=some (.slice (some ⟨k.gs,0,none⟩) k.c.length k.cs)∧w.cell? ⟨k.g,7,none⟩=some (.slice (some ⟨k.gh,0,none⟩) hd.length k.ch)∧w.cell? ⟨k.g,8,none⟩=some (.int .i64 room)∧w.cell? ⟨k.g,9,none⟩=some (.slice wo W.length wc)∧(∀ j,w.frozen? ⟨k.g,j,none⟩=false):=by
 have hb:=cell_block h.cell
 exact ⟨hb.1 0,hb.1 1,hb.1 2,hb.1 3,hb.1 4,hb.1 5,hb.1 6,hb.1 7,hb.1 8,hb.1 9,hb.2⟩
theorem PlayAt.setSteps (h:PlayAt k w steps hd room wo wc W) (v:Int):PlayAt k (w.setCell ⟨k.g,3,none⟩ (.int .i64 v)) v hd room wo wc W:=by
 have o:∀ i,i≠k.g→(w.setCell ⟨k.g,3,none⟩ (.int .i64 v)).heap[i]?=w.heap[i]?:=fun i hi=>Below.heap_setCell _ _ _ _ hi
 refine ⟨?_,row_keep h.code (fun q hq=>by cases hq;exact o _ h.apg.1),row_keep h.lps (fun q hq=>by cases hq;exact o _ h.apg.2.1),row_keep h.sls (fun q hq=>by cases hq;exact o _ h.apg.2.2.1),row_keep h.hds (fun q hq=>by cases hq;exact o _ h.apg.2.2.2),row_keep h.wt (fun q hq=>o q (fun e=>h.apw.1 (by rw [← e];exact hq))),h.lo,h.ll,h.ls,h.apg,h.aph,h.apw⟩
 have:=Go.heap_setCell_same w k.g 3 _ _ (.int .i64 v) h.cell
 rw [this];rfl
theorem PlayAt.setRoom (h:PlayAt k w steps hd room wo wc W) (v:Int):PlayAt k (w.setCell ⟨k.g,8,none⟩ (.int .i64 v)) steps hd v wo wc W:=by
 have o:∀ i,i≠k.g→(w.setCell ⟨k.g,8,none⟩ (.int .i64 v)).heap[i]?=w.heap[i]?:=fun i hi=>Below.heap_setCell _ _ _ _ hi
 refine ⟨?_,row_keep h.code (fun q hq=>by cases hq;exact o _ h.apg.1),row_keep h.lps (fun q hq=>by cases hq;exact o _ h.apg.2.1),row_keep h.sls (fun q hq=>by cases hq;exact o _ h.apg.2.2.1),row_keep h.hds (fun q hq=>by cases hq;exact o _ h.apg.2.2.2),row_keep h.wt (fun q hq=>o q (fun e=>h.apw.1 (by rw [← e];exact hq))),h.lo,h.ll,h.ls,h.apg,h.aph,h.apw⟩
 have:=Go.heap_setCell_same w k.g 8 _ _ (.int .i64 v) h.cell
 rw [this];rfl
theorem PlayAt.setHeld (h:PlayAt k w steps hd room wo wc W) (i:Nat):PlayAt k (w.setCell ⟨k.gh,i,none⟩ (.bool true)) steps (hd.set i true) room wo wc W:=by
 have o:∀ j,j≠k.gh→(w.setCell ⟨k.gh,i,none⟩ (.bool true)).heap[j]?=w.heap[j]?:=fun j hj=>Below.heap_setCell _ _ _ _ hj
 have hk:=(World.ownsRow.stored h.hds i (.bool true)).1
 refine ⟨?_,row_keep h.code (fun q hq=>by cases hq;exact o _ h.aph.1),row_keep h.lps (fun q hq=>by cases hq;exact o _ h.aph.2.1),row_keep h.sls (fun q hq=>by cases hq;exact o _ h.aph.2.2),?_,row_keep h.wt (fun q hq=>o q (fun e=>h.apw.2.2.2.2 (by rw [← e];exact hq))),h.lo,h.ll,h.ls,h.apg,h.aph,h.apw⟩
 ·rw [o k.g (Ne.symm h.apg.2.2.2),List.length_set];exact h.cell
 ·unfold oBools
  rw [List.length_set,List.map_set];exact hk
theorem stFlat_len (W:List (List Int)):(W.flatMap stC).length=W.length*43:=by
 induction W with
 | nil=>rfl
 | cons a r ih=>rw [List.flatMap_cons,List.length_append,stC_len,ih,List.length_cons,Nat.add_mul];omega
theorem stFlat_take:∀ (W:List (List Int)) (n:Nat),(W.flatMap stC).take (n*43)=(W.take n).flatMap stC
 | [],n=>by simp
 | a::r,0=>by simp
 | a::r,n+1=>by
  rw [List.flatMap_cons,List.take_succ_cons,List.flatMap_cons,List.take_append,stC_len,List.take_of_length_le (by rw [stC_len,Nat.add_mul];omega),show (n+1)*43-43=n*43 by omega,stFlat_take r n]
theorem stFlat_at:∀ (W:List (List Int)) (i j:Nat),i<W.length→j<43→(W.flatMap stC)[i*43+j]?=some (.int .i64 (Mt.gt (W.getD i []) j))
 | [],i,j,h,_=>by simp at h
 | a::r,0,j,_,hj=>by
  rw [List.flatMap_cons,List.getElem?_append_left (by rw [stC_len];omega)]
  simp [stC,hj]
 | a::r,i+1,j,h,hj=>by
  rw [List.flatMap_cons,List.getElem?_append_right (by rw [stC_len];omega),stC_len,show (i+1)*43+j-43=i*43+j by omega,stFlat_at r i j (by simpa using h) hj]
  simp
theorem PlayAt.cut (h:PlayAt k w steps hd room wo wc W) (n:Nat) (hn:n≤W.length):PlayAt k (w.setCell ⟨k.g,9,none⟩ (.slice wo n wc)) steps hd room wo wc (W.take n):=by
 have o:∀ i,i≠k.g→(w.setCell ⟨k.g,9,none⟩ (.slice wo n wc)).heap[i]?=w.heap[i]?:=fun i hi=>Below.heap_setCell _ _ _ _ hi
 have hl:(W.take n).length=n:=by rw [List.length_take];omega
 refine ⟨?_,row_keep h.code (fun q hq=>by cases hq;exact o _ h.apg.1),row_keep h.lps (fun q hq=>by cases hq;exact o _ h.apg.2.1),row_keep h.sls (fun q hq=>by cases hq;exact o _ h.apg.2.2.1),row_keep h.hds (fun q hq=>by cases hq;exact o _ h.apg.2.2.2),?_,h.lo,h.ll,h.ls,h.apg,h.aph,h.apw⟩
 ·have:=Go.heap_setCell_same w k.g 9 _ _ (.slice wo n wc) h.cell
  rw [this,hl];rfl
 ·rw [hl]
  refine row_keep (w:=w) ?_ (fun q hq=>o q (fun e=>h.apw.1 (by rw [← e];exact hq)))
  have h0:=h.wt
  refine ⟨by rw [stFlat_len,hl],?_⟩
  rcases h0.2 with ⟨e,e2⟩ | ⟨gw,cap,cur,e,r1,r2,r3,r4,r5,r6⟩
  ·left
   simp only [Value.slice.injEq] at e
   obtain ⟨rfl,_,rfl⟩:=e
   have:n=0:=by omega
   subst this;exact ⟨rfl,rfl⟩
  ·right
   simp only [Value.slice.injEq] at e
   obtain ⟨rfl,_,rfl⟩:=e
   refine ⟨gw,wc,cur,rfl,r1,r2,by omega,r4,r5,?_⟩
   rw [← stFlat_take,← r6,List.take_take]
   congr 1
   have:=Nat.mul_le_mul_right 43 hn
   omega
theorem wait_mem {w0 w1:World} {q cap:Nat} {x:List Int} (h:PlayAt k w steps hd room wo wc W) (h0:Below w.heap.size w w0) (hs0:w.heap.size<w0.heap.size) (hg:w0.grownBy w1 (blk wo)) (hq:blk wo=some q∨q=w0.heap.size)
  (hown:w1.ownsRow k.L 100 43 (.slice (some ⟨q,0,none⟩) (W.length+1) cap) (W.length+1) (W.flatMap stC++stC x)) :
  PlayAt k (w1.setCell ⟨k.g,9,none⟩ (.slice (some ⟨q,0,none⟩) (W.length+1) cap)) steps hd room (some ⟨q,0,none⟩) cap (W++[x])∧PStep k wo (some ⟨q,0,none⟩) w (w1.setCell ⟨k.g,9,none⟩ (.slice (some ⟨q,0,none⟩) (W.length+1) cap)):=by
 obtain ⟨l1,l2,l3,l4,l5,l6⟩:=h.lt
 have n:q≠k.g∧q≠k.gc∧q≠k.gl∧q≠k.gs∧q≠k.gh:=by
  rcases hq with e | e
  ·exact ⟨fun x=>h.apw.1 (by rw [e,x]),fun x=>h.apw.2.1 (by rw [e,x]),fun x=>h.apw.2.2.1 (by rw [e,x]),fun x=>h.apw.2.2.2.1 (by rw [e,x]),fun x=>h.apw.2.2.2.2 (by rw [e,x])⟩
  ·omega
 obtain ⟨n1,n2,n3,n4,n5⟩:=n
 have kk:∀ i,i<w.heap.size→blk wo≠some i→w1.heap[i]?=w.heap[i]?:=fun i hi hr=>by rw [hg.block i (by have:=h0.size;omega) (fun e=>hr e.symm),h0.block i hi]
 have o:∀ i,i≠k.g→(w1.setCell ⟨k.g,9,none⟩ (.slice (some ⟨q,0,none⟩) (W.length+1) cap)).heap[i]?=w1.heap[i]?:=fun i hi=>Below.heap_setCell _ _ _ _ hi
 have ne:∀ i,i≠q→blk (some (⟨q,0,none⟩:Addr))≠some i:=fun i hi e=>hi (by simp [blk] at e;exact e.symm)
 refine ⟨⟨?_,row_keep h.code (fun i hi=>by cases hi;rw [o _ h.apg.1,kk _ l2 h.apw.2.1]),row_keep h.lps (fun i hi=>by cases hi;rw [o _ h.apg.2.1,kk _ l3 h.apw.2.2.1]),row_keep h.sls (fun i hi=>by cases hi;rw [o _ h.apg.2.2.1,kk _ l4 h.apw.2.2.2.1]),row_keep h.hds (fun i hi=>by cases hi;rw [o _ h.apg.2.2.2,kk _ l5 h.apw.2.2.2.2]),?_,h.lo,h.ll,h.ls,h.apg,h.aph,ne _ (Ne.symm n1),ne _ (Ne.symm n2),ne _ (Ne.symm n3),ne _ (Ne.symm n4),ne _ (Ne.symm n5)⟩,?_⟩
 ·have hc:=Go.heap_setCell_same w1 k.g 9 _ _ (.slice (some ⟨q,0,none⟩) (W.length+1) cap) (by rw [kk k.g l1 h.apw.1];exact h.cell)
  rw [hc];simp
 ·have e1:(W++[x]).length=W.length+1:=by simp
  have e2:(W++[x]).flatMap stC=W.flatMap stC++stC x:=by simp
  rw [e1,e2]
  exact row_keep hown (fun i hi=>o i (by simp [blk] at hi;omega))
 ·refine ⟨hg.os.trans h0.os,hg.tape.trans h0.tape,hg.output.trans h0.output,?_,fun i hi h1 h2 h3=>?_,fun i hi ho=>?_⟩
  ·have:=hg.size;have:=h0.size;simp [World.setCell];omega
  ·rw [o i h1,kk i hi h3]
  ·simp [blk] at ho
   subst ho
   rcases hq with hq | hq
   ·exact hq
   ·omega
end
theorem Try.infoSt:(Try.prog.info? 100).map (fun i=>(i.zero,i.size,i.bytes))=some (some (.agg (stA [])),43,344):=by kernel_rfl
theorem fill_st (x:List Int) {i0:TypeInfo} (hz1:i0.size=43):Instr.fill (fun i=>some (i*i0.size,i0.size)) ((Array.range (1*i0.size)).map ((Value.agg (stA [])).cells[· % (Value.agg (stA [])).cells.size]!)) [(0,.agg (stA x))]=some (stA x):=by
 rw [hz1];unfold stA stC;kernel_rfl
section
variable {k:Pk} {w:World} {steps:Int} {hd:List Bool} {room:Int} {wo:Option Addr} {wc:Nat} {W:List (List Int)}
theorem spent_prog (h:PlayAt k w steps hd room wo wc W):Calls Try.prog 47 #[.pointer (some ⟨k.g,0,none⟩)] w fun e w'=>e=.returned (.bool (decide (steps>k.budget)))∧Below w.heap.size w w':=by
 obtain ⟨c0,c1,c2,c3,c4,c5,c6,c7,c8,c9,hf⟩:=h.cells
 clear h hf c0 c1 c4 c5 c6 c7 c8 c9
 generalize k.g=g at *
 generalize k.budget=B at *
 go_enter Try.func47,Try.ntmps47
 go_wp2_with fail
 go_region
 go_wp2_with fail
 go_ret
 exact ⟨rfl,(Below.refl _ _).drew⟩
theorem st_after {w1:World} {n m cap:Nat} {T E:Array Value} {ty te:TypeId} {W2:World} (h:PlayAt k w steps hd room wo wc W) (hb:Below w.heap.size w W2) (hn:n<W2.heap.size) (hnn:w.heap.size≤n) (hT:W2.heap[n]?=some (.cells T ty (0,0))) (hg:(W2.drew.alloc (.cells E te)).grownBy w1 (Value.slice wo m cap).ownBlock) :
  w1.heap[n]?=some (.cells T ty (0,0))∧(∀ o,w1.cell? ⟨k.g,o,none⟩=w.cell? ⟨k.g,o,none⟩)∧(∀ o,w1.frozen? ⟨k.g,o,none⟩=w.frozen? ⟨k.g,o,none⟩):=by
 rw [ownBlock_blk] at hg
 obtain ⟨l1,l2,l3,l4,l5,l6⟩:=h.lt
 have hsz:=hb.size
 have h1:w1.heap[n]?=some (.cells T ty (0,0)):=by
  rw [hg.block _ (by simp;omega) (fun e=>by have:=(l6 _ e.symm).2;omega),heap_old _ _ _ (by simpa using hn)]
  exact hT
 have h2:w1.heap[k.g]?=w.heap[k.g]?:=by
  rw [hg.block _ (by simp;omega) (fun e=>h.apw.1 e.symm),heap_old _ _ _ (by simp;omega)]
  exact hb.block _ l1
 exact ⟨h1,fun o=>World.cell?_of_block (a:=⟨k.g,o,none⟩) h2,fun o=>World.frozen?_of_block (a:=⟨k.g,o,none⟩) h2⟩
theorem wait_prog (q:List Int) (inst:Int) (hq:q.length=43) (h:PlayAt k w steps hd room wo wc W) (hn:W.length≤1000000) :
  Calls Try.prog 57 #[.pointer (some ⟨k.g,0,none⟩),.agg (stA q),.int .i64 inst] w fun e w'=>e=.returned (.tuple #[])∧∃ wo' wc',PlayAt k w' steps hd room wo' wc' (W++[q.set 0 inst])∧PStep k wo wo' w w':=by
 obtain ⟨i0,hi,hz0,hz1,hz2⟩:=info_parts Try.infoSt
 have HB:Hid (PlayAt k w steps hd room wo wc W):=h
 obtain ⟨c0,c1,c2,c3,c4,c5,c6,c7,c8,c9,hf⟩:=h.cells
 have f9:=hf 9
 have hg:k.g<w.heap.size:=h.lt.1
 have hL:k.L≤w.heap.size:=by have:=h.lo;omega
 have HO:Hid (w.ownsRow k.L 100 43 (.slice wo W.length wc) W.length (W.flatMap stC)):=h.wt
 clear h hf c0 c1 c2 c3 c4 c5 c6 c7 c8
 have HSET:Hid ((stA q).setIfInBounds 0 (.int .i64 inst)=stA (q.set 0 inst)):=stA_set q hq 0 inst
 go_enter Try.func57,Try.ntmps57
 go_upto_region 1 with fail
 generalize hW1:w.alloc (.cells (stA q) 100)=W1 at *
 have B1:Below w.heap.size w W1:=by rw [← hW1];exact (Below.refl _ _).alloc (Nat.le_refl _) _
 have T1:W1.heap[w.heap.size]?=some (.cells (stA q) 100 (0,0)):=by rw [← hW1];exact heap_alloc_new _ _
 have Z1:W1.heap.size=w.heap.size+1:=by rw [← hW1];simp
 have x0:W1.cell? ⟨w.heap.size,0,none⟩=some (.int .i64 (Mt.gt q 0)):=by rw [(cell_block T1).1 0];exact stA_at q 0 (by omega)
 have y0:W1.frozen? ⟨w.heap.size,0,none⟩=false:=(cell_block T1).2 0
 clear hW1
 go_upto_region 2 with fail
 have B2:Below w.heap.size w (W1.setCell ⟨w.heap.size,0,none⟩ (.int .i64 inst)):=B1.setCell (p:=⟨w.heap.size,0,none⟩) (Nat.le_refl _) _
 have T2:(W1.setCell ⟨w.heap.size,0,none⟩ (.int .i64 inst)).heap[w.heap.size]?=some (.cells (stA (q.set 0 inst)) 100 (0,0)):=by
  have:=Go.heap_setCell_same W1 w.heap.size 0 _ _ (.int .i64 inst) T1
  rw [this];rw [← HSET.out]
 have Z2:(W1.setCell ⟨w.heap.size,0,none⟩ (.int .i64 inst)).heap.size=w.heap.size+1:=by simp [World.setCell,Z1]
 generalize W1.setCell ⟨w.heap.size,0,none⟩ (.int .i64 inst)=W2 at *
 clear x0 y0 T1 B1 Z1 HSET
 have hxl:(q.set 0 inst).length=43:=by simp [hq]
 generalize hqx:q.set 0 inst=x at *
 generalize hwn:w.heap.size=n at *
 ·skip
  have hcr:∀ z:World,z.heap[n]?=some (.cells (stA x) 100 (0,0))→z.rangeAt n 0 (stA x).toList:=fun z hz=>rangeAt_blk hz
  have C9:W2.cell? ⟨k.g,9,none⟩=some (.slice wo W.length wc):=by rw [World.cell?_of_block (a:=⟨k.g,9,none⟩) (B2.block k.g hg)];exact c9
  refine wp_region_held_drew (S:=fun z:World=>z.heap[n]?=some (.cells (stA x) 100 (0,0))) (by kernel_rfl) T2 (fun hH=>?_)
  generalize hkg:k.g=G at *
  refine takeAt 0 8 (.pointer (some ⟨G,0,none⟩)) rfl rfl (by kernel_rfl) (by kernel_rfl) (by kernel_rfl) (fun _ _ _ h=>h) (Or.inl ⟨by rfl,fun z hz=>by clear hH hz hcr T2;go_simp⟩) (by assumption) ?_
  simp only [Act.put,List.setIfInBounds_toArray,List.set_cons_zero,List.set_cons_succ]
  refine takeAt 1 9 (.pointer (some ⟨G,0,none⟩)) rfl rfl (by kernel_rfl) (by kernel_rfl) (by kernel_rfl) (fun _ _ _ h=>h) (Or.inl ⟨by rfl,fun z hz=>by clear hH hz hcr T2;go_simp⟩) (by assumption) ?_
  simp only [Act.put,List.setIfInBounds_toArray,List.set_cons_zero,List.set_cons_succ]
  refine takeAt 2 10 (.pointer (some ⟨G,0,none⟩)) rfl rfl (by kernel_rfl) (by kernel_rfl) (by kernel_rfl) (fun _ _ _ h=>h) (Or.inl ⟨by rfl,fun z hz=>by clear hH hz hcr T2;go_simp⟩) (by assumption) ?_
  simp only [Act.put,List.setIfInBounds_toArray,List.set_cons_zero,List.set_cons_succ]
  refine takeAt 3 11 (.pointer (some ⟨G,9,none⟩)) rfl rfl (by kernel_rfl) (by kernel_rfl) (by kernel_rfl) (fun _ _ _ h=>h) (Or.inl ⟨by rfl,fun z hz=>by clear hH hz hcr T2;go_simp⟩) (by assumption) ?_
  simp only [Act.put,List.setIfInBounds_toArray,List.set_cons_zero,List.set_cons_succ]
  refine takeAt 5 13 (.agg (stA x)) rfl rfl (by kernel_rfl) (by kernel_rfl) (by kernel_rfl) (fun _ _ _ h=>h) (yieldsIf_load_mid (by rfl) _ _ rfl _ _ rfl _ _ hcr Try.underlying100 rfl (by rw [Try.sizeSt];rfl)) (by assumption) ?_
  simp only [Act.put,List.setIfInBounds_toArray,List.set_cons_zero,List.set_cons_succ]
  have S1:(W2.drew.alloc (.cells (stA x) 100)).heap[n]?=some (.cells (stA x) 100 (0,0)) :=
   (heap_old _ _ _ (by simp [Z2])).trans T2
  have hsz:W2.drew.heap.size=n+1:=by simpa using Z2
  have hnw:(W2.drew.alloc (.cells (stA x) 100)).heap[n+1]?=some (.cells (stA x) 100 (0,0)):=by
   rw [← hsz];exact heap_alloc_new _ _
  refine wpAnyH_ready (rs:=[4,6]) (by kernel_rfl) (by simp) ?_
  refine AllReadyH.cons rfl (fun K hK=>?_) (AllReadyH.cons rfl (fun K hK=>?_) AllReadyH.nil)
  all_goals
   first
   | (
     refine step_build1 rfl 94 100 (.tmp 13) rfl (stA x) i0 _ (.agg (stA x)) Try.underlying94 hi hz0 (by rw [hz1];decide) (by rw [hz1];decide) (by rfl) (fill_st _ hz1) ?_
     refine hK.out _ _ S1 (fun hH2=>?_)
     clear hK K
     simp only [Act.put,List.setIfInBounds_toArray,List.set_cons_zero,List.set_cons_succ]
     refine wpAnyH_ready (rs:=[4]) (by kernel_rfl) (by simp) ?_
     refine AllReadyH.cons rfl (fun K hK=>?_) AllReadyH.nil
     try clear hH
     try clear hcr
     go_simp
     refine hK.out _ _ S1 (fun hH4=>?_)
     clear hK K
     )
   | (
     try clear hH
     try clear hcr
     go_simp
     refine hK.out _ _ T2 (fun hH4=>?_)
     clear hK K
     refine wpAnyH_ready (rs:=[6]) (by kernel_rfl) (by simp) ?_
     refine AllReadyH.cons rfl (fun K hK=>?_) AllReadyH.nil
     refine step_build1 rfl 94 100 (.tmp 13) rfl (stA x) i0 _ (.agg (stA x)) Try.underlying94 hi hz0 (by rw [hz1];decide) (by rw [hz1];decide) (by rfl) (fill_st _ hz1) ?_
     refine hK.out _ _ S1 (fun hH2=>?_)
     clear hK K
     simp only [Act.put,List.setIfInBounds_toArray,List.set_cons_zero,List.set_cons_succ,hsz]
     )
  all_goals
   refine wpAnyH_ready (rs:=[7]) (by kernel_rfl) (by simp) ?_
   refine AllReadyH.cons rfl (fun K hK=>?_) AllReadyH.nil
   refine step_append_lies _ rfl (.tmp 12) (.tmp 14) 94 rfl k.L 100 i0 _ 43 344 Try.underlying94 hi hz0 hz1 hz2 (stA_size []) (by decide) (.slice wo W.length wc) W.length (W.flatMap stC) (by rfl) (World.ownsRow.alloc (w:=W2.drew) (row_keep HO.out (fun i hi=>by have:=(HB.out.lt.2.2.2.2.2 i hi).2;exact B2.block i (by omega))) _) ⟨n+1,0,none⟩ 1 1 (stC x) (by rfl) (by rw [stC_len]) (World.news_of_block (cs:=(stA x)) hnw) (stC_all x) (by decide) (by unfold maxLen;omega) (by omega) (by simp [Z2];omega) (n+2) (by simp [Z2]) ?_
   intro q cap w1 hown hgrow hq hqlt
   obtain ⟨A1,A2,A3⟩:=st_after HB.out (by rw [hwn];exact B2) (by omega) (by omega) T2 hgrow
   refine hK.out _ _ A1 (fun hH3=>?_)
   clear hK K
   have d1:=A2 9
   rw [hkg,c9] at d1
   have e1:=A3 9
   rw [hkg,f9] at e1
   have HM:Hid (PlayAt k (w1.setCell ⟨k.g,9,none⟩ (.slice (some ⟨q,0,none⟩) (W.length+1) cap)) steps hd room (some ⟨q,0,none⟩) cap (W++[x])∧PStep k wo (some ⟨q,0,none⟩) w (w1.setCell ⟨k.g,9,none⟩ (.slice (some ⟨q,0,none⟩) (W.length+1) cap))) :=
    wait_mem HB.out (w0:=W2.drew.alloc (.cells (stA x) 100)) (by rw [hwn];exact (B2.drew).alloc (by simp [Z2]) _) (by simp [Z2];omega) (by rw [ownBlock_blk] at hgrow;exact hgrow) (by rw [ownBlock_blk] at hq;simpa [Z2] using hq) hown
   try rw [hkg] at HM
   have SZ:n<w1.heap.size:=(Array.getElem?_eq_some_iff.1 A1).1
   have S4:(w1.setCell ⟨G,9,none⟩ (.slice (some ⟨q,0,none⟩) (W.length+1) cap)).heap[n]?=some (.cells (stA x) 100 (0,0)) :=
    (Below.heap_setCell _ _ _ _ (by show n≠G;omega)).trans A1
   clear A2 A3 hgrow hown hq T2 S1
   simp only [Act.put,List.setIfInBounds_toArray,List.set_cons_zero,List.set_cons_succ]
   refine takeAt 8 16 (.pointer (some ⟨G,0,none⟩)) rfl rfl (by kernel_rfl) (by kernel_rfl) (by kernel_rfl) (fun _ _ _ h=>h) (Or.inl ⟨by rfl,fun z hz=>by clear hH3 hz S4;go_simp⟩) (by assumption) ?_
   simp only [Act.put,List.setIfInBounds_toArray,List.set_cons_zero,List.set_cons_succ]
   refine takeAt 9 17 (.pointer (some ⟨G,9,none⟩)) rfl rfl (by kernel_rfl) (by kernel_rfl) (by kernel_rfl) (fun _ _ _ h=>h) (Or.inl ⟨by rfl,fun z hz=>by clear hH3 hz S4;go_simp⟩) (by assumption) ?_
   simp only [Act.put,List.setIfInBounds_toArray,List.set_cons_zero,List.set_cons_succ]
   refine wpAnyH_ready (rs:=[10]) (by kernel_rfl) (by simp) ?_
   refine AllReadyH.cons rfl (fun K hK=>?_) AllReadyH.nil
   go_simp
   refine hK.out _ _ S4 (fun hH4=>?_)
   clear hK K
   refine wpAnyH_done (by kernel_rfl) ?_ _
   go_wp2_with fail
   go_returns
   exact ⟨rfl,some ⟨q,0,none⟩,cap,by rw [hqx];exact HM.out⟩
end
end Go.Proofs.Ytebpgfodelggoab
