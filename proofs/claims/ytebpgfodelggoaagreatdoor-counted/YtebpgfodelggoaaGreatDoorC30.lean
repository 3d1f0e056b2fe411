import Derived.Test.YtebpgfodelggoaaGreatDoorC29
import Derived.Test.YtebpgfodelggoaaGreatDoorC11
import Derived.Deep.AppendLies
import Derived.Deep.RegionLaw
import Derived.Deep.RegionHeld3
import Derived.Deep.DeepCutAuto
import Derived.Great.BuildSlice
set_option linter.unusedVariables false
set_option linter.unusedSimpArgs false
set_option maxRecDepth 100000
set_option maxHeartbeats 4000000
namespace Go.Proofs.YtebpgfodelggoaaGreatDoor
open Go.RowKit
def psC (s:Mt.PS):List Value:=[.int .i64 s.first,.int .i64 s.next]
def ptL (t:Mt.PT):List Value:=[.int .i64 t.kind,.int .i64 t.en,.int .i64 t.group,.int .i64 t.number,.int .i64 t.least,.int .i64 t.most,.int .i64 t.mood,.string ⟨t.set.toArray⟩]
def paC (a:Mt.PA):List Value:=ptL a.tok++.int .i64 a.num::(ptL a.rep++[.int .i64 a.body,.int .i64 a.home,.int .i64 a.next])
def opL (l:List Nat):List Value:=l.map fun k:Nat=>Value.int .i64 (k:Int)
def bA (b:Mt.PB) (so ao oo:Option Addr) (sc ac oc:Nat):Array Value :=
 (.slice so b.seqs.length sc::.slice ao b.atoms.length ac::.int .i64 b.seq::.int .i64 b.last::.slice oo b.opn.length oc::.int .i64 b.groups::b.clo.map Value.bool).toArray
def blk (o:Option Addr):Option Nat:=o.map (·.block)
structure BAt (L:Nat) (w:World) (g:Nat) (b:Mt.PB) (so ao oo:Option Addr) (sc ac oc:Nat):Prop where
 cell:w.heap[g]?=some (.cells (bA b so ao oo sc ac oc) 112 (0,0))
 lo:L≤g
 seqs:w.ownsRow L 122 2 (.slice so b.seqs.length sc) b.seqs.length (b.seqs.flatMap psC)
 atoms:w.ownsRow L 134 20 (.slice ao b.atoms.length ac) b.atoms.length (b.atoms.flatMap paC)
 opn:w.ownsRow L 3 1 (.slice oo b.opn.length oc) b.opn.length (opL b.opn)
 ap:blk so≠some g∧blk ao≠some g∧blk oo≠some g∧(∀ q,blk so=some q→blk ao≠some q∧blk oo≠some q)∧(∀ q,blk ao=some q→blk oo≠some q)
 cl:b.clo.length=10
def own (g:Nat) (so ao oo:Option Addr) (k:Nat):Prop:=k=g∨blk so=some k∨blk ao=some k∨blk oo=some k
structure BStep (g:Nat) (so ao oo so' ao' oo':Option Addr) (w w':World):Prop where
 os:w'.os=w.os
 tape:w'.tape=w.tape
 output:w'.output=w.output
 size:w.heap.size≤w'.heap.size
 block:∀ k,k<w.heap.size→¬ own g so ao oo k→w'.heap[k]?=w.heap[k]?
 sub:∀ k,k<w.heap.size→own g so' ao' oo' k→own g so ao oo k
theorem BStep.refl (g:Nat) (so ao oo:Option Addr) (w:World):BStep g so ao oo so ao oo w w:=⟨rfl,rfl,rfl,Nat.le_refl _,fun _ _ _=>rfl,fun _ _ h=>h⟩
theorem BStep.trans {g:Nat} {so ao oo so' ao' oo' so2 ao2 oo2:Option Addr} {a b c:World} (h:BStep g so ao oo so' ao' oo' a b) (k:BStep g so' ao' oo' so2 ao2 oo2 b c):BStep g so ao oo so2 ao2 oo2 a c :=
 ⟨k.os.trans h.os,k.tape.trans h.tape,k.output.trans h.output,Nat.le_trans h.size k.size,
 fun i hi hn=>(k.block i (Nat.lt_of_lt_of_le hi h.size) (fun ho=>hn (h.sub i hi ho))).trans (h.block i hi hn),
 fun i hi ho=>h.sub i hi (k.sub i (Nat.lt_of_lt_of_le hi h.size) ho)⟩
theorem BStep.below {g:Nat} {so ao oo:Option Addr} {a b:World} (h:Below a.heap.size a b):BStep g so ao oo so ao oo a b :=
 ⟨h.os,h.tape,h.output,h.size,fun i hi _=>h.block i hi,fun _ _ h=>h⟩
theorem BStep.alloc {g:Nat} {so ao oo so' ao' oo':Option Addr} {a w:World} (h:BStep g so ao oo so' ao' oo' a w) (o:Obj):BStep g so ao oo so' ao' oo' a (w.alloc o) :=
 h.trans (BStep.below ((Below.refl _ _).alloc (Nat.le_refl _) o))
theorem BStep.drew {g:Nat} {so ao oo so' ao' oo':Option Addr} {a w:World} (h:BStep g so ao oo so' ao' oo' a w):BStep g so ao oo so' ao' oo' a w.drew:=h.trans (BStep.below (Below.refl _ _).drew)
theorem BStep.set {g:Nat} {so ao oo so' ao' oo':Option Addr} {a w:World} (h:BStep g so ao oo so' ao' oo' a w) {p:Addr} (hp:own g so' ao' oo' p.block) (u:Value):BStep g so ao oo so' ao' oo' a (w.setCell p u) :=
 h.trans ⟨rfl,rfl,rfl,by simp [World.setCell],fun i hi hn=>Below.heap_setCell _ _ _ _ (fun e=>hn (by rw [e];exact hp)),fun _ _ h=>h⟩
section
variable {L:Nat} {w:World} {g:Nat} {b:Mt.PB} {so ao oo:Option Addr} {sc ac oc:Nat}
theorem row_keep {w':World} {e:TypeId} {s n cap:Nat} {o:Option Addr} {xs:List Value} (h:w.ownsRow L e s (.slice o n cap) n xs) (hb:∀ q,blk o=some q→w'.heap[q]?=w.heap[q]?):w'.ownsRow L e s (.slice o n cap) n xs:=by
 refine ⟨h.1,?_⟩
 rcases h.2 with h' | ⟨g',cap',cur,hv,h0,hg,rest⟩
 ·exact .inl h'
 ·simp only [Value.slice.injEq] at hv
  obtain ⟨rfl,_,rfl⟩:=hv
  exact .inr ⟨g',cap,cur,rfl,h0,by rw [hb g' rfl];exact hg,rest⟩
theorem BAt.keep {w':World} (h:BAt L w g b so ao oo sc ac oc) (hk:∀ k,own g so ao oo k→w'.heap[k]?=w.heap[k]?):BAt L w' g b so ao oo sc ac oc :=
 ⟨by rw [hk g (Or.inl rfl)];exact h.cell,h.lo,row_keep h.seqs (fun q hq=>hk q (Or.inr (Or.inl hq))),row_keep h.atoms (fun q hq=>hk q (Or.inr (Or.inr (Or.inl hq)))),row_keep h.opn (fun q hq=>hk q (Or.inr (Or.inr (Or.inr hq)))),h.ap,h.cl⟩
theorem BAt.lt (h:BAt L w g b so ao oo sc ac oc):∀ k,own g so ao oo k→L≤k∧k<w.heap.size:=by
 rintro k (rfl | hk | hk | hk)
 ·exact ⟨h.lo,(Array.getElem?_eq_some_iff.1 h.cell).1⟩
 ·exact World.ownsRow.lt h.seqs k (by cases so with | none=>simp [blk] at hk | some a=>simpa [blk,Value.ownBlock] using hk)
 ·exact World.ownsRow.lt h.atoms k (by cases ao with | none=>simp [blk] at hk | some a=>simpa [blk,Value.ownBlock] using hk)
 ·exact World.ownsRow.lt h.opn k (by cases oo with | none=>simp [blk] at hk | some a=>simpa [blk,Value.ownBlock] using hk)
theorem BAt.below {w':World} (h:BAt L w g b so ao oo sc ac oc) (hb:Below w.heap.size w w'):BAt L w' g b so ao oo sc ac oc :=
 h.keep (fun k hk=>hb.block k (h.lt k hk).2)
theorem BStep.low {so' ao' oo':Option Addr} {w':World} (h:BAt L w g b so ao oo sc ac oc) (hs:BStep g so ao oo so' ao' oo' w w') (hL:L≤w.heap.size):Below L w w' :=
 ⟨hs.os,hs.tape,hs.output,hs.size,fun k hk=>hs.block k (by omega) (fun ho=>by have:=(h.lt k ho).1;omega)⟩
theorem BAt.cells (h:BAt L w g b so ao oo sc ac oc):w.cell? ⟨g,0,none⟩=some (.slice so b.seqs.length sc)∧w.cell? ⟨g,1,none⟩=some (.slice ao b.atoms.length ac)∧w.cell? ⟨g,2,none⟩=some (.int .i64 b.seq)∧w.cell? ⟨g,3,none⟩=some (.int .i64 b.last)∧w.cell? ⟨g,4,none⟩=some (.slice oo b.opn.length oc)∧w.cell? ⟨g,5,none⟩=some (.int .i64 b.groups) ∧
  (∀ k,k<10→w.cell? ⟨g,6+k,none⟩=some (.bool (b.clo.getD k false)))∧(∀ k,w.frozen? ⟨g,k,none⟩=false):=by
 have hb:=cell_block h.cell
 refine ⟨hb.1 0,hb.1 1,hb.1 2,hb.1 3,hb.1 4,hb.1 5,fun k hk=>?_,hb.2⟩
 rw [hb.1]
 unfold bA
 rw [List.getElem?_toArray,show 6+k=k+1+1+1+1+1+1 by omega]
 simp only [List.getElem?_cons_succ,List.getElem?_map]
 rw [List.getD_eq_getElem?_getD,List.getElem?_eq_getElem (by rw [h.cl];exact hk)];rfl
theorem BAt.field {b':Mt.PB} {so' ao' oo':Option Addr} {sc' ac' oc' k:Nat} {v:Value} (h:BAt L w g b so ao oo sc ac oc) (he:(bA b so ao oo sc ac oc).setIfInBounds k v=bA b' so' ao' oo' sc' ac' oc')
  (h1:w.ownsRow L 122 2 (.slice so' b'.seqs.length sc') b'.seqs.length (b'.seqs.flatMap psC)) (h2:w.ownsRow L 134 20 (.slice ao' b'.atoms.length ac') b'.atoms.length (b'.atoms.flatMap paC)) (h3:w.ownsRow L 3 1 (.slice oo' b'.opn.length oc') b'.opn.length (opL b'.opn))
  (hap:blk so'≠some g∧blk ao'≠some g∧blk oo'≠some g∧(∀ q,blk so'=some q→blk ao'≠some q∧blk oo'≠some q)∧(∀ q,blk ao'=some q→blk oo'≠some q)) (hcl:b'.clo.length=10) :
  BAt L (w.setCell ⟨g,k,none⟩ v) g b' so' ao' oo' sc' ac' oc':=by
 have hc:=Go.heap_setCell_same w g k _ _ v h.cell
 rw [he] at hc
 have o:∀ q,q≠g→(w.setCell ⟨g,k,none⟩ v).heap[q]?=w.heap[q]?:=fun q hq=>Below.heap_setCell _ _ _ _ hq
 exact ⟨hc,h.lo,row_keep h1 (fun q hq=>o q (fun e=>hap.1 (by rw [← e];exact hq))),row_keep h2 (fun q hq=>o q (fun e=>hap.2.1 (by rw [← e];exact hq))),row_keep h3 (fun q hq=>o q (fun e=>hap.2.2.1 (by rw [← e];exact hq))),hap,hcl⟩
end
end Go.Proofs.YtebpgfodelggoaaGreatDoor
namespace Mt
def PB.newSeq (b:PB):PB:={ b with seqs:=b.seqs++[ps0] }
end Mt
namespace Go.Proofs.YtebpgfodelggoaaGreatDoor
open Go.RowKit
theorem Tryz.infoSq:(Tryz.prog.info? 122).map (fun i=>(i.zero,i.size,i.bytes))=some (some (.agg #[.int .i64 0,.int .i64 0]),2,16):=by kernel_rfl
theorem own_new {g:Nat} {so ao oo:Option Addr} {q:Nat} {w:World} (h:blk so=some q∨q=w.heap.size) (hlt:∀ k,own g so ao oo k→k<w.heap.size) (ap:blk so≠some g∧blk ao≠some g∧blk oo≠some g∧(∀ q,blk so=some q→blk ao≠some q∧blk oo≠some q)∧(∀ q,blk ao=some q→blk oo≠some q)) :
  q≠g∧blk ao≠some q∧blk oo≠some q:=by
 rcases h with h | h
 ·exact ⟨fun e=>ap.1 (by rw [h,e]),(ap.2.2.2.1 q h).1,(ap.2.2.2.1 q h).2⟩
 ·subst h
  exact ⟨fun e=>by have:=hlt g (Or.inl rfl);omega,fun e=>by have:=hlt _ (Or.inr (Or.inr (Or.inl e)));omega,fun e=>by have:=hlt _ (Or.inr (Or.inr (Or.inr e)));omega⟩
theorem blk_some (q o:Nat):blk (some ⟨q,o,none⟩)=some q:=rfl
theorem ownBlock_blk (o:Option Addr) (n c:Nat):(Value.slice o n c).ownBlock=blk o:=by cases o <;> rfl
theorem BAt.grown {L:Nat} {w w0 w1:World} {g:Nat} {b:Mt.PB} {so ao oo:Option Addr} {sc ac oc:Nat} {r:Option Nat} (h:BAt L w g b so ao oo sc ac oc) (h0:Below w.heap.size w w0) (hg:w0.grownBy w1 r) (k:Nat) (hk:own g so ao oo k) (hr:some k≠r):w1.heap[k]?=w.heap[k]?:=by
 have hl:=(h.lt k hk).2
 rw [hg.block k (by have:=h0.size;omega) hr,h0.block k hl]
theorem newSeq_mem {L:Nat} {w w0 w1:World} {g:Nat} {b:Mt.PB} {so ao oo:Option Addr} {sc ac oc q cap:Nat} (h:BAt L w g b so ao oo sc ac oc) (h0:Below w.heap.size w w0) (hs0:w.heap.size<w0.heap.size) (hg:w0.grownBy w1 (blk so)) (hq:blk so=some q∨q=w0.heap.size)
  (hown:w1.ownsRow L 122 2 (.slice (some ⟨q,0,none⟩) (b.seqs.length+1) cap) (b.seqs.length+1) (b.seqs.flatMap psC++[.int .i64 (-1),.int .i64 (-1)])) :
  BAt L (w1.setCell ⟨g,0,none⟩ (.slice (some ⟨q,0,none⟩) (b.seqs.length+1) cap)) g b.newSeq (some ⟨q,0,none⟩) ao oo cap ac oc∧BStep g so ao oo (some ⟨q,0,none⟩) ao oo w (w1.setCell ⟨g,0,none⟩ (.slice (some ⟨q,0,none⟩) (b.seqs.length+1) cap)):=by
 have hlt:∀ k,own g so ao oo k→k<w0.heap.size:=fun k hk=>by have:=(h.lt k hk).2;omega
 obtain ⟨n1,n2,n3⟩:=own_new (g:=g) (ao:=ao) (oo:=oo) hq hlt h.ap
 have kg:w1.heap[g]?=w.heap[g]?:=h.grown h0 hg g (Or.inl rfl) (fun e=>h.ap.1 e.symm)
 have ka:∀ k,blk ao=some k→w1.heap[k]?=w.heap[k]?:=fun k hk=>h.grown h0 hg k (Or.inr (Or.inr (Or.inl hk))) (fun e=>(h.ap.2.2.2.1 k e.symm).1 hk)
 have ko:∀ k,blk oo=some k→w1.heap[k]?=w.heap[k]?:=fun k hk=>h.grown h0 hg k (Or.inr (Or.inr (Or.inr hk))) (fun e=>(h.ap.2.2.2.1 k e.symm).2 hk)
 have hap:blk (some ⟨q,0,none⟩)≠some g∧blk ao≠some g∧blk oo≠some g∧(∀ k,blk (some ⟨q,0,none⟩)=some k→blk ao≠some k∧blk oo≠some k)∧(∀ k,blk ao=some k→blk oo≠some k) :=
  ⟨fun e=>n1 (by simpa [blk] using e),h.ap.2.1,h.ap.2.2.1,fun k hk=>by simp [blk] at hk;subst hk;exact ⟨n2,n3⟩,h.ap.2.2.2.2⟩
 have o:∀ k,k≠g→(w1.setCell ⟨g,0,none⟩ (.slice (some ⟨q,0,none⟩) (b.seqs.length+1) cap)).heap[k]?=w1.heap[k]?:=fun k hk=>Below.heap_setCell _ _ _ _ hk
 refine ⟨⟨?_,h.lo,?_,?_,?_,hap,h.cl⟩,?_⟩
 ·have hc:=Go.heap_setCell_same w1 g 0 _ _ (.slice (some ⟨q,0,none⟩) (b.seqs.length+1) cap) (by rw [kg];exact h.cell)
  rw [hc];unfold bA Mt.PB.newSeq;simp
 ·have e1:b.newSeq.seqs.length=b.seqs.length+1:=by simp [Mt.PB.newSeq]
  have e2:b.newSeq.seqs.flatMap psC=b.seqs.flatMap psC++[.int .i64 (-1),.int .i64 (-1)]:=by simp [Mt.PB.newSeq,psC,Mt.ps0]
  rw [e1,e2]
  exact row_keep hown (fun k hk=>o k (by simp [blk] at hk;omega))
 ·exact row_keep h.atoms (fun k hk=>by rw [o k (fun e=>h.ap.2.1 (by rw [← e];exact hk)),ka k hk])
 ·exact row_keep h.opn (fun k hk=>by rw [o k (fun e=>h.ap.2.2.1 (by rw [← e];exact hk)),ko k hk])
 ·refine ⟨hg.os.trans h0.os,hg.tape.trans h0.tape,hg.output.trans h0.output,?_,fun k hk hn=>?_,fun k hk ho=>?_⟩
  ·have:=hg.size;have:=h0.size;simp [World.setCell];omega
  ·rw [o k (fun e=>hn (Or.inl e)),hg.block k (by have:=h0.size;omega) (fun e=>hn (Or.inr (Or.inl e.symm))),h0.block k hk]
  ·rcases ho with e | e | e | e
   ·exact Or.inl e
   ·simp [blk] at e
    subst e
    rcases hq with hq | hq
    ·exact Or.inr (Or.inl hq)
    ·omega
   ·exact Or.inr (Or.inr (Or.inl e))
   ·exact Or.inr (Or.inr (Or.inr e))
section
variable {L:Nat} {w:World} {g gs ga go:Nat} {b:Mt.PB} {so ao oo:Option Addr} {sc ac oc:Nat}
theorem psC_len (s:Mt.PS):(psC s).length=2:=rfl
theorem paC_len (a:Mt.PA):(paC a).length=20:=rfl
theorem bA_same {b b':Mt.PB} {so ao oo:Option Addr} {sc ac oc:Nat} (h1:b'.seqs.length=b.seqs.length) (h2:b'.atoms.length=b.atoms.length) (h3:b'.seq=b.seq) (h4:b'.last=b.last) (h5:b'.opn=b.opn) (h6:b'.groups=b.groups) (h7:b'.clo=b.clo):bA b' so ao oo sc ac oc=bA b so ao oo sc ac oc:=by
 unfold bA;rw [h1,h2,h3,h4,h5,h6,h7]
theorem BAt.seqSet (h:BAt L w g b (some ⟨gs,0,none⟩) ao oo sc ac oc) (i j:Nat) (v:Value) (s':Mt.PS) (hi:i<b.seqs.length) (hj:j<2) (he:psC s'=(psC (b.sAt i)).set j v) :
  BAt L (w.setCell ⟨gs,i*2+j,none⟩ v) g { b with seqs:=b.seqs.set i s' } (some ⟨gs,0,none⟩) ao oo sc ac oc:=by
 have o:∀ k,k≠gs→(w.setCell ⟨gs,i*2+j,none⟩ v).heap[k]?=w.heap[k]?:=fun k hk=>Below.heap_setCell _ _ _ _ hk
 have ne:gs≠g:=fun e=>h.ap.1 (by rw [blk_some,e])
 refine ⟨?_,h.lo,?_,row_keep h.atoms (fun k hk=>o k (fun e=>(h.ap.2.2.2.1 gs rfl).1 (by rw [← e];exact hk))),row_keep h.opn (fun k hk=>o k (fun e=>(h.ap.2.2.2.1 gs rfl).2 (by rw [← e];exact hk))),h.ap,h.cl⟩
 ·have e:bA { b with seqs:=b.seqs.set i s' } (some ⟨gs,0,none⟩) ao oo sc ac oc=bA b (some ⟨gs,0,none⟩) ao oo sc ac oc:=bA_same (by simp) rfl rfl rfl rfl rfl rfl
  rw [o g (Ne.symm ne),e];exact h.cell
 ·have r:=(World.ownsRow.stored h.seqs (i*2+j) v).1
  rw [flat_set psC 2 psC_len b.seqs i j v s' hi hj (fun a ha=>by rw [he];unfold Mt.PB.sAt;rw [List.getD_eq_getElem?_getD,ha];rfl)] at r
  simpa using r
theorem BAt.atomSet (h:BAt L w g b so (some ⟨ga,0,none⟩) oo sc ac oc) (i j:Nat) (vs:List Value) (a':Mt.PA) (hi:i<b.atoms.length) (hj:j+vs.length≤20) (he:paC a'=setMany (paC (b.aAt i)) j vs) :
  BAt L (w.setCells ga (i*20+j) vs) g { b with atoms:=b.atoms.set i a' } so (some ⟨ga,0,none⟩) oo sc ac oc:=by
 have o:∀ k,k≠ga→(w.setCells ga (i*20+j) vs).heap[k]?=w.heap[k]?:=fun k hk=>setCells_oth ga vs _ w k hk
 have ne:ga≠g:=fun e=>h.ap.2.1 (by rw [blk_some,e])
 refine ⟨?_,h.lo,row_keep h.seqs (fun k hk=>o k (fun e=>(h.ap.2.2.2.1 k hk).1 (by rw [e];rfl))),?_,row_keep h.opn (fun k hk=>o k (fun e=>h.ap.2.2.2.2 ga rfl (by rw [← e];exact hk))),h.ap,h.cl⟩
 ·have e:bA { b with atoms:=b.atoms.set i a' } so (some ⟨ga,0,none⟩) oo sc ac oc=bA b so (some ⟨ga,0,none⟩) oo sc ac oc:=bA_same rfl (by simp) rfl rfl rfl rfl rfl
  rw [o g (Ne.symm ne),e];exact h.cell
 ·have r:=row_setCells vs (i*20+j) w _ h.atoms
  rw [flat_setMany paC 20 paC_len b.atoms i j vs a' hi hj (fun a ha=>by rw [he];unfold Mt.PB.aAt;rw [List.getD_eq_getElem?_getD,ha];rfl)] at r
  simpa using r
theorem BAt.seqForm (h:BAt L w g b so ao oo sc ac oc) (hn:0<b.seqs.length):∃ gs,so=some ⟨gs,0,none⟩∧gs≠g∧gs<w.heap.size∧b.seqs.length≤sc:=by
 obtain ⟨gs,cap,hv,_,hlt⟩:=World.ownsRow.form h.seqs hn
 simp only [Value.slice.injEq] at hv
 obtain ⟨rfl,_,rfl⟩:=hv
 rcases h.seqs.2 with ⟨e,_⟩ | ⟨g',cap',cur,hv,_,_,hc,_⟩
 ·simp at e
 ·simp only [Value.slice.injEq] at hv
  exact ⟨gs,rfl,fun e=>h.ap.1 (by rw [blk_some,e]),hlt,by omega⟩
theorem BAt.atomForm (h:BAt L w g b so ao oo sc ac oc) (hn:0<b.atoms.length):∃ ga,ao=some ⟨ga,0,none⟩∧ga≠g∧ga<w.heap.size∧b.atoms.length≤ac:=by
 obtain ⟨gs,cap,hv,_,hlt⟩:=World.ownsRow.form h.atoms hn
 simp only [Value.slice.injEq] at hv
 obtain ⟨rfl,_,rfl⟩:=hv
 rcases h.atoms.2 with ⟨e,_⟩ | ⟨g',cap',cur,hv,_,_,hc,_⟩
 ·simp at e
 ·simp only [Value.slice.injEq] at hv
  exact ⟨gs,rfl,fun e=>h.ap.2.1 (by rw [blk_some,e]),hlt,by omega⟩
theorem BAt.opnForm (h:BAt L w g b so ao oo sc ac oc) (hn:0<b.opn.length):∃ go,oo=some ⟨go,0,none⟩∧go≠g∧go<w.heap.size∧b.opn.length≤oc:=by
 obtain ⟨gs,cap,hv,_,hlt⟩:=World.ownsRow.form h.opn hn
 simp only [Value.slice.injEq] at hv
 obtain ⟨rfl,_,rfl⟩:=hv
 rcases h.opn.2 with ⟨e,_⟩ | ⟨g',cap',cur,hv,_,_,hc,_⟩
 ·simp at e
 ·simp only [Value.slice.injEq] at hv
  exact ⟨gs,rfl,fun e=>h.ap.2.2.1 (by rw [blk_some,e]),hlt,by omega⟩
theorem flat_get {α:Type} (f:α→List Value) (k:Nat) (hk:∀ a,(f a).length=k) (d:α):∀ (l:List α) (i j:Nat),i<l.length→j<k→(l.flatMap f)[i*k+j]?=(f (l.getD i d))[j]?
 | [],i,j,h,_=>by simp at h
 | x::r,0,j,_,hj=>by
  rw [List.flatMap_cons,List.getElem?_append_left (by rw [hk];omega)];simp
 | x::r,i+1,j,hi,hj=>by
  have e:(i+1)*k+j=k+(i*k+j):=by rw [Nat.add_mul];omega
  rw [List.flatMap_cons,e,List.getElem?_append_right (by rw [hk];omega),hk,show k+(i*k+j)-k=i*k+j by omega,flat_get f k hk d r i j (by simpa using hi) hj]
  simp
theorem BAt.seqCell (h:BAt L w g b (some ⟨gs,0,none⟩) ao oo sc ac oc) (i j:Nat) (hi:i<b.seqs.length) (hj:j<2):w.cell? ⟨gs,i*2+j,none⟩=(psC (b.sAt i))[j]?∧w.frozen? ⟨gs,i*2+j,none⟩=false :=
 ⟨by rw [World.ownsRow.cellAt h.seqs _ (by omega),flat_get psC 2 psC_len Mt.ps0 _ _ _ hi hj];rfl,World.ownsRow.frozenAt h.seqs _⟩
theorem BAt.atomCell (h:BAt L w g b so (some ⟨ga,0,none⟩) oo sc ac oc) (i j:Nat) (hi:i<b.atoms.length) (hj:j<20):w.cell? ⟨ga,i*20+j,none⟩=(paC (b.aAt i))[j]?∧w.frozen? ⟨ga,i*20+j,none⟩=false :=
 ⟨by rw [World.ownsRow.cellAt h.atoms _ (by omega),flat_get paC 20 paC_len Mt.pa0 _ _ _ hi hj];rfl,World.ownsRow.frozenAt h.atoms _⟩
theorem BAt.opnCell (h:BAt L w g b so ao (some ⟨go,0,none⟩) sc ac oc) (i:Nat) (hi:i<b.opn.length):w.cell? ⟨go,i,none⟩=some (.int .i64 (b.opn.getD i 0:Nat)):=by
 rw [World.ownsRow.cellAt h.opn _ (by omega)]
 unfold opL
 rw [List.getElem?_map,List.getD_eq_getElem?_getD,List.getElem?_eq_getElem hi];rfl
theorem BAt.drew (h:BAt L w g b so ao oo sc ac oc):BAt L w.drew g b so ao oo sc ac oc:=h.keep (fun _ _=>rfl)
end
theorem newSequence_any {L:Nat} {w:World} {g:Nat} {b:Mt.PB} {so ao oo:Option Addr} {sc ac oc:Nat} (h:BAt L w g b so ao oo sc ac oc) (hn:b.seqs.length≤1000) :
  Calls Tryz.prog 55 #[.pointer (some ⟨g,0,none⟩)] w fun e w'=>e=.returned (.int .i64 b.seqs.length)∧∃ so' sc',BAt L w' g b.newSeq so' ao oo sc' ac oc∧BStep g so ao oo so' ao oo w w':=by
 obtain ⟨i0,hi,hz0,hz1,hz2⟩:=info_parts Tryz.infoSq
 have HB:Hid (BAt L w g b so ao oo sc ac oc):=h
 obtain ⟨c0,_,_,_,_,_,_,hf⟩:=h.cells
 have f0:=hf 0
 have hg:g<w.heap.size:=(h.lt g (Or.inl rfl)).2
 have hL:L≤w.heap.size:=by have:=h.lo;omega
 have HO:=h.seqs
 clear h hf
 generalize hN:b.seqs.length=N at *
 go_enter Tryz.func55,Tryz.ntmps55
 go_wp2_with (at_builtin;refine wpList_append_lies _ rfl (.tmp 8) (.tmp 10) 71 rfl L 122 i0 _ 2 16 Tryz.underlying71 hi hz0 hz1 hz2 rfl (by decide) _ _ _ rfl (HO.alloc _) ⟨w.heap.size,0,none⟩ 1 1 [.int .i64 (-1),.int .i64 (-1)] rfl rfl ?c1 ?c2 (by decide) ?c3 ?c4 ?c5 (w.heap.size+1) ?c6 ?_)
 case c1=>exact World.news_of_block (cs:=#[.int .i64 (-1),.int .i64 (-1)]) (heap_alloc_new _ _)
 case c2=>intro u hu;simp at hu;subst hu;rfl
 case c3=>unfold maxLen;omega
 case c4=>omega
 case c5=>simp;omega
 case c6=>simp
 ·intro q cap w1 hown hgrow hq hqlt
  rw [ownBlock_blk] at hgrow hq
  have hb0:Below w.heap.size w (w.alloc (.cells #[.int .i64 (-1),.int .i64 (-1)] 122)):=(Below.refl _ _).alloc (Nat.le_refl _) _
  subst hN
  have HM:=newSeq_mem HB.out hb0 (by simp) hgrow (by simpa using hq) hown
  have kg:w1.heap[g]?=w.heap[g]?:=HB.out.grown hb0 hgrow g (Or.inl rfl) (fun e=>HB.out.ap.1 e.symm)
  have d0:w1.cell? ⟨g,0,none⟩=some (.slice so b.seqs.length sc):=(World.cell?_of_block (a:=⟨g,0,none⟩) kg).trans c0
  have e0:w1.frozen? ⟨g,0,none⟩=false:=(World.frozen?_of_block (a:=⟨g,0,none⟩) kg).trans f0
  have HM':Hid (BAt L (w1.setCell ⟨g,0,none⟩ (.slice (some ⟨q,0,none⟩) (b.seqs.length+1) cap)) g b.newSeq (some ⟨q,0,none⟩) ao oo cap ac oc∧BStep g so ao oo (some ⟨q,0,none⟩) ao oo w (w1.setCell ⟨g,0,none⟩ (.slice (some ⟨q,0,none⟩) (b.seqs.length+1) cap))):=HM
  clear HM hown hgrow hq kg hb0 HO
  go_wp2_with fail
  go_returns
  refine ⟨?_,some ⟨q,0,none⟩,cap,HM'.out.1,HM'.out.2⟩
  go_num
end Go.Proofs.YtebpgfodelggoaaGreatDoor
namespace Mt
def PB.putAtom (b:PB) (t:PT):PB:={ b with atoms:=b.atoms++[⟨t,0,pt0,-1,b.seq,-1⟩] }
end Mt
namespace Go.Proofs.YtebpgfodelggoaaGreatDoor
open Go.RowKit
theorem Tryz.infoAt:(Tryz.prog.info? 134).map (fun i=>(i.zero,i.size,i.bytes))=some (some (.agg (paC ⟨Mt.pt0,0,Mt.pt0,0,0,0⟩).toArray),20,176):=by kernel_rfl
theorem build_atom (t:Mt.PT) (k:Int) (z:World):(Instr.build 134 #[(0,.agg (ptA t)),(3,.int .i64 (-1)),(4,.int .i64 k),(5,.int .i64 (-1))]).run Tryz.prog z=.ok (.agg (paC ⟨t,0,Mt.pt0,-1,k,-1⟩).toArray) z:=by
 unfold ptA paC ptL
 kernel_rfl
theorem fill_atom (x:Mt.PA) {i0:TypeInfo} (hz1:i0.size=20):Instr.fill (fun i=>some (i*i0.size,i0.size)) ((Array.range (1*i0.size)).map ((Value.agg (paC ⟨Mt.pt0,0,Mt.pt0,0,0,0⟩).toArray).cells[· % (Value.agg (paC ⟨Mt.pt0,0,Mt.pt0,0,0,0⟩).toArray).cells.size]!)) [(0,.agg (paC x).toArray)]=some (paC x).toArray:=by
 rw [hz1];unfold paC ptL;kernel_rfl
theorem step_build {P:Program} {ops:Array Oper} {o:Oper} {a:Act} {w:World} {K:Act→World→Prop} {Q:Exit→Act→World→Prop} {E:Prop} (hgd:o.guard=none) (t e:TypeId) (len:Nat) (parts:Array (Nat × Operand)) (ho:o.op=.buildSlice t len parts)
  (cells:Array Value) (ie:TypeInfo) (z:Value) (hu:P.underlying t=some (.slice e)) (hie:P.info? e=some ie) (hz:ie.zero=some z) (hsmall:¬ len*ie.size>2 ^ 24) (hpos:¬ len*ie.size=0)
  (hf:Instr.fill (fun i=>some (i*ie.size,ie.size)) ((Array.range (len*ie.size)).map (z.cells[· % z.cells.size]!)) (parts.map fun (i,x)=>(i,a.eval x)).toList=some cells)
  (h:K (a.put o.dst (.slice (some ⟨w.heap.size,0,none⟩) len len)) (w.alloc (.cells cells e))):if Region.wanted o (yielded ops a.tmps)=true then Oper.wp P o a w K Q else E:=by
 have hw:Region.wanted o (yielded ops a.tmps)=true:=by simp [Region.wanted,hgd]
 rw [if_pos hw]
 exact wp_buildSlice t e len parts ho cells ie z hu hie hz hsmall hpos hf h
theorem step_build1 {P:Program} {ops:Array Oper} {o:Oper} {a:Act} {w:World} {K:Act→World→Prop} {Q:Exit→Act→World→Prop} {E:Prop} (hgd:o.guard=none) (t e:TypeId) (x:Operand) (ho:o.op=.buildSlice t 1 #[(0,x)])
  (cells:Array Value) (ie:TypeInfo) (z v:Value) (hu:P.underlying t=some (.slice e)) (hie:P.info? e=some ie) (hz:ie.zero=some z) (hsmall:¬ 1*ie.size>2 ^ 24) (hpos:¬ 1*ie.size=0) (hx:a.eval x=v)
  (hf:Instr.fill (fun i=>some (i*ie.size,ie.size)) ((Array.range (1*ie.size)).map (z.cells[· % z.cells.size]!)) [(0,v)]=some cells)
  (h:K (a.put o.dst (.slice (some ⟨w.heap.size,0,none⟩) 1 1)) (w.alloc (.cells cells e))):if Region.wanted o (yielded ops a.tmps)=true then Oper.wp P o a w K Q else E :=
 step_build hgd t e 1 #[(0,x)] ho cells ie z hu hie hz hsmall hpos (by subst hx;simp only [List.map_toArray,List.map_cons,List.map_nil];exact hf) h
theorem atom_after {L:Nat} {w w1:World} {g:Nat} {b:Mt.PB} {so ao oo:Option Addr} {sc ac oc:Nat} {T E:Array Value} {ty te:TypeId} {n c:Nat} (h:BAt L w g b so ao oo sc ac oc) (hg:(((w.alloc (.cells T ty)).drew).alloc (.cells E te)).grownBy w1 (Value.slice ao n c).ownBlock) :
  w1.heap[w.heap.size]?=some (.cells T ty (0,0))∧(∀ o,w1.cell? ⟨g,o,none⟩=w.cell? ⟨g,o,none⟩)∧(∀ o,w1.frozen? ⟨g,o,none⟩=w.frozen? ⟨g,o,none⟩):=by
 rw [ownBlock_blk] at hg
 have hlg:g<w.heap.size:=(h.lt g (Or.inl rfl)).2
 have h1:w1.heap[w.heap.size]?=some (.cells T ty (0,0)):=by
  rw [hg.block _ (by simp;omega) (fun e=>by have:=(h.lt _ (Or.inr (Or.inr (Or.inl e.symm)))).2;omega),heap_old _ _ _ (by simp)]
  exact heap_alloc_new _ _
 have h2:w1.heap[g]?=w.heap[g]?:=by
  rw [hg.block _ (by simp;omega) (fun e=>h.ap.2.1 e.symm),heap_old _ _ _ (by simp;omega)]
  exact heap_old _ _ _ hlg
 exact ⟨h1,fun o=>World.cell?_of_block (a:=⟨g,o,none⟩) h2,fun o=>World.frozen?_of_block (a:=⟨g,o,none⟩) h2⟩
theorem putAtom_mem {L:Nat} {w w0 w1:World} {g:Nat} {b:Mt.PB} {so ao oo:Option Addr} {sc ac oc q cap:Nat} {t:Mt.PT} (h:BAt L w g b so ao oo sc ac oc) (h0:Below w.heap.size w w0) (hs0:w.heap.size<w0.heap.size) (hg:w0.grownBy w1 (blk ao)) (hq:blk ao=some q∨q=w0.heap.size)
  (hown:w1.ownsRow L 134 20 (.slice (some ⟨q,0,none⟩) (b.atoms.length+1) cap) (b.atoms.length+1) (b.atoms.flatMap paC++paC ⟨t,0,Mt.pt0,-1,b.seq,-1⟩)) :
  BAt L (w1.setCell ⟨g,1,none⟩ (.slice (some ⟨q,0,none⟩) (b.atoms.length+1) cap)) g (b.putAtom t) so (some ⟨q,0,none⟩) oo sc cap oc∧BStep g so ao oo so (some ⟨q,0,none⟩) oo w (w1.setCell ⟨g,1,none⟩ (.slice (some ⟨q,0,none⟩) (b.atoms.length+1) cap)):=by
 have hlt:∀ k,own g so ao oo k→k<w0.heap.size:=fun k hk=>by have:=(h.lt k hk).2;omega
 have n:q≠g∧blk so≠some q∧blk oo≠some q:=by
  rcases hq with e | e
  ·exact ⟨fun x=>h.ap.2.1 (by rw [e,x]),fun x=>(h.ap.2.2.2.1 q x).1 e,h.ap.2.2.2.2 q e⟩
  ·subst e
   exact ⟨fun e=>by have:=hlt g (Or.inl rfl);omega,fun e=>by have:=hlt _ (Or.inr (Or.inl e));omega,fun e=>by have:=hlt _ (Or.inr (Or.inr (Or.inr e)));omega⟩
 obtain ⟨n1,n2,n3⟩:=n
 have kg:w1.heap[g]?=w.heap[g]?:=h.grown h0 hg g (Or.inl rfl) (fun e=>h.ap.2.1 e.symm)
 have ks:∀ k,blk so=some k→w1.heap[k]?=w.heap[k]?:=fun k hk=>h.grown h0 hg k (Or.inr (Or.inl hk)) (fun e=>(h.ap.2.2.2.1 k hk).1 e.symm)
 have ko:∀ k,blk oo=some k→w1.heap[k]?=w.heap[k]?:=fun k hk=>h.grown h0 hg k (Or.inr (Or.inr (Or.inr hk))) (fun e=>h.ap.2.2.2.2 k e.symm hk)
 have hap:blk so≠some g∧blk (some ⟨q,0,none⟩)≠some g∧blk oo≠some g∧(∀ k,blk so=some k→blk (some ⟨q,0,none⟩)≠some k∧blk oo≠some k)∧(∀ k,blk (some ⟨q,0,none⟩)=some k→blk oo≠some k) :=
  ⟨h.ap.1,fun e=>n1 (by simpa [blk] using e),h.ap.2.2.1,fun k hk=>⟨fun e=>n2 (by simp [blk] at e;rw [hk,e]),(h.ap.2.2.2.1 k hk).2⟩,fun k hk=>by simp [blk] at hk;subst hk;exact n3⟩
 have o:∀ k,k≠g→(w1.setCell ⟨g,1,none⟩ (.slice (some ⟨q,0,none⟩) (b.atoms.length+1) cap)).heap[k]?=w1.heap[k]?:=fun k hk=>Below.heap_setCell _ _ _ _ hk
 refine ⟨⟨?_,h.lo,?_,?_,?_,hap,h.cl⟩,?_⟩
 ·have hc:=Go.heap_setCell_same w1 g 1 _ _ (.slice (some ⟨q,0,none⟩) (b.atoms.length+1) cap) (by rw [kg];exact h.cell)
  rw [hc];unfold bA Mt.PB.putAtom;simp
 ·exact row_keep h.seqs (fun k hk=>by rw [o k (fun e=>h.ap.1 (by rw [← e];exact hk)),ks k hk])
 ·have e1:(b.putAtom t).atoms.length=b.atoms.length+1:=by simp [Mt.PB.putAtom]
  have e2:(b.putAtom t).atoms.flatMap paC=b.atoms.flatMap paC++paC ⟨t,0,Mt.pt0,-1,b.seq,-1⟩:=by simp [Mt.PB.putAtom]
  rw [e1,e2]
  exact row_keep hown (fun k hk=>o k (by simp [blk] at hk;omega))
 ·exact row_keep h.opn (fun k hk=>by rw [o k (fun e=>h.ap.2.2.1 (by rw [← e];exact hk)),ko k hk])
 ·refine ⟨hg.os.trans h0.os,hg.tape.trans h0.tape,hg.output.trans h0.output,?_,fun k hk hn=>?_,fun k hk ho=>?_⟩
  ·have:=hg.size;have:=h0.size;simp [World.setCell];omega
  ·rw [o k (fun e=>hn (Or.inl e)),hg.block k (by have:=h0.size;omega) (fun e=>hn (Or.inr (Or.inr (Or.inl e.symm)))),h0.block k hk]
  ·rcases ho with e | e | e | e
   ·exact Or.inl e
   ·exact Or.inr (Or.inl e)
   ·simp [blk] at e
    subst e
    rcases hq with hq | hq
    ·exact Or.inr (Or.inr (Or.inl hq))
    ·omega
   ·exact Or.inr (Or.inr (Or.inr e))
theorem addAtom_prog {L:Nat} {w:World} {g:Nat} {b:Mt.PB} {so ao oo:Option Addr} {sc ac oc:Nat} (t:Mt.PT) (h:BAt L w g b so ao oo sc ac oc) (hn:b.atoms.length≤1000) (hs:b.seq<b.seqs.length) (hla:b.last=-1∨∃ k:Nat,b.last=k∧k<b.atoms.length) :
  Calls Tryz.prog 78 #[.pointer (some ⟨g,0,none⟩),ptV t] w fun e w'=>e=.returned (.tuple #[])∧∃ ao' ac',BAt L w' g (b.addAtom t) so ao' oo sc ac' oc∧BStep g so ao oo so ao' oo w w':=by
 obtain ⟨i0,hi,hz0,hz1,hz2⟩:=info_parts Tryz.infoAt
 have HB:Hid (BAt L w g b so ao oo sc ac oc):=h
 obtain ⟨c0,c1,c2,c3,_,_,_,hf⟩:=h.cells
 have f1:=hf 1
 have hg:g<w.heap.size:=(h.lt g (Or.inl rfl)).2
 have hL:L≤w.heap.size:=by have:=h.lo;omega
 have HO:Hid (w.ownsRow L 134 20 (.slice ao b.atoms.length ac) b.atoms.length (b.atoms.flatMap paC)):=h.atoms
 clear h hf
 unfold ptV
 go_enter Tryz.func78,Tryz.ntmps78
 go_upto_region 2 with fail
 go_cut [] (fun wx=>∃ q cap,BAt L wx g (b.putAtom t) so (some ⟨q,0,none⟩) oo sc cap oc∧BStep g so ao oo so (some ⟨q,0,none⟩) oo w wx)
 case first =>
  have hc1:∀ z:World,(z.heap[w.heap.size]?=some (.cells (ptA t) 115 (0,0))∧z.cell? ⟨g,2,none⟩=some (.int .i64 b.seq))→z.cell? ⟨g,2,none⟩=some (.int .i64 b.seq):=fun z hz=>hz.2
  have hcr:∀ z:World,(z.heap[w.heap.size]?=some (.cells (ptA t) 115 (0,0))∧z.cell? ⟨g,2,none⟩=some (.int .i64 b.seq))→z.rangeAt w.heap.size 0 (ptA t).toList:=fun z hz=>rangeAt_blk hz.1
  have S0:(w.alloc (.cells (ptA t) 115)).heap[w.heap.size]?=some (.cells (ptA t) 115 (0,0))∧(w.alloc (.cells (ptA t) 115)).cell? ⟨g,2,none⟩=some (.int .i64 b.seq):=⟨heap_alloc_new _ _,by rw [World.cell?_of_block (a:=⟨g,2,none⟩) (heap_old w _ g hg)];exact c2⟩
  refine wp_region_held_drew (S:=fun z:World=>z.heap[w.heap.size]?=some (.cells (ptA t) 115 (0,0))∧z.cell? ⟨g,2,none⟩=some (.int .i64 b.seq)) (by kernel_rfl) S0 (fun hH=>?_)
  refine takeAt 0 11 (.pointer (some ⟨g,0,none⟩)) rfl rfl (by kernel_rfl) (by kernel_rfl) (by kernel_rfl) (fun _ _ _ h=>h) (Or.inl ⟨by rfl,fun z hz=>by clear hH hz hc1 hcr S0;go_simp⟩) (by assumption) ?_
  simp only [Act.put,List.setIfInBounds_toArray,List.set_cons_zero,List.set_cons_succ]
  refine takeAt 1 12 (.pointer (some ⟨g,0,none⟩)) rfl rfl (by kernel_rfl) (by kernel_rfl) (by kernel_rfl) (fun _ _ _ h=>h) (Or.inl ⟨by rfl,fun z hz=>by clear hH hz hc1 hcr S0;go_simp⟩) (by assumption) ?_
  simp only [Act.put,List.setIfInBounds_toArray,List.set_cons_zero,List.set_cons_succ]
  refine takeAt 2 13 (.pointer (some ⟨g,0,none⟩)) rfl rfl (by kernel_rfl) (by kernel_rfl) (by kernel_rfl) (fun _ _ _ h=>h) (Or.inl ⟨by rfl,fun z hz=>by clear hH hz hc1 hcr S0;go_simp⟩) (by assumption) ?_
  simp only [Act.put,List.setIfInBounds_toArray,List.set_cons_zero,List.set_cons_succ]
  refine takeAt 3 14 (.pointer (some ⟨g,0,none⟩)) rfl rfl (by kernel_rfl) (by kernel_rfl) (by kernel_rfl) (fun _ _ _ h=>h) (Or.inl ⟨by rfl,fun z hz=>by clear hH hz hc1 hcr S0;go_simp⟩) (by assumption) ?_
  simp only [Act.put,List.setIfInBounds_toArray,List.set_cons_zero,List.set_cons_succ]
  refine takeAt 4 15 (.pointer (some ⟨g,1,none⟩)) rfl rfl (by kernel_rfl) (by kernel_rfl) (by kernel_rfl) (fun _ _ _ h=>h) (Or.inl ⟨by rfl,fun z hz=>by clear hH hz hc1 hcr S0;go_simp⟩) (by assumption) ?_
  simp only [Act.put,List.setIfInBounds_toArray,List.set_cons_zero,List.set_cons_succ]
  refine takeAt 6 17 (.agg (ptA t)) rfl rfl (by kernel_rfl) (by kernel_rfl) (by kernel_rfl) (fun _ _ _ h=>h) (yieldsIf_load_mid (by rfl) _ _ rfl _ _ rfl _ _ hcr Tryz.underlying115 rfl (by rw [Tryz.sizePT];rfl)) (by assumption) ?_
  simp only [Act.put,List.setIfInBounds_toArray,List.set_cons_zero,List.set_cons_succ]
  refine takeAt 7 18 (.pointer (some ⟨g,0,none⟩)) rfl rfl (by kernel_rfl) (by kernel_rfl) (by kernel_rfl) (fun _ _ _ h=>h) (Or.inl ⟨by rfl,fun z hz=>by clear hH hz hc1 hcr S0;go_simp⟩) (by assumption) ?_
  simp only [Act.put,List.setIfInBounds_toArray,List.set_cons_zero,List.set_cons_succ]
  refine takeAt 8 19 (.pointer (some ⟨g,0,none⟩)) rfl rfl (by kernel_rfl) (by kernel_rfl) (by kernel_rfl) (fun _ _ _ h=>h) (Or.inl ⟨by rfl,fun z hz=>by clear hH hz hc1 hcr S0;go_simp⟩) (by assumption) ?_
  simp only [Act.put,List.setIfInBounds_toArray,List.set_cons_zero,List.set_cons_succ]
  refine takeAt 9 20 (.pointer (some ⟨g,2,none⟩)) rfl rfl (by kernel_rfl) (by kernel_rfl) (by kernel_rfl) (fun _ _ _ h=>h) (Or.inl ⟨by rfl,fun z hz=>by clear hH hz hc1 hcr S0;go_simp⟩) (by assumption) ?_
  simp only [Act.put,List.setIfInBounds_toArray,List.set_cons_zero,List.set_cons_succ]
  refine takeAt 10 21 (.int .i64 b.seq) rfl rfl (by kernel_rfl) (by kernel_rfl) (by kernel_rfl) (fun _ _ _ h=>h) (Or.inl ⟨by rfl,fun z hz=>by have hz2:=hc1 z hz;clear hH hz hc1 hcr S0;go_simp⟩) (by assumption) ?_
  simp only [Act.put,List.setIfInBounds_toArray,List.set_cons_zero,List.set_cons_succ]
  refine takeAt 11 22 (.agg (paC ⟨t,0,Mt.pt0,-1,b.seq,-1⟩).toArray) rfl rfl (by kernel_rfl) (by kernel_rfl) (by kernel_rfl) (fun _ _ _ h=>h) (Or.inl ⟨by rfl,fun z hz=>by refine buildRun (t:=134) (parts:=#[(0,.tmp 17),(3,.const (.int .i64 (-1))),(4,.tmp 21),(5,.const (.int .i64 (-1)))]) rfl ?_;simp only [List.map_toArray,List.map_cons,List.map_nil];exact build_atom t b.seq z⟩) (by assumption) ?_
  simp only [Act.put,List.setIfInBounds_toArray,List.set_cons_zero,List.set_cons_succ]
  have S1:((w.alloc (.cells (ptA t) 115)).drew.alloc (.cells (paC ⟨t,0,Mt.pt0,-1,b.seq,-1⟩).toArray 134)).heap[w.heap.size]?=some (.cells (ptA t) 115 (0,0))∧((w.alloc (.cells (ptA t) 115)).drew.alloc (.cells (paC ⟨t,0,Mt.pt0,-1,b.seq,-1⟩).toArray 134)).cell? ⟨g,2,none⟩=some (.int .i64 b.seq) :=
   ⟨(heap_old _ _ _ (by simp)).trans S0.1,(World.cell?_of_block (a:=⟨g,2,none⟩) (heap_old (w.alloc (.cells (ptA t) 115)).drew _ g (by simp;omega))).trans S0.2⟩
  have hsz:(w.alloc (.cells (ptA t) 115)).drew.heap.size=w.heap.size+1:=by simp
  have hnw:((w.alloc (.cells (ptA t) 115)).drew.alloc (.cells (paC ⟨t,0,Mt.pt0,-1,b.seq,-1⟩).toArray 134)).heap[w.heap.size+1]?=some (.cells (paC ⟨t,0,Mt.pt0,-1,b.seq,-1⟩).toArray 134 (0,0)):=by
   rw [← hsz];exact heap_alloc_new _ _
  refine wpAnyH_ready (rs:=[5,12]) (by kernel_rfl) (by simp) ?_
  refine AllReadyH.cons rfl (fun K hK=>?_) (AllReadyH.cons rfl (fun K hK=>?_) AllReadyH.nil)
  all_goals
   first
   | (
     refine step_build1 rfl 72 134 (.tmp 22) rfl (paC ⟨t,0,Mt.pt0,-1,b.seq,-1⟩).toArray i0 _ (.agg (paC ⟨t,0,Mt.pt0,-1,b.seq,-1⟩).toArray) Tryz.underlying72 hi hz0 (by rw [hz1];decide) (by rw [hz1];decide) (by rfl) (fill_atom _ hz1) ?_
     refine hK.out _ _ S1 (fun hH2=>?_)
     clear hK K
     simp only [Act.put,List.setIfInBounds_toArray,List.set_cons_zero,List.set_cons_succ]
     refine wpAnyH_ready (rs:=[5]) (by kernel_rfl) (by simp) ?_
     refine AllReadyH.cons rfl (fun K hK=>?_) AllReadyH.nil
     try clear hH
     try clear hcr
     go_simp
     refine hK.out _ _ S1 (fun hH4=>?_)
     clear hK K
     )
   | (
     try clear hH
     try clear hcr
     go_simp
     refine hK.out _ _ S0 (fun hH4=>?_)
     clear hK K
     refine wpAnyH_ready (rs:=[12]) (by kernel_rfl) (by simp) ?_
     refine AllReadyH.cons rfl (fun K hK=>?_) AllReadyH.nil
     refine step_build1 rfl 72 134 (.tmp 22) rfl (paC ⟨t,0,Mt.pt0,-1,b.seq,-1⟩).toArray i0 _ (.agg (paC ⟨t,0,Mt.pt0,-1,b.seq,-1⟩).toArray) Tryz.underlying72 hi hz0 (by rw [hz1];decide) (by rw [hz1];decide) (by rfl) (fill_atom _ hz1) ?_
     refine hK.out _ _ S1 (fun hH2=>?_)
     clear hK K
     simp only [Act.put,List.setIfInBounds_toArray,List.set_cons_zero,List.set_cons_succ,hsz]
     )
  all_goals
   refine wpAnyH_ready (rs:=[13]) (by kernel_rfl) (by simp) ?_
   refine AllReadyH.cons rfl (fun K hK=>?_) AllReadyH.nil
   refine step_append_lies _ rfl (.tmp 16) (.tmp 23) 72 rfl L 134 i0 _ 20 176 Tryz.underlying72 hi hz0 hz1 hz2 rfl (by decide) (.slice ao b.atoms.length ac) b.atoms.length (b.atoms.flatMap paC) (by rfl) (World.ownsRow.alloc (w:=(w.alloc (.cells (ptA t) 115)).drew) (HO.out.alloc _) _) ⟨w.heap.size+1,0,none⟩ 1 1 (paC ⟨t,0,Mt.pt0,-1,b.seq,-1⟩) (by rfl) (by rfl) (World.news_of_block (cs:=(paC ⟨t,0,Mt.pt0,-1,b.seq,-1⟩).toArray) hnw) (by intro u hu;simp [paC,ptL] at hu;rcases hu with h | h | h | h | h | h | h | h | h | h | h | h | h | h | h | h | h | h | h | h <;> subst h <;> rfl) (by decide) (by unfold maxLen;omega) (by omega) (by simp;omega) (w.heap.size+2) (by simp) ?_
   intro q cap w1 hown hgrow hq hqlt
   obtain ⟨A1,A2,A3⟩:=atom_after HB.out hgrow
   refine hK.out _ _ ⟨A1,(A2 2).trans c2⟩ (fun hH3=>?_)
   clear hK K
   have d1:=(A2 1).trans c1
   have e1:=(A3 1).trans f1
   have HM:Hid (BAt L (w1.setCell ⟨g,1,none⟩ (.slice (some ⟨q,0,none⟩) (b.atoms.length+1) cap)) g (b.putAtom t) so (some ⟨q,0,none⟩) oo sc cap oc∧BStep g so ao oo so (some ⟨q,0,none⟩) oo w (w1.setCell ⟨g,1,none⟩ (.slice (some ⟨q,0,none⟩) (b.atoms.length+1) cap))) :=
    putAtom_mem HB.out (w0:=(w.alloc (.cells (ptA t) 115)).drew.alloc (.cells (paC ⟨t,0,Mt.pt0,-1,b.seq,-1⟩).toArray 134)) ((((Below.refl _ _).alloc (Nat.le_refl _) _).drew).alloc (by simp) _) (by simp;omega) (by rw [ownBlock_blk] at hgrow;exact hgrow) (by rw [ownBlock_blk] at hq;simpa using hq) hown
   have SZ:w.heap.size<w1.heap.size:=(Array.getElem?_eq_some_iff.1 A1).1
   have S4:(w1.setCell ⟨g,1,none⟩ (.slice (some ⟨q,0,none⟩) (b.atoms.length+1) cap)).heap[w.heap.size]?=some (.cells (ptA t) 115 (0,0))∧(w1.setCell ⟨g,1,none⟩ (.slice (some ⟨q,0,none⟩) (b.atoms.length+1) cap)).cell? ⟨g,2,none⟩=some (.int .i64 b.seq) :=
    ⟨(Below.heap_setCell _ _ _ _ (by show w.heap.size≠g;omega)).trans A1,HM.out.1.cells.2.2.1⟩
   clear A2 A3 hgrow hown hq S0 S1
   simp only [Act.put,List.setIfInBounds_toArray,List.set_cons_zero,List.set_cons_succ]
   refine takeAt 14 25 (.pointer (some ⟨g,0,none⟩)) rfl rfl (by kernel_rfl) (by kernel_rfl) (by kernel_rfl) (fun _ _ _ h=>h) (Or.inl ⟨by rfl,fun z hz=>by clear hH3 hz hc1 S4;go_simp⟩) (by assumption) ?_
   simp only [Act.put,List.setIfInBounds_toArray,List.set_cons_zero,List.set_cons_succ]
   refine takeAt 15 26 (.pointer (some ⟨g,0,none⟩)) rfl rfl (by kernel_rfl) (by kernel_rfl) (by kernel_rfl) (fun _ _ _ h=>h) (Or.inl ⟨by rfl,fun z hz=>by clear hH3 hz hc1 S4;go_simp⟩) (by assumption) ?_
   simp only [Act.put,List.setIfInBounds_toArray,List.set_cons_zero,List.set_cons_succ]
   refine takeAt 16 27 (.pointer (some ⟨g,1,none⟩)) rfl rfl (by kernel_rfl) (by kernel_rfl) (by kernel_rfl) (fun _ _ _ h=>h) (Or.inl ⟨by rfl,fun z hz=>by clear hH3 hz hc1 S4;go_simp⟩) (by assumption) ?_
   simp only [Act.put,List.setIfInBounds_toArray,List.set_cons_zero,List.set_cons_succ]
   refine wpAnyH_ready (rs:=[17]) (by kernel_rfl) (by simp) ?_
   refine AllReadyH.cons rfl (fun K hK=>?_) AllReadyH.nil
   clear hc1
   go_simp
   refine hK.out _ _ S4 (fun hH4=>?_)
   clear hK K
   refine wpAnyH_done (by kernel_rfl) ?_ _
   go_wp2_with fail
   go_meet
   case rel=>exact ⟨q,cap,HM.out.1,HM.out.2⟩
 case rest =>
  obtain ⟨q,cap,hP,hSt⟩:=hcut
  have HP:Hid (BAt L wc g (b.putAtom t) so (some ⟨q,0,none⟩) oo sc cap oc):=hP
  have HSt:Hid (BStep g so ao oo so (some ⟨q,0,none⟩) oo w wc):=hSt
  obtain ⟨x0,x1,x2,x3,_,_,_,hxf⟩:=hP.cells
  have y3:=hxf 3
  obtain ⟨gs,hso,gs1,gs2,gs3⟩:=hP.seqForm (by show 0<b.seqs.length;omega)
  subst hso
  have len1:(b.putAtom t).atoms.length=b.atoms.length+1:=by simp [Mt.PB.putAtom]
  have len2:b.atoms.length+1≤cap:=by
   obtain ⟨_,_,_,_,hh⟩:=hP.atomForm (by omega)
   omega
  have hqg:q≠g:=fun e=>hP.ap.2.1 (by rw [blk_some,e])
  have hgw:g<wc.heap.size:=(hP.lt g (Or.inl rfl)).2
  rw [len1] at x1
  change wc.cell? ⟨g,0,none⟩=some (.slice (some ⟨gs,0,none⟩) b.seqs.length sc) at x0
  change wc.cell? ⟨g,2,none⟩=some (.int .i64 b.seq) at x2
  change wc.cell? ⟨g,3,none⟩=some (.int .i64 b.last) at x3
  change b.seqs.length≤sc at gs3
  rcases hla with hl | ⟨k,hl,hk⟩
  ·have sc0:=hP.seqCell b.seq 0 hs (by decide)
   have sc1:=sc0.1
   have sc2:=sc0.2
   rw [show b.seq*2+0=b.seq*2 by omega] at sc1 sc2
   change wc.cell? ⟨gs,b.seq*2,none⟩=some (.int .i64 (b.sAt b.seq).first) at sc1
   rw [hl] at x3
   have HL:Hid (b.last=-1):=hl
   clear hP hSt hxf sc0 hl
   go_wp2_with fail
   go_region
   go_wp2_with fail
   go_returns
   have M1:=HP.out.seqSet b.seq 0 (.int .i64 b.atoms.length) ⟨b.atoms.length,(b.sAt b.seq).next⟩ hs (by decide) rfl
   rw [show b.seq*2+0=b.seq*2 by omega] at M1
   have M2:=M1.drew
   have M3:=M2.field (k:=3) (v:=.int .i64 b.atoms.length) (b':=b.addAtom t) (so':=some ⟨gs,0,none⟩) (ao':=some ⟨q,0,none⟩) (oo':=oo) (sc':=sc) (ac':=cap) (oc':=oc) (by unfold bA Mt.PB.addAtom Mt.PB.putAtom;rw [if_pos HL.out];simp) (by unfold Mt.PB.addAtom;rw [if_pos HL.out];exact M2.seqs) (by unfold Mt.PB.addAtom;rw [if_pos HL.out];exact M2.atoms) (by unfold Mt.PB.addAtom;rw [if_pos HL.out];exact M2.opn) M2.ap (by unfold Mt.PB.addAtom;rw [if_pos HL.out];exact M2.cl)
   refine ⟨rfl,some ⟨q,0,none⟩,cap,M3,?_⟩
   exact ((HSt.out.set (p:=⟨gs,b.seq*2,none⟩) (Or.inr (Or.inl rfl)) _).drew).set (p:=⟨g,3,none⟩) (Or.inl rfl) _
  ·have ac0:=hP.atomCell k 19 (by omega) (by decide)
   have ac1:=ac0.1
   have ac2:=ac0.2
   have ea:(b.putAtom t).aAt k=b.aAt k:=by
    unfold Mt.PB.aAt Mt.PB.putAtom;dsimp only;rw [Mt.getD_app,if_neg (by omega)]
   rw [ea] at ac1
   change wc.cell? ⟨q,k*20+19,none⟩=some (.int .i64 (b.aAt k).next) at ac1
   rw [hl] at x3
   have HL:Hid (b.last=k):=hl
   have bt:((k:Int)==-1)=false:=by simp
   clear hP hSt hxf ac0 hl ea
   go_wp2_with fail
   go_region
   go_wp2_with fail
   go_returns
   have M1:=HP.out.atomSet k 19 [.int .i64 b.atoms.length] { b.aAt k with next:=b.atoms.length } (by omega) (by simp) (by
    have ea:(b.putAtom t).aAt k=b.aAt k:=by
     unfold Mt.PB.aAt Mt.PB.putAtom;dsimp only;rw [Mt.getD_app,if_neg (by omega)]
    rw [ea];rfl)
   have M2:=M1.drew
   have hne:¬ b.last=-1:=by rw [HL.out];omega
   have hto:b.last.toNat=k:=by rw [HL.out];simp
   have M3:=M2.field (k:=3) (v:=.int .i64 b.atoms.length) (b':=b.addAtom t) (so':=some ⟨gs,0,none⟩) (ao':=some ⟨q,0,none⟩) (oo':=oo) (sc':=sc) (ac':=cap) (oc':=oc) (by unfold bA Mt.PB.addAtom Mt.PB.putAtom;rw [if_neg hne];simp) (by unfold Mt.PB.addAtom;rw [if_neg hne];exact M2.seqs) (by unfold Mt.PB.addAtom;rw [if_neg hne];dsimp only;rw [hto];exact M2.atoms) (by unfold Mt.PB.addAtom;rw [if_neg hne];exact M2.opn) M2.ap (by unfold Mt.PB.addAtom;rw [if_neg hne];exact M2.cl)
   refine ⟨rfl,some ⟨q,0,none⟩,cap,M3,?_⟩
   exact ((HSt.out.set (p:=⟨q,k*20+19,none⟩) (Or.inr (Or.inr (Or.inl rfl))) _).drew).set (p:=⟨g,3,none⟩) (Or.inl rfl) _
end Go.Proofs.YtebpgfodelggoaaGreatDoor
