import Derived.Test.YtebpgfodelggoabC26
import Derived.Test.YtebpgfodelggoabC09
import Derived.Deep.AppendLies
import Derived.Deep.RegionLaw
import Derived.Deep.RegionHeld3
import Derived.Test.YtebpgfodelggoabC24
import Derived.Deep.DeepCutAuto
import Derived.Great.BuildSlice
set_option linter.unusedVariables false
set_option linter.unusedSimpArgs false
set_option maxRecDepth 100000
set_option maxHeartbeats 1000000
namespace Go.Proofs.Ytebpgfodelggoab
open Go.RowKit
def psC (s:Mt.PS):List Value:=[.int .i64 s.first,.int .i64 s.next]
def ptL (t:Mt.PT):List Value:=[.int .i64 t.kind,.int .i64 t.en,.int .i64 t.group,.int .i64 t.number,.int .i64 t.least,.int .i64 t.most,.int .i64 t.mood,.string ⟨t.set.toArray⟩]
def paC (a:Mt.PA):List Value:=ptL a.tok++.int .i64 a.num::(ptL a.rep++[.int .i64 a.body,.int .i64 a.home,.int .i64 a.next])
def opL (l:List Nat):List Value:=l.map fun k:Nat=>Value.int .i64 (k:Int)
def bA (b:Mt.PB) (so ao oo:Option Addr) (sc ac oc:Nat):Array Value :=
 (.slice so b.seqs.length sc::.slice ao b.atoms.length ac::.int .i64 b.seq::.int .i64 b.last::.slice oo b.opn.length oc::.int .i64 b.groups::b.clo.map Value.bool).toArray
def blk (o:Option Addr):Option Nat:=o.map (·.block)
structure BAt (L:Nat) (w:World) (g:Nat) (b:Mt.PB) (so ao oo:Option Addr) (sc ac oc:Nat):Prop where
 cell:w.heap[g]?=some (.cells (bA b so ao oo sc ac oc) 118 (0,0))
 lo:L≤g
 seqs:w.ownsRow L 129 2 (.slice so b.seqs.length sc) b.seqs.length (b.seqs.flatMap psC)
 atoms:w.ownsRow L 142 20 (.slice ao b.atoms.length ac) b.atoms.length (b.atoms.flatMap paC)
 opn:w.ownsRow L 3 1 (.slice oo b.opn.length oc) b.opn.length (opL b.opn)
 ap:blk so≠some g∧blk ao≠some g∧blk oo≠some g∧(∀ q,blk so=some q→blk ao≠some q∧blk oo≠some q)∧(∀ q,blk ao=some q→blk oo≠some q)
 cl:b.clo.length=10
def own (g:Nat) (so ao oo:Option Addr) (k:Nat):Prop:=k=g∨blk so=some k∨blk ao=some k∨blk oo=some k
structure BStep (g:Nat) (so ao oo so' ao' oo':Option Addr) (w w':World):Prop where
 os:w'.os=w.os
 tape:w'.tape=w.tape
 output:w'.output=w.output
 size:w.heap.size≤w'.heap.size
 block:∀ k,k<w.heap.size→¬ own g so ao oo k→w'.heap[k]?=w.heap[k]?
 sub:∀ k,k<w.heap.size→own g so' ao' oo' k→own g so ao oo k
theorem BStep.refl (g:Nat) (so ao oo:Option Addr) (w:World):BStep g so ao oo so ao oo w w:=⟨rfl,rfl,rfl,Nat.le_refl _,fun _ _ _=>rfl,fun _ _ h=>h⟩
theorem BStep.trans {g:Nat} {so ao oo so' ao' oo' so2 ao2 oo2:Option Addr} {a b c:World} (h:BStep g so ao oo so' ao' oo' a b) (k:BStep g so' ao' oo' so2 ao2 oo2 b c):BStep g so ao oo so2 ao2 oo2 a c :=
 ⟨k.os.trans h.os,k.tape.trans h.tape,k.output.trans h.output,Nat.le_trans h.size k.size,
 fun i hi hn=>(k.block i (Nat.lt_of_lt_of_le hi h.size) (fun ho=>hn (h.sub i hi ho))).trans (h.block i hi hn),
 fun i hi ho=>h.sub i hi (k.sub i (Nat.lt_of_lt_of_le hi h.size) ho)⟩
theorem BStep.below {g:Nat} {so ao oo:Option Addr} {a b:World} (h:Below a.heap.size a b):BStep g so ao oo so ao oo a b :=
 ⟨h.os,h.tape,h.output,h.size,fun i hi _=>h.block i hi,fun _ _ h=>h⟩
theorem BStep.alloc {g:Nat} {so ao oo so' ao' oo':Option Addr} {a w:World} (h:BStep g so ao oo so' ao' oo' a w) (o:Obj):BStep g so ao oo so' ao' oo' a (w.alloc o) :=
 h.trans (BStep.below ((Below.refl _ _).alloc (Nat.le_refl _) o))
theorem BStep.drew {g:Nat} {so ao oo so' ao' oo':Option Addr} {a w:World} (h:BStep g so ao oo so' ao' oo' a w):BStep g so ao oo so' ao' oo' a w.drew:=h.trans (BStep.below (Below.refl _ _).drew)
theorem BStep.set {g:Nat} {so ao oo so' ao' oo':Option Addr} {a w:World} (h:BStep g so ao oo so' ao' oo' a w) {p:Addr} (hp:own g so' ao' oo' p.block) (u:Value):BStep g so ao oo so' ao' oo' a (w.setCell p u) :=
 h.trans ⟨rfl,rfl,rfl,by simp [World.setCell],fun i hi hn=>Below.heap_setCell _ _ _ _ (fun e=>hn (by rw [e];exact hp)),fun _ _ h=>h⟩
section
variable {L:Nat} {w:World} {g:Nat} {b:Mt.PB} {so ao oo:Option Addr} {sc ac oc:Nat}
theorem row_keep {w':World} {e:TypeId} {s n cap:Nat} {o:Option Addr} {xs:List Value} (h:w.ownsRow L e s (.slice o n cap) n xs) (hb:∀ q,blk o=some q→w'.heap[q]?=w.heap[q]?):w'.ownsRow L e s (.slice o n cap) n xs:=by
 refine ⟨h.1,?_⟩
 rcases h.2 with h' | ⟨g',cap',cur,hv,h0,hg,rest⟩
 ·exact .inl h'
 ·simp only [Value.slice.injEq] at hv
  obtain ⟨rfl,_,rfl⟩:=hv
  exact .inr ⟨g',cap,cur,rfl,h0,by rw [hb g' rfl];exact hg,rest⟩
theorem BAt.keep {w':World} (h:BAt L w g b so ao oo sc ac oc) (hk:∀ k,own g so ao oo k→w'.heap[k]?=w.heap[k]?):BAt L w' g b so ao oo sc ac oc :=
 ⟨by rw [hk g (Or.inl rfl)];exact h.cell,h.lo,row_keep h.seqs (fun q hq=>hk q (Or.inr (Or.inl hq))),row_keep h.atoms (fun q hq=>hk q (Or.inr (Or.inr (Or.inl hq)))),row_keep h.opn (fun q hq=>hk q (Or.inr (Or.inr (Or.inr hq)))),h.ap,h.cl⟩
theorem BAt.lt (h:BAt L w g b so ao oo sc ac oc):∀ k,own g so ao oo k→L≤k∧k<w.heap.size:=by
 rintro k (rfl | hk | hk | hk)
 ·exact ⟨h.lo,(Array.getElem?_eq_some_iff.1 h.cell).1⟩
 ·exact World.ownsRow.lt h.seqs k (by cases so with | none=>simp [blk] at hk | some a=>simpa [blk,Value.ownBlock] using hk)
 ·exact World.ownsRow.lt h.atoms k (by cases ao with | none=>simp [blk] at hk | some a=>simpa [blk,Value.ownBlock] using hk)
 ·exact World.ownsRow.lt h.opn k (by cases oo with | none=>simp [blk] at hk | some a=>simpa [blk,Value.ownBlock] using hk)
theorem BAt.below {w':World} (h:BAt L w g b so ao oo sc ac oc) (hb:Below w.heap.size w w'):BAt L w' g b so ao oo sc ac oc :=
 h.keep (fun k hk=>hb.block k (h.lt k hk).2)
theorem BStep.low {so' ao' oo':Option Addr} {w':World} (h:BAt L w g b so ao oo sc ac oc) (hs:BStep g so ao oo so' ao' oo' w w') (hL:L≤w.heap.size):Below L w w' :=
 ⟨hs.os,hs.tape,hs.output,hs.size,fun k hk=>hs.block k (by omega) (fun ho=>by have:=(h.lt k ho).1;omega)⟩
theorem BAt.cells (h:BAt L w g b so ao oo sc ac oc):w.cell? ⟨g,0,none⟩=some (.slice so b.seqs.length sc)∧w.cell? ⟨g,1,none⟩=some (.slice ao b.atoms.length ac)∧w.cell? ⟨g,2,none⟩=some (.int .i64 b.seq)∧w.cell? ⟨g,3,none⟩=some (.int .i64 b.last)∧w.cell? ⟨g,4,none⟩=some (.slice oo b.opn.length oc)∧w.cell? ⟨g,5,none⟩=some (.int .i64 b.groups) ∧
  (∀ k,k<10→w.cell? ⟨g,6+k,none⟩=some (.bool (b.clo.getD k false)))∧(∀ k,w.frozen? ⟨g,k,none⟩=false):=by
 have hb:=cell_block h.cell
 refine ⟨hb.1 0,hb.1 1,hb.1 2,hb.1 3,hb.1 4,hb.1 5,fun k hk=>?_,hb.2⟩
 rw [hb.1]
 unfold bA
 rw [List.getElem?_toArray,show 6+k=k+1+1+1+1+1+1 by omega]
 simp only [List.getElem?_cons_succ,List.getElem?_map]
 rw [List.getD_eq_getElem?_getD,List.getElem?_eq_getElem (by rw [h.cl];exact hk)];rfl
theorem BAt.field {b':Mt.PB} {so' ao' oo':Option Addr} {sc' ac' oc' k:Nat} {v:Value} (h:BAt L w g b so ao oo sc ac oc) (he:(bA b so ao oo sc ac oc).setIfInBounds k v=bA b' so' ao' oo' sc' ac' oc')
  (h1:w.ownsRow L 129 2 (.slice so' b'.seqs.length sc') b'.seqs.length (b'.seqs.flatMap psC)) (h2:w.ownsRow L 142 20 (.slice ao' b'.atoms.length ac') b'.atoms.length (b'.atoms.flatMap paC)) (h3:w.ownsRow L 3 1 (.slice oo' b'.opn.length oc') b'.opn.length (opL b'.opn))
  (hap:blk so'≠some g∧blk ao'≠some g∧blk oo'≠some g∧(∀ q,blk so'=some q→blk ao'≠some q∧blk oo'≠some q)∧(∀ q,blk ao'=some q→blk oo'≠some q)) (hcl:b'.clo.length=10) :
  BAt L (w.setCell ⟨g,k,none⟩ v) g b' so' ao' oo' sc' ac' oc':=by
 have hc:=Go.heap_setCell_same w g k _ _ v h.cell
 rw [he] at hc
 have o:∀ q,q≠g→(w.setCell ⟨g,k,none⟩ v).heap[q]?=w.heap[q]?:=fun q hq=>Below.heap_setCell _ _ _ _ hq
 exact ⟨hc,h.lo,row_keep h1 (fun q hq=>o q (fun e=>hap.1 (by rw [← e];exact hq))),row_keep h2 (fun q hq=>o q (fun e=>hap.2.1 (by rw [← e];exact hq))),row_keep h3 (fun q hq=>o q (fun e=>hap.2.2.1 (by rw [← e];exact hq))),hap,hcl⟩
end
end Go.Proofs.Ytebpgfodelggoab
namespace Mt
def PB.newSeq (b:PB):PB:={ b with seqs:=b.seqs++[ps0] }
end Mt
namespace Go.Proofs.Ytebpgfodelggoab
open Go.RowKit
theorem Try.infoSq:(Try.prog.info? 129).map (fun i=>(i.zero,i.size,i.bytes))=some (some (.agg #[.int .i64 0,.int .i64 0]),2,16):=by kernel_rfl
theorem own_new {g:Nat} {so ao oo:Option Addr} {q:Nat} {w:World} (h:blk so=some q∨q=w.heap.size) (hlt:∀ k,own g so ao oo k→k<w.heap.size) (ap:blk so≠some g∧blk ao≠some g∧blk oo≠some g∧(∀ q,blk so=some q→blk ao≠some q∧blk oo≠some q)∧(∀ q,blk ao=some q→blk oo≠some q)) :
  q≠g∧blk ao≠some q∧blk oo≠some q:=by
 rcases h with h | h
 ·exact ⟨fun e=>ap.1 (by rw [h,e]),(ap.2.2.2.1 q h).1,(ap.2.2.2.1 q h).2⟩
 ·subst h
  exact ⟨fun e=>by have:=hlt g (Or.inl rfl);omega,fun e=>by have:=hlt _ (Or.inr (Or.inr (Or.inl e)));omega,fun e=>by have:=hlt _ (Or.inr (Or.inr (Or.inr e)));omega⟩
theorem blk_some (q o:Nat):blk (some ⟨q,o,none⟩)=some q:=rfl
theorem ownBlock_blk (o:Option Addr) (n c:Nat):(Value.slice o n c).ownBlock=blk o:=by cases o <;> rfl
theorem BAt.grown {L:Nat} {w w0 w1:World} {g:Nat} {b:Mt.PB} {so ao oo:Option Addr} {sc ac oc:Nat} {r:Option Nat} (h:BAt L w g b so ao oo sc ac oc) (h0:Below w.heap.size w w0) (hg:w0.grownBy w1 r) (k:Nat) (hk:own g so ao oo k) (hr:some k≠r):w1.heap[k]?=w.heap[k]?:=by
 have hl:=(h.lt k hk).2
 rw [hg.block k (by have:=h0.size;omega) hr,h0.block k hl]
theorem newSeq_mem {L:Nat} {w w0 w1:World} {g:Nat} {b:Mt.PB} {so ao oo:Option Addr} {sc ac oc q cap:Nat} (h:BAt L w g b so ao oo sc ac oc) (h0:Below w.heap.size w w0) (hs0:w.heap.size<w0.heap.size) (hg:w0.grownBy w1 (blk so)) (hq:blk so=some q∨q=w0.heap.size)
  (hown:w1.ownsRow L 129 2 (.slice (some ⟨q,0,none⟩) (b.seqs.length+1) cap) (b.seqs.length+1) (b.seqs.flatMap psC++[.int .i64 (-1),.int .i64 (-1)])) :
  BAt L (w1.setCell ⟨g,0,none⟩ (.slice (some ⟨q,0,none⟩) (b.seqs.length+1) cap)) g b.newSeq (some ⟨q,0,none⟩) ao oo cap ac oc∧BStep g so ao oo (some ⟨q,0,none⟩) ao oo w (w1.setCell ⟨g,0,none⟩ (.slice (some ⟨q,0,none⟩) (b.seqs.length+1) cap)):=by
 have hlt:∀ k,own g so ao oo k→k<w0.heap.size:=fun k hk=>by have:=(h.lt k hk).2;omega
 obtain ⟨n1,n2,n3⟩:=own_new (g:=g) (ao:=ao) (oo:=oo) hq hlt h.ap
 have kg:w1.heap[g]?=w.heap[g]?:=h.grown h0 hg g (Or.inl rfl) (fun e=>h.ap.1 e.symm)
 have ka:∀ k,blk ao=some k→w1.heap[k]?=w.heap[k]?:=fun k hk=>h.grown h0 hg k (Or.inr (Or.inr (Or.inl hk))) (fun e=>(h.ap.2.2.2.1 k e.symm).1 hk)
 have ko:∀ k,blk oo=some k→w1.heap[k]?=w.heap[k]?:=fun k hk=>h.grown h0 hg k (Or.inr (Or.inr (Or.inr hk))) (fun e=>(h.ap.2.2.2.1 k e.symm).2 hk)
 have hap:blk (some ⟨q,0,none⟩)≠some g∧blk ao≠some g∧blk oo≠some g∧(∀ k,blk (some ⟨q,0,none⟩)=some k→blk ao≠some k∧blk oo≠some k)∧(∀ k,blk ao=some k→blk oo≠some k) :=
  ⟨fun e=>n1 (by simpa [blk] using e),h.ap.2.1,h.ap.2.2.1,fun k hk=>by simp [blk] at hk;subst hk;exact ⟨n2,n3⟩,h.ap.2.2.2.2⟩
 have o:∀ k,k≠g→(w1.setCell ⟨g,0,none⟩ (.slice (some ⟨q,0,none⟩) (b.seqs.length+1) cap)).heap[k]?=w1.heap[k]?:=fun k hk=>Below.heap_setCell _ _ _ _ hk
 refine ⟨⟨?_,h.lo,?_,?_,?_,hap,h.cl⟩,?_⟩
 ·have hc:=Go.heap_setCell_same w1 g 0 _ _ (.slice (some ⟨q,0,none⟩) (b.seqs.length+1) cap) (by rw [kg];exact h.cell)
  rw [hc];unfold bA Mt.PB.newSeq;simp
 ·have e1:b.newSeq.seqs.length=b.seqs.length+1:=by simp [Mt.PB.newSeq]
  have e2:b.newSeq.seqs.flatMap psC=b.seqs.flatMap psC++[.int .i64 (-1),.int .i64 (-1)]:=by simp [Mt.PB.newSeq,psC,Mt.ps0]
  rw [e1,e2]
  exact row_keep hown (fun k hk=>o k (by simp [blk] at hk;omega))
 ·exact row_keep h.atoms (fun k hk=>by rw [o k (fun e=>h.ap.2.1 (by rw [← e];exact hk)),ka k hk])
 ·exact row_keep h.opn (fun k hk=>by rw [o k (fun e=>h.ap.2.2.1 (by rw [← e];exact hk)),ko k hk])
 ·refine ⟨hg.os.trans h0.os,hg.tape.trans h0.tape,hg.output.trans h0.output,?_,fun k hk hn=>?_,fun k hk ho=>?_⟩
  ·have:=hg.size;have:=h0.size;simp [World.setCell];omega
  ·rw [o k (fun e=>hn (Or.inl e)),hg.block k (by have:=h0.size;omega) (fun e=>hn (Or.inr (Or.inl e.symm))),h0.block k hk]
  ·rcases ho with e | e | e | e
   ·exact Or.inl e
   ·simp [blk] at e
    subst e
    rcases hq with hq | hq
    ·exact Or.inr (Or.inl hq)
    ·omega
   ·exact Or.inr (Or.inr (Or.inl e))
   ·exact Or.inr (Or.inr (Or.inr e))
section
variable {L:Nat} {w:World} {g gs ga go:Nat} {b:Mt.PB} {so ao oo:Option Addr} {sc ac oc:Nat}
theorem psC_len (s:Mt.PS):(psC s).length=2:=rfl
theorem paC_len (a:Mt.PA):(paC a).length=20:=rfl
theorem bA_same {b b':Mt.PB} {so ao oo:Option Addr} {sc ac oc:Nat} (h1:b'.seqs.length=b.seqs.length) (h2:b'.atoms.length=b.atoms.length) (h3:b'.seq=b.seq) (h4:b'.last=b.last) (h5:b'.opn=b.opn) (h6:b'.groups=b.groups) (h7:b'.clo=b.clo):bA b' so ao oo sc ac oc=bA b so ao oo sc ac oc:=by
 unfold bA;rw [h1,h2,h3,h4,h5,h6,h7]
theorem BAt.seqSet (h:BAt L w g b (some ⟨gs,0,none⟩) ao oo sc ac oc) (i j:Nat) (v:Value) (s':Mt.PS) (hi:i<b.seqs.length) (hj:j<2) (he:psC s'=(psC (b.sAt i)).set j v) :
  BAt L (w.setCell ⟨gs,i*2+j,none⟩ v) g { b with seqs:=b.seqs.set i s' } (some ⟨gs,0,none⟩) ao oo sc ac oc:=by
 have o:∀ k,k≠gs→(w.setCell ⟨gs,i*2+j,none⟩ v).heap[k]?=w.heap[k]?:=fun k hk=>Below.heap_setCell _ _ _ _ hk
 have ne:gs≠g:=fun e=>h.ap.1 (by rw [blk_some,e])
 refine ⟨?_,h.lo,?_,row_keep h.atoms (fun k hk=>o k (fun e=>(h.ap.2.2.2.1 gs rfl).1 (by rw [← e];exact hk))),row_keep h.opn (fun k hk=>o k (fun e=>(h.ap.2.2.2.1 gs rfl).2 (by rw [← e];exact hk))),h.ap,h.cl⟩
 ·have e:bA { b with seqs:=b.seqs.set i s' } (some ⟨gs,0,none⟩) ao oo sc ac oc=bA b (some ⟨gs,0,none⟩) ao oo sc ac oc:=bA_same (by simp) rfl rfl rfl rfl rfl rfl
  rw [o g (Ne.symm ne),e];exact h.cell
 ·have r:=(World.ownsRow.stored h.seqs (i*2+j) v).1
  rw [flat_set psC 2 psC_len b.seqs i j v s' hi hj (fun a ha=>by rw [he];unfold Mt.PB.sAt;rw [List.getD_eq_getElem?_getD,ha];rfl)] at r
  simpa using r
theorem BAt.atomSet (h:BAt L w g b so (some ⟨ga,0,none⟩) oo sc ac oc) (i j:Nat) (vs:List Value) (a':Mt.PA) (hi:i<b.atoms.length) (hj:j+vs.length≤20) (he:paC a'=setMany (paC (b.aAt i)) j vs) :
  BAt L (w.setCells ga (i*20+j) vs) g { b with atoms:=b.atoms.set i a' } so (some ⟨ga,0,none⟩) oo sc ac oc:=by
 have o:∀ k,k≠ga→(w.setCells ga (i*20+j) vs).heap[k]?=w.heap[k]?:=fun k hk=>setCells_oth ga vs _ w k hk
 have ne:ga≠g:=fun e=>h.ap.2.1 (by rw [blk_some,e])
 refine ⟨?_,h.lo,row_keep h.seqs (fun k hk=>o k (fun e=>(h.ap.2.2.2.1 k hk).1 (by rw [e];rfl))),?_,row_keep h.opn (fun k hk=>o k (fun e=>h.ap.2.2.2.2 ga rfl (by rw [← e];exact hk))),h.ap,h.cl⟩
 ·have e:bA { b with atoms:=b.atoms.set i a' } so (some ⟨ga,0,none⟩) oo sc ac oc=bA b so (some ⟨ga,0,none⟩) oo sc ac oc:=bA_same rfl (by simp) rfl rfl rfl rfl rfl
  rw [o g (Ne.symm ne),e];exact h.cell
 ·have r:=row_setCells vs (i*20+j) w _ h.atoms
  rw [flat_setMany paC 20 paC_len b.atoms i j vs a' hi hj (fun a ha=>by rw [he];unfold Mt.PB.aAt;rw [List.getD_eq_getElem?_getD,ha];rfl)] at r
  simpa using r
theorem BAt.seqForm (h:BAt L w g b so ao oo sc ac oc) (hn:0<b.seqs.length):∃ gs,so=some ⟨gs,0,none⟩∧gs≠g∧gs<w.heap.size∧b.seqs.length≤sc:=by
 obtain ⟨gs,cap,hv,_,hlt⟩:=World.ownsRow.form h.seqs hn
 simp only [Value.slice.injEq] at hv
 obtain ⟨rfl,_,rfl⟩:=hv
 rcases h.seqs.2 with ⟨e,_⟩ | ⟨g',cap',cur,hv,_,_,hc,_⟩
 ·simp at e
 ·simp only [Value.slice.injEq] at hv
  exact ⟨gs,rfl,fun e=>h.ap.1 (by rw [blk_some,e]),hlt,by omega⟩
theorem BAt.atomForm (h:BAt L w g b so ao oo sc ac oc) (hn:0<b.atoms.length):∃ ga,ao=some ⟨ga,0,none⟩∧ga≠g∧ga<w.heap.size∧b.atoms.length≤ac:=by
 obtain ⟨gs,cap,hv,_,hlt⟩:=World.ownsRow.form h.atoms hn
 simp only [Value.slice.injEq] at hv
 obtain ⟨rfl,_,rfl⟩:=hv
 rcases h.atoms.2 with ⟨e,_⟩ | ⟨g',cap',cur,hv,_,_,hc,_⟩
 ·simp at e
 ·simp only [Value.slice.injEq] at hv
  exact ⟨gs,rfl,fun e=>h.ap.2.1 (by rw [blk_some,e]),hlt,by omega⟩
theorem BAt.opnForm (h:BAt L w g b so ao oo sc ac oc) (hn:0<b.opn.length):∃ go,oo=some ⟨go,0,none⟩∧go≠g∧go<w.heap.size∧b.opn.length≤oc:=by
 obtain ⟨gs,cap,hv,_,hlt⟩:=World.ownsRow.form h.opn hn
 simp only [Value.slice.injEq] at hv
 obtain ⟨rfl,_,rfl⟩:=hv
 rcases h.opn.2 with ⟨e,_⟩ | ⟨g',cap',cur,hv,_,_,hc,_⟩
 ·simp at e
 ·simp only [Value.slice.injEq] at hv
  exact ⟨gs,rfl,fun e=>h.ap.2.2.1 (by rw [blk_some,e]),hlt,by omega⟩
theorem flat_get {α:Type} (f:α→List Value) (k:Nat) (hk:∀ a,(f a).length=k) (d:α):∀ (l:List α) (i j:Nat),i<l.length→j<k→(l.flatMap f)[i*k+j]?=(f (l.getD i d))[j]?
 | [],i,j,h,_=>by simp at h
 | x::r,0,j,_,hj=>by
  rw [List.flatMap_cons,List.getElem?_append_left (by rw [hk];omega)];simp
 | x::r,i+1,j,hi,hj=>by
  have e:(i+1)*k+j=k+(i*k+j):=by rw [Nat.add_mul];omega
  rw [List.flatMap_cons,e,List.getElem?_append_right (by rw [hk];omega),hk,show k+(i*k+j)-k=i*k+j by omega,flat_get f k hk d r i j (by simpa using hi) hj]
  simp
theorem BAt.seqCell (h:BAt L w g b (some ⟨gs,0,none⟩) ao oo sc ac oc) (i j:Nat) (hi:i<b.seqs.length) (hj:j<2):w.cell? ⟨gs,i*2+j,none⟩=(psC (b.sAt i))[j]?∧w.frozen? ⟨gs,i*2+j,none⟩=false :=
 ⟨by rw [World.ownsRow.cellAt h.seqs _ (by omega),flat_get psC 2 psC_len Mt.ps0 _ _ _ hi hj];rfl,World.ownsRow.frozenAt h.seqs _⟩
theorem BAt.atomCell (h:BAt L w g b so (some ⟨ga,0,none⟩) oo sc ac oc) (i j:Nat) (hi:i<b.atoms.length) (hj:j<20):w.cell? ⟨ga,i*20+j,none⟩=(paC (b.aAt i))[j]?∧w.frozen? ⟨ga,i*20+j,none⟩=false :=
 ⟨by rw [World.ownsRow.cellAt h.atoms _ (by omega),flat_get paC 20 paC_len Mt.pa0 _ _ _ hi hj];rfl,World.ownsRow.frozenAt h.atoms _⟩
theorem BAt.opnCell (h:BAt L w g b so ao (some ⟨go,0,none⟩) sc ac oc) (i:Nat) (hi:i<b.opn.length):w.cell? ⟨go,i,none⟩=some (.int .i64 (b.opn.getD i 0:Nat)):=by
 rw [World.ownsRow.cellAt h.opn _ (by omega)]
 unfold opL
 rw [List.getElem?_map,List.getD_eq_getElem?_getD,List.getElem?_eq_getElem hi];rfl
theorem BAt.drew (h:BAt L w g b so ao oo sc ac oc):BAt L w.drew g b so ao oo sc ac oc:=h.keep (fun _ _=>rfl)
end
theorem newSequence_any {L:Nat} {w:World} {g:Nat} {b:Mt.PB} {so ao oo:Option Addr} {sc ac oc:Nat} (h:BAt L w g b so ao oo sc ac oc) (hn:b.seqs.length≤1000) :
  Calls Try.prog 60 #[.pointer (some ⟨g,0,none⟩)] w fun e w'=>e=.returned (.int .i64 b.seqs.length)∧∃ so' sc',BAt L w' g b.newSeq so' ao oo sc' ac oc∧BStep g so ao oo so' ao oo w w':=by
 obtain ⟨i0,hi,hz0,hz1,hz2⟩:=info_parts Try.infoSq
 have HB:Hid (BAt L w g b so ao oo sc ac oc):=h
 obtain ⟨c0,_,_,_,_,_,_,hf⟩:=h.cells
 have f0:=hf 0
 have hg:g<w.heap.size:=(h.lt g (Or.inl rfl)).2
 have hL:L≤w.heap.size:=by have:=h.lo;omega
 have HO:=h.seqs
 clear h hf
 generalize hN:b.seqs.length=N at *
 go_enter Try.func60,Try.ntmps60
 go_wp2_with (at_builtin;refine wpList_append_lies _ rfl (.tmp 8) (.tmp 10) 77 rfl L 129 i0 _ 2 16 Try.underlying77 hi hz0 hz1 hz2 rfl (by decide) _ _ _ rfl (HO.alloc _) ⟨w.heap.size,0,none⟩ 1 1 [.int .i64 (-1),.int .i64 (-1)] rfl rfl ?c1 ?c2 (by decide) ?c3 ?c4 ?c5 (w.heap.size+1) ?c6 ?_)
 case c1=>exact World.news_of_block (cs:=#[.int .i64 (-1),.int .i64 (-1)]) (heap_alloc_new _ _)
 case c2=>intro u hu;simp at hu;subst hu;rfl
 case c3=>unfold maxLen;omega
 case c4=>omega
 case c5=>simp;omega
 case c6=>simp
 ·intro q cap w1 hown hgrow hq hqlt
  rw [ownBlock_blk] at hgrow hq
  have hb0:Below w.heap.size w (w.alloc (.cells #[.int .i64 (-1),.int .i64 (-1)] 129)):=(Below.refl _ _).alloc (Nat.le_refl _) _
  subst hN
  have HM:=newSeq_mem HB.out hb0 (by simp) hgrow (by simpa using hq) hown
  have kg:w1.heap[g]?=w.heap[g]?:=HB.out.grown hb0 hgrow g (Or.inl rfl) (fun e=>HB.out.ap.1 e.symm)
  have d0:w1.cell? ⟨g,0,none⟩=some (.slice so b.seqs.length sc):=(World.cell?_of_block (a:=⟨g,0,none⟩) kg).trans c0
  have e0:w1.frozen? ⟨g,0,none⟩=false:=(World.frozen?_of_block (a:=⟨g,0,none⟩) kg).trans f0
  have HM':Hid (BAt L (w1.setCell ⟨g,0,none⟩ (.slice (some ⟨q,0,none⟩) (b.seqs.length+1) cap)) g b.newSeq (some ⟨q,0,none⟩) ao oo cap ac oc∧BStep g so ao oo (some ⟨q,0,none⟩) ao oo w (w1.setCell ⟨g,0,none⟩ (.slice (some ⟨q,0,none⟩) (b.seqs.length+1) cap))):=HM
  clear HM hown hgrow hq kg hb0 HO
  go_wp2_with fail
  go_returns
  refine ⟨?_,some ⟨q,0,none⟩,cap,HM'.out.1,HM'.out.2⟩
  go_num
structure Sh where
 p:ByteArray
 d:Int
 T:Nat→Nat→Bool
def Sh.A (s:Sh):Array Value:=shA s.p s.d s.T
def Sh.L (s:Sh):List Value:=s.A.toList
theorem Sh.L_len (s:Sh):s.L.length=123:=by have:=shA_size s.p s.d s.T;simpa [Sh.L,Sh.A] using this
theorem Sh.L_one (s:Sh):∀ u∈s.L,u.oneCell'=true:=by
 have:=shA_all s.p s.d s.T
 intro u hu
 rw [Array.all_eq_true_iff_forall_mem] at this
 exact this u (by simpa [Sh.L,Sh.A] using hu)
theorem Try.infoSh:(Try.prog.info? 57).map (fun i=>(i.zero,i.size,i.bytes))=some (some (.agg (shA ⟨#[]⟩ 0 (fun _ _=>false))),123,152):=by kernel_rfl
def ownSh (w:World) (base:Nat) (v:Value) (l:List Sh):Prop:=w.ownsRow base 57 123 v l.length (l.flatMap Sh.L)
theorem fill_sh (p:ByteArray) (d:Int) (T:Nat→Nat→Bool):Instr.fill (fun i=>some (i*123,123)) ((Array.range (1*123)).map ((Value.agg (shA ⟨#[]⟩ 0 (fun _ _=>false))).cells[· % (Value.agg (shA ⟨#[]⟩ 0 (fun _ _=>false))).cells.size]!)) [(0,.agg (shA p d T))]=some (shA p d T):=by
 unfold shA
 kernel_rfl
theorem wpList_build_sh {ops:Array Oper} {rest:List Oper} {o:Oper} {a:Act} {w:World} {Q:Exit→Act→World→Prop} (hg:o.guard=none) (x:Operand) (ho:o.op=.buildSlice 52 1 #[(0,x)]) (s:Sh) (hx:a.eval x=.agg s.A)
  (h:wpList Try.prog ops Q rest (a.put o.dst (.slice (some ⟨w.heap.size,0,none⟩) 1 1)) (w.alloc (.cells s.L.toArray 57))):wpList Try.prog ops Q (o::rest) a w:=by
 obtain ⟨i0,hi,hz0,hz1,hz2⟩:=info_parts Try.infoSh
 refine wpList_buildSlice hg 52 57 1 _ ho s.A i0 _ Try.underlying52 hi hz0 (by rw [hz1];decide) (by rw [hz1];decide) ?_ h
 rw [hz1]
 simp only [List.map_toArray,List.map_cons,List.map_nil,hx]
 exact fill_sh s.p s.d s.T
theorem flat_len:∀ l:List Sh,(l.flatMap Sh.L).length=l.length*123
 | []=>rfl
 | s::l=>by rw [List.flatMap_cons,List.length_append,Sh.L_len,flat_len l,List.length_cons];omega
theorem wpList_append_any {P:Program} {ops:Array Oper} {rest:List Oper} {o:Oper} {a:Act} {w:World} {Q:Exit→Act→World→Prop} (hgd:o.guard=none) (s x:Operand) (t:TypeId)
  (ho:o.op=.call { callee:=.builtin .append,args:=#[s,x],argTypes:=#[t,t] })
  (base:Nat) (e:TypeId) (i:TypeInfo) (z:Value) (size bytes:Nat) (ht:P.underlying t=some (.slice e)) (hi:P.info? e=some i) (hz:i.zero=some z)
  (hsize:i.size=size) (hby:i.bytes=bytes) (hzs:z.cells.size=size) (hsz:0<size)
  (v:Value) (n:Nat) (xs:List Value) (hs:a.eval s=v) (hown:w.ownsRow base e size v n xs)
  (ad:Addr) (m c:Nat) (news:List Value) (hx:a.eval x=.slice (some ad) m c) (hl:news.length=m*size) (hnews:∀ j u,news[j]?=some u→w.cell? (ad.add j)=some u) (h1:∀ u∈news,u.oneCell'=true)
  (h63:n+m≤maxLen) (hbytes:(n+m)*bytes≤140737488355328) (hbase:base≤w.heap.size)
  (h:∀ v' w',w'.ownsRow base e size v' (n+m) (xs++news)→w.grownBy w' v.ownBlock→wpList P ops Q rest (a.put o.dst v') w'):wpList P ops Q (o::rest) a w :=
 wpList_plain hgd fun K hK=>by
  obtain ⟨v',w',hr,h2,h3,_,_⟩:=run_append_own_at (P:=P) w base t o.type e i z size bytes ht hi hz hsize hby hzs hsz v n xs hown ad m c news hl hnews h1 h63 hbytes hbase
  unfold Oper.wp execOp
  simp only [ho,resolve,invoke,builtin,Sem.run_bind,Sem.run_pure,Result.andThen_ok,List.map_toArray,List.map_cons,List.map_nil,hs,hx,hr]
  exact hK _ _ (h v' w' h2 h3)
theorem wpList_push {ops:Array Oper} {rest:List Oper} {o:Oper} {a:Act} {w:World} {Q:Exit→Act→World→Prop} (hgd:o.guard=none) (s x:Operand) (ho:o.op=.call { callee:=.builtin .append,args:=#[s,x],argTypes:=#[52,52] })
  (base:Nat) (v:Value) (l:List Sh) (hs:a.eval s=v) (hown:ownSh w base v l) (ad:Addr) (m c:Nat) (r:List Sh) (hx:a.eval x=.slice (some ad) m c) (hm:r.length=m) (hnews:∀ j u,(r.flatMap Sh.L)[j]?=some u→w.cell? (ad.add j)=some u) (hl:l.length+m≤1000) (hb:base≤w.heap.size)
  (h:∀ v' w',ownSh w' base v' (l++r)→w.grownBy w' v.ownBlock→wpList Try.prog ops Q rest (a.put o.dst v') w'):wpList Try.prog ops Q (o::rest) a w:=by
 obtain ⟨i0,hi,hz0,hz1,hz2⟩:=info_parts Try.infoSh
 refine wpList_append_any hgd s x _ ho base _ i0 _ 123 152 Try.underlying52 hi hz0 hz1 hz2 (shA_size ⟨#[]⟩ 0 (fun _ _=>false)) (by decide) v l.length (l.flatMap Sh.L) hs hown ad m c (r.flatMap Sh.L) hx (by rw [flat_len,hm]) hnews ?_ (by unfold maxLen;omega) (by omega) hb ?_
 ·intro u hu
  rw [List.mem_flatMap] at hu
  obtain ⟨y,_,hy⟩:=hu
  exact y.L_one u hy
 ·intro v' w' h1 h2
  refine h v' w' ?_ h2
  unfold ownSh
  rw [List.length_append,hm,List.flatMap_append]
  exact h1
theorem news_one (w:World) (s:Sh):∀ j u,([s].flatMap Sh.L)[j]?=some u→(w.alloc (.cells s.L.toArray 57)).cell? ((⟨w.heap.size,0,none⟩:Addr).add j)=some u:=fun j u hu=>by
 have e:[s].flatMap Sh.L=s.L:=by simp
 rw [e] at hu
 exact news_cells w s.L 57 j u hu
theorem ownSh.alloc {w:World} {base:Nat} {v:Value} {l:List Sh} (h:ownSh w base v l) (o:Obj):ownSh (w.alloc o) base v l:=World.ownsRow.alloc h o
def ShOk (t:ByteArray) (s:Sh):Prop:=∃ x:Mt.Shape,s.p=Mt.bp x.pat∧s.d=(x.deep:Int)∧Mt.Tbl t x s.T∧x.ok∧x.pat.length≤48∧x.deep≤10
def StackOk (t:ByteArray) (l:List Sh):Prop:=∀ s∈l,ShOk t s
def Built (t:ByteArray) (base:Nat) (l:List Sh) (must:Prop) (w0:World) (e:Ending) (w':World):Prop :=
 ∃ v' l',e=.returned v'∧ownSh w' base v' l'∧StackOk t l'∧l'.length≤l.length+1∧(must→l'≠[])∧Below base w0 w'
end Go.Proofs.Ytebpgfodelggoab
