import Derived.Test.YtebpgfodelggoabC28
import Derived.Deep.DeepCutAuto
/- The program's layer in memory; put. -/
set_option linter.unusedVariables false
set_option linter.unusedSimpArgs false
namespace Go.Proofs.Ytebpgfodelggoab
open Go.RowKit

def insA (i : Mt.Ins) : Array Value := #[.int .i64 i.op, .int .i64 i.x, .int .i64 i.y, .string ⟨i.set.toArray⟩]
theorem insA_all (i : Mt.Ins) : (insA i).all (·.oneCell') = true := by simp [insA, Value.oneCell']
theorem insA_list (i : Mt.Ins) : (insA i).toList = insCells i := rfl
theorem insC_len (i : Mt.Ins) : (insCells i).length = 4 := rfl
theorem Try.sizeIn : (Try.prog.info? 70).map (·.size) = some 4 := by kernel_rfl
theorem Try.infoIn : (Try.prog.info? 70).map (fun i => (i.zero, i.size, i.bytes)) = some (some (.agg (insA Mt.ins0)), 4, 40) := by kernel_rfl

/-- The layer: the tree, the code so far, how many loops. -/
structure LAt (L : Nat) (w : World) (g : Nat) (b : Mt.PB) (so ao : Option Addr) (sc ac : Nat) (co : Option Addr) (cc : Nat) (c : List Mt.Ins) (d : Int) : Prop where
  cell : w.heap[g]? = some (.cells #[.slice so b.seqs.length sc, .slice ao b.atoms.length ac, .slice co c.length cc, .int .i64 d] 108 (0, 0))
  lo : L ≤ g
  tree : TreeAt 0 w b so ao sc ac
  code : w.ownsRow L 70 4 (.slice co c.length cc) c.length (c.flatMap insCells)
  ap : blk co ≠ some g ∧ blk so ≠ some g ∧ blk ao ≠ some g ∧ (∀ q, blk co = some q → blk so ≠ some q ∧ blk ao ≠ some q)
/-- What turns: the layer's own block and the code's. -/
structure LStep (g : Nat) (co co' : Option Addr) (w w' : World) : Prop where
  os : w'.os = w.os
  tape : w'.tape = w.tape
  output : w'.output = w.output
  size : w.heap.size ≤ w'.heap.size
  block : ∀ k, k < w.heap.size → k ≠ g → blk co ≠ some k → w'.heap[k]? = w.heap[k]?
  sub : ∀ k, k < w.heap.size → blk co' = some k → blk co = some k
theorem LStep.refl (g : Nat) (co : Option Addr) (w : World) : LStep g co co w w := ⟨rfl, rfl, rfl, Nat.le_refl _, fun _ _ _ _ => rfl, fun _ _ h => h⟩
theorem LStep.trans {g : Nat} {co c1 c2 : Option Addr} {a b c : World} (h : LStep g co c1 a b) (k : LStep g c1 c2 b c) : LStep g co c2 a c :=
  ⟨k.os.trans h.os, k.tape.trans h.tape, k.output.trans h.output, Nat.le_trans h.size k.size,
   fun i hi h1 h2 => (k.block i (Nat.lt_of_lt_of_le hi h.size) h1 (fun e => h2 (h.sub i hi e))).trans (h.block i hi h1 h2), fun i hi ho => h.sub i hi (k.sub i (Nat.lt_of_lt_of_le hi h.size) ho)⟩
theorem LStep.below {g : Nat} {co : Option Addr} {a b : World} (h : Below a.heap.size a b) : LStep g co co a b := ⟨h.os, h.tape, h.output, h.size, fun i hi _ _ => h.block i hi, fun _ _ h => h⟩
theorem LStep.drew {g : Nat} {co c1 : Option Addr} {a w : World} (h : LStep g co c1 a w) : LStep g co c1 a w.drew := h.trans (LStep.below (Below.refl _ _).drew)
theorem LStep.set {g : Nat} {co c1 : Option Addr} {a w : World} (h : LStep g co c1 a w) {p : Addr} (hp : p.block = g ∨ blk c1 = some p.block) (u : Value) : LStep g co c1 a (w.setCell p u) :=
  h.trans ⟨rfl, rfl, rfl, by simp [World.setCell], fun i hi h1 h2 => Below.heap_setCell _ _ _ _ (fun e => by rcases hp with hp | hp; exact h1 (by rw [e, hp]); exact h2 (by rw [e, hp])), fun _ _ h => h⟩
theorem LStep.setMany {g : Nat} {co c1 : Option Addr} {a w : World} (h : LStep g co c1 a w) (q o : Nat) (vs : List Value) (hp : q = g ∨ blk c1 = some q) : LStep g co c1 a (w.setCells q o vs) :=
  h.trans ⟨(below_setCells q vs o w 0 (Nat.zero_le _)).1.os, (below_setCells q vs o w 0 (Nat.zero_le _)).1.tape, (below_setCells q vs o w 0 (Nat.zero_le _)).1.output, Nat.le_of_eq (below_setCells q vs o w 0 (Nat.zero_le _)).2.symm, fun i hi h1 h2 => setCells_oth q vs o w i (fun e => by rcases hp with hp | hp; exact h1 (by rw [e, hp]); exact h2 (by rw [e, hp])), fun _ _ h => h⟩

section
variable {L : Nat} {w : World} {g : Nat} {b : Mt.PB} {so ao : Option Addr} {sc ac : Nat} {co : Option Addr} {cc : Nat} {c : List Mt.Ins} {d : Int}
theorem LAt.lt (h : LAt L w g b so ao sc ac co cc c d) : g < w.heap.size ∧ (∀ k, blk co = some k → L ≤ k ∧ k < w.heap.size) ∧ (∀ k, blk so = some k → k < w.heap.size) ∧ (∀ k, blk ao = some k → k < w.heap.size) :=
  ⟨(Array.getElem?_eq_some_iff.1 h.cell).1, fun k hk => World.ownsRow.lt h.code k (by rw [ownBlock_blk]; exact hk), fun k hk => (World.ownsRow.lt h.tree.seqs k (by rw [ownBlock_blk]; exact hk)).2, fun k hk => (World.ownsRow.lt h.tree.atoms k (by rw [ownBlock_blk]; exact hk)).2⟩
theorem LAt.below {w' : World} (h : LAt L w g b so ao sc ac co cc c d) (hb : Below w.heap.size w w') : LAt L w' g b so ao sc ac co cc c d :=
  ⟨by rw [hb.block _ h.lt.1]; exact h.cell, h.lo, h.tree.below hb, row_keep h.code (fun q hq => hb.block q (h.lt.2.1 q hq).2), h.ap⟩
theorem LAt.drew (h : LAt L w g b so ao sc ac co cc c d) : LAt L w.drew g b so ao sc ac co cc c d := ⟨h.cell, h.lo, ⟨row_keep h.tree.seqs (fun _ _ => rfl), row_keep h.tree.atoms (fun _ _ => rfl)⟩, row_keep h.code (fun _ _ => rfl), h.ap⟩
theorem LStep.low {c1 : Option Addr} {w' : World} (h : LAt L w g b so ao sc ac co cc c d) (hs : LStep g co c1 w w') (hL : L ≤ w.heap.size) : Below L w w' :=
  ⟨hs.os, hs.tape, hs.output, hs.size, fun k hk => hs.block k (by omega) (fun e => by have := h.lo; omega) (fun e => by have := (h.lt.2.1 k e).1; omega)⟩
theorem LAt.cells (h : LAt L w g b so ao sc ac co cc c d) : w.cell? ⟨g, 0, none⟩ = some (.slice so b.seqs.length sc) ∧ w.cell? ⟨g, 1, none⟩ = some (.slice ao b.atoms.length ac) ∧ w.cell? ⟨g, 2, none⟩ = some (.slice co c.length cc) ∧ w.cell? ⟨g, 3, none⟩ = some (.int .i64 d) ∧ (∀ k, w.frozen? ⟨g, k, none⟩ = false) := by
  have hb := cell_block h.cell
  exact ⟨hb.1 0, hb.1 1, hb.1 2, hb.1 3, hb.2⟩
theorem LAt.form (h : LAt L w g b so ao sc ac co cc c d) (hn : 0 < c.length) : ∃ gc, co = some ⟨gc, 0, none⟩ ∧ gc ≠ g ∧ gc < w.heap.size ∧ c.length ≤ cc := by
  obtain ⟨gs, cap, hv, _, hlt⟩ := World.ownsRow.form h.code hn
  simp only [Value.slice.injEq] at hv
  obtain ⟨rfl, _, rfl⟩ := hv
  rcases h.code.2 with ⟨e, _⟩ | ⟨g', cap', cur, hv, _, _, hc, _⟩
  · simp at e
  · simp only [Value.slice.injEq] at hv
    exact ⟨gs, rfl, fun e => h.ap.1 (by rw [blk_some, e]), hlt, by omega⟩
/-- Cells of one instruction stored into. -/
theorem LAt.codeSet {gc : Nat} (h : LAt L w g b so ao sc ac (some ⟨gc, 0, none⟩) cc c d) (i j : Nat) (vs : List Value) (a' : Mt.Ins) (hi : i < c.length) (hj : j + vs.length ≤ 4) (he : insCells a' = setMany (insCells (c.getD i Mt.ins0)) j vs) :
    LAt L (w.setCells gc (i * 4 + j) vs) g b so ao sc ac (some ⟨gc, 0, none⟩) cc (c.set i a') d := by
  have o : ∀ k, k ≠ gc → (w.setCells gc (i * 4 + j) vs).heap[k]? = w.heap[k]? := fun k hk => setCells_oth gc vs _ w k hk
  have ne : gc ≠ g := fun e => h.ap.1 (by rw [blk_some, e])
  refine ⟨?_, h.lo, ⟨row_keep h.tree.seqs (fun k hk => o k (fun e => (h.ap.2.2.2 gc rfl).1 (by rw [← e]; exact hk))), row_keep h.tree.atoms (fun k hk => o k (fun e => (h.ap.2.2.2 gc rfl).2 (by rw [← e]; exact hk)))⟩, ?_, h.ap⟩
  · rw [o g (Ne.symm ne), List.length_set]; exact h.cell
  · have r := row_setCells vs (i * 4 + j) w _ h.code
    rw [flat_setMany insCells 4 insC_len c i j vs a' hi hj (fun a ha => by rw [he, List.getD_eq_getElem?_getD, ha]; rfl)] at r
    simpa using r
/-- The number of loops stored. -/
theorem LAt.loopsSet (h : LAt L w g b so ao sc ac co cc c d) (d' : Int) : LAt L (w.setCell ⟨g, 3, none⟩ (.int .i64 d')) g b so ao sc ac co cc c d' := by
  have o : ∀ k, k ≠ g → (w.setCell ⟨g, 3, none⟩ (.int .i64 d')).heap[k]? = w.heap[k]? := fun k hk => Below.heap_setCell _ _ _ _ hk
  refine ⟨?_, h.lo, ⟨row_keep h.tree.seqs (fun k hk => o k (fun e => h.ap.2.1 (by rw [← e]; exact hk))), row_keep h.tree.atoms (fun k hk => o k (fun e => h.ap.2.2.1 (by rw [← e]; exact hk)))⟩, row_keep h.code (fun k hk => o k (fun e => h.ap.1 (by rw [← e]; exact hk))), h.ap⟩
  have := Go.heap_setCell_same w g 3 _ _ (.int .i64 d') h.cell
  rw [this]; rfl
theorem put_mem {w0 w1 : World} {q cap : Nat} {x : Mt.Ins} (h : LAt L w g b so ao sc ac co cc c d) (h0 : Below w.heap.size w w0) (hs0 : w.heap.size < w0.heap.size) (hg : w0.grownBy w1 (blk co)) (hq : blk co = some q ∨ q = w0.heap.size)
    (hown : w1.ownsRow L 70 4 (.slice (some ⟨q, 0, none⟩) (c.length + 1) cap) (c.length + 1) (c.flatMap insCells ++ insCells x)) :
    LAt L (w1.setCell ⟨g, 2, none⟩ (.slice (some ⟨q, 0, none⟩) (c.length + 1) cap)) g b so ao sc ac (some ⟨q, 0, none⟩) cap (c ++ [x]) d ∧ LStep g co (some ⟨q, 0, none⟩) w (w1.setCell ⟨g, 2, none⟩ (.slice (some ⟨q, 0, none⟩) (c.length + 1) cap)) := by
  obtain ⟨lg, lc, ls, la⟩ := h.lt
  have n : q ≠ g ∧ blk so ≠ some q ∧ blk ao ≠ some q := by
    rcases hq with e | e
    · exact ⟨fun x => h.ap.1 (by rw [e, x]), (h.ap.2.2.2 q e).1, (h.ap.2.2.2 q e).2⟩
    · subst e
      exact ⟨by omega, fun e => by have := ls _ e; omega, fun e => by have := la _ e; omega⟩
  obtain ⟨n1, n2, n3⟩ := n
  have kk : ∀ k, k < w.heap.size → blk co ≠ some k → w1.heap[k]? = w.heap[k]? := fun k hk hr => by rw [hg.block k (by have := h0.size; omega) (fun e => hr e.symm), h0.block k hk]
  have o : ∀ k, k ≠ g → (w1.setCell ⟨g, 2, none⟩ (.slice (some ⟨q, 0, none⟩) (c.length + 1) cap)).heap[k]? = w1.heap[k]? := fun k hk => Below.heap_setCell _ _ _ _ hk
  refine ⟨⟨?_, h.lo, ⟨?_, ?_⟩, ?_, fun e => n1 (by simpa [blk] using e), h.ap.2.1, h.ap.2.2.1, fun k hk => by simp [blk] at hk; subst hk; exact ⟨n2, n3⟩⟩, ?_⟩
  · have hc := Go.heap_setCell_same w1 g 2 _ _ (.slice (some ⟨q, 0, none⟩) (c.length + 1) cap) (by rw [kk g lg h.ap.1]; exact h.cell)
    rw [hc]; simp
  · exact row_keep h.tree.seqs (fun k hk => by rw [o k (fun e => h.ap.2.1 (by rw [← e]; exact hk)), kk k (ls k hk) (fun e => (h.ap.2.2.2 k e).1 hk)])
  · exact row_keep h.tree.atoms (fun k hk => by rw [o k (fun e => h.ap.2.2.1 (by rw [← e]; exact hk)), kk k (la k hk) (fun e => (h.ap.2.2.2 k e).2 hk)])
  · have e1 : (c ++ [x]).length = c.length + 1 := by simp
    have e2 : (c ++ [x]).flatMap insCells = c.flatMap insCells ++ insCells x := by simp
    rw [e1, e2]
    exact row_keep hown (fun k hk => o k (by simp [blk] at hk; omega))
  · refine ⟨hg.os.trans h0.os, hg.tape.trans h0.tape, hg.output.trans h0.output, ?_, fun k hk h1 h2 => ?_, fun k hk ho => ?_⟩
    · have := hg.size; have := h0.size; simp [World.setCell]; omega
    · rw [o k h1, kk k hk h2]
    · simp [blk] at ho
      subst ho
      rcases hq with hq | hq
      · exact hq
      · omega
end
theorem fill_ins (x : Mt.Ins) {i0 : TypeInfo} (hz1 : i0.size = 4) : Instr.fill (fun i => some (i * i0.size, i0.size)) ((Array.range (1 * i0.size)).map ((Value.agg (insA Mt.ins0)).cells[· % (Value.agg (insA Mt.ins0)).cells.size]!)) [(0, .agg (insA x))] = some (insA x) := by
  rw [hz1]; unfold insA; kernel_rfl
theorem ins_after {L : Nat} {w w1 : World} {g : Nat} {b : Mt.PB} {so ao : Option Addr} {sc ac : Nat} {co : Option Addr} {cc : Nat} {c : List Mt.Ins} {d : Int} {T E : Array Value} {ty te : TypeId} {n k : Nat} (h : LAt L w g b so ao sc ac co cc c d) (hg : (((w.alloc (.cells T ty)).drew).alloc (.cells E te)).grownBy w1 (Value.slice co n k).ownBlock) :
    w1.heap[w.heap.size]? = some (.cells T ty (0, 0)) ∧ (∀ o, w1.cell? ⟨g, o, none⟩ = w.cell? ⟨g, o, none⟩) ∧ (∀ o, w1.frozen? ⟨g, o, none⟩ = w.frozen? ⟨g, o, none⟩) := by
  rw [ownBlock_blk] at hg
  have hlg : g < w.heap.size := h.lt.1
  have h1 : w1.heap[w.heap.size]? = some (.cells T ty (0, 0)) := by
    rw [hg.block _ (by simp; omega) (fun e => by have := (h.lt.2.1 _ e.symm).2; omega), heap_old _ _ _ (by simp)]
    exact heap_alloc_new _ _
  have h2 : w1.heap[g]? = w.heap[g]? := by
    rw [hg.block _ (by simp; omega) (fun e => h.ap.1 e.symm), heap_old _ _ _ (by simp; omega)]
    exact heap_old _ _ _ hlg
  exact ⟨h1, fun o => World.cell?_of_block (a := ⟨g, o, none⟩) h2, fun o => World.frozen?_of_block (a := ⟨g, o, none⟩) h2⟩
end Go.Proofs.Ytebpgfodelggoab
/- put: an instruction behind the code. -/
set_option linter.unusedVariables false
set_option linter.unusedSimpArgs false
namespace Go.Proofs.Ytebpgfodelggoab
open Go.RowKit

set_option maxRecDepth 100000 in
set_option maxHeartbeats 4000000 in
theorem put_prog {L : Nat} {w : World} {g : Nat} {b : Mt.PB} {so ao : Option Addr} {sc ac : Nat} {co : Option Addr} {cc : Nat} {c : List Mt.Ins} {d : Int} (x : Mt.Ins) (h : LAt L w g b so ao sc ac co cc c d) (hn : c.length ≤ 1000000) :
    Calls Try.prog 53 #[.pointer (some ⟨g, 0, none⟩), .agg (insA x)] w fun e w' => e = .returned (.int .i64 c.length) ∧ ∃ q cap, LAt L w' g b so ao sc ac (some ⟨q, 0, none⟩) cap (c ++ [x]) d ∧ LStep g co (some ⟨q, 0, none⟩) w w' := by
  obtain ⟨i0, hi, hz0, hz1, hz2⟩ := info_parts Try.infoIn
  have HB : Hid (LAt L w g b so ao sc ac co cc c d) := h
  obtain ⟨c0, c1, c2, c3, hf⟩ := h.cells
  have f2 := hf 2
  have hg : g < w.heap.size := h.lt.1
  have hL : L ≤ w.heap.size := by have := h.lo; omega
  have HO : Hid (w.ownsRow L 70 4 (.slice co c.length cc) c.length (c.flatMap insCells)) := h.code
  clear h hf
  go_enter Try.func53, Try.ntmps53
  go_upto_region 2 with fail
  go_cut [] (fun wx => ∃ q cap, LAt L wx g b so ao sc ac (some ⟨q, 0, none⟩) cap (c ++ [x]) d ∧ LStep g co (some ⟨q, 0, none⟩) w wx)
  case first =>
    have hcr : ∀ z : World, z.heap[w.heap.size]? = some (.cells (insA x) 70 (0, 0)) → z.rangeAt w.heap.size 0 (insA x).toList := fun z hz => rangeAt_blk hz
    have S0 : (w.alloc (.cells (insA x) 70)).heap[w.heap.size]? = some (.cells (insA x) 70 (0, 0)) := heap_alloc_new _ _
    have C2 : (w.alloc (.cells (insA x) 70)).cell? ⟨g, 2, none⟩ = some (.slice co c.length cc) := by rw [World.cell?_of_block (a := ⟨g, 2, none⟩) (heap_old w _ g hg)]; exact c2
    refine wp_region_held_drew (S := fun z : World => z.heap[w.heap.size]? = some (.cells (insA x) 70 (0, 0))) (by kernel_rfl) S0 (fun hH => ?_)
    refine takeAt 0 11 (.pointer (some ⟨g, 0, none⟩)) rfl rfl (by kernel_rfl) (by kernel_rfl) (by kernel_rfl) (fun _ _ _ h => h) (Or.inl ⟨by rfl, fun z hz => by clear hH hz hcr S0; go_simp⟩) (by assumption) ?_
    simp only [Act.put, List.setIfInBounds_toArray, List.set_cons_zero, List.set_cons_succ]
    refine takeAt 1 12 (.pointer (some ⟨g, 0, none⟩)) rfl rfl (by kernel_rfl) (by kernel_rfl) (by kernel_rfl) (fun _ _ _ h => h) (Or.inl ⟨by rfl, fun z hz => by clear hH hz hcr S0; go_simp⟩) (by assumption) ?_
    simp only [Act.put, List.setIfInBounds_toArray, List.set_cons_zero, List.set_cons_succ]
    refine takeAt 2 13 (.pointer (some ⟨g, 0, none⟩)) rfl rfl (by kernel_rfl) (by kernel_rfl) (by kernel_rfl) (fun _ _ _ h => h) (Or.inl ⟨by rfl, fun z hz => by clear hH hz hcr S0; go_simp⟩) (by assumption) ?_
    simp only [Act.put, List.setIfInBounds_toArray, List.set_cons_zero, List.set_cons_succ]
    refine takeAt 3 14 (.pointer (some ⟨g, 2, none⟩)) rfl rfl (by kernel_rfl) (by kernel_rfl) (by kernel_rfl) (fun _ _ _ h => h) (Or.inl ⟨by rfl, fun z hz => by clear hH hz hcr S0; go_simp⟩) (by assumption) ?_
    simp only [Act.put, List.setIfInBounds_toArray, List.set_cons_zero, List.set_cons_succ]
    refine takeAt 5 16 (.agg (insA x)) rfl rfl (by kernel_rfl) (by kernel_rfl) (by kernel_rfl) (fun _ _ _ h => h) (yieldsIf_load_mid (by rfl) _ _ rfl _ _ rfl _ _ hcr Try.underlying70 rfl (by rw [Try.sizeIn]; rfl)) (by assumption) ?_
    simp only [Act.put, List.setIfInBounds_toArray, List.set_cons_zero, List.set_cons_succ]
    have S1 : ((w.alloc (.cells (insA x) 70)).drew.alloc (.cells (insA x) 70)).heap[w.heap.size]? = some (.cells (insA x) 70 (0, 0)) :=
      (heap_old _ _ _ (by simp)).trans S0
    have hsz : (w.alloc (.cells (insA x) 70)).drew.heap.size = w.heap.size + 1 := by simp
    have hnw : ((w.alloc (.cells (insA x) 70)).drew.alloc (.cells (insA x) 70)).heap[w.heap.size + 1]? = some (.cells (insA x) 70 (0, 0)) := by
      rw [← hsz]; exact heap_alloc_new _ _
    refine wpAnyH_ready (rs := [4, 6]) (by kernel_rfl) (by simp) ?_
    refine AllReadyH.cons rfl (fun K hK => ?_) (AllReadyH.cons rfl (fun K hK => ?_) AllReadyH.nil)
    all_goals
      first
      | (
          refine step_build1 rfl 44 70 (.tmp 16) rfl (insA x) i0 _ (.agg (insA x)) Try.underlying44 hi hz0 (by rw [hz1]; decide) (by rw [hz1]; decide) (by rfl) (fill_ins _ hz1) ?_
          refine hK.out _ _ S1 (fun hH2 => ?_)
          clear hK K
          simp only [Act.put, List.setIfInBounds_toArray, List.set_cons_zero, List.set_cons_succ]
          refine wpAnyH_ready (rs := [4]) (by kernel_rfl) (by simp) ?_
          refine AllReadyH.cons rfl (fun K hK => ?_) AllReadyH.nil
          try clear hH
          try clear hcr
          go_simp
          refine hK.out _ _ S1 (fun hH4 => ?_)
          clear hK K
          )
      | (
          try clear hH
          try clear hcr
          go_simp
          refine hK.out _ _ S0 (fun hH4 => ?_)
          clear hK K
          refine wpAnyH_ready (rs := [6]) (by kernel_rfl) (by simp) ?_
          refine AllReadyH.cons rfl (fun K hK => ?_) AllReadyH.nil
          refine step_build1 rfl 44 70 (.tmp 16) rfl (insA x) i0 _ (.agg (insA x)) Try.underlying44 hi hz0 (by rw [hz1]; decide) (by rw [hz1]; decide) (by rfl) (fill_ins _ hz1) ?_
          refine hK.out _ _ S1 (fun hH2 => ?_)
          clear hK K
          simp only [Act.put, List.setIfInBounds_toArray, List.set_cons_zero, List.set_cons_succ, hsz]
          )
    all_goals
      refine wpAnyH_ready (rs := [7]) (by kernel_rfl) (by simp) ?_
      refine AllReadyH.cons rfl (fun K hK => ?_) AllReadyH.nil
      refine step_append_lies _ rfl (.tmp 15) (.tmp 17) 44 rfl L 70 i0 _ 4 40 Try.underlying44 hi hz0 hz1 hz2 rfl (by decide) (.slice co c.length cc) c.length (c.flatMap insCells) (by rfl) (World.ownsRow.alloc (w := (w.alloc (.cells (insA x) 70)).drew) (HO.out.alloc _) _) ⟨w.heap.size + 1, 0, none⟩ 1 1 (insCells x) (by rfl) (by rfl) (World.news_of_block (cs := (insA x)) hnw) (by intro u hu; simp [insCells] at hu; rcases hu with h | h | h | h <;> subst h <;> rfl) (by decide) (by unfold maxLen; omega) (by omega) (by simp; omega) (w.heap.size + 2) (by simp) ?_
      intro q cap w1 hown hgrow hq hqlt
      obtain ⟨A1, A2, A3⟩ := ins_after HB.out hgrow
      refine hK.out _ _ A1 (fun hH3 => ?_)
      clear hK K
      have d1 := (A2 2).trans c2
      have e1 := (A3 2).trans f2
      have HM : Hid (LAt L (w1.setCell ⟨g, 2, none⟩ (.slice (some ⟨q, 0, none⟩) (c.length + 1) cap)) g b so ao sc ac (some ⟨q, 0, none⟩) cap (c ++ [x]) d ∧ LStep g co (some ⟨q, 0, none⟩) w (w1.setCell ⟨g, 2, none⟩ (.slice (some ⟨q, 0, none⟩) (c.length + 1) cap))) :=
        put_mem HB.out (w0 := (w.alloc (.cells (insA x) 70)).drew.alloc (.cells (insA x) 70)) ((((Below.refl _ _).alloc (Nat.le_refl _) _).drew).alloc (by simp) _) (by simp; omega) (by rw [ownBlock_blk] at hgrow; exact hgrow) (by rw [ownBlock_blk] at hq; simpa using hq) hown
      have SZ : w.heap.size < w1.heap.size := (Array.getElem?_eq_some_iff.1 A1).1
      have S4 : (w1.setCell ⟨g, 2, none⟩ (.slice (some ⟨q, 0, none⟩) (c.length + 1) cap)).heap[w.heap.size]? = some (.cells (insA x) 70 (0, 0)) :=
        (Below.heap_setCell _ _ _ _ (by show w.heap.size ≠ g; omega)).trans A1
      clear A2 A3 hgrow hown hq S0 S1
      simp only [Act.put, List.setIfInBounds_toArray, List.set_cons_zero, List.set_cons_succ]
      refine takeAt 8 19 (.pointer (some ⟨g, 0, none⟩)) rfl rfl (by kernel_rfl) (by kernel_rfl) (by kernel_rfl) (fun _ _ _ h => h) (Or.inl ⟨by rfl, fun z hz => by clear hH3 hz S4; go_simp⟩) (by assumption) ?_
      simp only [Act.put, List.setIfInBounds_toArray, List.set_cons_zero, List.set_cons_succ]
      refine takeAt 9 20 (.pointer (some ⟨g, 2, none⟩)) rfl rfl (by kernel_rfl) (by kernel_rfl) (by kernel_rfl) (fun _ _ _ h => h) (Or.inl ⟨by rfl, fun z hz => by clear hH3 hz S4; go_simp⟩) (by assumption) ?_
      simp only [Act.put, List.setIfInBounds_toArray, List.set_cons_zero, List.set_cons_succ]
      refine wpAnyH_ready (rs := [10]) (by kernel_rfl) (by simp) ?_
      refine AllReadyH.cons rfl (fun K hK => ?_) AllReadyH.nil
      go_simp
      refine hK.out _ _ S4 (fun hH4 => ?_)
      clear hK K
      refine wpAnyH_done (by kernel_rfl) ?_ _
      go_wp2_with fail
      go_meet
      case rel => exact ⟨q, cap, HM.out.1, HM.out.2⟩
  case rest =>
    obtain ⟨q, cap, hP, hSt⟩ := hcut
    have HP : Hid (LAt L wc g b so ao sc ac (some ⟨q, 0, none⟩) cap (c ++ [x]) d) := hP
    have HSt : Hid (LStep g co (some ⟨q, 0, none⟩) w wc) := hSt
    clear hP hSt
    go_wp2_with fail
    go_ret
    exact ⟨rfl, q, cap, HP.out, HSt.out⟩
end Go.Proofs.Ytebpgfodelggoab
