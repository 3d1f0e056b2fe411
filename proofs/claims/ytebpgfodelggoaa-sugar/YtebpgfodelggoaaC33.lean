import Derived.Test.YtebpgfodelggoaaC32
set_option linter.unusedVariables false
set_option linter.unusedSimpArgs false
namespace Go.Proofs.Ytebpgfodelggoaa
open Go.RowKit

section
variable {L : Nat} {w : World} {b : Mt.PB} {so ao : Option Addr} {sc ac : Nat}
theorem TreeAt.below {w' : World} (h : TreeAt L w b so ao sc ac) (hb : Below w.heap.size w w') : TreeAt L w' b so ao sc ac :=
  ⟨row_keep h.seqs (fun q hq => hb.block q (World.ownsRow.lt h.seqs q (by rw [ownBlock_blk]; exact hq)).2), row_keep h.atoms (fun q hq => hb.block q (World.ownsRow.lt h.atoms q (by rw [ownBlock_blk]; exact hq)).2)⟩
theorem TreeAt.seqCell (h : TreeAt L w b so ao sc ac) (i : Nat) (hi : i < b.seqs.length) : ∃ gs, so = some ⟨gs, 0, none⟩ ∧ gs < w.heap.size ∧ b.seqs.length ≤ sc ∧ w.cell? ⟨gs, i * 2, none⟩ = some (.int .i64 (b.sAt i).first) ∧ w.cell? ⟨gs, i * 2 + 1, none⟩ = some (.int .i64 (b.sAt i).next) := by
  obtain ⟨gs, cap, hv, _, hlt⟩ := World.ownsRow.form h.seqs (by omega)
  simp only [Value.slice.injEq] at hv
  obtain ⟨rfl, _, rfl⟩ := hv
  have c : ∀ j, j < 2 → w.cell? ⟨gs, i * 2 + j, none⟩ = (psC (b.sAt i))[j]? := fun j hj => by
    rw [World.ownsRow.cellAt h.seqs _ (by omega), flat_get psC 2 psC_len Mt.ps0 _ _ _ hi hj]; rfl
  rcases h.seqs.2 with ⟨e, _⟩ | ⟨g', cap', cur, hv, _, _, hc, _⟩
  · simp at e
  · simp only [Value.slice.injEq] at hv
    exact ⟨gs, rfl, hlt, by omega, c 0 (by decide), c 1 (by decide)⟩
theorem TreeAt.atomRow (h : TreeAt L w b so ao sc ac) (i : Nat) (hi : i < b.atoms.length) : ∃ ga, ao = some ⟨ga, 0, none⟩ ∧ ga < w.heap.size ∧ b.atoms.length ≤ ac ∧ (∀ j, j < 20 → w.cell? ⟨ga, i * 20 + j, none⟩ = (paC (b.aAt i))[j]?) := by
  obtain ⟨gs, cap, hv, _, hlt⟩ := World.ownsRow.form h.atoms (by omega)
  simp only [Value.slice.injEq] at hv
  obtain ⟨rfl, _, rfl⟩ := hv
  have c : ∀ j, j < 20 → w.cell? ⟨gs, i * 20 + j, none⟩ = (paC (b.aAt i))[j]? := fun j hj => by
    rw [World.ownsRow.cellAt h.atoms _ (by omega), flat_get paC 20 paC_len Mt.pa0 _ _ _ hi hj]; rfl
  rcases h.atoms.2 with ⟨e, _⟩ | ⟨g', cap', cur, hv, _, _, hc, _⟩
  · simp at e
  · simp only [Value.slice.injEq] at hv
    exact ⟨gs, rfl, hlt, by omega, c⟩
end
theorem Try.sizeAt : (Try.prog.info? 125).map (·.size) = some 20 := by kernel_rfl
theorem paA_all (a : Mt.PA) : (paC a).toArray.all (·.oneCell') = true := by
  rw [List.all_toArray]; simp [paC, ptL, Value.oneCell']

/-- The sizes of forests that are shorter than N. -/
def AltC (b : Mt.PB) (so ao : Option Addr) (sc ac : Nat) (N : Nat) : Prop :=
  ∀ (f : Mt.Fs), f.wf → f.ok → f.flat.length < N → ∀ (s : Nat), s < b.seqs.length → Mt.standsF b 0 0 f (b.sAt s).first (b.sAt s).next → ∀ (L : Nat) (w : World), TreeAt L w b so ao sc ac →
    Calls Try.prog 50 #[treeV b so ao sc ac, .int .i64 (s : Int)] w fun e w' => e = .returned (.int .i64 (Mt.lim f.re.len : Nat)) ∧ Below w.heap.size w w'

set_option maxRecDepth 100000 in
set_option maxHeartbeats 2000000 in
theorem atomSize_leaf {b : Mt.PB} {so ao : Option Addr} {sc ac : Nat} {L : Nat} {w : World} (hT : TreeAt L w b so ao sc ac) (k : Nat) (hk : k < b.atoms.length) (hn : b.atoms.length ≤ 1000) (hb : (b.aAt k).body = -1) :
    Calls Try.prog 90 #[treeV b so ao sc ac, .int .i64 (k : Int)] w fun e w' => e = .returned (.int .i64 1) ∧ Below w.heap.size w w' := by
  obtain ⟨ga, rfl, hga, hac, hc⟩ := hT.atomRow k hk
  have hR : ∀ W : World, (∀ q, q < w.heap.size → W.heap[q]? = w.heap[q]?) → W.rangeAt ga (k * 20) (paC (b.aAt k)) := fun W hW j v hv => by
    by_cases hj : j < 20
    · rw [World.cell?_of_block (a := ⟨ga, k * 20 + j, none⟩) (hW ga hga), hc j hj]; exact hv
    · rw [List.getElem?_eq_none (by rw [paC_len]; omega)] at hv; simp at hv
  have HR : Hid (∀ W : World, (∀ q, q < w.heap.size → W.heap[q]? = w.heap[q]?) → W.rangeAt ga (k * 20) (paC (b.aAt k))) := hR
  have HBD : Hid ((b.aAt k).body = -1) := hb
  clear hR hc hT hb
  have hk' : (k : Int) < (b.atoms.length : Int) := by omega
  unfold treeV
  generalize b.aAt k = A at *
  generalize b.atoms.length = N at *
  go_enter Try.func90, Try.ntmps90
  go_wp2_with (first | (refine wpList_load_mid (by rfl) 125 (.tmp 10) (by rfl) ga (k * 20) (by rfl) (paC A) _ (HR.out _ (fun q hq => heap_old _ _ _ hq)) Try.underlying125 rfl (by rw [Try.sizeAt]; rfl) ?_) | (refine store_blk 125 20 Try.sizeAt (by rfl) (.tmp 5) (.tmp 11) (by rfl) (w.heap.size + 1) (paC A).toArray (by rfl) (by rfl) (by exact heap_b3 _ _ _) (by rfl) (by rfl) (paA_all A) ?_; intro w3 r1 r2 r3 r4; have t17 := (cell_block r1).1 17; change w3.cell? ⟨w.heap.size + 1, 17, none⟩ = some (.int .i64 A.body) at t17; rw [HBD.out] at t17; have R4 : Hid (Below w.heap.size w w3) := (((Below.refl _ _).alloc (Nat.le_refl _) _).alloc (by simp) _).trans (r4 _ (by omega)); clear r1 r2 r3 r4))
  go_returns
  exact ⟨rfl, R4.out⟩

set_option maxRecDepth 100000 in
set_option maxHeartbeats 2000000 in
theorem atomSize_grp {b : Mt.PB} {so ao : Option Addr} {sc ac N : Nat} (hA : AltC b so ao sc ac N) {L : Nat} {w : World} (hT : TreeAt L w b so ao sc ac) (k : Nat) (hk : k < b.atoms.length) (hn : b.atoms.length ≤ 1000) (hns : b.seqs.length ≤ 1000) (t : Mt.Tok) (i : Mt.Fs) (ht : t.kind = 6) (hh : 0 ≤ t.how ∧ t.how ≤ 4) (hw : i.wf) (ho : i.ok) (hl : i.flat.length < N)
    (htk : (b.aAt k).tok = Mt.ptok t) (q : Nat) (hq : (b.aAt k).body = q) (hql : q < b.seqs.length) (hs : Mt.standsF b 0 0 i (b.sAt q).first (b.sAt q).next) :
    Calls Try.prog 90 #[treeV b so ao sc ac, .int .i64 (k : Int)] w fun e w' => e = .returned (.int .i64 (Mt.lim (Mt.grpRe t i.re).len : Nat)) ∧ Below w.heap.size w w' := by
  have HC : Hid (∀ W : World, Below w.heap.size w W → Calls Try.prog 50 #[treeV b so ao sc ac, .int .i64 (q : Int)] W fun e w' => e = .returned (.int .i64 (Mt.lim i.re.len : Nat)) ∧ Below W.heap.size W w') := fun W hW => hA i hw ho hl q hql hs L W (hT.below hW)
  obtain ⟨ga, rfl, hga, hac, hc⟩ := hT.atomRow k hk
  have hR : ∀ W : World, (∀ q, q < w.heap.size → W.heap[q]? = w.heap[q]?) → W.rangeAt ga (k * 20) (paC (b.aAt k)) := fun W hW j v hv => by
    by_cases hj : j < 20
    · rw [World.cell?_of_block (a := ⟨ga, k * 20 + j, none⟩) (hW ga hga), hc j hj]; exact hv
    · rw [List.getElem?_eq_none (by rw [paC_len]; omega)] at hv; simp at hv
  have HR : Hid (∀ W : World, (∀ q, q < w.heap.size → W.heap[q]? = w.heap[q]?) → W.rangeAt ga (k * 20) (paC (b.aAt k))) := hR
  have HBD : Hid ((b.aAt k).body = q) := hq
  have hgr : (b.aAt k).tok.group = Mt.grpP t.how := by rw [htk]; simp [Mt.ptok, ht]
  have HGR : Hid ((b.aAt k).tok.group = Mt.grpP t.how) := hgr
  have hll := Mt.lim_le i.re.len
  have hk' : (k : Int) < (b.atoms.length : Int) := by omega
  have hg3 : (Mt.grpP t.how == 2) = decide (t.how = 3) := by
    unfold Mt.grpP
    by_cases h4 : t.how = 4
    · rw [if_pos h4, h4]; rfl
    · rw [if_neg h4]
      by_cases h3 : t.how = 3
      · rw [if_pos h3, h3]; rfl
      · rw [if_neg h3]; simp [h3]; omega
  have HF : Hid (Mt.lim (Mt.grpRe t i.re).len = if t.how = 3 then Mt.lim i.re.len else Mt.lim (Mt.lim i.re.len + 2)) := by
    show _ = _
    rw [Mt.grpRe_len]
    by_cases h3 : t.how = 3
    · rw [if_pos h3, if_pos h3]; rfl
    · rw [if_neg h3, if_neg h3]; unfold Mt.lim; omega
  clear hR hc hT hq hs hw ho hl hA htk hgr
  unfold treeV
  unfold treeV at HC
  generalize b.aAt k = A at *
  generalize b.atoms.length = NA at *
  generalize Mt.lim i.re.len = I at *
  cases h3 : decide (t.how = 3)
  · rw [h3] at hg3
    have HF2 : Hid (Mt.lim (Mt.grpRe t i.re).len = Mt.lim (I + 2)) := by show _ = _; rw [HF.out, if_neg (by simpa using h3)]
    rw [HF2.out]
    clear HF HF2 h3
    go_enter Try.func90, Try.ntmps90
    go_wp2_with (first | (refine wpList_load_mid (by rfl) 125 (.tmp 10) (by rfl) ga (k * 20) (by rfl) (paC A) _ (HR.out _ (fun q hq => heap_old _ _ _ hq)) Try.underlying125 rfl (by rw [Try.sizeAt]; rfl) ?_) | (refine store_blk 125 20 Try.sizeAt (by rfl) (.tmp 5) (.tmp 11) (by rfl) (w.heap.size + 1) (paC A).toArray (by rfl) (by rfl) (by exact heap_b3 _ _ _) (by rfl) (by rfl) (paA_all A) ?_; intro w3 r1 r2 r3 r4; have t17 := (cell_block r1).1 17; change w3.cell? ⟨w.heap.size + 1, 17, none⟩ = some (.int .i64 A.body) at t17; rw [HBD.out] at t17; have bx := (r2 w.heap.size (by omega)).trans (heap_b2 _ _ _); have bx0 := (cell_block bx).1 0; have bx1 := (cell_block bx).1 1; simp only [List.getElem?_toArray, List.getElem?_cons_succ, List.getElem?_cons_zero] at bx0 bx1; have R4 : Hid (Below w.heap.size w w3 ∧ w3.heap[w.heap.size + 1]? = some (.cells (paC A).toArray 125 (0, 0)) ∧ w.heap.size + 1 < w3.heap.size) := ⟨(((Below.refl _ _).alloc (Nat.le_refl _) _).alloc (by simp) _).trans (r4 _ (by omega)), r1, (Array.getElem?_eq_some_iff.1 r1).1⟩; clear r1 r2 r3 r4 bx))
    refine (HC.out w3 R4.out.1).mono ?_
    rintro e w4 ⟨rfl, b4⟩
    have g2 := (cell_block ((b4.block _ R4.out.2.2).trans R4.out.2.1)).1 2
    change w4.cell? ⟨w.heap.size + 1, 2, none⟩ = some (.int .i64 A.tok.group) at g2
    rw [HGR.out] at g2
    have R5 : Hid (Below w.heap.size w w4) := R4.out.1.trans (b4.mono (by have := R4.out.2.2; omega))
    clear b4
    go_wp2_with (go_at_call 51; refine (limited_int _ (I + 2) (by omega) _).mono ?_; rintro e w' ⟨rfl, rfl⟩)
    go_returns
    exact ⟨rfl, R5.out⟩
  · rw [h3] at hg3
    have HF2 : Hid (Mt.lim (Mt.grpRe t i.re).len = I) := by show _ = _; rw [HF.out, if_pos (by simpa using h3)]
    rw [HF2.out]
    clear HF HF2 h3
    go_enter Try.func90, Try.ntmps90
    go_wp2_with (first | (refine wpList_load_mid (by rfl) 125 (.tmp 10) (by rfl) ga (k * 20) (by rfl) (paC A) _ (HR.out _ (fun q hq => heap_old _ _ _ hq)) Try.underlying125 rfl (by rw [Try.sizeAt]; rfl) ?_) | (refine store_blk 125 20 Try.sizeAt (by rfl) (.tmp 5) (.tmp 11) (by rfl) (w.heap.size + 1) (paC A).toArray (by rfl) (by rfl) (by exact heap_b3 _ _ _) (by rfl) (by rfl) (paA_all A) ?_; intro w3 r1 r2 r3 r4; have t17 := (cell_block r1).1 17; change w3.cell? ⟨w.heap.size + 1, 17, none⟩ = some (.int .i64 A.body) at t17; rw [HBD.out] at t17; have bx := (r2 w.heap.size (by omega)).trans (heap_b2 _ _ _); have bx0 := (cell_block bx).1 0; have bx1 := (cell_block bx).1 1; simp only [List.getElem?_toArray, List.getElem?_cons_succ, List.getElem?_cons_zero] at bx0 bx1; have R4 : Hid (Below w.heap.size w w3 ∧ w3.heap[w.heap.size + 1]? = some (.cells (paC A).toArray 125 (0, 0)) ∧ w.heap.size + 1 < w3.heap.size) := ⟨(((Below.refl _ _).alloc (Nat.le_refl _) _).alloc (by simp) _).trans (r4 _ (by omega)), r1, (Array.getElem?_eq_some_iff.1 r1).1⟩; clear r1 r2 r3 r4 bx))
    refine (HC.out w3 R4.out.1).mono ?_
    rintro e w4 ⟨rfl, b4⟩
    have g2 := (cell_block ((b4.block _ R4.out.2.2).trans R4.out.2.1)).1 2
    change w4.cell? ⟨w.heap.size + 1, 2, none⟩ = some (.int .i64 A.tok.group) at g2
    rw [HGR.out] at g2
    have R5 : Hid (Below w.heap.size w w4) := R4.out.1.trans (b4.mono (by have := R4.out.2.2; omega))
    clear b4
    go_wp2_with fail
    go_returns
    exact ⟨rfl, R5.out⟩
end Go.Proofs.Ytebpgfodelggoaa
