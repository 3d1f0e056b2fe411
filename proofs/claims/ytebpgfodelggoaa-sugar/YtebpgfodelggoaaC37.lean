import Derived.Test.YtebpgfodelggoaaC35
import Derived.Test.YtebpgfodelggoaaC36
import Derived.Test.YtebpgfodelggoaaC15
set_option linter.unusedVariables false
set_option linter.unusedSimpArgs false
namespace Go.Proofs.Ytebpgfodelggoaa
open Go.RowKit

/-- What read answers. -/
def Reads (p : ByteArray) (w : World) (e : Ending) (w' : World) : Prop :=
  ((Mt.checkR p).1 ≠ 0 → e = .returned (.tuple #[.agg #[.slice none 0 0, .slice none 0 0], .int .i64 (Mt.checkR p).1, .int .i64 (Mt.checkR p).2])) ∧
  ((Mt.checkR p).1 = 0 → ∃ so ao sc ac, e = .returned (.tuple #[treeV (Mt.PB.start.run (Mt.tokens p).1) so ao sc ac, .int .i64 0, .int .i64 0]) ∧ TreeAt w.heap.size w' (Mt.PB.start.run (Mt.tokens p).1) so ao sc ac) ∧ Below w.heap.size w w'
theorem reads_bad {p : ByteArray} {w w' : World} {e : Ending} {E k : Int} (h : Mt.checkR p = (E, k)) (hE : E ≠ 0) (he : e = .returned (.tuple #[.agg #[.slice none 0 0, .slice none 0 0], .int .i64 E, .int .i64 k])) (hb : Below w.heap.size w w') : Reads p w e w' := by
  refine ⟨fun _ => by rw [h]; exact he, fun h0 => ?_, hb⟩
  rw [h] at h0; exact absurd h0 hE
theorem TreeAt.lower {L L' : Nat} {w : World} {b : Mt.PB} {so ao : Option Addr} {sc ac : Nat} (h : TreeAt L w b so ao sc ac) (hl : L' ≤ L) : TreeAt L' w b so ao sc ac := by
  have nr : ∀ (o : Option Addr) (n c : Nat) (e : TypeId) (sz : Nat) (xs : List Value), w.ownsRow L e sz (.slice o n c) n xs → w.ownsRow L' e sz (.slice o n c) n xs := by
    intro o n c e sz xs h1
    refine ⟨h1.1, ?_⟩
    rcases h1.2 with h' | ⟨g', cap', cur, hv, h0, hg, rest⟩
    · exact .inl h'
    · exact .inr ⟨g', cap', cur, hv, by omega, hg, rest⟩
  exact ⟨nr _ _ _ _ _ _ h.seqs, nr _ _ _ _ _ _ h.atoms⟩
theorem TreeAt.keep {L B : Nat} {w w' : World} {b : Mt.PB} {so ao : Option Addr} {sc ac : Nat} (h : TreeAt L w b so ao sc ac) (hk : ∀ q, L ≤ q → q < w.heap.size → w'.heap[q]? = w.heap[q]?) : TreeAt L w' b so ao sc ac :=
  ⟨row_keep h.seqs (fun q hq => hk q (World.ownsRow.lt h.seqs q (by rw [ownBlock_blk]; exact hq)).1 (World.ownsRow.lt h.seqs q (by rw [ownBlock_blk]; exact hq)).2), row_keep h.atoms (fun q hq => hk q (World.ownsRow.lt h.atoms q (by rw [ownBlock_blk]; exact hq)).1 (World.ownsRow.lt h.atoms q (by rw [ownBlock_blk]; exact hq)).2)⟩

set_option maxRecDepth 100000 in
set_option maxHeartbeats 4000000 in
theorem read_any (p : ByteArray) (w : World) (hm : p.size ≤ maxLen) : Calls Try.prog 29 #[.string p] w (Reads p w) := by
  have HC := Build_any p (w.alloc (.cells nil2 62)) hm
  have hsz : (w.alloc (.cells nil2 62)).heap.size = w.heap.size + 1 := by simp
  unfold Builds at HC
  rw [hsz] at HC
  by_cases h0 : (Mt.tokens p).2.1 = 0
  · obtain ⟨f, hw, hok, hfl, hst, hs0, hla, hls, hc1, hc2⟩ := Mt.forest p h0
    have HC' : Hid (Calls Try.prog _ _ _ _) := HC
    have HF : Hid (∀ (so ao : Option Addr) (sc ac L : Nat) (W : World), TreeAt L W (Mt.PB.start.run (Mt.tokens p).1) so ao sc ac → Calls Try.prog 37 #[treeV (Mt.PB.start.run (Mt.tokens p).1) so ao sc ac] W fun e w' => e = .returned (.int .i64 (Mt.lim (f.re.len + 1) : Nat)) ∧ Below W.heap.size W w') := fun so ao sc ac L W hT => Size_any (by omega) (by omega) f hw hok hs0 hst hT
    have hcr : Mt.checkR p = if 300 < f.re.len + 1 then (12, 0) else (0, 0) := by
      unfold Mt.checkR
      rw [if_neg (by omega)]
      by_cases x : 300 < f.re.len + 1
      · rw [if_pos x, if_pos (hc1.2 x)]
      · rw [if_neg x, if_neg (fun y => x (hc1.1 y))]
    have HCR : Hid (Mt.checkR p = if 300 < f.re.len + 1 then (12, 0) else (0, 0)) := hcr
    have H0 : Hid ((Mt.tokens p).2.1 = 0) := h0
    have hll := Mt.lim_le (f.re.len + 1)
    have HLL : Hid (300 < f.re.len + 1 ↔ 300 < Mt.lim (f.re.len + 1)) := by
      show _ ↔ _; unfold Mt.lim; omega
    clear HC hc1 hc2 hst hw hok hfl hcr h0
    generalize hbb : Mt.PB.start.run (Mt.tokens p).1 = b at *
    have HBB : Hid (Mt.PB.start.run (Mt.tokens p).1 = b) := hbb
    clear hbb
    generalize Mt.lim (f.re.len + 1) = F at *
    go_enter Try.func29, Try.ntmps29
    go_wp2_with fail
    refine HC'.out.mono ?_
    rintro e w1 ⟨_, hg, hb⟩
    obtain ⟨so, ao, sc, ac, rfl, hT⟩ := hg H0.out
    have hz1 : w1.heap[w.heap.size]? = some (.cells nil2 62 (0, 0)) := (hb.block _ (by omega)).trans (heap_b1 _ _)
    have HB1 : Hid (Below w.heap.size w w1 ∧ w1.heap[w.heap.size]? = some (.cells nil2 62 (0, 0)) ∧ TreeAt (w.heap.size + 1) w1 b so ao sc ac ∧ w.heap.size < w1.heap.size) := ⟨((Below.refl _ _).alloc (Nat.le_refl _) _).trans (hb.mono (by omega)), hz1, hT, (Array.getElem?_eq_some_iff.1 hz1).1⟩
    clear hb hg hT hz1 HC'
    unfold treeV
    go_wp2_with (first | (refine store_blk 62 2 Try.sizeT (by rfl) (.tmp 5) (.tmp 11) (by rfl) w1.heap.size (treeA b so ao sc ac) (by rfl) (by rfl) (by exact heap_b1 _ _) (by rfl) (by rfl) (by simp [treeA, Value.oneCell']) ?_; intro w2 r1 r2 r3 r4) | (refine load_blk 62 2 Try.underlying62 rfl Try.sizeT (by rfl) (.tmp 5) (by rfl) w1.heap.size (by rfl) r1 (by rfl) ?_))
    have hb2 : Below w1.heap.size w1 w2 := ((Below.refl _ _).alloc (Nat.le_refl _) _).trans (r4 _ (Nat.le_refl _))
    have HB2 : Hid (Below w.heap.size w w2 ∧ w2.heap[w.heap.size]? = some (.cells nil2 62 (0, 0)) ∧ TreeAt (w.heap.size + 1) w2 b so ao sc ac ∧ w2.heap[w1.heap.size]? = some (.cells (treeA b so ao sc ac) 62 (0, 0)) ∧ w1.heap.size < w2.heap.size) := ⟨HB1.out.1.trans (hb2.mono (by have := HB1.out.2.2.2; omega)), (hb2.block _ HB1.out.2.2.2).trans HB1.out.2.1, HB1.out.2.2.1.below hb2, r1, (Array.getElem?_eq_some_iff.1 r1).1⟩
    clear r1 r2 r3 r4 hb2
    have HS := HF.out so ao sc ac _ w2 HB2.out.2.2.1
    refine HS.mono ?_
    clear HS
    rintro e w3 ⟨rfl, hb3⟩
    have HB3 : Hid (Below w.heap.size w w3 ∧ w3.heap[w.heap.size]? = some (.cells nil2 62 (0, 0)) ∧ TreeAt (w.heap.size + 1) w3 b so ao sc ac ∧ w3.heap[w1.heap.size]? = some (.cells (treeA b so ao sc ac) 62 (0, 0))) := ⟨HB2.out.1.trans (hb3.mono (by have := HB2.out.2.2.2.2; have := HB1.out.2.2.2; omega)), (hb3.block _ (by have := HB2.out.2.2.2.2; have := HB1.out.2.2.2; omega)).trans HB2.out.2.1, HB2.out.2.2.1.below hb3, (hb3.block _ HB2.out.2.2.2.2).trans HB2.out.2.2.2.1⟩
    clear hb3
    by_cases hbig : 300 < F
    · have HX : Hid (Mt.checkR p = (12, 0)) := by show _ = _; rw [HCR.out, if_pos (HLL.out.2 hbig)]
      have g1 : decide (300 < (F : Int)) = true := by simp; omega
      have g2 : decide (300 < F) = true := by simpa using hbig
      go_wp2_with (refine store_blk 62 2 Try.sizeT (by rfl) (.tmp 2) (.tmp 22) (by rfl) w.heap.size nil2 (by rfl) (by rfl) HB3.out.2.1 (by rfl) (by rfl) nil2_all ?_; intro w5 q1 q2 q3 q4)
      refine bodyPost_ret (ret_blk3 62 2 Try.underlying62 rfl Try.sizeT rfl (by rfl) q1 (by rfl)) rfl ?_
      exact reads_bad HX.out (by decide) rfl (HB3.out.1.trans (q4 _ (Nat.le_refl _)))
    · have HX : Hid (Mt.checkR p = (0, 0)) := by show _ = _; rw [HCR.out, if_neg (fun x => hbig (HLL.out.1 x))]
      have g1 : decide (300 < (F : Int)) = false := by simp; omega
      have g2 : decide (300 < F) = false := by simpa using hbig
      have HNE : Hid (w1.heap.size ≠ w.heap.size) := by have := HB1.out.2.2.2; show _ ≠ _; omega
      go_wp2_with (first | (refine load_blk 62 2 Try.underlying62 rfl Try.sizeT (by rfl) (.tmp 5) (by rfl) w1.heap.size (by rfl) HB3.out.2.2.2 (by rfl) ?_) | (refine store_blk 62 2 Try.sizeT (by rfl) (.tmp 2) (.tmp 23) (by rfl) w.heap.size (treeA b so ao sc ac) (by rfl) (by rfl) HB3.out.2.1 (by rfl) (by rfl) (by simp [treeA, Value.oneCell']) ?_; intro w5 q1 q2 q3 q4))
      refine bodyPost_ret (ret_blk3 62 2 Try.underlying62 rfl Try.sizeT rfl (by rfl) q1 (by rfl)) rfl ?_
      refine ⟨fun h => absurd (by rw [HX.out]) h, fun _ => ⟨so, ao, sc, ac, by rw [HBB.out]; rfl, ?_⟩, HB3.out.1.trans (q4 _ (Nat.le_refl _))⟩
      rw [HBB.out]
      exact (TreeAt.keep (B := 0) HB3.out.2.2.1 (fun q hq _ => q2 q (by omega))).lower (by omega)
  · have hcr : Mt.checkR p = ((Mt.tokens p).2.1, (Mt.tokens p).2.2) := by unfold Mt.checkR; rw [if_pos h0]
    have HCR : Hid (Mt.checkR p = ((Mt.tokens p).2.1, (Mt.tokens p).2.2)) := hcr
    have HC' : Hid (Calls Try.prog _ _ _ _) := HC
    have m2 : ((Mt.tokens p).2.1 != 0) = true := by simpa using h0
    have H0 : Hid ((Mt.tokens p).2.1 ≠ 0) := h0
    clear HC hcr h0
    generalize (Mt.tokens p).2.1 = E at *
    generalize (Mt.tokens p).2.2 = K at *
    go_enter Try.func29, Try.ntmps29
    go_wp2_with fail
    refine HC'.out.mono ?_
    rintro e w1 ⟨hg, _, hb⟩
    obtain rfl := hg H0.out
    have hz1 : w1.heap[w.heap.size]? = some (.cells nil2 62 (0, 0)) := (hb.block _ (by omega)).trans (heap_b1 _ _)
    have hs1 : w.heap.size < w1.heap.size := (Array.getElem?_eq_some_iff.1 hz1).1
    have HB1 : Hid (Below w.heap.size w w1 ∧ w1.heap[w.heap.size]? = some (.cells nil2 62 (0, 0))) := ⟨((Below.refl _ _).alloc (Nat.le_refl _) _).trans (hb.mono (by omega)), hz1⟩
    clear hb hg hz1 HC'
    go_wp2_with (first | (refine store_blk 62 2 Try.sizeT (by rfl) (.tmp 5) (.tmp 11) (by rfl) w1.heap.size nil2 (by rfl) (by rfl) (by exact heap_b1 _ _) (by rfl) (by rfl) nil2_all ?_; intro w2 r1 r2 r3 r4; have R2 : Hid (Below w.heap.size w w2 ∧ w2.heap[w.heap.size]? = some (.cells nil2 62 (0, 0))) := ⟨(HB1.out.1.alloc (by omega) _).trans (r4 _ (by omega)), (r2 _ (by omega)).trans ((heap_old _ _ _ hs1).trans HB1.out.2)⟩; clear r1 r2 r3 r4) | (refine store_blk 62 2 Try.sizeT (by rfl) (.tmp 2) (.tmp 16) (by rfl) w.heap.size nil2 (by rfl) (by rfl) R2.out.2 (by rfl) (by rfl) nil2_all ?_; intro w5 q1 q2 q3 q4))
    refine bodyPost_ret (ret_blk3 62 2 Try.underlying62 rfl Try.sizeT rfl (by rfl) q1 (by rfl)) rfl ?_
    exact reads_bad HCR.out H0.out rfl (R2.out.1.trans (q4 _ (Nat.le_refl _)))

set_option maxRecDepth 100000 in
set_option maxHeartbeats 4000000 in
theorem Check_any (p : ByteArray) (w : World) (hm : p.size ≤ maxLen) : Calls Try.prog 28 #[.string p] w fun e w' => e = .returned (.tuple #[.int .i64 (Mt.checkR p).1, .int .i64 (Mt.checkR p).2]) ∧ Below w.heap.size w w' := by
  have HC : Hid (Calls Try.prog 29 #[.string p] w (fun e w' => ∃ a b, e = .returned (.tuple #[.agg #[a, b], .int .i64 (Mt.checkR p).1, .int .i64 (Mt.checkR p).2]) ∧ (a.oneCell' = true ∧ b.oneCell' = true) ∧ Below w.heap.size w w')) := (read_any p w hm).mono (fun e w' ⟨h1, h2, h3⟩ => by
    by_cases h0 : (Mt.checkR p).1 = 0
    · obtain ⟨so, ao, sc, ac, he, _⟩ := h2 h0
      have h00 : (Mt.checkR p).2 = 0 := by
        unfold Mt.checkR at h0 ⊢
        split at h0
        · rename_i x; exact absurd h0 x
        · rename_i x
          rw [if_neg x]
          split at h0
          · simp at h0
          · rename_i y; rw [if_neg y]
      exact ⟨_, _, by rw [he, h0, h00]; rfl, ⟨rfl, rfl⟩, h3⟩
    · exact ⟨_, _, h1 h0, ⟨rfl, rfl⟩, h3⟩)
  generalize (Mt.checkR p).1 = E at *
  generalize (Mt.checkR p).2 = K at *
  go_enter Try.func28, Try.ntmps28
  go_wp2_with fail
  refine HC.out.mono ?_
  rintro e w1 ⟨a, b, rfl, ⟨ha, hb'⟩, hb⟩
  have HB : Hid (Below w.heap.size w w1) := hb
  clear hb HC
  go_wp2_with (refine store_blk 62 2 Try.sizeT (by rfl) (.tmp 4) (.tmp 10) (by rfl) w1.heap.size #[a, b] (by rfl) (by rfl) (by exact heap_b1 _ _) (by rfl) (by rfl) (by simp [ha, hb']) ?_; intro w2 r1 r2 r3 r4)
  go_returns
  exact ⟨rfl, (HB.out.alloc (HB.out.size) _).trans (r4 _ HB.out.size)⟩
end Go.Proofs.Ytebpgfodelggoaa
