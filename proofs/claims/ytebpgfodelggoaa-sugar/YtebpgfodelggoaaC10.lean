import Derived.Test.YtebpgfodelggoaaC09
set_option linter.unusedVariables false
set_option linter.unusedSimpArgs false
namespace Go.Proofs.Ytebpgfodelggoaa
open Go.RowKit

/-- What readCount answers. -/
def coP (p : ByteArray) (i : Int) : Mt.PT × Int := if (Mt.count p i).2.2.2 then (moodP p (Mt.count p i).2.2.1 (Mt.count p i).1 (Mt.count p i).2.1, 0) else (Mt.pt0, 4)
theorem coP_cases (p : ByteArray) (i : Int) :
    ((numP p (i + 1)).2.2 = false ∧ coP p i = (Mt.pt0, 4)) ∨
    ((numP p (i + 1)).2.2 = true ∧ (Mt.atB p (numP p (i + 1)).2.1 == 44) = false ∧
      (((Mt.atB p (numP p (i + 1)).2.1 != 125) = true ∧ coP p i = (Mt.pt0, 4)) ∨
       ((Mt.atB p (numP p (i + 1)).2.1 != 125) = false ∧ coP p i = (moodP p ((numP p (i + 1)).2.1 + 1) (numP p (i + 1)).1 (numP p (i + 1)).1, 0)))) ∨
    ((numP p (i + 1)).2.2 = true ∧ (Mt.atB p (numP p (i + 1)).2.1 == 44) = true ∧
      (((mostP p ((numP p (i + 1)).2.1 + 1)).2.2 = false ∧ coP p i = (Mt.pt0, 4)) ∨
       ((mostP p ((numP p (i + 1)).2.1 + 1)).2.2 = true ∧ ((mostP p ((numP p (i + 1)).2.1 + 1)).1 != -1) = true ∧ decide ((mostP p ((numP p (i + 1)).2.1 + 1)).1 < (numP p (i + 1)).1) = true ∧ coP p i = (Mt.pt0, 4)) ∨
       ((mostP p ((numP p (i + 1)).2.1 + 1)).2.2 = true ∧ (((mostP p ((numP p (i + 1)).2.1 + 1)).1 != -1) = false ∨ ((mostP p ((numP p (i + 1)).2.1 + 1)).1 != -1) = true ∧ decide ((mostP p ((numP p (i + 1)).2.1 + 1)).1 < (numP p (i + 1)).1) = false) ∧
         (((Mt.atB p (mostP p ((numP p (i + 1)).2.1 + 1)).2.1 != 125) = true ∧ coP p i = (Mt.pt0, 4)) ∨
          ((Mt.atB p (mostP p ((numP p (i + 1)).2.1 + 1)).2.1 != 125) = false ∧ coP p i = (moodP p ((mostP p ((numP p (i + 1)).2.1 + 1)).2.1 + 1) (numP p (i + 1)).1 (mostP p ((numP p (i + 1)).2.1 + 1)).1, 0)))))) := by
  have b1 := Mt.number_bd p (i + 1)
  have b2 := Mt.number_bd p (i + 1 + (Mt.number p (i + 1)).2 + 1)
  have no : ∀ x, Mt.count p i = x → x.2.2.2 = false → coP p i = (Mt.pt0, 4) := fun x h e => by unfold coP; rw [h, e]; rfl
  have yes : ∀ a b c, Mt.count p i = (a, b, c, true) → coP p i = (moodP p c a b, 0) := fun a b c h => by unfold coP; rw [h]; rfl
  by_cases h1 : (Mt.number p (i + 1)).2 = 0 ∨ 20 < (Mt.number p (i + 1)).1
  · left
    refine ⟨by unfold numP; rw [if_pos h1], no (0, 0, 0, false) ?_ rfl⟩
    unfold Mt.count; rw [if_pos h1]
  · right
    have en : numP p (i + 1) = ((Mt.number p (i + 1)).1, i + 1 + (Mt.number p (i + 1)).2, true) := by unfold numP; rw [if_neg h1]
    rw [en]
    dsimp only
    by_cases h2 : Mt.atB p (i + 1 + (Mt.number p (i + 1)).2) = 44
    · right
      refine ⟨rfl, by simpa using h2, ?_⟩
      by_cases h3 : Mt.atB p (i + 1 + (Mt.number p (i + 1)).2 + 1) = 125
      · have em : mostP p (i + 1 + (Mt.number p (i + 1)).2 + 1) = (-1, i + 1 + (Mt.number p (i + 1)).2 + 1, true) := by unfold mostP; rw [if_pos h3]
        rw [em]
        right; right
        refine ⟨rfl, Or.inl rfl, Or.inr ⟨by simpa using h3, ?_⟩⟩
        rw [show i + 1 + (Mt.number p (i + 1)).2 + 1 + 1 = i + 1 + (Mt.number p (i + 1)).2 + 2 by omega]
        apply yes
        unfold Mt.count; rw [if_neg h1, if_neg (by omega), if_neg (by omega), if_pos h3]
      · have em : mostP p (i + 1 + (Mt.number p (i + 1)).2 + 1) = numP p (i + 1 + (Mt.number p (i + 1)).2 + 1) := by unfold mostP; rw [if_neg h3]
        rw [em]
        by_cases h4 : (Mt.number p (i + 1 + (Mt.number p (i + 1)).2 + 1)).2 = 0 ∨ 20 < (Mt.number p (i + 1 + (Mt.number p (i + 1)).2 + 1)).1
        · left
          refine ⟨by unfold numP; rw [if_pos h4], no (0, 0, 0, false) ?_ rfl⟩
          unfold Mt.count; rw [if_neg h1, if_neg (by omega), if_neg (by omega), if_neg h3, if_pos (by omega)]
        · right
          have ey : numP p (i + 1 + (Mt.number p (i + 1)).2 + 1) = ((Mt.number p (i + 1 + (Mt.number p (i + 1)).2 + 1)).1, i + 1 + (Mt.number p (i + 1)).2 + 1 + (Mt.number p (i + 1 + (Mt.number p (i + 1)).2 + 1)).2, true) := by unfold numP; rw [if_neg h4]
          rw [ey]
          dsimp only
          by_cases h5 : (Mt.number p (i + 1 + (Mt.number p (i + 1)).2 + 1)).1 < (Mt.number p (i + 1)).1
          · left
            refine ⟨rfl, by simp; omega, by simpa using h5, no (0, 0, 0, false) ?_ rfl⟩
            unfold Mt.count; rw [if_neg h1, if_neg (by omega), if_neg (by omega), if_neg h3, if_pos (by omega)]
          · right
            refine ⟨rfl, Or.inr ⟨by simp; omega, by simpa using h5⟩, ?_⟩
            by_cases h6 : Mt.atB p (i + 1 + (Mt.number p (i + 1)).2 + 1 + (Mt.number p (i + 1 + (Mt.number p (i + 1)).2 + 1)).2) = 125
            · right
              refine ⟨by simpa using h6, ?_⟩
              rw [show i + 1 + (Mt.number p (i + 1)).2 + 1 + (Mt.number p (i + 1 + (Mt.number p (i + 1)).2 + 1)).2 + 1 = i + 1 + (Mt.number p (i + 1)).2 + 2 + (Mt.number p (i + 1 + (Mt.number p (i + 1)).2 + 1)).2 by omega]
              apply yes
              unfold Mt.count; rw [if_neg h1, if_neg (by omega), if_neg (by omega), if_neg h3, if_neg (by omega)]
            · left
              refine ⟨by simpa using h6, no (0, 0, 0, false) ?_ rfl⟩
              unfold Mt.count; rw [if_neg h1, if_neg (by omega), if_neg (by omega), if_neg h3, if_pos (by omega)]
    · left
      refine ⟨rfl, by simpa using h2, ?_⟩
      by_cases h3 : Mt.atB p (i + 1 + (Mt.number p (i + 1)).2) = 125
      · right
        refine ⟨by simpa using h3, yes _ _ _ ?_⟩
        unfold Mt.count; rw [if_neg h1, if_pos h3]
      · left
        refine ⟨by simpa using h3, no (0, 0, 0, false) ?_ rfl⟩
        unfold Mt.count; rw [if_neg h1, if_neg h3, if_pos h2]
theorem numP_bd (p : ByteArray) (i : Int) (h : 0 ≤ i) : 0 ≤ (numP p i).2.1 ∧ (numP p i).2.1 ≤ i + 2 ∧ 0 ≤ (numP p i).1 ∧ (numP p i).1 ≤ 20 := by
  have b1 := Mt.number_bd p i
  unfold numP; split
  · simp; omega
  · simp only; omega
theorem mostP_bd (p : ByteArray) (i : Int) (h : 0 ≤ i) : 0 ≤ (mostP p i).2.1 ∧ (mostP p i).2.1 ≤ i + 2 ∧ -1 ≤ (mostP p i).1 ∧ (mostP p i).1 ≤ 20 := by
  have b1 := numP_bd p i h
  unfold mostP; split
  · simp only; omega
  · omega

set_option maxRecDepth 100000 in
set_option maxHeartbeats 2000000 in
theorem readCount_any (p : ByteArray) (i : Int) (w : World) (hp : p.size ≤ 64) (hi0 : 0 ≤ i) (hi1 : i ≤ 100) :
    Calls Try.prog 62 #[.string p, .int .i64 i] w fun e w' => e = .returned (.tuple #[ptV (coP p i).1, .int .i64 (coP p i).2]) ∧ Below w.heap.size w w' := by
  obtain ⟨n1, n2, n3, n4⟩ := numP_bd p (i + 1) (by omega)
  obtain ⟨m1, m2, m3, m4⟩ := mostP_bd p ((numP p (i + 1)).2.1 + 1) (by omega)
  rcases coP_cases p i with ⟨a1, e⟩ | ⟨a1, a2, ⟨a3, e⟩ | ⟨a3, e⟩⟩ | ⟨a1, a2, ⟨a3, e⟩ | ⟨a3, a4, a5, e⟩ | ⟨a3, a4, ⟨a5, e⟩ | ⟨a5, e⟩⟩⟩
  · rw [e]; clear e
    go_enter Try.func62, Try.ntmps62
    go_wp2_with (first | (go_at_call 59; refine (byteAt_any _ _ _ hp).mono ?_; rintro e w' ⟨rfl, rfl⟩) | (go_at_call 81; refine (readNumber_any _ _ _ hp (by omega) (by omega)).mono ?_; rintro e w' ⟨rfl, rfl⟩) | (go_at_call 82; refine (readMost_any _ _ _ hp (by omega) (by omega)).mono ?_; rintro e w' ⟨rfl, rfl⟩))
    go_returns
    exact ⟨rfl, by go_grown⟩
  · rw [e]; clear e
    go_enter Try.func62, Try.ntmps62
    go_wp2_with (first | (go_at_call 59; refine (byteAt_any _ _ _ hp).mono ?_; rintro e w' ⟨rfl, rfl⟩) | (go_at_call 81; refine (readNumber_any _ _ _ hp (by omega) (by omega)).mono ?_; rintro e w' ⟨rfl, rfl⟩) | (go_at_call 82; refine (readMost_any _ _ _ hp (by omega) (by omega)).mono ?_; rintro e w' ⟨rfl, rfl⟩))
    go_returns
    exact ⟨rfl, by go_grown⟩
  · rw [e]; clear e
    obtain ⟨T, hT⟩ : ∃ T, T = moodP p ((numP p (i + 1)).2.1 + 1) (numP p (i + 1)).1 (numP p (i + 1)).1 := ⟨_, rfl⟩
    rw [← hT]
    have HT : Hid (T = moodP p ((numP p (i + 1)).2.1 + 1) (numP p (i + 1)).1 (numP p (i + 1)).1) := hT
    clear hT
    go_enter Try.func62, Try.ntmps62
    go_wp2_with (first | (go_at_call 59; refine (byteAt_any _ _ _ hp).mono ?_; rintro e w' ⟨rfl, rfl⟩) | (go_at_call 81; refine (readNumber_any _ _ _ hp (by omega) (by omega)).mono ?_; rintro e w' ⟨rfl, rfl⟩) | (go_at_call 82; refine (readMost_any _ _ _ hp (by omega) (by omega)).mono ?_; rintro e w' ⟨rfl, rfl⟩))
    have MA := readMood_any p ((numP p (i + 1)).2.1 + 1) (numP p (i + 1)).1 (numP p (i + 1)).1 (w.alloc (.cells (ptA Mt.pt0) 103)) hp (by omega) (by omega)
    rw [← HT.out] at MA
    refine MA.mono ?_
    clear MA
    rintro e w1 ⟨rfl, b1⟩
    have HZ : Hid (w1.heap[w.heap.size]? = some (.cells (ptA Mt.pt0) 103 (0, 0)) ∧ Below w.heap.size w w1) := ⟨(b1.block _ (by simp)).trans (heap_b1 w _), ((Below.refl _ _).alloc (Nat.le_refl _) _).trans (b1.mono (by simp))⟩
    clear b1
    go_wp2_with (refine store_blk 103 8 Try.sizePT (by rfl) (.tmp 4) (.tmp 56) (by rfl) w.heap.size (ptA T) (by rfl) (by rfl) HZ.out.1 (by rfl) (by rfl) (ptA_all _) ?_; intro w3 r1 r2 r3 r4)
    refine bodyPost_ret (ret_blk2 103 8 Try.underlying103 rfl Try.sizePT rfl (by rfl) r1 (by rfl)) rfl ⟨rfl, ?_⟩
    exact HZ.out.2.trans (r4 _ (Nat.le_refl _))
  · rw [e]; clear e
    go_enter Try.func62, Try.ntmps62
    go_wp2_with (first | (go_at_call 59; refine (byteAt_any _ _ _ hp).mono ?_; rintro e w' ⟨rfl, rfl⟩) | (go_at_call 81; refine (readNumber_any _ _ _ hp (by omega) (by omega)).mono ?_; rintro e w' ⟨rfl, rfl⟩) | (go_at_call 82; refine (readMost_any _ _ _ hp (by omega) (by omega)).mono ?_; rintro e w' ⟨rfl, rfl⟩))
    go_returns
    exact ⟨rfl, by go_grown⟩
  · rw [e]; clear e
    go_enter Try.func62, Try.ntmps62
    go_wp2_with (first | (go_at_call 59; refine (byteAt_any _ _ _ hp).mono ?_; rintro e w' ⟨rfl, rfl⟩) | (go_at_call 81; refine (readNumber_any _ _ _ hp (by omega) (by omega)).mono ?_; rintro e w' ⟨rfl, rfl⟩) | (go_at_call 82; refine (readMost_any _ _ _ hp (by omega) (by omega)).mono ?_; rintro e w' ⟨rfl, rfl⟩))
    go_returns
    exact ⟨rfl, by go_grown⟩
  · rw [e]; clear e
    rcases a4 with a4 | ⟨a4, a4'⟩
    all_goals
      go_enter Try.func62, Try.ntmps62
      go_wp2_with (first | (go_at_call 59; refine (byteAt_any _ _ _ hp).mono ?_; rintro e w' ⟨rfl, rfl⟩) | (go_at_call 81; refine (readNumber_any _ _ _ hp (by omega) (by omega)).mono ?_; rintro e w' ⟨rfl, rfl⟩) | (go_at_call 82; refine (readMost_any _ _ _ hp (by omega) (by omega)).mono ?_; rintro e w' ⟨rfl, rfl⟩))
      go_returns
      exact ⟨rfl, by go_grown⟩
  · rw [e]; clear e
    obtain ⟨T, hT⟩ : ∃ T, T = moodP p ((mostP p ((numP p (i + 1)).2.1 + 1)).2.1 + 1) (numP p (i + 1)).1 (mostP p ((numP p (i + 1)).2.1 + 1)).1 := ⟨_, rfl⟩
    rw [← hT]
    have HT : Hid (T = moodP p ((mostP p ((numP p (i + 1)).2.1 + 1)).2.1 + 1) (numP p (i + 1)).1 (mostP p ((numP p (i + 1)).2.1 + 1)).1) := hT
    clear hT
    rcases a4 with a4 | ⟨a4, a4'⟩
    all_goals
      go_enter Try.func62, Try.ntmps62
      go_wp2_with (first | (go_at_call 59; refine (byteAt_any _ _ _ hp).mono ?_; rintro e w' ⟨rfl, rfl⟩) | (go_at_call 81; refine (readNumber_any _ _ _ hp (by omega) (by omega)).mono ?_; rintro e w' ⟨rfl, rfl⟩) | (go_at_call 82; refine (readMost_any _ _ _ hp (by omega) (by omega)).mono ?_; rintro e w' ⟨rfl, rfl⟩))
      have MA := readMood_any p ((mostP p ((numP p (i + 1)).2.1 + 1)).2.1 + 1) (numP p (i + 1)).1 (mostP p ((numP p (i + 1)).2.1 + 1)).1 (w.alloc (.cells (ptA Mt.pt0) 103)) hp (by omega) (by omega)
      rw [← HT.out] at MA
      refine MA.mono ?_
      clear MA
      rintro e w1 ⟨rfl, b1⟩
      have HZ : Hid (w1.heap[w.heap.size]? = some (.cells (ptA Mt.pt0) 103 (0, 0)) ∧ Below w.heap.size w w1) := ⟨(b1.block _ (by simp)).trans (heap_b1 w _), ((Below.refl _ _).alloc (Nat.le_refl _) _).trans (b1.mono (by simp))⟩
      clear b1
      go_wp2_with (refine store_blk 103 8 Try.sizePT (by rfl) (.tmp 4) (.tmp 56) (by rfl) w.heap.size (ptA T) (by rfl) (by rfl) HZ.out.1 (by rfl) (by rfl) (ptA_all _) ?_; intro w3 r1 r2 r3 r4)
      refine bodyPost_ret (ret_blk2 103 8 Try.underlying103 rfl Try.sizePT rfl (by rfl) r1 (by rfl)) rfl ⟨rfl, ?_⟩
      exact HZ.out.2.trans (r4 _ (Nat.le_refl _))
end Go.Proofs.Ytebpgfodelggoaa
