import Derived.Test.YtebpgfodelggoaaGreatC05
set_option linter.unusedVariables false
set_option linter.unusedSimpArgs false
namespace Go.Proofs.YtebpgfodelggoaaGreat
open Go.RowKit

theorem classT_none {p : ByteArray} {i : Int} (h : Mt.classFrom p (Mt.classA p i) = -1) : Mt.classT p i = (⟨0, 0, 0, 0, 0, 0, []⟩, false) := by unfold Mt.classT; rw [if_pos (Or.inl h)]
theorem classT_empty {p : ByteArray} {i : Int} (h : Mt.classFrom p (Mt.classA p i) = Mt.classA p i) : Mt.classT p i = (⟨0, 0, 0, 0, 0, 0, []⟩, false) := by unfold Mt.classT; rw [if_pos (Or.inr h)]
theorem classT_some {p : ByteArray} {i k : Int} (h : Mt.classFrom p (Mt.classA p i) = k) (h1 : 0 ≤ k) (h2 : k ≠ Mt.classA p i) : Mt.classT p i = (⟨1, i, k + 1, 0, 0, 0, Mt.all p (Mt.classA p i) k (decide (Mt.atB p (i + 1) = 94))⟩, true) := by
  unfold Mt.classT; rw [h, if_neg (by omega)]

set_option maxRecDepth 100000 in
set_option maxHeartbeats 4000000 in
theorem class_core (p : ByteArray) (i a : Int) (no : Bool) (w : World) (hp : p.size ≤ 64) (hi0 : 0 ≤ i) (hi1 : i ≤ 64) (hno : (Mt.atB p (i + 1) == 94) = no) (ha : Hid (a = Mt.classA p i)) (ha0 : a = if no then i + 1 + 1 else i + 1) :
    Calls Tryz.prog 79 #[.string p, .int .i64 i] w fun e w' => e = .returned (.tuple #[tokV (Mt.classT p i).1, .bool (Mt.classT p i).2]) ∧ Below w.heap.size w w' := by
  have hdec : Hid (decide (Mt.atB p (i + 1) = 94) = no) := by show _ = _; rw [← hno]; rfl
  cases no
  · simp only [Bool.false_eq_true, if_false] at ha0
    subst ha0
    go_enter Tryz.func79, Tryz.ntmps79
    go_wp2_with (first | (go_at_call 107; refine (at_any _ _ _ hp).mono ?_; rintro e w' ⟨rfl, rfl⟩))
    go_loop [8] (fun b => ∃ k : Nat, i + 1 ≤ (k : Int) ∧ k ≤ 100 ∧ b = .int .i64 k ∧ Mt.classFrom p (i + 1) = Mt.classFrom p k) (fun b => 200 - (intOf b).toNat)
    case atStart => exact ⟨(i + 1).toNat, by omega, by omega, by rw [Int.toNat_of_nonneg (by omega)], by rw [Int.toNat_of_nonneg (by omega)]⟩
    case round =>
      obtain ⟨k, hk1, hk2, rfl, hr⟩ := hrel
      have H : Hid (Mt.classFrom p (i + 1) = Mt.classFrom p k) := hr
      clear hr
      have ⟨d1, d2, d3, d4, d5, d6⟩ := Mt.item_bd p k
      have hst := Mt.classFrom_step p k
      by_cases hlt : k < p.size
      · have eb : Hid (((p[k]'hlt).toNat : Int) = Mt.atB p k) := byte_at p k hlt
        rw [if_neg (by omega)] at hst
        cases hq : (((p[k]'hlt).toNat : Int) != 93)
        · have h93 : Mt.atB p k = 93 := by rw [← eb.out]; simpa using hq
          rw [if_pos h93] at hst
          have HS : Hid (Mt.classFrom p (i + 1) = k) := H.out.trans hst
          clear hst h93 H
          cases hka : ((k : Int) == i + 1)
          · have hT := classT_some (p := p) (i := i) (k := k) (by rw [← ha.out]; exact HS.out) (by omega) (by rw [← ha.out]; simpa using hka)
            rw [← ha.out, hdec.out] at hT
            have HT : Hid (Mt.classT p i = (⟨1, i, k + 1, 0, 0, 0, Mt.all p (i + 1) k false⟩, true)) := hT
            clear hT
            go_wp2_with (first | (go_at_call 82; refine (all_any _ _ _ _ _ hp (by omega) (by omega) (by omega)).mono ?_; rintro e w1 ⟨rfl, hb1⟩; obtain ⟨q0, q1, q4, q5⟩ := one_new hb1; clear hb1))
            refine bodyPost_ret (v := .tuple #[tokV ⟨1, i, k + 1, 0, 0, 0, Mt.all p (i + 1) k false⟩, .bool true]) (by simp [results, Tryz.results79, go_sem, q0, q1, tokV]) rfl ⟨by rw [HT.out], ?_⟩
            go_grown
          · have hT := classT_empty (p := p) (i := i) (by rw [← ha.out, HS.out]; simpa using hka)
            have HT : Hid (Mt.classT p i = (⟨0, 0, 0, 0, 0, 0, []⟩, false)) := hT
            clear hT
            go_wp2_with fail
            go_returns
            exact ⟨by rw [HT.out]; rfl, by go_grown⟩
        · have h93 : ¬ Mt.atB p k = 93 := by rw [← eb.out]; simpa using hq
          rw [if_neg h93] at hst
          clear h93
          cases hz : ((Mt.item p k).2.2.1 == 0)
          · rw [if_neg (by simpa using hz)] at hst
            have hz1 : 1 ≤ (Mt.item p k).2.2.1 := by
              have : (Mt.item p k).2.2.1 ≠ 0 := by simpa using hz
              omega
            have R : Hid (Mt.classFrom p (i + 1) = Mt.classFrom p (k + (Mt.item p k).2.2.1)) := H.out.trans hst
            clear hst H
            go_wp2_with (first | (go_at_call 110; refine (item_any _ _ _ hp (by omega) (by omega)).mono ?_; rintro e w' ⟨rfl, rfl⟩))
            go_round
            case rel => exact ⟨((k : Int) + (Mt.item p k).2.2.1).toNat, by omega, by omega, by rw [Int.toNat_of_nonneg (by omega)], by rw [Int.toNat_of_nonneg (by omega)]; exact R.out⟩
            case measure => simp [intOf]; omega
          · rw [if_pos (by simpa using hz)] at hst
            have HT : Hid (Mt.classT p i = (⟨0, 0, 0, 0, 0, 0, []⟩, false)) := classT_none (by rw [← ha.out]; exact H.out.trans hst)
            clear hst H
            go_wp2_with (first | (go_at_call 110; refine (item_any _ _ _ hp (by omega) (by omega)).mono ?_; rintro e w' ⟨rfl, rfl⟩))
            go_returns
            exact ⟨by rw [HT.out]; rfl, by go_grown⟩
      · rw [if_pos (by omega)] at hst
        have HT : Hid (Mt.classT p i = (⟨0, 0, 0, 0, 0, 0, []⟩, false)) := classT_none (by rw [← ha.out]; exact H.out.trans hst)
        clear hst H
        cases hka : ((k : Int) == i + 1)
        all_goals
          go_wp2_with fail
          go_returns
          exact ⟨by rw [HT.out]; rfl, by go_grown⟩
  · simp only [if_true] at ha0
    subst ha0
    go_enter Tryz.func79, Tryz.ntmps79
    go_wp2_with (first | (go_at_call 107; refine (at_any _ _ _ hp).mono ?_; rintro e w' ⟨rfl, rfl⟩))
    go_loop [8] (fun b => ∃ k : Nat, i + 1 + 1 ≤ (k : Int) ∧ k ≤ 100 ∧ b = .int .i64 k ∧ Mt.classFrom p (i + 1 + 1) = Mt.classFrom p k) (fun b => 200 - (intOf b).toNat)
    case atStart => exact ⟨(i + 1 + 1).toNat, by omega, by omega, by rw [Int.toNat_of_nonneg (by omega)], by rw [Int.toNat_of_nonneg (by omega)]⟩
    case round =>
      obtain ⟨k, hk1, hk2, rfl, hr⟩ := hrel
      have H : Hid (Mt.classFrom p (i + 1 + 1) = Mt.classFrom p k) := hr
      clear hr
      have ⟨d1, d2, d3, d4, d5, d6⟩ := Mt.item_bd p k
      have hst := Mt.classFrom_step p k
      by_cases hlt : k < p.size
      · have eb : Hid (((p[k]'hlt).toNat : Int) = Mt.atB p k) := byte_at p k hlt
        rw [if_neg (by omega)] at hst
        cases hq : (((p[k]'hlt).toNat : Int) != 93)
        · have h93 : Mt.atB p k = 93 := by rw [← eb.out]; simpa using hq
          rw [if_pos h93] at hst
          have HS : Hid (Mt.classFrom p (i + 1 + 1) = k) := H.out.trans hst
          clear hst h93 H
          cases hka : ((k : Int) == i + 1 + 1)
          · have hT := classT_some (p := p) (i := i) (k := k) (by rw [← ha.out]; exact HS.out) (by omega) (by rw [← ha.out]; simpa using hka)
            rw [← ha.out, hdec.out] at hT
            have HT : Hid (Mt.classT p i = (⟨1, i, k + 1, 0, 0, 0, Mt.all p (i + 1 + 1) k true⟩, true)) := hT
            clear hT
            go_wp2_with (first | (go_at_call 82; refine (all_any _ _ _ _ _ hp (by omega) (by omega) (by omega)).mono ?_; rintro e w1 ⟨rfl, hb1⟩; obtain ⟨q0, q1, q4, q5⟩ := one_new hb1; clear hb1))
            refine bodyPost_ret (v := .tuple #[tokV ⟨1, i, k + 1, 0, 0, 0, Mt.all p (i + 1 + 1) k true⟩, .bool true]) (by simp [results, Tryz.results79, go_sem, q0, q1, tokV]) rfl ⟨by rw [HT.out], ?_⟩
            go_grown
          · have hT := classT_empty (p := p) (i := i) (by rw [← ha.out, HS.out]; simpa using hka)
            have HT : Hid (Mt.classT p i = (⟨0, 0, 0, 0, 0, 0, []⟩, false)) := hT
            clear hT
            go_wp2_with fail
            go_returns
            exact ⟨by rw [HT.out]; rfl, by go_grown⟩
        · have h93 : ¬ Mt.atB p k = 93 := by rw [← eb.out]; simpa using hq
          rw [if_neg h93] at hst
          clear h93
          cases hz : ((Mt.item p k).2.2.1 == 0)
          · rw [if_neg (by simpa using hz)] at hst
            have hz1 : 1 ≤ (Mt.item p k).2.2.1 := by
              have : (Mt.item p k).2.2.1 ≠ 0 := by simpa using hz
              omega
            have R : Hid (Mt.classFrom p (i + 1 + 1) = Mt.classFrom p (k + (Mt.item p k).2.2.1)) := H.out.trans hst
            clear hst H
            go_wp2_with (first | (go_at_call 110; refine (item_any _ _ _ hp (by omega) (by omega)).mono ?_; rintro e w' ⟨rfl, rfl⟩))
            go_round
            case rel => exact ⟨((k : Int) + (Mt.item p k).2.2.1).toNat, by omega, by omega, by rw [Int.toNat_of_nonneg (by omega)], by rw [Int.toNat_of_nonneg (by omega)]; exact R.out⟩
            case measure => simp [intOf]; omega
          · rw [if_pos (by simpa using hz)] at hst
            have HT : Hid (Mt.classT p i = (⟨0, 0, 0, 0, 0, 0, []⟩, false)) := classT_none (by rw [← ha.out]; exact H.out.trans hst)
            clear hst H
            go_wp2_with (first | (go_at_call 110; refine (item_any _ _ _ hp (by omega) (by omega)).mono ?_; rintro e w' ⟨rfl, rfl⟩))
            go_returns
            exact ⟨by rw [HT.out]; rfl, by go_grown⟩
      · rw [if_pos (by omega)] at hst
        have HT : Hid (Mt.classT p i = (⟨0, 0, 0, 0, 0, 0, []⟩, false)) := classT_none (by rw [← ha.out]; exact H.out.trans hst)
        clear hst H
        cases hka : ((k : Int) == i + 1 + 1)
        all_goals
          go_wp2_with fail
          go_returns
          exact ⟨by rw [HT.out]; rfl, by go_grown⟩

theorem class_any (p : ByteArray) (i : Int) (w : World) (hp : p.size ≤ 64) (hi0 : 0 ≤ i) (hi1 : i ≤ 64) :
    Calls Tryz.prog 79 #[.string p, .int .i64 i] w fun e w' => e = .returned (.tuple #[tokV (Mt.classT p i).1, .bool (Mt.classT p i).2]) ∧ Below w.heap.size w w' := by
  refine class_core p i (Mt.classA p i) (Mt.atB p (i + 1) == 94) w hp hi0 hi1 rfl rfl ?_
  unfold Mt.classA
  by_cases h : Mt.atB p (i + 1) = 94
  · rw [if_pos h, if_pos (by simpa using h)]; omega
  · rw [if_neg h, if_neg (by simpa using h)]
end Go.Proofs.YtebpgfodelggoaaGreat
