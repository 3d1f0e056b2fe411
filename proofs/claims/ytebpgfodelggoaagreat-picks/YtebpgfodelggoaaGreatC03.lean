import Derived.Test.YtebpgfodelggoaaGreatC02
import Derived.Test.YtebpgfodelggoaaGreatRows
import Derived.WalkKit
import Derived.WalkSpells
import Derived.WalkLawsBesides
import Derived.Handy
set_option linter.unusedVariables false
set_option linter.unusedSimpArgs false
namespace Go.Proofs.YtebpgfodelggoaaGreat
open Go.RowKit

theorem results_tmp4 {fn : Func} {t u v x : Tmp} (h : fn.results = #[.tmp t, .tmp u, .tmp v, .tmp x]) (tmps : Array Value) (P : Program) (w : World) :
    (results fn tmps).run P w = .ok (.tuple #[tmps.getD t undef, tmps.getD u undef, tmps.getD v undef, tmps.getD x undef]) w := by
  simp [results, h]

theorem ret_int {k : IntKind} {a b : Int} (h : a = b) : Ending.returned (.int k a) = .returned (.int k b) := by rw [h]
set_option maxHeartbeats 400000 in
theorem at_any (p : ByteArray) (i : Int) (w : World) (hp : p.size ≤ 64) :
    Calls Tryz.prog 107 #[.string p, .int .i64 i] w fun e w' => e = .returned (.int .i64 (Mt.atB p i)) ∧ w = w' := by
  by_cases h0 : i < 0
  · rw [Mt.atB_out p i (by omega)]
    go_enter Tryz.func107, Tryz.ntmps107
    go_wp2
    go_ret
    exact ⟨rfl, rfl⟩
  · by_cases h1 : (p.size : Int) ≤ i
    · rw [Mt.atB_out p i (by omega)]
      go_enter Tryz.func107, Tryz.ntmps107
      go_wp2
      go_ret
      exact ⟨rfl, rfl⟩
    · obtain ⟨k, rfl⟩ := Int.eq_ofNat_of_zero_le (show 0 ≤ i by omega)
      have hk : k < p.size := by omega
      rw [← atB_nat p k hk]
      go_enter Tryz.func107, Tryz.ntmps107
      go_wp2
      go_ret
      exact ⟨rfl, rfl⟩

set_option maxHeartbeats 400000 in
theorem digit_any (c : Int) (w : World) (_h0 : 0 ≤ c) (_h1 : c ≤ 255) :
    Calls Tryz.prog 108 #[.int .u8 c] w fun e w' => e = .returned (.bool (Mt.digB c)) ∧ w = w' := by
  by_cases a : 48 ≤ c
  · by_cases b : c ≤ 57
    · rw [digB_t ⟨a, b⟩]
      go_enter Tryz.func108, Tryz.ntmps108
      go_wp2
      go_ret
      exact ⟨rfl, rfl⟩
    · rw [digB_f (by omega)]
      go_enter Tryz.func108, Tryz.ntmps108
      go_wp2
      go_ret
      exact ⟨rfl, rfl⟩
  · rw [digB_f (by omega)]
    go_enter Tryz.func108, Tryz.ntmps108
    go_wp2
    go_ret
    exact ⟨rfl, rfl⟩

theorem letB_t {c : Int} (h : (97 ≤ c ∧ c ≤ 122) ∨ (65 ≤ c ∧ c ≤ 90)) : Mt.letB c = true := by simp [Mt.letB, h]
theorem letB_f {c : Int} (h : ¬ ((97 ≤ c ∧ c ≤ 122) ∨ (65 ≤ c ∧ c ≤ 90))) : Mt.letB c = false := by simp only [Mt.letB, decide_eq_false_iff_not]; exact h

set_option maxHeartbeats 400000 in
theorem letter_any (c : Int) (w : World) (_h0 : 0 ≤ c) (_h1 : c ≤ 255) :
    Calls Tryz.prog 109 #[.int .u8 c] w fun e w' => e = .returned (.bool (Mt.letB c)) ∧ w = w' := by
  rcases (show (c < 65 ∧ Mt.letB c = false) ∨ ((65 ≤ c ∧ c ≤ 90) ∧ Mt.letB c = true) ∨ ((90 < c ∧ c < 97) ∧ Mt.letB c = false) ∨ ((97 ≤ c ∧ c ≤ 122) ∧ Mt.letB c = true) ∨ (122 < c ∧ Mt.letB c = false) by
      simp only [Mt.letB, decide_eq_true_eq, decide_eq_false_iff_not]; omega) with ⟨h, e⟩ | ⟨⟨h, h'⟩, e⟩ | ⟨⟨h, h'⟩, e⟩ | ⟨⟨h, h'⟩, e⟩ | ⟨h, e⟩
  all_goals
    rw [e]; clear e
    go_enter Tryz.func109, Tryz.ntmps109
    go_wp2
    go_ret
    first | exact ⟨rfl, rfl⟩ | exact ⟨ret_bool (by simp; omega), rfl⟩

set_option maxHeartbeats 400000 in
theorem classByte_any (p : ByteArray) (i : Int) (w : World) (hp : p.size ≤ 64) (_hi0 : 0 ≤ i) (_hi1 : i ≤ 1000) :
    Calls Tryz.prog 127 #[.string p, .int .i64 i] w fun e w' => e = .returned (.tuple #[.int .u8 (Mt.classByte p i).1, .int .i64 (Mt.classByte p i).2]) ∧ w = w' := by
  have l0 := Mt.atB_lo p i
  have l1 := Mt.atB_hi p i
  have m0 := Mt.atB_lo p (i + 1)
  have m1 := Mt.atB_hi p (i + 1)
  rcases Mt.classByte_cases p i with ⟨a1, e⟩ | ⟨a0, a1, ⟨a2, e⟩ | ⟨a2, a3, e⟩ | ⟨a2, a3, a4, e⟩ | ⟨a2, a3, a4, a5, e⟩ | ⟨a2, a3, a4, a5, a6, a7, e⟩ | ⟨a2, a3, a4, a5, a6, a7, a8, e⟩ | ⟨a2, a3, a4, a5, a6, a7, a8, e⟩⟩
  all_goals
    rw [e]; clear e
    go_enter Tryz.func127, Tryz.ntmps127
    go_wp2_with (first | (go_at_call 107; refine (at_any _ _ _ hp).mono ?_; rintro e w' ⟨rfl, rfl⟩) | (go_at_call 108; refine (digit_any _ _ (by omega) (by omega)).mono ?_; rintro e w' ⟨rfl, rfl⟩) | (go_at_call 109; refine (letter_any _ _ (by omega) (by omega)).mono ?_; rintro e w' ⟨rfl, rfl⟩))
    go_ret2
    exact ⟨rfl, rfl⟩

set_option maxHeartbeats 400000 in
theorem short_any (x : Bool) (c : Int) (w : World) (_h0 : 0 ≤ c) (_h1 : c ≤ 255) :
    Calls Tryz.prog 129 #[.bool x, .int .u8 c] w fun e w' => e = .returned (.bool (Mt.shortB x c)) ∧ w = w' := by
  cases x <;> cases hd : Mt.digB c <;> cases hl : Mt.letB c
  all_goals
    go_enter Tryz.func129, Tryz.ntmps129
    go_wp2_with (first | (go_at_call 108; refine (digit_any _ _ (by omega) (by omega)).mono ?_; rintro e w' ⟨rfl, rfl⟩) | (go_at_call 109; refine (letter_any _ _ (by omega) (by omega)).mono ?_; rintro e w' ⟨rfl, rfl⟩))
    all_goals
      go_ret
      exact ⟨ret_bool (by simp [Mt.shortB, hd, hl]; try rfl), rfl⟩
end Go.Proofs.YtebpgfodelggoaaGreat
set_option linter.unusedVariables false
set_option linter.unusedSimpArgs false
namespace Go.Proofs.YtebpgfodelggoaaGreat
open Go.RowKit

set_option maxHeartbeats 1000000 in
theorem item_any (p : ByteArray) (i : Int) (w : World) (hp : p.size ≤ 64) (_hi0 : 0 ≤ i) (_hi1 : i ≤ 900) :
    Calls Tryz.prog 110 #[.string p, .int .i64 i] w fun e w' => e = .returned (.tuple #[.int .u8 (Mt.item p i).1, .int .u8 (Mt.item p i).2.1, .int .i64 (Mt.item p i).2.2.1, .bool (Mt.item p i).2.2.2]) ∧ w = w' := by
  have ⟨b1, b2, b3, b4⟩ := Mt.classByte_bd p i
  have ⟨c1, c2, c3, c4⟩ := Mt.classByte_bd p (i + (Mt.classByte p i).2 + 1)
  have m1 := Mt.atB_hi p (i + 1)
  rcases Mt.item_cases p i with ⟨a1, a2, m0, e⟩ | ⟨a1, a2, a3, m0, e⟩ | ⟨a0, ⟨a1, e⟩ | ⟨a1, a2, e⟩ | ⟨a1, a2, a3, e⟩ | ⟨a1, a2, a3, a4, e⟩ | ⟨a1, a2, a3, a4, e⟩⟩
  rotate_left 2
  all_goals try rcases a0 with a0 | ⟨a0, a0', a0''⟩
  all_goals
    rw [e]; clear e
    go_enter Tryz.func110, Tryz.ntmps110
    go_wp2_with (first | (go_at_call 107; refine (at_any _ _ _ hp).mono ?_; rintro e w' ⟨rfl, rfl⟩) | (go_at_call 127; refine (classByte_any _ _ _ hp (by omega) (by omega)).mono ?_; rintro e w' ⟨rfl, rfl⟩))
  all_goals
    refine bodyPost_ret (results_tmp4 rfl _ _ _) rfl ?_
    exact ⟨rfl, rfl⟩

set_option maxHeartbeats 400000 in
theorem number_any (p : ByteArray) (i : Int) (w : World) (hp : p.size ≤ 64) (_hi0 : 0 ≤ i) (_hi1 : i ≤ 900) :
    Calls Tryz.prog 128 #[.string p, .int .i64 i] w fun e w' => e = .returned (.tuple #[.int .i64 (Mt.number p i).1, .int .i64 (Mt.number p i).2]) ∧ w = w' := by
  rcases Mt.number_cases p i with ⟨a1, e⟩ | ⟨a1, a2, e⟩ | ⟨a1, a2, a3, a4, ⟨a5, e⟩ | ⟨a5, a6, e⟩ | ⟨a5, a6, a7, a8, e⟩⟩
  all_goals
    rw [e]; clear e
    go_enter Tryz.func128, Tryz.ntmps128
    go_wp2_with (go_at_call 107; refine (at_any _ _ _ hp).mono ?_; rintro e w' ⟨rfl, rfl⟩)
    go_ret2
    exact ⟨rfl, rfl⟩

set_option maxHeartbeats 1000000 in
theorem count_any (p : ByteArray) (i : Int) (w : World) (hp : p.size ≤ 64) (_hi0 : 0 ≤ i) (_hi1 : i ≤ 800) :
    Calls Tryz.prog 111 #[.string p, .int .i64 i] w fun e w' => e = .returned (.tuple #[.int .i64 (Mt.count p i).1, .int .i64 (Mt.count p i).2.1, .int .i64 (Mt.count p i).2.2.1, .bool (Mt.count p i).2.2.2]) ∧ w = w' := by
  have ⟨b1, b2, b3, b4⟩ := Mt.number_bd p (i + 1)
  have ⟨c1, c2, c3, c4⟩ := Mt.number_bd p (i + 1 + (Mt.number p (i + 1)).2 + 1)
  rcases Mt.count_cases p i with ⟨a1, e⟩ | ⟨a1, a2, e⟩ | ⟨a1, a2, ⟨a3, e⟩ | ⟨a3, a4, e⟩ | ⟨a3, a4, ⟨a5, e⟩ | ⟨a5, ⟨a6, e⟩ | ⟨a6, a7, e⟩ | ⟨a6, a7, a8, e⟩ | ⟨a6, a7, a8, a9, e⟩ | ⟨a6, a7, a8, a9, e⟩⟩⟩⟩
  all_goals
    rw [e]; clear e
    go_enter Tryz.func111, Tryz.ntmps111
    go_wp2_with (first | (go_at_call 107; refine (at_any _ _ _ hp).mono ?_; rintro e w' ⟨rfl, rfl⟩) | (go_at_call 128; refine (number_any _ _ _ hp (by omega) (by omega)).mono ?_; rintro e w' ⟨rfl, rfl⟩))
    refine bodyPost_ret (results_tmp4 rfl _ _ _) rfl ?_
    exact ⟨rfl, rfl⟩
end Go.Proofs.YtebpgfodelggoaaGreat
set_option linter.unusedVariables false
set_option linter.unusedSimpArgs false
namespace Go.Proofs.YtebpgfodelggoaaGreat
open Go.RowKit

theorem inC_out {p : ByteArray} {k b c : Int} (h : b ≤ k) : Mt.inClass p k b c = false := by rw [Mt.inClass_step, if_pos h]
theorem inC_no {p : ByteArray} {k b c : Int} (h : k < b) (h0 : ((Mt.item p k).2.2.1 == 0) = true) : Mt.inClass p k b c = false := by
  rw [Mt.inClass_step, if_neg (by omega), if_pos (by simpa using h0)]
theorem inC_set {p : ByteArray} {k b c : Int} (h : k < b) (h0 : ((Mt.item p k).2.2.1 == 0) = false) (hs : (Mt.item p k).2.2.2 = true) (hy : Mt.shortB ((Mt.item p k).2.1 == 119) c = true) : Mt.inClass p k b c = true := by
  rw [Mt.inClass_step, if_neg (by omega), if_neg (by simpa using h0), if_pos hs, if_pos (by rw [← hy]; congr 1)]
theorem inC_set_on {p : ByteArray} {k b c : Int} (h : k < b) (h0 : ((Mt.item p k).2.2.1 == 0) = false) (hs : (Mt.item p k).2.2.2 = true) (hy : Mt.shortB ((Mt.item p k).2.1 == 119) c = false) : Mt.inClass p k b c = Mt.inClass p (k + (Mt.item p k).2.2.1) b c := by
  rw [Mt.inClass_step, if_neg (by omega), if_neg (by simpa using h0), if_pos hs, if_neg (by rw [Bool.not_eq_true, ← hy]; congr 1)]
theorem inC_in {p : ByteArray} {k b c : Int} (h : k < b) (h0 : ((Mt.item p k).2.2.1 == 0) = false) (hs : (Mt.item p k).2.2.2 = false) (h1 : decide ((Mt.item p k).1 ≤ c) = true) (h2 : decide (c ≤ (Mt.item p k).2.1) = true) : Mt.inClass p k b c = true := by
  rw [Mt.inClass_step, if_neg (by omega), if_neg (by simpa using h0), if_neg (by simp [hs]), if_pos ⟨by simpa using h1, by simpa using h2⟩]
theorem inC_lo {p : ByteArray} {k b c : Int} (h : k < b) (h0 : ((Mt.item p k).2.2.1 == 0) = false) (hs : (Mt.item p k).2.2.2 = false) (h1 : decide ((Mt.item p k).1 ≤ c) = false) : Mt.inClass p k b c = Mt.inClass p (k + (Mt.item p k).2.2.1) b c := by
  rw [Mt.inClass_step, if_neg (by omega), if_neg (by simpa using h0), if_neg (by simp [hs]), if_neg (by intro x; simp at h1; omega)]
theorem inC_hi {p : ByteArray} {k b c : Int} (h : k < b) (h0 : ((Mt.item p k).2.2.1 == 0) = false) (hs : (Mt.item p k).2.2.2 = false) (h1 : decide (c ≤ (Mt.item p k).2.1) = false) : Mt.inClass p k b c = Mt.inClass p (k + (Mt.item p k).2.2.1) b c := by
  rw [Mt.inClass_step, if_neg (by omega), if_neg (by simpa using h0), if_neg (by simp [hs]), if_neg (by intro x; simp at h1; omega)]

set_option maxHeartbeats 1000000 in
theorem inClass_any (p : ByteArray) (a b c : Int) (w : World) (hp : p.size ≤ 64) (ha0 : 0 ≤ a) (ha1 : a ≤ 200) (hb1 : b ≤ 200) (hc0 : 0 ≤ c) (hc1 : c ≤ 255) :
    Calls Tryz.prog 112 #[.string p, .int .i64 a, .int .i64 b, .int .u8 c] w fun e w' => e = .returned (.bool (Mt.inClass p a b c)) ∧ w = w' := by
  go_enter Tryz.func112, Tryz.ntmps112
  go_wp2_with fail
  go_loop [9] (fun i => ∃ k : Int, a ≤ k ∧ k ≤ 300 ∧ i = .int .i64 k ∧ Mt.inClass p a b c = Mt.inClass p k b c) (fun i => (b - intOf i).toNat)
  case atStart => exact ⟨a, by omega, by omega, rfl, rfl⟩
  case round =>
    obtain ⟨k, hk1, hk2, rfl, hr⟩ := hrel
    have H : Hid (Mt.inClass p a b c = Mt.inClass p k b c) := hr
    clear hr
    have ⟨d1, d2, d3, d4, d5, d6⟩ := Mt.item_bd p k
    by_cases hlt : k < b
    · cases h0 : ((Mt.item p k).2.2.1 == 0)
      · have h1 : 1 ≤ (Mt.item p k).2.2.1 := by have : (Mt.item p k).2.2.1 ≠ 0 := by simpa using h0
                                                omega
        cases hs : (Mt.item p k).2.2.2
        · cases q1 : decide ((Mt.item p k).1 ≤ c)
          · have R : Hid (Mt.inClass p a b c = Mt.inClass p (k + (Mt.item p k).2.2.1) b c) := H.out.trans (inC_lo hlt h0 hs q1)
            go_wp2_with (first | (go_at_call 110; refine (item_any _ _ _ hp (by omega) (by omega)).mono ?_; rintro e w' ⟨rfl, rfl⟩))
            go_round
            case rel => exact ⟨_, by omega, by omega, rfl, R.out⟩
            case measure => simp [intOf]; omega
          · cases q2 : decide (c ≤ (Mt.item p k).2.1)
            · have R : Hid (Mt.inClass p a b c = Mt.inClass p (k + (Mt.item p k).2.2.1) b c) := H.out.trans (inC_hi hlt h0 hs q2)
              go_wp2_with (first | (go_at_call 110; refine (item_any _ _ _ hp (by omega) (by omega)).mono ?_; rintro e w' ⟨rfl, rfl⟩))
              go_round
              case rel => exact ⟨_, by omega, by omega, rfl, R.out⟩
              case measure => simp [intOf]; omega
            · have R : Hid (Mt.inClass p a b c = true) := H.out.trans (inC_in hlt h0 hs q1 q2)
              go_wp2_with (first | (go_at_call 110; refine (item_any _ _ _ hp (by omega) (by omega)).mono ?_; rintro e w' ⟨rfl, rfl⟩))
              go_ret
              exact ⟨ret_bool (by rw [R.out]), rfl⟩
        · cases q1 : Mt.shortB ((Mt.item p k).2.1 == 119) c
          · have R : Hid (Mt.inClass p a b c = Mt.inClass p (k + (Mt.item p k).2.2.1) b c) := H.out.trans (inC_set_on hlt h0 hs q1)
            go_wp2_with (first | (go_at_call 110; refine (item_any _ _ _ hp (by omega) (by omega)).mono ?_; rintro e w' ⟨rfl, rfl⟩) | (go_at_call 129; refine (short_any _ _ _ (by omega) (by omega)).mono ?_; rintro e w' ⟨rfl, rfl⟩))
            go_round
            case rel => exact ⟨_, by omega, by omega, rfl, R.out⟩
            case measure => simp [intOf]; omega
          · have R : Hid (Mt.inClass p a b c = true) := H.out.trans (inC_set hlt h0 hs q1)
            go_wp2_with (first | (go_at_call 110; refine (item_any _ _ _ hp (by omega) (by omega)).mono ?_; rintro e w' ⟨rfl, rfl⟩) | (go_at_call 129; refine (short_any _ _ _ (by omega) (by omega)).mono ?_; rintro e w' ⟨rfl, rfl⟩))
            go_ret
            exact ⟨ret_bool (by rw [R.out]), rfl⟩
      · have R : Hid (Mt.inClass p a b c = false) := H.out.trans (inC_no hlt h0)
        go_wp2_with (first | (go_at_call 110; refine (item_any _ _ _ hp (by omega) (by omega)).mono ?_; rintro e w' ⟨rfl, rfl⟩))
        go_ret
        exact ⟨ret_bool (by rw [R.out]), rfl⟩
    · have R : Hid (Mt.inClass p a b c = false) := H.out.trans (inC_out (by omega))
      go_wp2_with fail
      go_ret
      exact ⟨ret_bool (by rw [R.out]), rfl⟩
end Go.Proofs.YtebpgfodelggoaaGreat
