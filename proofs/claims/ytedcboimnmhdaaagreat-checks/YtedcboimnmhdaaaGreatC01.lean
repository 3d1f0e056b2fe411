import Derived.Test.YtedcboimnmhdaaaGreatC00
import Derived.Test.YtedcboimnmhdaaaGreatRows
import Derived.WalkKit
import Derived.WalkSpells
import Derived.WalkLawsBesides
import Derived.Handy
set_option linter.unusedVariables false
set_option linter.unusedSimpArgs false
namespace Go.Proofs.YtedcboimnmhdaaaGreat
open Go.RowKit

theorem results_tmp4 {fn : Func} {t u v x : Tmp} (h : fn.results = #[.tmp t, .tmp u, .tmp v, .tmp x]) (tmps : Array Value) (P : Program) (w : World) :
    (results fn tmps).run P w = .ok (.tuple #[tmps.getD t undef, tmps.getD u undef, tmps.getD v undef, tmps.getD x undef]) w := by
  simp [results, h]

theorem ret_int {k : IntKind} {a b : Int} (h : a = b) : Ending.returned (.int k a) = .returned (.int k b) := by rw [h]
theorem ret_bool {a b : Bool} (h : a = b) : Ending.returned (.bool a) = .returned (.bool b) := by rw [h]

theorem atB_nat (p : ByteArray) (k : Nat) (h : k < p.size) : wrap64 ((p[k]'h).toNat : Int) = Mt.atB p k := by
  rw [Mt.atB_in p k (by omega) (by omega)]
  have e : p.data.toList.getD (Int.toNat (k : Int)) 0 = p[k]'h := by
    rw [Int.toNat_natCast, List.getD_eq_getElem?_getD, List.getElem?_eq_getElem (by simpa using h)]
    rfl
  rw [e]
  have := (p[k]'h).toNat_lt
  exact IntWalk.wrap64_in _ ⟨by omega, by omega⟩

set_option maxHeartbeats 400000 in
theorem at_any (p : ByteArray) (i : Int) (w : World) (hp : p.size ≤ 64) :
    Calls Tryz.prog 100 #[.string p, .int .i64 i] w fun e w' => e = .returned (.int .i64 (Mt.atB p i)) ∧ w = w' := by
  by_cases h0 : i < 0
  · rw [Mt.atB_out p i (by omega)]
    go_enter Tryz.func100, Tryz.ntmps100
    go_wp2
    go_ret
    exact ⟨rfl, rfl⟩
  · by_cases h1 : (p.size : Int) ≤ i
    · rw [Mt.atB_out p i (by omega)]
      go_enter Tryz.func100, Tryz.ntmps100
      go_wp2
      go_ret
      exact ⟨rfl, rfl⟩
    · obtain ⟨k, rfl⟩ := Int.eq_ofNat_of_zero_le (show 0 ≤ i by omega)
      have hk : k < p.size := by omega
      rw [← atB_nat p k hk]
      go_enter Tryz.func100, Tryz.ntmps100
      go_wp2
      go_ret
      exact ⟨rfl, rfl⟩

theorem digB_t {c : Int} (h : 48 ≤ c ∧ c ≤ 57) : Mt.digB c = true := by simp [Mt.digB, h]
theorem digB_f {c : Int} (h : ¬ (48 ≤ c ∧ c ≤ 57)) : Mt.digB c = false := by simp only [Mt.digB, decide_eq_false_iff_not]; exact h

set_option maxHeartbeats 400000 in
theorem digit_any (c : Int) (w : World) (_h0 : 0 ≤ c) (_h1 : c ≤ 255) :
    Calls Tryz.prog 101 #[.int .u8 c] w fun e w' => e = .returned (.bool (Mt.digB c)) ∧ w = w' := by
  by_cases a : 48 ≤ c
  · by_cases b : c ≤ 57
    · rw [digB_t ⟨a, b⟩]
      go_enter Tryz.func101, Tryz.ntmps101
      go_wp2
      go_ret
      exact ⟨rfl, rfl⟩
    · rw [digB_f (by omega)]
      go_enter Tryz.func101, Tryz.ntmps101
      go_wp2
      go_ret
      exact ⟨rfl, rfl⟩
  · rw [digB_f (by omega)]
    go_enter Tryz.func101, Tryz.ntmps101
    go_wp2
    go_ret
    exact ⟨rfl, rfl⟩

theorem letB_t {c : Int} (h : (97 ≤ c ∧ c ≤ 122) ∨ (65 ≤ c ∧ c ≤ 90)) : Mt.letB c = true := by simp [Mt.letB, h]
theorem letB_f {c : Int} (h : ¬ ((97 ≤ c ∧ c ≤ 122) ∨ (65 ≤ c ∧ c ≤ 90))) : Mt.letB c = false := by simp only [Mt.letB, decide_eq_false_iff_not]; exact h

set_option maxHeartbeats 400000 in
theorem letter_any (c : Int) (w : World) (_h0 : 0 ≤ c) (_h1 : c ≤ 255) :
    Calls Tryz.prog 102 #[.int .u8 c] w fun e w' => e = .returned (.bool (Mt.letB c)) ∧ w = w' := by
  rcases (show (c < 65 ∧ Mt.letB c = false) ∨ ((65 ≤ c ∧ c ≤ 90) ∧ Mt.letB c = true) ∨ ((90 < c ∧ c < 97) ∧ Mt.letB c = false) ∨ ((97 ≤ c ∧ c ≤ 122) ∧ Mt.letB c = true) ∨ (122 < c ∧ Mt.letB c = false) by
      simp only [Mt.letB, decide_eq_true_eq, decide_eq_false_iff_not]; omega) with ⟨h, e⟩ | ⟨⟨h, h'⟩, e⟩ | ⟨⟨h, h'⟩, e⟩ | ⟨⟨h, h'⟩, e⟩ | ⟨h, e⟩
  all_goals
    rw [e]; clear e
    go_enter Tryz.func102, Tryz.ntmps102
    go_wp2
    go_ret
    first | exact ⟨rfl, rfl⟩ | exact ⟨ret_bool (by simp; omega), rfl⟩

set_option maxHeartbeats 400000 in
theorem classByte_any (p : ByteArray) (i : Int) (w : World) (hp : p.size ≤ 64) (_hi0 : 0 ≤ i) (_hi1 : i ≤ 1000) :
    Calls Tryz.prog 127 #[.string p, .int .i64 i] w fun e w' => e = .returned (.tuple #[.int .u8 (Mt.classByte p i).1, .int .i64 (Mt.classByte p i).2]) ∧ w = w' := by
  have l0 := Mt.atB_lo p i
  have l1 := Mt.atB_hi p i
  have m0 := Mt.atB_lo p (i + 1)
  have m1 := Mt.atB_hi p (i + 1)
  rcases Mt.classByte_cases p i with ⟨a1, e⟩ | ⟨a0, a1, ⟨a2, e⟩ | ⟨a2, a3, e⟩ | ⟨a2, a3, a4, e⟩ | ⟨a2, a3, a4, a5, e⟩ | ⟨a2, a3, a4, a5, a6, a7, e⟩ | ⟨a2, a3, a4, a5, a6, a7, a8, e⟩ | ⟨a2, a3, a4, a5, a6, a7, a8, e⟩⟩
  all_goals
    rw [e]; clear e
    go_enter Tryz.func127, Tryz.ntmps127
    go_wp2_with (first | (go_at_call 100; refine (at_any _ _ _ hp).mono ?_; rintro e w' ⟨rfl, rfl⟩) | (go_at_call 101; refine (digit_any _ _ (by omega) (by omega)).mono ?_; rintro e w' ⟨rfl, rfl⟩) | (go_at_call 102; refine (letter_any _ _ (by omega) (by omega)).mono ?_; rintro e w' ⟨rfl, rfl⟩))
    go_ret2
    exact ⟨rfl, rfl⟩

set_option maxHeartbeats 400000 in
theorem short_any (x : Bool) (c : Int) (w : World) (_h0 : 0 ≤ c) (_h1 : c ≤ 255) :
    Calls Tryz.prog 129 #[.bool x, .int .u8 c] w fun e w' => e = .returned (.bool (Mt.shortB x c)) ∧ w = w' := by
  cases x <;> cases hd : Mt.digB c <;> cases hl : Mt.letB c
  all_goals
    go_enter Tryz.func129, Tryz.ntmps129
    go_wp2_with (first | (go_at_call 101; refine (digit_any _ _ (by omega) (by omega)).mono ?_; rintro e w' ⟨rfl, rfl⟩) | (go_at_call 102; refine (letter_any _ _ (by omega) (by omega)).mono ?_; rintro e w' ⟨rfl, rfl⟩))
    all_goals
      go_ret
      exact ⟨ret_bool (by simp [Mt.shortB, hd, hl]; try rfl), rfl⟩
end Go.Proofs.YtedcboimnmhdaaaGreat
set_option linter.unusedVariables false
set_option linter.unusedSimpArgs false
namespace Go.Proofs.YtedcboimnmhdaaaGreat
open Go.RowKit

set_option maxHeartbeats 1000000 in
theorem item_any (p : ByteArray) (i : Int) (w : World) (hp : p.size ≤ 64) (_hi0 : 0 ≤ i) (_hi1 : i ≤ 900) :
    Calls Tryz.prog 103 #[.string p, .int .i64 i] w fun e w' => e = .returned (.tuple #[.int .u8 (Mt.item p i).1, .int .u8 (Mt.item p i).2.1, .int .i64 (Mt.item p i).2.2.1, .bool (Mt.item p i).2.2.2]) ∧ w = w' := by
  have ⟨b1, b2, b3, b4⟩ := Mt.classByte_bd p i
  have ⟨c1, c2, c3, c4⟩ := Mt.classByte_bd p (i + (Mt.classByte p i).2 + 1)
  have m1 := Mt.atB_hi p (i + 1)
  rcases Mt.item_cases p i with ⟨a1, a2, m0, e⟩ | ⟨a1, a2, a3, m0, e⟩ | ⟨a0, ⟨a1, e⟩ | ⟨a1, a2, e⟩ | ⟨a1, a2, a3, e⟩ | ⟨a1, a2, a3, a4, e⟩ | ⟨a1, a2, a3, a4, e⟩⟩
  rotate_left 2
  all_goals try rcases a0 with a0 | ⟨a0, a0', a0''⟩
  all_goals
    rw [e]; clear e
    go_enter Tryz.func103, Tryz.ntmps103
    go_wp2_with (first | (go_at_call 100; refine (at_any _ _ _ hp).mono ?_; rintro e w' ⟨rfl, rfl⟩) | (go_at_call 127; refine (classByte_any _ _ _ hp (by omega) (by omega)).mono ?_; rintro e w' ⟨rfl, rfl⟩))
  all_goals
    refine bodyPost_ret (results_tmp4 rfl _ _ _) rfl ?_
    exact ⟨rfl, rfl⟩

set_option maxHeartbeats 400000 in
theorem number_any (p : ByteArray) (i : Int) (w : World) (hp : p.size ≤ 64) (_hi0 : 0 ≤ i) (_hi1 : i ≤ 900) :
    Calls Tryz.prog 128 #[.string p, .int .i64 i] w fun e w' => e = .returned (.tuple #[.int .i64 (Mt.number p i).1, .int .i64 (Mt.number p i).2]) ∧ w = w' := by
  rcases Mt.number_cases p i with ⟨a1, e⟩ | ⟨a1, a2, e⟩ | ⟨a1, a2, a3, a4, ⟨a5, e⟩ | ⟨a5, a6, e⟩ | ⟨a5, a6, a7, a8, e⟩⟩
  all_goals
    rw [e]; clear e
    go_enter Tryz.func128, Tryz.ntmps128
    go_wp2_with (go_at_call 100; refine (at_any _ _ _ hp).mono ?_; rintro e w' ⟨rfl, rfl⟩)
    go_ret2
    exact ⟨rfl, rfl⟩

set_option maxHeartbeats 1000000 in
theorem count_any (p : ByteArray) (i : Int) (w : World) (hp : p.size ≤ 64) (_hi0 : 0 ≤ i) (_hi1 : i ≤ 800) :
    Calls Tryz.prog 104 #[.string p, .int .i64 i] w fun e w' => e = .returned (.tuple #[.int .i64 (Mt.count p i).1, .int .i64 (Mt.count p i).2.1, .int .i64 (Mt.count p i).2.2.1, .bool (Mt.count p i).2.2.2]) ∧ w = w' := by
  have ⟨b1, b2, b3, b4⟩ := Mt.number_bd p (i + 1)
  have ⟨c1, c2, c3, c4⟩ := Mt.number_bd p (i + 1 + (Mt.number p (i + 1)).2 + 1)
  rcases Mt.count_cases p i with ⟨a1, e⟩ | ⟨a1, a2, e⟩ | ⟨a1, a2, ⟨a3, e⟩ | ⟨a3, a4, e⟩ | ⟨a3, a4, ⟨a5, e⟩ | ⟨a5, ⟨a6, e⟩ | ⟨a6, a7, e⟩ | ⟨a6, a7, a8, e⟩ | ⟨a6, a7, a8, a9, e⟩ | ⟨a6, a7, a8, a9, e⟩⟩⟩⟩
  all_goals
    rw [e]; clear e
    go_enter Tryz.func104, Tryz.ntmps104
    go_wp2_with (first | (go_at_call 100; refine (at_any _ _ _ hp).mono ?_; rintro e w' ⟨rfl, rfl⟩) | (go_at_call 128; refine (number_any _ _ _ hp (by omega) (by omega)).mono ?_; rintro e w' ⟨rfl, rfl⟩))
    refine bodyPost_ret (results_tmp4 rfl _ _ _) rfl ?_
    exact ⟨rfl, rfl⟩
end Go.Proofs.YtedcboimnmhdaaaGreat
