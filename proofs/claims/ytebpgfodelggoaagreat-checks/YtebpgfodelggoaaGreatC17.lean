import Derived.Test.YtebpgfodelggoaaGreatC10
import Derived.Test.YtebpgfodelggoaaGreatC05
import Derived.Deep.RegionWith
import Derived.Deep.DrawnRows
import Derived.Deep.QuietTactic
import Derived.BigQuiet
import Derived.Test.YtebpgfodelggoaaGreatC06
import Derived.Test.YtebpgfodelggoaaGreatC02
import Derived.Test.YtebpgfodelggoaaGreatC07
set_option linter.unusedVariables false
set_option linter.unusedSimpArgs false
namespace Go.Proofs.YtebpgfodelggoaaGreat
open Go.RowKit

theorem may_cases (l : List Mt.Tok) (t : Mt.Tok) :
    ((t.kind == 2) = true ∧ ((Mt.closed l t.n = true ∧ Mt.may l t = 0) ∨ (Mt.closed l t.n = false ∧ Mt.may l t = 6))) ∨
    ((t.kind == 2) = false ∧ (t.kind == 8) = true ∧ ((Mt.atomEnds l = true ∧ Mt.may l t = 0) ∨ (Mt.atomEnds l = false ∧ Mt.may l t = 7))) ∨
    ((t.kind == 2) = false ∧ (t.kind == 8) = false ∧ (t.kind == 6) = true ∧ ((10 ≤ Mt.opened l ∧ Mt.may l t = 8) ∨ (Mt.opened l < 10 ∧ (t.how == 4) = false ∧ Mt.may l t = 0) ∨ (Mt.opened l < 10 ∧ (t.how == 4) = true ∧ decide (9 ≤ Mt.captures l) = true ∧ Mt.may l t = 9) ∨ (Mt.opened l < 10 ∧ (t.how == 4) = true ∧ decide (9 ≤ Mt.captures l) = false ∧ Mt.may l t = 0))) ∨
    ((t.kind == 2) = false ∧ (t.kind == 8) = false ∧ (t.kind == 6) = false ∧ (t.kind == 7) = true ∧ (((Mt.opened l == 0) = true ∧ Mt.may l t = 10) ∨ ((Mt.opened l == 0) = false ∧ Mt.may l t = 0))) ∨
    ((t.kind == 2) = false ∧ (t.kind == 8) = false ∧ (t.kind == 6) = false ∧ (t.kind == 7) = false ∧ Mt.may l t = 0) := by
  unfold Mt.may
  simp only [beq_iff_eq, beq_eq_false_iff_ne, decide_eq_true_eq, decide_eq_false_iff_not]
  by_cases h1 : t.kind = 2
  · rw [if_pos h1]; cases Mt.closed l t.n <;> simp [h1]
  rw [if_neg h1]
  by_cases h2 : t.kind = 8
  · rw [if_pos h2]; cases Mt.atomEnds l <;> simp [h2]
  rw [if_neg h2]
  by_cases h3 : t.kind = 6
  · rw [if_pos h3]
    by_cases h4 : 10 ≤ Mt.opened l
    · rw [if_pos h4]; simp [h3, h4]
    · rw [if_neg h4]
      by_cases h5 : t.how = 4
      · by_cases h6 : 9 ≤ Mt.captures l
        · rw [if_pos ⟨h5, h6⟩]; simp [h3, h5, h6]; omega
        · rw [if_neg (fun x => h6 x.2)]; simp [h3, h5, h6]; omega
      · rw [if_neg (fun x => h5 x.1)]; simp [h3, h5]; omega
  rw [if_neg h3]
  by_cases h7 : t.kind = 7
  · rw [if_pos h7]
    by_cases h8 : Mt.opened l = 0
    · simp [h7, h8]
    · simp [h7, h8]
  rw [if_neg h7]; simp [h1, h2, h3, h7]

set_option maxRecDepth 100000 in
set_option maxHeartbeats 4000000 in
theorem may_any (l : List Mt.Tok) (t : Mt.Tok) (v : Value) (w : World) (h : toks w v l) (hl : l.length ≤ 64) :
    Calls Tryz.prog 49 #[v, tokV t] w fun e w' => e = .returned (.int .i64 (Mt.may l t)) ∧ Below w.heap.size w w' := by
  have HK : Hid (∀ o, toks (w.alloc o) v l) := fun o => h.alloc o
  clear h
  have ⟨b1, b2⟩ := Mt.opened_bd l
  have ⟨b3, b4⟩ := Mt.captures_bd l
  unfold tokV
  rcases may_cases l t with ⟨a1, ⟨a2, e⟩ | ⟨a2, e⟩⟩ | ⟨a1, a2, ⟨a3, e⟩ | ⟨a3, e⟩⟩ | ⟨a1, a2, a3, ⟨a4, e⟩ | ⟨a4, a5, e⟩ | ⟨a4, a5, a6, e⟩ | ⟨a4, a5, a6, e⟩⟩ | ⟨a1, a2, a3, a4, ⟨a5, e⟩ | ⟨a5, e⟩⟩ | ⟨a1, a2, a3, a4, e⟩
  all_goals
    rw [e]; clear e
    go_enter Tryz.func49, Tryz.ntmps49
    go_wp2_with (first | (go_at_call 83; refine (closed_any l _ _ _ (HK.out _) hl).mono ?_; rintro e w' ⟨rfl, rfl⟩) | (go_at_call 84; refine (atomEnds_any l _ _ (HK.out _) hl).mono ?_; rintro e w' ⟨rfl, rfl⟩) | (go_at_call 51; refine (opened_any l _ _ (HK.out _) hl).mono ?_; rintro e w' ⟨rfl, rfl⟩) | (go_at_call 50; refine (captures_any l _ _ (HK.out _) hl).mono ?_; rintro e w' ⟨rfl, rfl⟩))
    go_ret
    exact ⟨rfl, by go_grown⟩
end Go.Proofs.YtebpgfodelggoaaGreat
set_option linter.unusedVariables false
set_option linter.unusedSimpArgs false
namespace Go.Proofs.YtebpgfodelggoaaGreat
open Go.RowKit
attribute [local go_sem ↓] Go.wp_at_zero Go.wp_at_succ

theorem digit_is (c : Int) (b : Bool) (w : World) (h : Mt.digB c = b) (h0 : 0 ≤ c) (h1 : c ≤ 255) :
    Calls Tryz.prog 108 #[.int .u8 c] w fun e w' => e = .returned (.bool b) ∧ w = w' := by rw [← h]; exact digit_any c w h0 h1
theorem letter_is (c : Int) (b : Bool) (w : World) (h : Mt.letB c = b) (h0 : 0 ≤ c) (h1 : c ≤ 255) :
    Calls Tryz.prog 109 #[.int .u8 c] w fun e w' => e = .returned (.bool b) ∧ w = w' := by rw [← h]; exact letter_any c w h0 h1

theorem conv_one (w : World) (A B : Array Value) (t u : TypeId) (x : Int) (h0 : 0 ≤ x) (h1 : x ≤ 255) :
    (convert 158 9 (.slice (some ⟨w.heap.size + 1 + 1, 0, none⟩) 1 1)).run Tryz.prog (((w.alloc (.cells A t)).alloc (.cells B u)).alloc (.cells #[.int .u8 x] 5)) =
      .ok (.string ⟨#[UInt8.ofNat x.toNat]⟩) (((w.alloc (.cells A t)).alloc (.cells B u)).alloc (.cells #[.int .u8 x] 5)) := by
  refine run_convert_bytes_back _ _ _ _ ⟨w.heap.size + 1 + 1, 0, none⟩ 1 [UInt8.ofNat x.toNat] Tryz.underlying158 Tryz.underlying5 Tryz.underlying9 ?_
  intro j hj
  have : j = 0 := by simpa using hj
  subst this
  obtain ⟨k, rfl⟩ := Int.eq_ofNat_of_zero_le h0
  have e : k % 256 = k := by omega
  simp [Addr.add, go_sem, e]

set_option maxRecDepth 100000 in
set_option maxHeartbeats 6000000 in
theorem escape_any (p : ByteArray) (i : Int) (w : World) (hp : p.size ≤ 64) (hi0 : 0 ≤ i) (hi1 : i ≤ 100) :
    Calls Tryz.prog 78 #[.string p, .int .i64 i] w fun e w' => e = .returned (.tuple #[tokV (Mt.escape p i).1, .bool (Mt.escape p i).2]) ∧ Below w.heap.size w w' := by
  have l1 := Mt.atB_hi p (i + 1)
  rcases Mt.escape_cases p i with ⟨a1, e⟩ | ⟨a0, a1, ⟨a2, e⟩ | ⟨a2, a3, e⟩ | ⟨a2, a3, a4, a5, a6, a7, e⟩ | ⟨a2, a3, a4, e⟩⟩
  · rw [e]; clear e
    go_enter Tryz.func78, Tryz.ntmps78
    go_wp2_with (go_at_call 107; refine (at_any _ _ _ hp).mono ?_; rintro e w' ⟨rfl, rfl⟩)
    go_returns
    exact ⟨rfl, by go_grown⟩
  · rw [e]; clear e
    go_enter Tryz.func78, Tryz.ntmps78
    go_wp2_with (first | (go_at_call 107; refine (at_any _ _ _ hp).mono ?_; rintro e w' ⟨rfl, rfl⟩) | (go_at_call 82; refine (all_any _ _ _ _ _ hp (by omega) (by omega) (by omega)).mono ?_; rintro e w1 ⟨rfl, hb1⟩; obtain ⟨q0, q1, q2, q3, q4, q5⟩ := two_new hb1; clear hb1))
    refine bodyPost_ret (v := .tuple #[tokV ⟨1, i, i + 2, 0, 0, 0, Mt.all p i (i + 2) false⟩, .bool true]) (by simp [results, Tryz.results78, go_sem, q0, q1, q2, q3, tokV]) rfl ⟨rfl, ?_⟩
    go_grown
  · rw [e]; clear e
    go_enter Tryz.func78, Tryz.ntmps78
    go_wp2_with (first | (go_at_call 107; refine (at_any _ _ _ hp).mono ?_; rintro e w' ⟨rfl, rfl⟩) | (go_at_call 82; refine (all_any _ _ _ _ _ hp (by omega) (by omega) (by omega)).mono ?_; rintro e w1 ⟨rfl, hb1⟩; obtain ⟨q0, q1, q2, q3, q4, q5⟩ := two_new hb1; clear hb1))
    refine bodyPost_ret (v := .tuple #[tokV ⟨1, i, i + 2, 0, 0, 0, Mt.all p i (i + 2) false⟩, .bool true]) (by simp [results, Tryz.results78, go_sem, q0, q1, q2, q3, tokV]) rfl ⟨rfl, ?_⟩
    go_grown
  · rw [e]; clear e
    go_enter Tryz.func78, Tryz.ntmps78
    go_wp2_with (go_at_call 107; refine (at_any _ _ _ hp).mono ?_; rintro e w' ⟨rfl, rfl⟩)
    go_returns
    exact ⟨rfl, by go_grown⟩
  · rw [e]; clear e
    have hcv := fun A B => conv_one w A B 97 97 (Mt.atB p (i + 1)) a0 l1
    rcases a4 with a4 | ⟨a4, a5⟩ <;> cases hd : Mt.digB (Mt.atB p (i + 1)) <;> cases hl : Mt.letB (Mt.atB p (i + 1))
    all_goals
      go_enter Tryz.func78, Tryz.ntmps78
      go_wp2_with (first | (go_at_call 107; refine (at_any _ _ _ hp).mono ?_; rintro e w' ⟨rfl, rfl⟩))
      first | (go_region_with (first | (go_at_call 108; refine (digit_is _ _ _ hd (by omega) (by omega)).mono ?_; rintro e w' ⟨rfl, rfl⟩) | (go_at_call 109; refine (letter_is _ _ _ hl (by omega) (by omega)).mono ?_; rintro e w' ⟨rfl, rfl⟩))) | fail
      all_goals
        go_wp2
        go_returns
        exact ⟨rfl, by go_grown⟩
end Go.Proofs.YtebpgfodelggoaaGreat
set_option linter.unusedVariables false
set_option linter.unusedSimpArgs false
namespace Go.Proofs.YtebpgfodelggoaaGreat
open Go.RowKit

set_option maxRecDepth 100000 in
set_option maxHeartbeats 2000000 in
theorem next_bar (p : ByteArray) (k : Nat) (w : World) (hk : k < p.size) (hp : p.size ≤ 64) (h1 : (((p[k]'hk).toNat : Int) == 124) = true) :
    Calls Tryz.prog 48 #[.string p, .int .i64 k] w fun e w' => e = .returned (.tuple #[tokV ⟨5, k, k + 1, 0, 0, 0, []⟩, .int .i64 0]) ∧ Below w.heap.size w w' := by
  go_enter Tryz.func48, Tryz.ntmps48
  go_wp2_with fail
  go_returns
  exact ⟨rfl, by go_grown⟩

set_option maxRecDepth 100000 in
set_option maxHeartbeats 2000000 in
theorem next_close (p : ByteArray) (k : Nat) (w : World) (hk : k < p.size) (hp : p.size ≤ 64) (h1 : (((p[k]'hk).toNat : Int) == 124) = false) (h2 : (((p[k]'hk).toNat : Int) == 41) = true) :
    Calls Tryz.prog 48 #[.string p, .int .i64 k] w fun e w' => e = .returned (.tuple #[tokV ⟨7, k, k + 1, 0, 0, 0, []⟩, .int .i64 0]) ∧ Below w.heap.size w w' := by
  go_enter Tryz.func48, Tryz.ntmps48
  go_wp2_with fail
  go_returns
  exact ⟨rfl, by go_grown⟩

set_option maxRecDepth 100000 in
set_option maxHeartbeats 2000000 in
theorem next_head (p : ByteArray) (k : Nat) (w : World) (hk : k < p.size) (hp : p.size ≤ 64) (h1 : (((p[k]'hk).toNat : Int) == 124) = false) (h2 : (((p[k]'hk).toNat : Int) == 41) = false) (h3 : (((p[k]'hk).toNat : Int) == 94) = true) :
    Calls Tryz.prog 48 #[.string p, .int .i64 k] w fun e w' => e = .returned (.tuple #[tokV ⟨3, k, k + 1, 0, 0, 0, []⟩, .int .i64 0]) ∧ Below w.heap.size w w' := by
  go_enter Tryz.func48, Tryz.ntmps48
  go_wp2_with fail
  go_returns
  exact ⟨rfl, by go_grown⟩

set_option maxRecDepth 100000 in
set_option maxHeartbeats 2000000 in
theorem next_tail (p : ByteArray) (k : Nat) (w : World) (hk : k < p.size) (hp : p.size ≤ 64) (h1 : (((p[k]'hk).toNat : Int) == 124) = false) (h2 : (((p[k]'hk).toNat : Int) == 41) = false) (h3 : (((p[k]'hk).toNat : Int) == 94) = false) (h4 : (((p[k]'hk).toNat : Int) == 36) = true) :
    Calls Tryz.prog 48 #[.string p, .int .i64 k] w fun e w' => e = .returned (.tuple #[tokV ⟨4, k, k + 1, 0, 0, 0, []⟩, .int .i64 0]) ∧ Below w.heap.size w w' := by
  go_enter Tryz.func48, Tryz.ntmps48
  go_wp2_with fail
  go_returns
  exact ⟨rfl, by go_grown⟩
end Go.Proofs.YtebpgfodelggoaaGreat
set_option linter.unusedVariables false
set_option linter.unusedSimpArgs false
namespace Go.Proofs.YtebpgfodelggoaaGreat
open Go.RowKit

set_option maxRecDepth 100000 in
set_option maxHeartbeats 1000000 in
theorem next_class (p : ByteArray) (k : Nat) (w : World) (hk : k < p.size) (hp : p.size ≤ 64) (h1 : (((p[k]'hk).toNat : Int) == 124) = false) (h2 : (((p[k]'hk).toNat : Int) == 41) = false) (h3 : (((p[k]'hk).toNat : Int) == 94) = false) (h4 : (((p[k]'hk).toNat : Int) == 36) = false) (h5 : (((p[k]'hk).toNat : Int) == 92) = false) (h6 : (((p[k]'hk).toNat : Int) == 91) = true) (b : Bool) (hb : (Mt.classT p k).2 = b) :
    Calls Tryz.prog 48 #[.string p, .int .i64 k] w fun e w' => e = .returned (.tuple #[tokV (Mt.classT p k).1, .int .i64 (if b then 0 else 3)]) ∧ Below w.heap.size w w' := by
  generalize hT : Mt.classT p k = T at *
  have HT : Hid (Mt.classT p k = T) := hT
  clear hT
  cases b
  all_goals
    go_enter Tryz.func48, Tryz.ntmps48
    go_wp2_with fail
    refine (class_any _ _ _ hp (by omega) (by omega)).mono ?_
    rw [HT.out]
    rintro e w1 ⟨rfl, hb1⟩
    simp only [hb]
    obtain ⟨q0, q1, q2, q3, q4, q5⟩ := two_new hb1
    clear hb1
    go_wp2_with (refine wpList_store_tok rfl (.tmp 6) (.tmp 49) (by rfl) (w.heap.size + 1) T.1 (by rfl) (by rfl) q2 q3 (by rfl) ?_; intro w2 r1 r2 r3 r4 r5 r6; have s0 := fun o => (r3 w.heap.size o (by omega)).trans (q0 o); have s1 := fun o => (r4 w.heap.size o).trans (q1 o); have s2 : Below w.heap.size w w2 := q5.trans (r6 _ (by omega)); clear r3 r4 r6 q0 q1 q2 q3 q5)
    refine bodyPost_ret (v := .tuple #[tokV T.1, _]) (by simp [results, Tryz.results48, go_sem, s0, s1, r1, r2, tokV]) rfl ⟨rfl, ?_⟩
    go_grown
end Go.Proofs.YtebpgfodelggoaaGreat
set_option linter.unusedVariables false
set_option linter.unusedSimpArgs false
namespace Go.Proofs.YtebpgfodelggoaaGreat
open Go.RowKit

set_option maxRecDepth 100000 in
set_option maxHeartbeats 1000000 in
theorem next_open (p : ByteArray) (k : Nat) (w : World) (hk : k < p.size) (hp : p.size ≤ 64) (h1 : (((p[k]'hk).toNat : Int) == 124) = false) (h2 : (((p[k]'hk).toNat : Int) == 41) = false) (h3 : (((p[k]'hk).toNat : Int) == 94) = false) (h4 : (((p[k]'hk).toNat : Int) == 36) = false) (h5 : (((p[k]'hk).toNat : Int) == 92) = false) (h6 : (((p[k]'hk).toNat : Int) == 91) = false) (h7 : (((p[k]'hk).toNat : Int) == 40) = true) (b : Bool) (hb : (Mt.opening p k).2 = b) :
    Calls Tryz.prog 48 #[.string p, .int .i64 k] w fun e w' => e = .returned (.tuple #[tokV (Mt.opening p k).1, .int .i64 (if b then 0 else 5)]) ∧ Below w.heap.size w w' := by
  generalize hT : Mt.opening p k = T at *
  have HT : Hid (Mt.opening p k = T) := hT
  clear hT
  cases b
  all_goals
    go_enter Tryz.func48, Tryz.ntmps48
    go_wp2_with fail
    refine (opening_any _ _ _ hp (by omega) (by omega)).mono ?_
    rw [HT.out]
    rintro e w1 ⟨rfl, hb1⟩
    simp only [hb]
    obtain ⟨q0, q1, q2, q3, q4, q5⟩ := two_new hb1
    clear hb1
    go_wp2_with (refine wpList_store_tok rfl (.tmp 6) (.tmp 57) (by rfl) (w.heap.size + 1) T.1 (by rfl) (by rfl) q2 q3 (by rfl) ?_; intro w2 r1 r2 r3 r4 r5 r6; have s0 := fun o => (r3 w.heap.size o (by omega)).trans (q0 o); have s1 := fun o => (r4 w.heap.size o).trans (q1 o); have s2 : Below w.heap.size w w2 := q5.trans (r6 _ (by omega)); clear r3 r4 r6 q0 q1 q2 q3 q5)
    refine bodyPost_ret (v := .tuple #[tokV T.1, _]) (by simp [results, Tryz.results48, go_sem, s0, s1, r1, r2, tokV]) rfl ⟨rfl, ?_⟩
    go_grown
end Go.Proofs.YtebpgfodelggoaaGreat
set_option linter.unusedVariables false
set_option linter.unusedSimpArgs false
namespace Go.Proofs.YtebpgfodelggoaaGreat
open Go.RowKit

set_option maxRecDepth 100000 in
set_option maxHeartbeats 1000000 in
theorem next_rep42 (p : ByteArray) (k : Nat) (w : World) (hk : k < p.size) (hp : p.size ≤ 64) (h1 : (((p[k]'hk).toNat : Int) == 124) = false) (h2 : (((p[k]'hk).toNat : Int) == 41) = false) (h3 : (((p[k]'hk).toNat : Int) == 94) = false) (h4 : (((p[k]'hk).toNat : Int) == 36) = false) (h5 : (((p[k]'hk).toNat : Int) == 92) = false) (h6 : (((p[k]'hk).toNat : Int) == 91) = false) (h7 : (((p[k]'hk).toNat : Int) == 40) = false) (h8 : (((p[k]'hk).toNat : Int) == 42) = true) (b : Bool) (hb : (Mt.repeatT p k).2 = b) :
    Calls Tryz.prog 48 #[.string p, .int .i64 k] w fun e w' => e = .returned (.tuple #[tokV (Mt.repeatT p k).1, .int .i64 (if b then 0 else 4)]) ∧ Below w.heap.size w w' := by
  generalize hT : Mt.repeatT p k = T at *
  have HT : Hid (Mt.repeatT p k = T) := hT
  clear hT
  cases b
  all_goals
    go_enter Tryz.func48, Tryz.ntmps48
    go_wp2_with fail
    refine (repeat_any _ _ _ hp (by omega) (by omega)).mono ?_
    rw [HT.out]
    rintro e w1 ⟨rfl, hb1⟩
    simp only [hb]
    obtain ⟨q0, q1, q2, q3, q4, q5⟩ := two_new hb1
    clear hb1
    go_wp2_with (refine wpList_store_tok rfl (.tmp 6) (.tmp 68) (by rfl) (w.heap.size + 1) T.1 (by rfl) (by rfl) q2 q3 (by rfl) ?_; intro w2 r1 r2 r3 r4 r5 r6; have s0 := fun o => (r3 w.heap.size o (by omega)).trans (q0 o); have s1 := fun o => (r4 w.heap.size o).trans (q1 o); have s2 : Below w.heap.size w w2 := q5.trans (r6 _ (by omega)); clear r3 r4 r6 q0 q1 q2 q3 q5)
    refine bodyPost_ret (v := .tuple #[tokV T.1, _]) (by simp [results, Tryz.results48, go_sem, s0, s1, r1, r2, tokV]) rfl ⟨rfl, ?_⟩
    go_grown

set_option maxRecDepth 100000 in
set_option maxHeartbeats 1000000 in
theorem next_rep43 (p : ByteArray) (k : Nat) (w : World) (hk : k < p.size) (hp : p.size ≤ 64) (h1 : (((p[k]'hk).toNat : Int) == 124) = false) (h2 : (((p[k]'hk).toNat : Int) == 41) = false) (h3 : (((p[k]'hk).toNat : Int) == 94) = false) (h4 : (((p[k]'hk).toNat : Int) == 36) = false) (h5 : (((p[k]'hk).toNat : Int) == 92) = false) (h6 : (((p[k]'hk).toNat : Int) == 91) = false) (h7 : (((p[k]'hk).toNat : Int) == 40) = false) (h8 : (((p[k]'hk).toNat : Int) == 42) = false) (h9 : (((p[k]'hk).toNat : Int) == 43) = true) (b : Bool) (hb : (Mt.repeatT p k).2 = b) :
    Calls Tryz.prog 48 #[.string p, .int .i64 k] w fun e w' => e = .returned (.tuple #[tokV (Mt.repeatT p k).1, .int .i64 (if b then 0 else 4)]) ∧ Below w.heap.size w w' := by
  generalize hT : Mt.repeatT p k = T at *
  have HT : Hid (Mt.repeatT p k = T) := hT
  clear hT
  cases b
  all_goals
    go_enter Tryz.func48, Tryz.ntmps48
    go_wp2_with fail
    refine (repeat_any _ _ _ hp (by omega) (by omega)).mono ?_
    rw [HT.out]
    rintro e w1 ⟨rfl, hb1⟩
    simp only [hb]
    obtain ⟨q0, q1, q2, q3, q4, q5⟩ := two_new hb1
    clear hb1
    go_wp2_with (refine wpList_store_tok rfl (.tmp 6) (.tmp 68) (by rfl) (w.heap.size + 1) T.1 (by rfl) (by rfl) q2 q3 (by rfl) ?_; intro w2 r1 r2 r3 r4 r5 r6; have s0 := fun o => (r3 w.heap.size o (by omega)).trans (q0 o); have s1 := fun o => (r4 w.heap.size o).trans (q1 o); have s2 : Below w.heap.size w w2 := q5.trans (r6 _ (by omega)); clear r3 r4 r6 q0 q1 q2 q3 q5)
    refine bodyPost_ret (v := .tuple #[tokV T.1, _]) (by simp [results, Tryz.results48, go_sem, s0, s1, r1, r2, tokV]) rfl ⟨rfl, ?_⟩
    go_grown
end Go.Proofs.YtebpgfodelggoaaGreat
