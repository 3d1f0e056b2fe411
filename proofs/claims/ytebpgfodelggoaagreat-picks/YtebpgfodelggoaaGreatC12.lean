import Derived.Test.YtebpgfodelggoaaGreatC05
import Derived.Test.YtebpgfodelggoaaGreatC04
import Derived.Test.YtebpgfodelggoaaGreatC01
import Derived.Test.YtebpgfodelggoaaGreatC11
set_option linter.unusedVariables false
set_option linter.unusedSimpArgs false
namespace Go.Proofs.YtebpgfodelggoaaGreat
open Go.RowKit

set_option maxRecDepth 100000 in
set_option maxHeartbeats 1000000 in
theorem next_rep63 (p : ByteArray) (k : Nat) (w : World) (hk : k < p.size) (hp : p.size ≤ 64) (h1 : (((p[k]'hk).toNat : Int) == 124) = false) (h2 : (((p[k]'hk).toNat : Int) == 41) = false) (h3 : (((p[k]'hk).toNat : Int) == 94) = false) (h4 : (((p[k]'hk).toNat : Int) == 36) = false) (h5 : (((p[k]'hk).toNat : Int) == 92) = false) (h6 : (((p[k]'hk).toNat : Int) == 91) = false) (h7 : (((p[k]'hk).toNat : Int) == 40) = false) (h8 : (((p[k]'hk).toNat : Int) == 42) = false) (h9 : (((p[k]'hk).toNat : Int) == 43) = false) (h10 : (((p[k]'hk).toNat : Int) == 63) = true) (b : Bool) (hb : (Mt.repeatT p k).2 = b) :
    Calls Tryz.prog 48 #[.string p, .int .i64 k] w fun e w' => e = .returned (.tuple #[tokV (Mt.repeatT p k).1, .int .i64 (if b then 0 else 4)]) ∧ Below w.heap.size w w' := by
  generalize hT : Mt.repeatT p k = T at *
  have HT : Hid (Mt.repeatT p k = T) := hT
  clear hT
  cases b
  all_goals
    go_enter Tryz.func48, Tryz.ntmps48
    go_wp2_with fail
    refine (repeat_any _ _ _ hp (by omega) (by omega)).mono ?_
    rw [HT.out]
    rintro e w1 ⟨rfl, hb1⟩
    simp only [hb]
    obtain ⟨q0, q1, q2, q3, q4, q5⟩ := two_new hb1
    clear hb1
    go_wp2_with (refine wpList_store_tok rfl (.tmp 6) (.tmp 68) (by rfl) (w.heap.size + 1) T.1 (by rfl) (by rfl) q2 q3 (by rfl) ?_; intro w2 r1 r2 r3 r4 r5 r6; have s0 := fun o => (r3 w.heap.size o (by omega)).trans (q0 o); have s1 := fun o => (r4 w.heap.size o).trans (q1 o); have s2 : Below w.heap.size w w2 := q5.trans (r6 _ (by omega)); clear r3 r4 r6 q0 q1 q2 q3 q5)
    refine bodyPost_ret (v := .tuple #[tokV T.1, _]) (by simp [results, Tryz.results48, go_sem, s0, s1, r1, r2, tokV]) rfl ⟨rfl, ?_⟩
    go_grown

set_option maxRecDepth 100000 in
set_option maxHeartbeats 1000000 in
theorem next_rep123 (p : ByteArray) (k : Nat) (w : World) (hk : k < p.size) (hp : p.size ≤ 64) (h1 : (((p[k]'hk).toNat : Int) == 124) = false) (h2 : (((p[k]'hk).toNat : Int) == 41) = false) (h3 : (((p[k]'hk).toNat : Int) == 94) = false) (h4 : (((p[k]'hk).toNat : Int) == 36) = false) (h5 : (((p[k]'hk).toNat : Int) == 92) = false) (h6 : (((p[k]'hk).toNat : Int) == 91) = false) (h7 : (((p[k]'hk).toNat : Int) == 40) = false) (h8 : (((p[k]'hk).toNat : Int) == 42) = false) (h9 : (((p[k]'hk).toNat : Int) == 43) = false) (h10 : (((p[k]'hk).toNat : Int) == 63) = false) (h11 : (((p[k]'hk).toNat : Int) == 123) = true) (b : Bool) (hb : (Mt.repeatT p k).2 = b) :
    Calls Tryz.prog 48 #[.string p, .int .i64 k] w fun e w' => e = .returned (.tuple #[tokV (Mt.repeatT p k).1, .int .i64 (if b then 0 else 4)]) ∧ Below w.heap.size w w' := by
  generalize hT : Mt.repeatT p k = T at *
  have HT : Hid (Mt.repeatT p k = T) := hT
  clear hT
  cases b
  all_goals
    go_enter Tryz.func48, Tryz.ntmps48
    go_wp2_with fail
    refine (repeat_any _ _ _ hp (by omega) (by omega)).mono ?_
    rw [HT.out]
    rintro e w1 ⟨rfl, hb1⟩
    simp only [hb]
    obtain ⟨q0, q1, q2, q3, q4, q5⟩ := two_new hb1
    clear hb1
    go_wp2_with (refine wpList_store_tok rfl (.tmp 6) (.tmp 68) (by rfl) (w.heap.size + 1) T.1 (by rfl) (by rfl) q2 q3 (by rfl) ?_; intro w2 r1 r2 r3 r4 r5 r6; have s0 := fun o => (r3 w.heap.size o (by omega)).trans (q0 o); have s1 := fun o => (r4 w.heap.size o).trans (q1 o); have s2 : Below w.heap.size w w2 := q5.trans (r6 _ (by omega)); clear r3 r4 r6 q0 q1 q2 q3 q5)
    refine bodyPost_ret (v := .tuple #[tokV T.1, _]) (by simp [results, Tryz.results48, go_sem, s0, s1, r1, r2, tokV]) rfl ⟨rfl, ?_⟩
    go_grown
end Go.Proofs.YtebpgfodelggoaaGreat
set_option linter.unusedVariables false
set_option linter.unusedSimpArgs false
namespace Go.Proofs.YtebpgfodelggoaaGreat
open Go.RowKit

set_option maxRecDepth 100000 in
set_option maxHeartbeats 2000000 in
theorem next_dot (p : ByteArray) (k : Nat) (w : World) (hk : k < p.size) (hp : p.size ≤ 64) (h1 : (((p[k]'hk).toNat : Int) == 124) = false) (h2 : (((p[k]'hk).toNat : Int) == 41) = false) (h3 : (((p[k]'hk).toNat : Int) == 94) = false) (h4 : (((p[k]'hk).toNat : Int) == 36) = false) (h5 : (((p[k]'hk).toNat : Int) == 92) = false) (h6 : (((p[k]'hk).toNat : Int) == 91) = false) (h7 : (((p[k]'hk).toNat : Int) == 40) = false) (h8 : (((p[k]'hk).toNat : Int) == 42) = false) (h9 : (((p[k]'hk).toNat : Int) == 43) = false) (h10 : (((p[k]'hk).toNat : Int) == 63) = false) (h11 : (((p[k]'hk).toNat : Int) == 123) = false) (h12 : (((p[k]'hk).toNat : Int) == 46) = true) :
    Calls Tryz.prog 48 #[.string p, .int .i64 k] w fun e w' => e = .returned (.tuple #[tokV ⟨1, k, k + 1, 0, 0, 0, Mt.all p k k true⟩, .int .i64 0]) ∧ Below w.heap.size w w' := by
  go_enter Tryz.func48, Tryz.ntmps48
  go_wp2_with (first | (go_at_call 82; refine (all_any _ _ _ _ _ hp (by omega) (by omega) (by omega)).mono ?_; rintro e w1 ⟨rfl, hb1⟩; obtain ⟨q0, q1, q2, q3, q4, q5⟩ := two_new hb1; clear hb1))
  refine bodyPost_ret (v := .tuple #[tokV ⟨1, k, k + 1, 0, 0, 0, Mt.all p k k true⟩, .int .i64 0]) (by simp [results, Tryz.results48, go_sem, q0, q1, q2, q3, tokV]) rfl ⟨rfl, ?_⟩
  go_grown

theorem extract_one (p : ByteArray) (k : Nat) (hk : k < p.size) : p.extract k (k + 1) = ⟨([UInt8.ofNat (Mt.atB p k).toNat] : List UInt8).toArray⟩ := by
  have e := byte_at p k hk
  have e2 : (Mt.atB p k).toNat = (p[k]'hk).toNat := by rw [← e]; simp
  rw [e2]
  have e3 : UInt8.ofNat (p[k]'hk).toNat = p[k]'hk := by simp
  rw [e3]
  apply ByteArray.ext
  rw [ByteArray.data_extract]
  apply Array.ext'
  have hk' : k < p.data.size := hk
  rw [Array.toList_extract]
  simp [List.extract_eq_take_drop, List.take_one, hk']
  rw [Array.getElem?_eq_getElem hk']
  rfl

set_option maxRecDepth 100000 in
set_option maxHeartbeats 2000000 in
theorem next_byte (p : ByteArray) (k : Nat) (w : World) (hk : k < p.size) (hp : p.size ≤ 64) (h1 : (((p[k]'hk).toNat : Int) == 124) = false) (h2 : (((p[k]'hk).toNat : Int) == 41) = false) (h3 : (((p[k]'hk).toNat : Int) == 94) = false) (h4 : (((p[k]'hk).toNat : Int) == 36) = false) (h5 : (((p[k]'hk).toNat : Int) == 92) = false) (h6 : (((p[k]'hk).toNat : Int) == 91) = false) (h7 : (((p[k]'hk).toNat : Int) == 40) = false) (h8 : (((p[k]'hk).toNat : Int) == 42) = false) (h9 : (((p[k]'hk).toNat : Int) == 43) = false) (h10 : (((p[k]'hk).toNat : Int) == 63) = false) (h11 : (((p[k]'hk).toNat : Int) == 123) = false) (h12 : (((p[k]'hk).toNat : Int) == 46) = false) :
    Calls Tryz.prog 48 #[.string p, .int .i64 k] w fun e w' => e = .returned (.tuple #[tokV ⟨1, k, k + 1, 0, 0, 0, [UInt8.ofNat (Mt.atB p k).toNat]⟩, .int .i64 0]) ∧ Below w.heap.size w w' := by
  have hx := extract_one p k hk
  go_enter Tryz.func48, Tryz.ntmps48
  go_wp2_with fail
  go_returns
  exact ⟨rfl, by go_grown⟩
end Go.Proofs.YtebpgfodelggoaaGreat
set_option linter.unusedVariables false
set_option linter.unusedSimpArgs false
namespace Go.Proofs.YtebpgfodelggoaaGreat
open Go.RowKit

set_option maxRecDepth 100000 in
set_option maxHeartbeats 1000000 in
theorem next_esc (p : ByteArray) (k : Nat) (w : World) (hk : k < p.size) (hp : p.size ≤ 64) (h1 : (((p[k]'hk).toNat : Int) == 124) = false) (h2 : (((p[k]'hk).toNat : Int) == 41) = false) (h3 : (((p[k]'hk).toNat : Int) == 94) = false) (h4 : (((p[k]'hk).toNat : Int) == 36) = false) (h5 : (((p[k]'hk).toNat : Int) == 92) = true)
    (b : Bool) (hb : (Mt.escape p k).2 = b) :
    Calls Tryz.prog 48 #[.string p, .int .i64 k] w fun e w' => e = .returned (.tuple #[tokV (Mt.escape p k).1, .int .i64 (if b then 0 else 2)]) ∧ Below w.heap.size w w' := by
  generalize hT : Mt.escape p k = T at *
  have HT : Hid (Mt.escape p k = T) := hT
  clear hT
  cases b
  all_goals
    go_enter Tryz.func48, Tryz.ntmps48
    go_wp2_with fail
    refine (escape_any _ _ _ hp (by omega) (by omega)).mono ?_
    rw [HT.out]
    rintro e w1 ⟨rfl, hb1⟩
    simp only [hb]
    obtain ⟨q0, q1, q2, q3, q4, q5⟩ := two_new hb1
    clear hb1
    go_wp2_with (refine wpList_store_tok rfl (.tmp 6) (.tmp 41) (by rfl) (w.heap.size + 1) T.1 (by rfl) (by rfl) q2 q3 (by rfl) ?_; intro w2 r1 r2 r3 r4 r5 r6; have s0 := fun o => (r3 w.heap.size o (by omega)).trans (q0 o); have s1 := fun o => (r4 w.heap.size o).trans (q1 o); have s2 : Below w.heap.size w w2 := q5.trans (r6 _ (by omega)); clear r3 r4 r6 q0 q1 q2 q3 q5)
    refine bodyPost_ret (v := .tuple #[tokV T.1, _]) (by simp [results, Tryz.results48, go_sem, s0, s1, r1, r2, tokV]) rfl ⟨rfl, ?_⟩
    go_grown

theorem next_any (p : ByteArray) (i : Int) (w : World) (hp : p.size ≤ 64) (hi0 : 0 ≤ i) (hi1 : i < (p.size : Int)) :
    Calls Tryz.prog 48 #[.string p, .int .i64 i] w fun e w' => e = .returned (.tuple #[tokV (Mt.nextT p i).1, .int .i64 (Mt.nextT p i).2]) ∧ Below w.heap.size w w' := by
  obtain ⟨k, rfl⟩ := Int.eq_ofNat_of_zero_le hi0
  have hk : k < p.size := by omega
  have eb := byte_at p k hk
  have yes : ∀ q : Int, Mt.atB p k = q → (((p[k]'hk).toNat : Int) == q) = true := fun q h => by rw [eb]; simpa using h
  have no : ∀ q : Int, ¬ Mt.atB p k = q → (((p[k]'hk).toNat : Int) == q) = false := fun q h => by rw [eb]; simpa using h
  unfold Mt.nextT
  by_cases h1 : Mt.atB p k = 124
  · rw [if_pos h1]; exact next_bar p k w hk hp (yes _ h1)
  rw [if_neg h1]
  by_cases h2 : Mt.atB p k = 41
  · rw [if_pos h2]; exact next_close p k w hk hp (no _ h1) (yes _ h2)
  rw [if_neg h2]
  by_cases h3 : Mt.atB p k = 94
  · rw [if_pos h3]; exact next_head p k w hk hp (no _ h1) (no _ h2) (yes _ h3)
  rw [if_neg h3]
  by_cases h4 : Mt.atB p k = 36
  · rw [if_pos h4]; exact next_tail p k w hk hp (no _ h1) (no _ h2) (no _ h3) (yes _ h4)
  rw [if_neg h4]
  by_cases h5 : Mt.atB p k = 92
  · rw [if_pos h5]; exact next_esc p k w hk hp (no _ h1) (no _ h2) (no _ h3) (no _ h4) (yes _ h5) _ rfl
  rw [if_neg h5]
  by_cases h6 : Mt.atB p k = 91
  · rw [if_pos h6]; exact next_class p k w hk hp (no _ h1) (no _ h2) (no _ h3) (no _ h4) (no _ h5) (yes _ h6) _ rfl
  rw [if_neg h6]
  by_cases h7 : Mt.atB p k = 40
  · rw [if_pos h7]; exact next_open p k w hk hp (no _ h1) (no _ h2) (no _ h3) (no _ h4) (no _ h5) (no _ h6) (yes _ h7) _ rfl
  rw [if_neg h7]
  by_cases h8 : Mt.atB p k = 42
  · rw [if_pos (Or.inl h8)]; exact next_rep42 p k w hk hp (no _ h1) (no _ h2) (no _ h3) (no _ h4) (no _ h5) (no _ h6) (no _ h7) (yes _ h8) _ rfl
  by_cases h9 : Mt.atB p k = 43
  · rw [if_pos (Or.inr (Or.inl h9))]; exact next_rep43 p k w hk hp (no _ h1) (no _ h2) (no _ h3) (no _ h4) (no _ h5) (no _ h6) (no _ h7) (no _ h8) (yes _ h9) _ rfl
  by_cases h10 : Mt.atB p k = 63
  · rw [if_pos (Or.inr (Or.inr (Or.inl h10)))]; exact next_rep63 p k w hk hp (no _ h1) (no _ h2) (no _ h3) (no _ h4) (no _ h5) (no _ h6) (no _ h7) (no _ h8) (no _ h9) (yes _ h10) _ rfl
  by_cases h11 : Mt.atB p k = 123
  · rw [if_pos (Or.inr (Or.inr (Or.inr h11)))]; exact next_rep123 p k w hk hp (no _ h1) (no _ h2) (no _ h3) (no _ h4) (no _ h5) (no _ h6) (no _ h7) (no _ h8) (no _ h9) (no _ h10) (yes _ h11) _ rfl
  rw [if_neg (by rintro (h | h | h | h) <;> contradiction)]
  by_cases h12 : Mt.atB p k = 46
  · rw [if_pos h12]; exact next_dot p k w hk hp (no _ h1) (no _ h2) (no _ h3) (no _ h4) (no _ h5) (no _ h6) (no _ h7) (no _ h8) (no _ h9) (no _ h10) (no _ h11) (yes _ h12)
  rw [if_neg h12]
  exact next_byte p k w hk hp (no _ h1) (no _ h2) (no _ h3) (no _ h4) (no _ h5) (no _ h6) (no _ h7) (no _ h8) (no _ h9) (no _ h10) (no _ h11) (no _ h12)
end Go.Proofs.YtebpgfodelggoaaGreat
