import Derived.Test.YtedcboimnmhdaaaGreatC02
import Derived.Test.YtedcboimnmhdaaaGreatC03
set_option linter.unusedVariables false
set_option linter.unusedSimpArgs false
namespace Go.Proofs.YtedcboimnmhdaaaGreat
open Go.RowKit

theorem bcell {W w1 : World} (hb : Below W.heap.size W w1) : (∀ b o, b < W.heap.size → w1.cell? ⟨b, o, none⟩ = W.cell? ⟨b, o, none⟩) ∧ (∀ b o, b < W.heap.size → w1.frozen? ⟨b, o, none⟩ = W.frozen? ⟨b, o, none⟩) :=
  ⟨fun b o h => hb.cell (p := ⟨b, o, none⟩) h, fun b o h => hb.frozen (p := ⟨b, o, none⟩) h⟩

theorem heap_old (w : World) (o : Obj) (k : Nat) (h : k < w.heap.size) : (w.alloc o).heap[k]? = w.heap[k]? := Below.heap_alloc w o k h
theorem cell_block {w : World} {b : Nat} {A : Array Value} {t : TypeId} (h : w.heap[b]? = some (.cells A t (0, 0))) : (∀ o, w.cell? ⟨b, o, none⟩ = A[o]?) ∧ (∀ o, w.frozen? ⟨b, o, none⟩ = false) :=
  ⟨fun o => by simp [World.cell?, h], fun o => by simp [World.frozen?, h]⟩

theorem one_new {w w1 : World} {A : Array Value} {t : TypeId} (hb : Below (w.alloc (.cells A t)).heap.size (w.alloc (.cells A t)) w1) :
    (∀ o, w1.cell? ⟨w.heap.size, o, none⟩ = A[o]?) ∧ (∀ o, w1.frozen? ⟨w.heap.size, o, none⟩ = false) ∧ w.heap.size < w1.heap.size ∧ Below w.heap.size w w1 := by
  have hs : (w.alloc (.cells A t)).heap.size = w.heap.size + 1 := by simp
  have h0 : w1.heap[w.heap.size]? = some (.cells A t (0, 0)) := by rw [hb.block _ (by omega), heap_alloc_new]
  have := hb.size
  exact ⟨(cell_block h0).1, (cell_block h0).2, by omega, ((Below.refl _ _).alloc (Nat.le_refl _) _).trans (hb.mono (by omega))⟩

theorem two_new {w w1 : World} {A B : Array Value} {t u : TypeId} (hb : Below ((w.alloc (.cells A t)).alloc (.cells B u)).heap.size ((w.alloc (.cells A t)).alloc (.cells B u)) w1) :
    (∀ o, w1.cell? ⟨w.heap.size, o, none⟩ = A[o]?) ∧ (∀ o, w1.frozen? ⟨w.heap.size, o, none⟩ = false) ∧
    (∀ o, w1.cell? ⟨w.heap.size + 1, o, none⟩ = B[o]?) ∧ (∀ o, w1.frozen? ⟨w.heap.size + 1, o, none⟩ = false) ∧ w.heap.size + 1 < w1.heap.size ∧ Below w.heap.size w w1 := by
  have hs : ((w.alloc (.cells A t)).alloc (.cells B u)).heap.size = w.heap.size + 2 := by simp
  have hs1 : (w.alloc (.cells A t)).heap.size = w.heap.size + 1 := by simp
  have h0 : w1.heap[w.heap.size]? = some (.cells A t (0, 0)) := by rw [hb.block _ (by omega), heap_old _ _ _ (by omega), heap_alloc_new]
  have h1 : w1.heap[w.heap.size + 1]? = some (.cells B u (0, 0)) := by rw [hb.block _ (by omega), ← hs1, heap_alloc_new]
  have := hb.size
  exact ⟨(cell_block h0).1, (cell_block h0).2, (cell_block h1).1, (cell_block h1).2, by omega, (((Below.refl _ _).alloc (Nat.le_refl _) _).alloc (by omega) _).trans (hb.mono (by omega))⟩

def tokCells (t : Mt.Tok) : List Value := [.int .i64 t.kind, .int .i64 t.frm, .int .i64 t.to, .int .i64 t.n, .int .i64 t.m, .int .i64 t.how, .string ⟨t.set.toArray⟩]
def tokV (t : Mt.Tok) : Value := .agg #[.int .i64 t.kind, .int .i64 t.frm, .int .i64 t.to, .int .i64 t.n, .int .i64 t.m, .int .i64 t.how, .string ⟨t.set.toArray⟩]

set_option maxHeartbeats 1000000 in
theorem opening_any (p : ByteArray) (i : Int) (w : World) (hp : p.size ≤ 64) (hi0 : 0 ≤ i) (hi1 : i ≤ 100) :
    Calls Tryz.prog 76 #[.string p, .int .i64 i] w fun e w' => e = .returned (.tuple #[tokV (Mt.opening p i).1, .bool (Mt.opening p i).2]) ∧ Below w.heap.size w w' := by
  rcases Mt.opening_cases p i with ⟨a1, e⟩ | ⟨a1, ⟨a2, e⟩ | ⟨a2, a3, e⟩ | ⟨a2, a3, a4, e⟩ | ⟨a2, a3, a4, a5, e⟩ | ⟨a2, a3, a4, a5, e⟩⟩
  all_goals
    rw [e]; clear e
    go_enter Tryz.func76, Tryz.ntmps76
    go_wp2_with (go_at_call 100; refine (at_any _ _ _ hp).mono ?_; rintro e w' ⟨rfl, rfl⟩)
    go_returns
    exact ⟨rfl, by go_grown⟩
end Go.Proofs.YtedcboimnmhdaaaGreat
set_option linter.unusedVariables false
set_option linter.unusedSimpArgs false
namespace Go.Proofs.YtedcboimnmhdaaaGreat
open Go.RowKit

theorem mood_cases (p : ByteArray) (t : Int) :
    ((Mt.atB p t == 63) = true ∧ Mt.mood p t = (1, t + 1)) ∨ ((Mt.atB p t == 63) = false ∧ (Mt.atB p t == 43) = true ∧ Mt.mood p t = (2, t + 1)) ∨
    ((Mt.atB p t == 63) = false ∧ (Mt.atB p t == 43) = false ∧ Mt.mood p t = (0, t)) := by
  unfold Mt.mood
  simp only [beq_iff_eq, beq_eq_false_iff_ne]
  by_cases h : Mt.atB p t = 63
  · simp [h]
  · rw [if_neg h]
    by_cases h2 : Mt.atB p t = 43
    · simp [h2]
    · simp [h, h2]

/-- The byte at k as a number, in the walk's spelling. -/
theorem byte_at (p : ByteArray) (k : Nat) (h : k < p.size) : ((p[k]'h).toNat : Int) = Mt.atB p k := by
  have := atB_nat p k h
  have hb := (p[k]'h).toNat_lt
  rw [← this]
  exact (IntWalk.wrap64_in _ ⟨by omega, by omega⟩).symm

set_option maxRecDepth 100000 in
set_option maxHeartbeats 1000000 in
theorem repeat_plain (p : ByteArray) (k : Nat) (w : World) (hp : p.size ≤ 64) (hk : k < p.size) (h1 : (((p[k]'hk).toNat : Int) == 43) = false) (h2 : (((p[k]'hk).toNat : Int) == 63) = false) (h3 : (((p[k]'hk).toNat : Int) == 123) = false) :
    Calls Tryz.prog 77 #[.string p, .int .i64 k] w fun e w' => e = .returned (.tuple #[tokV ⟨8, k, (Mt.mood p (k + 1)).2, 0, -1, (Mt.mood p (k + 1)).1, []⟩, .bool true]) ∧ Below w.heap.size w w' := by
  rcases mood_cases p (k + 1) with ⟨a1, e⟩ | ⟨a1, a2, e⟩ | ⟨a1, a2, e⟩
  all_goals
    rw [e]; clear e
    go_enter Tryz.func77, Tryz.ntmps77
    go_wp2_with (go_at_call 100; refine (at_any _ _ _ hp).mono ?_; rintro e w' ⟨rfl, rfl⟩)
    go_returns
    exact ⟨rfl, by go_grown⟩

set_option maxRecDepth 100000 in
set_option maxHeartbeats 1000000 in
theorem repeat_plus (p : ByteArray) (k : Nat) (w : World) (hp : p.size ≤ 64) (hk : k < p.size) (h1 : (((p[k]'hk).toNat : Int) == 43) = true) :
    Calls Tryz.prog 77 #[.string p, .int .i64 k] w fun e w' => e = .returned (.tuple #[tokV ⟨8, k, (Mt.mood p (k + 1)).2, 1, -1, (Mt.mood p (k + 1)).1, []⟩, .bool true]) ∧ Below w.heap.size w w' := by
  rcases mood_cases p (k + 1) with ⟨a1, e⟩ | ⟨a1, a2, e⟩ | ⟨a1, a2, e⟩
  all_goals
    rw [e]; clear e
    go_enter Tryz.func77, Tryz.ntmps77
    go_wp2_with (go_at_call 100; refine (at_any _ _ _ hp).mono ?_; rintro e w' ⟨rfl, rfl⟩)
    go_returns
    exact ⟨rfl, by go_grown⟩

set_option maxRecDepth 100000 in
set_option maxHeartbeats 1000000 in
theorem repeat_mark (p : ByteArray) (k : Nat) (w : World) (hp : p.size ≤ 64) (hk : k < p.size) (h1 : (((p[k]'hk).toNat : Int) == 43) = false) (h2 : (((p[k]'hk).toNat : Int) == 63) = true) :
    Calls Tryz.prog 77 #[.string p, .int .i64 k] w fun e w' => e = .returned (.tuple #[tokV ⟨8, k, (Mt.mood p (k + 1)).2, 0, 1, (Mt.mood p (k + 1)).1, []⟩, .bool true]) ∧ Below w.heap.size w w' := by
  rcases mood_cases p (k + 1) with ⟨a1, e⟩ | ⟨a1, a2, e⟩ | ⟨a1, a2, e⟩
  all_goals
    rw [e]; clear e
    go_enter Tryz.func77, Tryz.ntmps77
    go_wp2_with (go_at_call 100; refine (at_any _ _ _ hp).mono ?_; rintro e w' ⟨rfl, rfl⟩)
    go_returns
    exact ⟨rfl, by go_grown⟩

set_option maxRecDepth 100000 in
set_option maxHeartbeats 1000000 in
theorem repeat_count (p : ByteArray) (k : Nat) (w : World) (hp : p.size ≤ 64) (hk : k < p.size) (h1 : (((p[k]'hk).toNat : Int) == 43) = false) (h2 : (((p[k]'hk).toNat : Int) == 63) = false) (h3 : (((p[k]'hk).toNat : Int) == 123) = true) (hc : (Mt.count p k).2.2.2 = true) :
    Calls Tryz.prog 77 #[.string p, .int .i64 k] w fun e w' => e = .returned (.tuple #[tokV ⟨8, k, (Mt.mood p (Mt.count p k).2.2.1).2, (Mt.count p k).1, (Mt.count p k).2.1, (Mt.mood p (Mt.count p k).2.2.1).1, []⟩, .bool true]) ∧ Below w.heap.size w w' := by
  have ⟨b1, b2, b3, b4, b5, b6⟩ := Mt.count_bd p k (by omega)
  rcases mood_cases p (Mt.count p k).2.2.1 with ⟨a1, e⟩ | ⟨a1, a2, e⟩ | ⟨a1, a2, e⟩
  all_goals
    rw [e]; clear e
    go_enter Tryz.func77, Tryz.ntmps77
    go_wp2_with (first | (go_at_call 100; refine (at_any _ _ _ hp).mono ?_; rintro e w' ⟨rfl, rfl⟩) | (go_at_call 104; refine (count_any _ _ _ hp (by omega) (by omega)).mono ?_; rintro e w' ⟨rfl, rfl⟩))
    go_returns
    exact ⟨rfl, by go_grown⟩

set_option maxRecDepth 100000 in
set_option maxHeartbeats 1000000 in
theorem repeat_none (p : ByteArray) (k : Nat) (w : World) (hp : p.size ≤ 64) (hk : k < p.size) (h1 : (((p[k]'hk).toNat : Int) == 43) = false) (h2 : (((p[k]'hk).toNat : Int) == 63) = false) (h3 : (((p[k]'hk).toNat : Int) == 123) = true) (hc : (Mt.count p k).2.2.2 = false) :
    Calls Tryz.prog 77 #[.string p, .int .i64 k] w fun e w' => e = .returned (.tuple #[tokV ⟨8, k, k + 1, 0, -1, 0, []⟩, .bool false]) ∧ Below w.heap.size w w' := by
  go_enter Tryz.func77, Tryz.ntmps77
  go_wp2_with (first | (go_at_call 100; refine (at_any _ _ _ hp).mono ?_; rintro e w' ⟨rfl, rfl⟩) | (go_at_call 104; refine (count_any _ _ _ hp (by omega) (by omega)).mono ?_; rintro e w' ⟨rfl, rfl⟩))
  go_returns
  exact ⟨rfl, by go_grown⟩

theorem repeat_any (p : ByteArray) (i : Int) (w : World) (hp : p.size ≤ 64) (hi0 : 0 ≤ i) (hi1 : i < (p.size : Int)) :
    Calls Tryz.prog 77 #[.string p, .int .i64 i] w fun e w' => e = .returned (.tuple #[tokV (Mt.repeatT p i).1, .bool (Mt.repeatT p i).2]) ∧ Below w.heap.size w w' := by
  obtain ⟨k, rfl⟩ := Int.eq_ofNat_of_zero_le hi0
  have hk : k < p.size := by omega
  have eb := byte_at p k hk
  unfold Mt.repeatT
  by_cases h1 : Mt.atB p k = 43
  · rw [if_pos h1]
    exact repeat_plus p k w hp hk (by rw [eb]; simpa using h1)
  · rw [if_neg h1]
    by_cases h2 : Mt.atB p k = 63
    · rw [if_pos h2]
      exact repeat_mark p k w hp hk (by rw [eb]; simpa using h1) (by rw [eb]; simpa using h2)
    · rw [if_neg h2]
      by_cases h3 : Mt.atB p k = 123
      · rw [if_pos h3]
        cases hc : (Mt.count p k).2.2.2
        · exact repeat_none p k w hp hk (by rw [eb]; simpa using h1) (by rw [eb]; simpa using h2) (by rw [eb]; simpa using h3) hc
        · exact repeat_count p k w hp hk (by rw [eb]; simpa using h1) (by rw [eb]; simpa using h2) (by rw [eb]; simpa using h3) hc
      · rw [if_neg h3]
        exact repeat_plain p k w hp hk (by rw [eb]; simpa using h1) (by rw [eb]; simpa using h2) (by rw [eb]; simpa using h3)
end Go.Proofs.YtedcboimnmhdaaaGreat
