import Derived.Test.YtebpgfodelggoaaGreatC03
import Derived.Laws.IdiomStrings
import Derived.Test.YtebpgfodelggoaaGreatC01
set_option linter.unusedVariables false
set_option linter.unusedSimpArgs false
namespace Go.Proofs.YtebpgfodelggoaaGreat
open Go.RowKit

theorem bcells_len (l : List UInt8) : (bcells l).length = l.length := by simp [bcells]
theorem allTo_len (p : ByteArray) (a b : Int) (no : Bool) (n : Nat) : (Mt.allTo p a b no n).length ≤ n := by
  unfold Mt.allTo
  rw [List.length_map]
  exact Nat.le_trans (List.length_filter_le _ _) (by simp)
theorem allTo_hit {p : ByteArray} {a b : Int} {no : Bool} {n : Nat} (hn : n < 256) (h : (Mt.inClass p a b (n : Int) != no) = true) : bcells (Mt.allTo p a b no (n + 1)) = bcells (Mt.allTo p a b no n) ++ [.int .u8 (n : Int)] ∧ (Mt.allTo p a b no (n + 1)).length = (Mt.allTo p a b no n).length + 1 := by
  have e : Mt.allTo p a b no (n + 1) = Mt.allTo p a b no n ++ [UInt8.ofNat n] := by
    unfold Mt.allTo
    rw [List.range_succ, List.filter_append, List.map_append]
    congr 1
    rw [List.filter_cons, if_pos h]; rfl
  rw [e]
  refine ⟨?_, by simp⟩
  simp only [bcells, List.map_append, List.map_cons, List.map_nil]
  have : (UInt8.ofNat n).toNat = n := by simp; omega
  rw [this]
theorem allTo_miss {p : ByteArray} {a b : Int} {no : Bool} {n : Nat} (h : (Mt.inClass p a b (n : Int) != no) = false) : Mt.allTo p a b no (n + 1) = Mt.allTo p a b no n := by
  unfold Mt.allTo
  rw [List.range_succ, List.filter_append, List.map_append]
  have : List.filter (fun c : Nat => Mt.inClass p a b (c : Int) != no) [n] = [] := by rw [List.filter_cons, if_neg (by simp [h])]; rfl
  rw [this]; simp

set_option maxRecDepth 100000 in
set_option maxHeartbeats 1000000 in
theorem all_any (p : ByteArray) (a b : Int) (no : Bool) (w : World) (hp : p.size ≤ 64) (ha0 : 0 ≤ a) (ha1 : a ≤ 200) (hb1 : b ≤ 200) :
    Calls Tryz.prog 82 #[.string p, .int .i64 a, .int .i64 b, .bool no] w fun e w' => e = .returned (.string ⟨(Mt.all p a b no).toArray⟩) ∧ Below w.heap.size w w' := by
  obtain ⟨i0, hi, hz0, hz1, hz2⟩ := info_parts Tryz.info5
  go_enter Tryz.func82, Tryz.ntmps82
  go_wp2_with fail
  go_loopw [9, 10] (fun v i wr => ∃ k : Nat, k ≤ 256 ∧ i = .int .i64 k ∧ wr.ownsRow w.heap.size 5 1 v (Mt.allTo p a b no k).length (bcells (Mt.allTo p a b no k)) ∧ Below w.heap.size w wr) (fun _ i _ => 256 - (intOf i).toNat)
  case atStart => exact ⟨0, by omega, rfl, World.ownsRow_nil _ _ _ _, Below.refl _ _⟩
  case round =>
    obtain ⟨k, hk, rfl, hown, hbel⟩ := hrel
    have hl := allTo_len p a b no k
    have hsz := hbel.size
    by_cases hlt : k < 256
    · cases hq : (!(Mt.inClass p a b (k : Int) == no))
      · have em := allTo_miss hq
        have H1 : Hid (wr.ownsRow w.heap.size 5 1 u9 (Mt.allTo p a b no (k + 1)).length (bcells (Mt.allTo p a b no (k + 1)))) := by rw [em]; exact hown
        clear em
        go_wp2_with (first | (go_at_call 112; refine (inClass_any _ _ _ _ _ hp (by omega) (by omega) (by omega) (by omega) (by omega)).mono ?_; rintro e w' ⟨rfl, rfl⟩))
        go_roundw
        case rel => exact ⟨k + 1, by omega, by go_num, H1.out, hbel⟩
        case measure => simp [intOf]; omega
      · have eh := allTo_hit hlt hq
        have H1 : Hid (bcells (Mt.allTo p a b no (k + 1)) = bcells (Mt.allTo p a b no k) ++ [.int .u8 (k : Int)] ∧ (Mt.allTo p a b no (k + 1)).length = (Mt.allTo p a b no k).length + 1) := eh
        clear eh
        go_wp2_with (first | (go_at_call 112; refine (inClass_any _ _ _ _ _ hp (by omega) (by omega) (by omega) (by omega) (by omega)).mono ?_; rintro e w' ⟨rfl, rfl⟩) | (at_builtin; refine wpList_append_own _ rfl _ _ 158 rfl w.heap.size 5 i0 (.int .u8 0) 1 1 Tryz.underlying158 hi hz0 hz1 hz2 rfl (by decide) _ _ _ rfl (hown.alloc _) ⟨wr.heap.size, 0, none⟩ 1 1 [.int .u8 (k : Int)] rfl rfl ?c1 ?c2 ?c3 ?c4 ?c5 ?_))
        case c1 =>
          intro j u hj
          match j, hj with
          | 0, hj => simp at hj; subst hj; simp [Addr.add]
        case c2 => intro u hu; simp at hu; subst hu; rfl
        case c3 => unfold maxLen; omega
        case c4 => omega
        case c5 => simp; omega
        · intro v' w1 hown' hgrow _
          have R1 : Hid (w1.ownsRow w.heap.size 5 1 v' (Mt.allTo p a b no (k + 1)).length (bcells (Mt.allTo p a b no (k + 1)))) := by
            show w1.ownsRow _ _ _ _ _ _
            rw [H1.out.1, H1.out.2]; exact hown'
          have R2 : Below w.heap.size w w1 := (hbel.alloc hsz _).grown hgrow (by simp; omega) (fun q hq' => (hown.lt q hq').1)
          clear hown' hgrow hown
          go_wp2
          go_roundw
          case rel => exact ⟨k + 1, by omega, by go_num, R1.out, R2⟩
          case measure => simp [intOf]; omega
    · have hk2 : k = 256 := by omega
      subst hk2
      have hcv := conv_owned wr w.heap.size _ _ hown
      go_wp2_with fail
      go_ret
      exact ⟨rfl, hbel⟩
end Go.Proofs.YtebpgfodelggoaaGreat
set_option linter.unusedVariables false
set_option linter.unusedSimpArgs false
namespace Go.Proofs.YtebpgfodelggoaaGreat
open Go.RowKit

theorem bcell {W w1 : World} (hb : Below W.heap.size W w1) : (∀ b o, b < W.heap.size → w1.cell? ⟨b, o, none⟩ = W.cell? ⟨b, o, none⟩) ∧ (∀ b o, b < W.heap.size → w1.frozen? ⟨b, o, none⟩ = W.frozen? ⟨b, o, none⟩) :=
  ⟨fun b o h => hb.cell (p := ⟨b, o, none⟩) h, fun b o h => hb.frozen (p := ⟨b, o, none⟩) h⟩

theorem one_new {w w1 : World} {A : Array Value} {t : TypeId} (hb : Below (w.alloc (.cells A t)).heap.size (w.alloc (.cells A t)) w1) :
    (∀ o, w1.cell? ⟨w.heap.size, o, none⟩ = A[o]?) ∧ (∀ o, w1.frozen? ⟨w.heap.size, o, none⟩ = false) ∧ w.heap.size < w1.heap.size ∧ Below w.heap.size w w1 := by
  have hs : (w.alloc (.cells A t)).heap.size = w.heap.size + 1 := by simp
  have h0 : w1.heap[w.heap.size]? = some (.cells A t (0, 0)) := by rw [hb.block _ (by omega), heap_alloc_new]
  have := hb.size
  exact ⟨(cell_block h0).1, (cell_block h0).2, by omega, ((Below.refl _ _).alloc (Nat.le_refl _) _).trans (hb.mono (by omega))⟩

theorem two_new {w w1 : World} {A B : Array Value} {t u : TypeId} (hb : Below ((w.alloc (.cells A t)).alloc (.cells B u)).heap.size ((w.alloc (.cells A t)).alloc (.cells B u)) w1) :
    (∀ o, w1.cell? ⟨w.heap.size, o, none⟩ = A[o]?) ∧ (∀ o, w1.frozen? ⟨w.heap.size, o, none⟩ = false) ∧
    (∀ o, w1.cell? ⟨w.heap.size + 1, o, none⟩ = B[o]?) ∧ (∀ o, w1.frozen? ⟨w.heap.size + 1, o, none⟩ = false) ∧ w.heap.size + 1 < w1.heap.size ∧ Below w.heap.size w w1 := by
  have hs : ((w.alloc (.cells A t)).alloc (.cells B u)).heap.size = w.heap.size + 2 := by simp
  have hs1 : (w.alloc (.cells A t)).heap.size = w.heap.size + 1 := by simp
  have h0 : w1.heap[w.heap.size]? = some (.cells A t (0, 0)) := by rw [hb.block _ (by omega), heap_old _ _ _ (by omega), heap_alloc_new]
  have h1 : w1.heap[w.heap.size + 1]? = some (.cells B u (0, 0)) := by rw [hb.block _ (by omega), ← hs1, heap_alloc_new]
  have := hb.size
  exact ⟨(cell_block h0).1, (cell_block h0).2, (cell_block h1).1, (cell_block h1).2, by omega, (((Below.refl _ _).alloc (Nat.le_refl _) _).alloc (by omega) _).trans (hb.mono (by omega))⟩

def tokCells (t : Mt.Tok) : List Value := [.int .i64 t.kind, .int .i64 t.frm, .int .i64 t.to, .int .i64 t.n, .int .i64 t.m, .int .i64 t.how, .string ⟨t.set.toArray⟩]
def tokV (t : Mt.Tok) : Value := .agg #[.int .i64 t.kind, .int .i64 t.frm, .int .i64 t.to, .int .i64 t.n, .int .i64 t.m, .int .i64 t.how, .string ⟨t.set.toArray⟩]

set_option maxHeartbeats 1000000 in
theorem opening_any (p : ByteArray) (i : Int) (w : World) (hp : p.size ≤ 64) (hi0 : 0 ≤ i) (hi1 : i ≤ 100) :
    Calls Tryz.prog 80 #[.string p, .int .i64 i] w fun e w' => e = .returned (.tuple #[tokV (Mt.opening p i).1, .bool (Mt.opening p i).2]) ∧ Below w.heap.size w w' := by
  rcases Mt.opening_cases p i with ⟨a1, e⟩ | ⟨a1, ⟨a2, e⟩ | ⟨a2, a3, e⟩ | ⟨a2, a3, a4, e⟩ | ⟨a2, a3, a4, a5, e⟩ | ⟨a2, a3, a4, a5, e⟩⟩
  all_goals
    rw [e]; clear e
    go_enter Tryz.func80, Tryz.ntmps80
    go_wp2_with (go_at_call 107; refine (at_any _ _ _ hp).mono ?_; rintro e w' ⟨rfl, rfl⟩)
    go_returns
    exact ⟨rfl, by go_grown⟩
end Go.Proofs.YtebpgfodelggoaaGreat
set_option linter.unusedVariables false
set_option linter.unusedSimpArgs false
namespace Go.Proofs.YtebpgfodelggoaaGreat
open Go.RowKit

theorem mood_cases (p : ByteArray) (t : Int) :
    ((Mt.atB p t == 63) = true ∧ Mt.mood p t = (1, t + 1)) ∨ ((Mt.atB p t == 63) = false ∧ (Mt.atB p t == 43) = true ∧ Mt.mood p t = (2, t + 1)) ∨
    ((Mt.atB p t == 63) = false ∧ (Mt.atB p t == 43) = false ∧ Mt.mood p t = (0, t)) := by
  unfold Mt.mood
  simp only [beq_iff_eq, beq_eq_false_iff_ne]
  by_cases h : Mt.atB p t = 63
  · simp [h]
  · rw [if_neg h]
    by_cases h2 : Mt.atB p t = 43
    · simp [h2]
    · simp [h, h2]

/-- The byte at k as a number, in the walk's spelling. -/
theorem byte_at (p : ByteArray) (k : Nat) (h : k < p.size) : ((p[k]'h).toNat : Int) = Mt.atB p k := by
  have := atB_nat p k h
  have hb := (p[k]'h).toNat_lt
  rw [← this]
  exact (IntWalk.wrap64_in _ ⟨by omega, by omega⟩).symm

set_option maxRecDepth 100000 in
set_option maxHeartbeats 1000000 in
theorem repeat_plain (p : ByteArray) (k : Nat) (w : World) (hp : p.size ≤ 64) (hk : k < p.size) (h1 : (((p[k]'hk).toNat : Int) == 43) = false) (h2 : (((p[k]'hk).toNat : Int) == 63) = false) (h3 : (((p[k]'hk).toNat : Int) == 123) = false) :
    Calls Tryz.prog 81 #[.string p, .int .i64 k] w fun e w' => e = .returned (.tuple #[tokV ⟨8, k, (Mt.mood p (k + 1)).2, 0, -1, (Mt.mood p (k + 1)).1, []⟩, .bool true]) ∧ Below w.heap.size w w' := by
  rcases mood_cases p (k + 1) with ⟨a1, e⟩ | ⟨a1, a2, e⟩ | ⟨a1, a2, e⟩
  all_goals
    rw [e]; clear e
    go_enter Tryz.func81, Tryz.ntmps81
    go_wp2_with (go_at_call 107; refine (at_any _ _ _ hp).mono ?_; rintro e w' ⟨rfl, rfl⟩)
    go_returns
    exact ⟨rfl, by go_grown⟩

set_option maxRecDepth 100000 in
set_option maxHeartbeats 1000000 in
theorem repeat_plus (p : ByteArray) (k : Nat) (w : World) (hp : p.size ≤ 64) (hk : k < p.size) (h1 : (((p[k]'hk).toNat : Int) == 43) = true) :
    Calls Tryz.prog 81 #[.string p, .int .i64 k] w fun e w' => e = .returned (.tuple #[tokV ⟨8, k, (Mt.mood p (k + 1)).2, 1, -1, (Mt.mood p (k + 1)).1, []⟩, .bool true]) ∧ Below w.heap.size w w' := by
  rcases mood_cases p (k + 1) with ⟨a1, e⟩ | ⟨a1, a2, e⟩ | ⟨a1, a2, e⟩
  all_goals
    rw [e]; clear e
    go_enter Tryz.func81, Tryz.ntmps81
    go_wp2_with (go_at_call 107; refine (at_any _ _ _ hp).mono ?_; rintro e w' ⟨rfl, rfl⟩)
    go_returns
    exact ⟨rfl, by go_grown⟩

set_option maxRecDepth 100000 in
set_option maxHeartbeats 1000000 in
theorem repeat_mark (p : ByteArray) (k : Nat) (w : World) (hp : p.size ≤ 64) (hk : k < p.size) (h1 : (((p[k]'hk).toNat : Int) == 43) = false) (h2 : (((p[k]'hk).toNat : Int) == 63) = true) :
    Calls Tryz.prog 81 #[.string p, .int .i64 k] w fun e w' => e = .returned (.tuple #[tokV ⟨8, k, (Mt.mood p (k + 1)).2, 0, 1, (Mt.mood p (k + 1)).1, []⟩, .bool true]) ∧ Below w.heap.size w w' := by
  rcases mood_cases p (k + 1) with ⟨a1, e⟩ | ⟨a1, a2, e⟩ | ⟨a1, a2, e⟩
  all_goals
    rw [e]; clear e
    go_enter Tryz.func81, Tryz.ntmps81
    go_wp2_with (go_at_call 107; refine (at_any _ _ _ hp).mono ?_; rintro e w' ⟨rfl, rfl⟩)
    go_returns
    exact ⟨rfl, by go_grown⟩

set_option maxRecDepth 100000 in
set_option maxHeartbeats 1000000 in
theorem repeat_count (p : ByteArray) (k : Nat) (w : World) (hp : p.size ≤ 64) (hk : k < p.size) (h1 : (((p[k]'hk).toNat : Int) == 43) = false) (h2 : (((p[k]'hk).toNat : Int) == 63) = false) (h3 : (((p[k]'hk).toNat : Int) == 123) = true) (hc : (Mt.count p k).2.2.2 = true) :
    Calls Tryz.prog 81 #[.string p, .int .i64 k] w fun e w' => e = .returned (.tuple #[tokV ⟨8, k, (Mt.mood p (Mt.count p k).2.2.1).2, (Mt.count p k).1, (Mt.count p k).2.1, (Mt.mood p (Mt.count p k).2.2.1).1, []⟩, .bool true]) ∧ Below w.heap.size w w' := by
  have ⟨b1, b2, b3, b4, b5, b6⟩ := Mt.count_bd p k (by omega)
  rcases mood_cases p (Mt.count p k).2.2.1 with ⟨a1, e⟩ | ⟨a1, a2, e⟩ | ⟨a1, a2, e⟩
  all_goals
    rw [e]; clear e
    go_enter Tryz.func81, Tryz.ntmps81
    go_wp2_with (first | (go_at_call 107; refine (at_any _ _ _ hp).mono ?_; rintro e w' ⟨rfl, rfl⟩) | (go_at_call 111; refine (count_any _ _ _ hp (by omega) (by omega)).mono ?_; rintro e w' ⟨rfl, rfl⟩))
    go_returns
    exact ⟨rfl, by go_grown⟩

set_option maxRecDepth 100000 in
set_option maxHeartbeats 1000000 in
theorem repeat_none (p : ByteArray) (k : Nat) (w : World) (hp : p.size ≤ 64) (hk : k < p.size) (h1 : (((p[k]'hk).toNat : Int) == 43) = false) (h2 : (((p[k]'hk).toNat : Int) == 63) = false) (h3 : (((p[k]'hk).toNat : Int) == 123) = true) (hc : (Mt.count p k).2.2.2 = false) :
    Calls Tryz.prog 81 #[.string p, .int .i64 k] w fun e w' => e = .returned (.tuple #[tokV ⟨8, k, k + 1, 0, -1, 0, []⟩, .bool false]) ∧ Below w.heap.size w w' := by
  go_enter Tryz.func81, Tryz.ntmps81
  go_wp2_with (first | (go_at_call 107; refine (at_any _ _ _ hp).mono ?_; rintro e w' ⟨rfl, rfl⟩) | (go_at_call 111; refine (count_any _ _ _ hp (by omega) (by omega)).mono ?_; rintro e w' ⟨rfl, rfl⟩))
  go_returns
  exact ⟨rfl, by go_grown⟩

theorem repeat_any (p : ByteArray) (i : Int) (w : World) (hp : p.size ≤ 64) (hi0 : 0 ≤ i) (hi1 : i < (p.size : Int)) :
    Calls Tryz.prog 81 #[.string p, .int .i64 i] w fun e w' => e = .returned (.tuple #[tokV (Mt.repeatT p i).1, .bool (Mt.repeatT p i).2]) ∧ Below w.heap.size w w' := by
  obtain ⟨k, rfl⟩ := Int.eq_ofNat_of_zero_le hi0
  have hk : k < p.size := by omega
  have eb := byte_at p k hk
  unfold Mt.repeatT
  by_cases h1 : Mt.atB p k = 43
  · rw [if_pos h1]
    exact repeat_plus p k w hp hk (by rw [eb]; simpa using h1)
  · rw [if_neg h1]
    by_cases h2 : Mt.atB p k = 63
    · rw [if_pos h2]
      exact repeat_mark p k w hp hk (by rw [eb]; simpa using h1) (by rw [eb]; simpa using h2)
    · rw [if_neg h2]
      by_cases h3 : Mt.atB p k = 123
      · rw [if_pos h3]
        cases hc : (Mt.count p k).2.2.2
        · exact repeat_none p k w hp hk (by rw [eb]; simpa using h1) (by rw [eb]; simpa using h2) (by rw [eb]; simpa using h3) hc
        · exact repeat_count p k w hp hk (by rw [eb]; simpa using h1) (by rw [eb]; simpa using h2) (by rw [eb]; simpa using h3) hc
      · rw [if_neg h3]
        exact repeat_plain p k w hp hk (by rw [eb]; simpa using h1) (by rw [eb]; simpa using h2) (by rw [eb]; simpa using h3)
end Go.Proofs.YtebpgfodelggoaaGreat
set_option linter.unusedVariables false
set_option linter.unusedSimpArgs false
namespace Go.Proofs.YtebpgfodelggoaaGreat
open Go.RowKit

theorem classT_none {p : ByteArray} {i : Int} (h : Mt.classFrom p (Mt.classA p i) = -1) : Mt.classT p i = (⟨0, 0, 0, 0, 0, 0, []⟩, false) := by unfold Mt.classT; rw [if_pos (Or.inl h)]
theorem classT_empty {p : ByteArray} {i : Int} (h : Mt.classFrom p (Mt.classA p i) = Mt.classA p i) : Mt.classT p i = (⟨0, 0, 0, 0, 0, 0, []⟩, false) := by unfold Mt.classT; rw [if_pos (Or.inr h)]
theorem classT_some {p : ByteArray} {i k : Int} (h : Mt.classFrom p (Mt.classA p i) = k) (h1 : 0 ≤ k) (h2 : k ≠ Mt.classA p i) : Mt.classT p i = (⟨1, i, k + 1, 0, 0, 0, Mt.all p (Mt.classA p i) k (decide (Mt.atB p (i + 1) = 94))⟩, true) := by
  unfold Mt.classT; rw [h, if_neg (by omega)]

set_option maxRecDepth 100000 in
set_option maxHeartbeats 4000000 in
theorem class_core (p : ByteArray) (i a : Int) (no : Bool) (w : World) (hp : p.size ≤ 64) (hi0 : 0 ≤ i) (hi1 : i ≤ 64) (hno : (Mt.atB p (i + 1) == 94) = no) (ha : Hid (a = Mt.classA p i)) (ha0 : a = if no then i + 1 + 1 else i + 1) :
    Calls Tryz.prog 79 #[.string p, .int .i64 i] w fun e w' => e = .returned (.tuple #[tokV (Mt.classT p i).1, .bool (Mt.classT p i).2]) ∧ Below w.heap.size w w' := by
  have hdec : Hid (decide (Mt.atB p (i + 1) = 94) = no) := by show _ = _; rw [← hno]; rfl
  cases no
  · simp only [Bool.false_eq_true, if_false] at ha0
    subst ha0
    go_enter Tryz.func79, Tryz.ntmps79
    go_wp2_with (first | (go_at_call 107; refine (at_any _ _ _ hp).mono ?_; rintro e w' ⟨rfl, rfl⟩))
    go_loop [8] (fun b => ∃ k : Nat, i + 1 ≤ (k : Int) ∧ k ≤ 100 ∧ b = .int .i64 k ∧ Mt.classFrom p (i + 1) = Mt.classFrom p k) (fun b => 200 - (intOf b).toNat)
    case atStart => exact ⟨(i + 1).toNat, by omega, by omega, by rw [Int.toNat_of_nonneg (by omega)], by rw [Int.toNat_of_nonneg (by omega)]⟩
    case round =>
      obtain ⟨k, hk1, hk2, rfl, hr⟩ := hrel
      have H : Hid (Mt.classFrom p (i + 1) = Mt.classFrom p k) := hr
      clear hr
      have ⟨d1, d2, d3, d4, d5, d6⟩ := Mt.item_bd p k
      have hst := Mt.classFrom_step p k
      by_cases hlt : k < p.size
      · have eb : Hid (((p[k]'hlt).toNat : Int) = Mt.atB p k) := byte_at p k hlt
        rw [if_neg (by omega)] at hst
        cases hq : (((p[k]'hlt).toNat : Int) != 93)
        · have h93 : Mt.atB p k = 93 := by rw [← eb.out]; simpa using hq
          rw [if_pos h93] at hst
          have HS : Hid (Mt.classFrom p (i + 1) = k) := H.out.trans hst
          clear hst h93 H
          cases hka : ((k : Int) == i + 1)
          · have hT := classT_some (p := p) (i := i) (k := k) (by rw [← ha.out]; exact HS.out) (by omega) (by rw [← ha.out]; simpa using hka)
            rw [← ha.out, hdec.out] at hT
            have HT : Hid (Mt.classT p i = (⟨1, i, k + 1, 0, 0, 0, Mt.all p (i + 1) k false⟩, true)) := hT
            clear hT
            go_wp2_with (first | (go_at_call 82; refine (all_any _ _ _ _ _ hp (by omega) (by omega) (by omega)).mono ?_; rintro e w1 ⟨rfl, hb1⟩; obtain ⟨q0, q1, q4, q5⟩ := one_new hb1; clear hb1))
            refine bodyPost_ret (v := .tuple #[tokV ⟨1, i, k + 1, 0, 0, 0, Mt.all p (i + 1) k false⟩, .bool true]) (by simp [results, Tryz.results79, go_sem, q0, q1, tokV]) rfl ⟨by rw [HT.out], ?_⟩
            go_grown
          · have hT := classT_empty (p := p) (i := i) (by rw [← ha.out, HS.out]; simpa using hka)
            have HT : Hid (Mt.classT p i = (⟨0, 0, 0, 0, 0, 0, []⟩, false)) := hT
            clear hT
            go_wp2_with fail
            go_returns
            exact ⟨by rw [HT.out]; rfl, by go_grown⟩
        · have h93 : ¬ Mt.atB p k = 93 := by rw [← eb.out]; simpa using hq
          rw [if_neg h93] at hst
          clear h93
          cases hz : ((Mt.item p k).2.2.1 == 0)
          · rw [if_neg (by simpa using hz)] at hst
            have hz1 : 1 ≤ (Mt.item p k).2.2.1 := by
              have : (Mt.item p k).2.2.1 ≠ 0 := by simpa using hz
              omega
            have R : Hid (Mt.classFrom p (i + 1) = Mt.classFrom p (k + (Mt.item p k).2.2.1)) := H.out.trans hst
            clear hst H
            go_wp2_with (first | (go_at_call 110; refine (item_any _ _ _ hp (by omega) (by omega)).mono ?_; rintro e w' ⟨rfl, rfl⟩))
            go_round
            case rel => exact ⟨((k : Int) + (Mt.item p k).2.2.1).toNat, by omega, by omega, by rw [Int.toNat_of_nonneg (by omega)], by rw [Int.toNat_of_nonneg (by omega)]; exact R.out⟩
            case measure => simp [intOf]; omega
          · rw [if_pos (by simpa using hz)] at hst
            have HT : Hid (Mt.classT p i = (⟨0, 0, 0, 0, 0, 0, []⟩, false)) := classT_none (by rw [← ha.out]; exact H.out.trans hst)
            clear hst H
            go_wp2_with (first | (go_at_call 110; refine (item_any _ _ _ hp (by omega) (by omega)).mono ?_; rintro e w' ⟨rfl, rfl⟩))
            go_returns
            exact ⟨by rw [HT.out]; rfl, by go_grown⟩
      · rw [if_pos (by omega)] at hst
        have HT : Hid (Mt.classT p i = (⟨0, 0, 0, 0, 0, 0, []⟩, false)) := classT_none (by rw [← ha.out]; exact H.out.trans hst)
        clear hst H
        cases hka : ((k : Int) == i + 1)
        all_goals
          go_wp2_with fail
          go_returns
          exact ⟨by rw [HT.out]; rfl, by go_grown⟩
  · simp only [if_true] at ha0
    subst ha0
    go_enter Tryz.func79, Tryz.ntmps79
    go_wp2_with (first | (go_at_call 107; refine (at_any _ _ _ hp).mono ?_; rintro e w' ⟨rfl, rfl⟩))
    go_loop [8] (fun b => ∃ k : Nat, i + 1 + 1 ≤ (k : Int) ∧ k ≤ 100 ∧ b = .int .i64 k ∧ Mt.classFrom p (i + 1 + 1) = Mt.classFrom p k) (fun b => 200 - (intOf b).toNat)
    case atStart => exact ⟨(i + 1 + 1).toNat, by omega, by omega, by rw [Int.toNat_of_nonneg (by omega)], by rw [Int.toNat_of_nonneg (by omega)]⟩
    case round =>
      obtain ⟨k, hk1, hk2, rfl, hr⟩ := hrel
      have H : Hid (Mt.classFrom p (i + 1 + 1) = Mt.classFrom p k) := hr
      clear hr
      have ⟨d1, d2, d3, d4, d5, d6⟩ := Mt.item_bd p k
      have hst := Mt.classFrom_step p k
      by_cases hlt : k < p.size
      · have eb : Hid (((p[k]'hlt).toNat : Int) = Mt.atB p k) := byte_at p k hlt
        rw [if_neg (by omega)] at hst
        cases hq : (((p[k]'hlt).toNat : Int) != 93)
        · have h93 : Mt.atB p k = 93 := by rw [← eb.out]; simpa using hq
          rw [if_pos h93] at hst
          have HS : Hid (Mt.classFrom p (i + 1 + 1) = k) := H.out.trans hst
          clear hst h93 H
          cases hka : ((k : Int) == i + 1 + 1)
          · have hT := classT_some (p := p) (i := i) (k := k) (by rw [← ha.out]; exact HS.out) (by omega) (by rw [← ha.out]; simpa using hka)
            rw [← ha.out, hdec.out] at hT
            have HT : Hid (Mt.classT p i = (⟨1, i, k + 1, 0, 0, 0, Mt.all p (i + 1 + 1) k true⟩, true)) := hT
            clear hT
            go_wp2_with (first | (go_at_call 82; refine (all_any _ _ _ _ _ hp (by omega) (by omega) (by omega)).mono ?_; rintro e w1 ⟨rfl, hb1⟩; obtain ⟨q0, q1, q4, q5⟩ := one_new hb1; clear hb1))
            refine bodyPost_ret (v := .tuple #[tokV ⟨1, i, k + 1, 0, 0, 0, Mt.all p (i + 1 + 1) k true⟩, .bool true]) (by simp [results, Tryz.results79, go_sem, q0, q1, tokV]) rfl ⟨by rw [HT.out], ?_⟩
            go_grown
          · have hT := classT_empty (p := p) (i := i) (by rw [← ha.out, HS.out]; simpa using hka)
            have HT : Hid (Mt.classT p i = (⟨0, 0, 0, 0, 0, 0, []⟩, false)) := hT
            clear hT
            go_wp2_with fail
            go_returns
            exact ⟨by rw [HT.out]; rfl, by go_grown⟩
        · have h93 : ¬ Mt.atB p k = 93 := by rw [← eb.out]; simpa using hq
          rw [if_neg h93] at hst
          clear h93
          cases hz : ((Mt.item p k).2.2.1 == 0)
          · rw [if_neg (by simpa using hz)] at hst
            have hz1 : 1 ≤ (Mt.item p k).2.2.1 := by
              have : (Mt.item p k).2.2.1 ≠ 0 := by simpa using hz
              omega
            have R : Hid (Mt.classFrom p (i + 1 + 1) = Mt.classFrom p (k + (Mt.item p k).2.2.1)) := H.out.trans hst
            clear hst H
            go_wp2_with (first | (go_at_call 110; refine (item_any _ _ _ hp (by omega) (by omega)).mono ?_; rintro e w' ⟨rfl, rfl⟩))
            go_round
            case rel => exact ⟨((k : Int) + (Mt.item p k).2.2.1).toNat, by omega, by omega, by rw [Int.toNat_of_nonneg (by omega)], by rw [Int.toNat_of_nonneg (by omega)]; exact R.out⟩
            case measure => simp [intOf]; omega
          · rw [if_pos (by simpa using hz)] at hst
            have HT : Hid (Mt.classT p i = (⟨0, 0, 0, 0, 0, 0, []⟩, false)) := classT_none (by rw [← ha.out]; exact H.out.trans hst)
            clear hst H
            go_wp2_with (first | (go_at_call 110; refine (item_any _ _ _ hp (by omega) (by omega)).mono ?_; rintro e w' ⟨rfl, rfl⟩))
            go_returns
            exact ⟨by rw [HT.out]; rfl, by go_grown⟩
      · rw [if_pos (by omega)] at hst
        have HT : Hid (Mt.classT p i = (⟨0, 0, 0, 0, 0, 0, []⟩, false)) := classT_none (by rw [← ha.out]; exact H.out.trans hst)
        clear hst H
        cases hka : ((k : Int) == i + 1 + 1)
        all_goals
          go_wp2_with fail
          go_returns
          exact ⟨by rw [HT.out]; rfl, by go_grown⟩

theorem class_any (p : ByteArray) (i : Int) (w : World) (hp : p.size ≤ 64) (hi0 : 0 ≤ i) (hi1 : i ≤ 64) :
    Calls Tryz.prog 79 #[.string p, .int .i64 i] w fun e w' => e = .returned (.tuple #[tokV (Mt.classT p i).1, .bool (Mt.classT p i).2]) ∧ Below w.heap.size w w' := by
  refine class_core p i (Mt.classA p i) (Mt.atB p (i + 1) == 94) w hp hi0 hi1 rfl rfl ?_
  unfold Mt.classA
  by_cases h : Mt.atB p (i + 1) = 94
  · rw [if_pos h, if_pos (by simpa using h)]; omega
  · rw [if_neg h, if_neg (by simpa using h)]
end Go.Proofs.YtebpgfodelggoaaGreat
