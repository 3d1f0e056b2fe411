import Derived.Test.YtedcboimnmhdaaaGreatC00
import Derived.Test.YtedcboimnmhdaaaGreatC01
/- THE PLAIN MATHEMATICS OF matcherref/tokens.go: the tokens. -/
set_option linter.unusedVariables false
namespace Mt

structure Tok where
  kind : Int
  frm : Int
  to : Int
  n : Int
  m : Int
  how : Int
  set : List UInt8

def opening (p : ByteArray) (i : Int) : Tok × Bool :=
  if atB p (i + 1) ≠ 63 then (⟨6, i, i + 1, 0, 0, 4, []⟩, true)
  else if atB p (i + 2) = 58 then (⟨6, i, i + 3, 0, 0, 3, []⟩, true)
  else if atB p (i + 2) = 62 then (⟨6, i, i + 3, 0, 0, 0, []⟩, true)
  else if atB p (i + 2) = 61 then (⟨6, i, i + 3, 0, 0, 1, []⟩, true)
  else if atB p (i + 2) = 33 then (⟨6, i, i + 3, 0, 0, 2, []⟩, true)
  else (⟨6, i, i + 3, 0, 0, 4, []⟩, false)

theorem opening_cases (p : ByteArray) (i : Int) :
    ((atB p (i + 1) != 63) = true ∧ opening p i = (⟨6, i, i + 1, 0, 0, 4, []⟩, true)) ∨
    ((atB p (i + 1) != 63) = false ∧
      (((atB p (i + 2) == 58) = true ∧ opening p i = (⟨6, i, i + 3, 0, 0, 3, []⟩, true)) ∨
       ((atB p (i + 2) == 58) = false ∧ (atB p (i + 2) == 62) = true ∧ opening p i = (⟨6, i, i + 3, 0, 0, 0, []⟩, true)) ∨
       ((atB p (i + 2) == 58) = false ∧ (atB p (i + 2) == 62) = false ∧ (atB p (i + 2) == 61) = true ∧ opening p i = (⟨6, i, i + 3, 0, 0, 1, []⟩, true)) ∨
       ((atB p (i + 2) == 58) = false ∧ (atB p (i + 2) == 62) = false ∧ (atB p (i + 2) == 61) = false ∧ (atB p (i + 2) == 33) = true ∧ opening p i = (⟨6, i, i + 3, 0, 0, 2, []⟩, true)) ∨
       ((atB p (i + 2) == 58) = false ∧ (atB p (i + 2) == 62) = false ∧ (atB p (i + 2) == 61) = false ∧ (atB p (i + 2) == 33) = false ∧ opening p i = (⟨6, i, i + 3, 0, 0, 4, []⟩, false)))) := by
  unfold opening
  generalize atB p (i + 1) = c
  generalize atB p (i + 2) = d
  simp only [beq_iff_eq, beq_eq_false_iff_ne, bne_iff_ne, bne_eq_false_iff_eq]
  by_cases h1 : c ≠ 63
  · rw [if_pos h1]; simp; omega
  · rw [if_neg h1]
    by_cases h2 : d = 58
    · rw [if_pos h2]; simp; omega
    · rw [if_neg h2]
      by_cases h3 : d = 62
      · rw [if_pos h3]; simp; omega
      · rw [if_neg h3]
        by_cases h4 : d = 61
        · rw [if_pos h4]; simp; omega
        · rw [if_neg h4]
          by_cases h5 : d = 33
          · rw [if_pos h5]; simp; omega
          · rw [if_neg h5]; simp; omega

/-- The token that a backslash at i begins. -/
def escape (p : ByteArray) (i : Int) : Tok × Bool :=
  if atB p (i + 1) < 0 then (⟨1, i, i + 2, 0, 0, 0, []⟩, false)
  else if atB p (i + 1) = 100 ∨ atB p (i + 1) = 119 then (⟨1, i, i + 2, 0, 0, 0, all p i (i + 2) false⟩, true)
  else if 49 ≤ atB p (i + 1) ∧ atB p (i + 1) ≤ 57 then (⟨2, i, i + 2, atB p (i + 1) - 48, 0, 0, []⟩, true)
  else (⟨1, i, i + 2, 0, 0, 0, [UInt8.ofNat (atB p (i + 1)).toNat]⟩, !digB (atB p (i + 1)) && !letB (atB p (i + 1)))

theorem escape_cases (p : ByteArray) (i : Int) :
    (decide (atB p (i + 1) < 0) = true ∧ escape p i = (⟨1, i, i + 2, 0, 0, 0, []⟩, false)) ∨
    (0 ≤ atB p (i + 1) ∧ decide (atB p (i + 1) < 0) = false ∧
      (((atB p (i + 1) == 100) = true ∧ escape p i = (⟨1, i, i + 2, 0, 0, 0, all p i (i + 2) false⟩, true)) ∨
       ((atB p (i + 1) == 100) = false ∧ (atB p (i + 1) == 119) = true ∧ escape p i = (⟨1, i, i + 2, 0, 0, 0, all p i (i + 2) false⟩, true)) ∨
       ((atB p (i + 1) == 100) = false ∧ (atB p (i + 1) == 119) = false ∧ 49 ≤ atB p (i + 1) ∧ atB p (i + 1) ≤ 57 ∧ decide (49 ≤ atB p (i + 1)) = true ∧ decide (atB p (i + 1) ≤ 57) = true ∧ escape p i = (⟨2, i, i + 2, atB p (i + 1) - 48, 0, 0, []⟩, true)) ∨
       ((atB p (i + 1) == 100) = false ∧ (atB p (i + 1) == 119) = false ∧ (decide (49 ≤ atB p (i + 1)) = false ∨ decide (49 ≤ atB p (i + 1)) = true ∧ decide (atB p (i + 1) ≤ 57) = false) ∧
         escape p i = (⟨1, i, i + 2, 0, 0, 0, [UInt8.ofNat (atB p (i + 1)).toNat]⟩, !digB (atB p (i + 1)) && !letB (atB p (i + 1)))))) := by
  unfold escape
  generalize atB p (i + 1) = c
  simp only [beq_iff_eq, beq_eq_false_iff_ne, decide_eq_true_eq, decide_eq_false_iff_not]
  by_cases h1 : c < 0
  · rw [if_pos h1]; simp; omega
  · rw [if_neg h1]
    by_cases h2 : c = 100 ∨ c = 119
    · rw [if_pos h2]; simp; omega
    · rw [if_neg h2]
      by_cases h3 : 49 ≤ c ∧ c ≤ 57
      · rw [if_pos h3]; simp; omega
      · rw [if_neg h3]; simp; omega

/-- The mood behind a repeat that ends at t: its number, where the token ends. -/
def mood (p : ByteArray) (t : Int) : Int × Int := if atB p t = 63 then (1, t + 1) else if atB p t = 43 then (2, t + 1) else (0, t)

/-- The repeat that begins at i. -/
def repeatT (p : ByteArray) (i : Int) : Tok × Bool :=
  if atB p i = 43 then (⟨8, i, (mood p (i + 1)).2, 1, -1, (mood p (i + 1)).1, []⟩, true)
  else if atB p i = 63 then (⟨8, i, (mood p (i + 1)).2, 0, 1, (mood p (i + 1)).1, []⟩, true)
  else if atB p i = 123 then
    (if (count p i).2.2.2 then (⟨8, i, (mood p (count p i).2.2.1).2, (count p i).1, (count p i).2.1, (mood p (count p i).2.2.1).1, []⟩, true) else (⟨8, i, i + 1, 0, -1, 0, []⟩, false))
  else (⟨8, i, (mood p (i + 1)).2, 0, -1, (mood p (i + 1)).1, []⟩, true)

/-- The end of the items of a class from b on: where the bracket stands; -1: there is none. -/
def classEnd (p : ByteArray) : Nat → Int → Int
  | 0, _ => -1
  | f + 1, b =>
    if (p.size : Int) ≤ b then -1
    else if atB p b = 93 then b
    else if (item p b).2.2.1 = 0 then -1
    else classEnd p f (b + (item p b).2.2.1)

theorem classEnd_fuel (p : ByteArray) : ∀ (f g : Nat) (b : Int), (p.size : Int) - b < f → (p.size : Int) - b < g → classEnd p f b = classEnd p g b := by
  intro f
  induction f with
  | zero =>
    intro g b hf hg
    cases g with
    | zero => rfl
    | succ g => simp only [classEnd]; rw [if_pos (by omega)]
  | succ f ih =>
    intro g b hf hg
    cases g with
    | zero => simp only [classEnd]; rw [if_pos (by omega)]
    | succ g =>
      simp only [classEnd]
      have hb := item_bd p b
      by_cases h0 : (item p b).2.2.1 = 0
      · simp [h0]
      · by_cases h1 : (p.size : Int) ≤ b
        · simp [h1]
        · rw [ih g (b + (item p b).2.2.1) (by omega) (by omega)]

def classFrom (p : ByteArray) (b : Int) : Int := classEnd p ((p.size : Int) - b + 1).toNat b
theorem classFrom_step (p : ByteArray) (b : Int) : classFrom p b =
    if (p.size : Int) ≤ b then -1
    else if atB p b = 93 then b
    else if (item p b).2.2.1 = 0 then -1
    else classFrom p (b + (item p b).2.2.1) := by
  have hb := item_bd p b
  by_cases h : (p.size : Int) ≤ b
  · rw [if_pos h]; unfold classFrom
    generalize ((p.size : Int) - b + 1).toNat = f
    cases f with
    | zero => rfl
    | succ f => simp only [classEnd]; rw [if_pos h]
  · rw [if_neg h]
    by_cases h1 : atB p b = 93
    · rw [if_pos h1]; unfold classFrom
      rw [show ((p.size : Int) - b + 1).toNat = ((p.size : Int) - b).toNat + 1 by omega]; simp only [classEnd]
      rw [if_neg h, if_pos h1]
    · rw [if_neg h1]
      by_cases h0 : (item p b).2.2.1 = 0
      · rw [if_pos h0]; unfold classFrom
        rw [show ((p.size : Int) - b + 1).toNat = ((p.size : Int) - b).toNat + 1 by omega]; simp only [classEnd]
        rw [if_neg h, if_neg h1, if_pos h0]
      · rw [if_neg h0]
        unfold classFrom
        rw [show ((p.size : Int) - b + 1).toNat = ((p.size : Int) - b).toNat + 1 by omega]; simp only [classEnd]
        rw [if_neg h, if_neg h1, if_neg h0]
        exact classEnd_fuel _ _ _ _ (by omega) (by omega)

theorem classFrom_bd (p : ByteArray) : ∀ (f : Nat) (b : Int), (p.size : Int) - b < f → 0 ≤ b → classFrom p b = -1 ∨ (b ≤ classFrom p b ∧ classFrom p b < (p.size : Int)) := by
  intro f
  induction f with
  | zero => intro b h hb; rw [classFrom_step, if_pos (by omega)]; simp
  | succ f ih =>
    intro b h hb
    have hi := item_bd p b
    rw [classFrom_step]
    by_cases h1 : (p.size : Int) ≤ b
    · simp [h1]
    · rw [if_neg h1]
      by_cases h2 : atB p b = 93
      · rw [if_pos h2]; omega
      · rw [if_neg h2]
        by_cases h3 : (item p b).2.2.1 = 0
        · simp [h3]
        · rw [if_neg h3]
          have := ih (b + (item p b).2.2.1) (by omega) (by omega)
          omega

/-- Where the items of the class that begins at i begin. -/
def classA (p : ByteArray) (i : Int) : Int := if atB p (i + 1) = 94 then i + 2 else i + 1
/-- The class that begins at i. -/
def classT (p : ByteArray) (i : Int) : Tok × Bool :=
  if classFrom p (classA p i) = -1 ∨ classFrom p (classA p i) = classA p i then (⟨0, 0, 0, 0, 0, 0, []⟩, false)
  else (⟨1, i, classFrom p (classA p i) + 1, 0, 0, 0, all p (classA p i) (classFrom p (classA p i)) (decide (atB p (i + 1) = 94))⟩, true)

end Mt
set_option linter.unusedVariables false
set_option linter.unusedSimpArgs false
namespace Go.Proofs.YtedcboimnmhdaaaGreat
open Go.RowKit

theorem bcell {W w1 : World} (hb : Below W.heap.size W w1) : (∀ b o, b < W.heap.size → w1.cell? ⟨b, o, none⟩ = W.cell? ⟨b, o, none⟩) ∧ (∀ b o, b < W.heap.size → w1.frozen? ⟨b, o, none⟩ = W.frozen? ⟨b, o, none⟩) :=
  ⟨fun b o h => hb.cell (p := ⟨b, o, none⟩) h, fun b o h => hb.frozen (p := ⟨b, o, none⟩) h⟩

theorem heap_old (w : World) (o : Obj) (k : Nat) (h : k < w.heap.size) : (w.alloc o).heap[k]? = w.heap[k]? := Below.heap_alloc w o k h
theorem cell_block {w : World} {b : Nat} {A : Array Value} {t : TypeId} (h : w.heap[b]? = some (.cells A t (0, 0))) : (∀ o, w.cell? ⟨b, o, none⟩ = A[o]?) ∧ (∀ o, w.frozen? ⟨b, o, none⟩ = false) :=
  ⟨fun o => by simp [World.cell?, h], fun o => by simp [World.frozen?, h]⟩

theorem one_new {w w1 : World} {A : Array Value} {t : TypeId} (hb : Below (w.alloc (.cells A t)).heap.size (w.alloc (.cells A t)) w1) :
    (∀ o, w1.cell? ⟨w.heap.size, o, none⟩ = A[o]?) ∧ (∀ o, w1.frozen? ⟨w.heap.size, o, none⟩ = false) ∧ w.heap.size < w1.heap.size ∧ Below w.heap.size w w1 := by
  have hs : (w.alloc (.cells A t)).heap.size = w.heap.size + 1 := by simp
  have h0 : w1.heap[w.heap.size]? = some (.cells A t (0, 0)) := by rw [hb.block _ (by omega), heap_alloc_new]
  have := hb.size
  exact ⟨(cell_block h0).1, (cell_block h0).2, by omega, ((Below.refl _ _).alloc (Nat.le_refl _) _).trans (hb.mono (by omega))⟩

theorem two_new {w w1 : World} {A B : Array Value} {t u : TypeId} (hb : Below ((w.alloc (.cells A t)).alloc (.cells B u)).heap.size ((w.alloc (.cells A t)).alloc (.cells B u)) w1) :
    (∀ o, w1.cell? ⟨w.heap.size, o, none⟩ = A[o]?) ∧ (∀ o, w1.frozen? ⟨w.heap.size, o, none⟩ = false) ∧
    (∀ o, w1.cell? ⟨w.heap.size + 1, o, none⟩ = B[o]?) ∧ (∀ o, w1.frozen? ⟨w.heap.size + 1, o, none⟩ = false) ∧ w.heap.size + 1 < w1.heap.size ∧ Below w.heap.size w w1 := by
  have hs : ((w.alloc (.cells A t)).alloc (.cells B u)).heap.size = w.heap.size + 2 := by simp
  have hs1 : (w.alloc (.cells A t)).heap.size = w.heap.size + 1 := by simp
  have h0 : w1.heap[w.heap.size]? = some (.cells A t (0, 0)) := by rw [hb.block _ (by omega), heap_old _ _ _ (by omega), heap_alloc_new]
  have h1 : w1.heap[w.heap.size + 1]? = some (.cells B u (0, 0)) := by rw [hb.block _ (by omega), ← hs1, heap_alloc_new]
  have := hb.size
  exact ⟨(cell_block h0).1, (cell_block h0).2, (cell_block h1).1, (cell_block h1).2, by omega, (((Below.refl _ _).alloc (Nat.le_refl _) _).alloc (by omega) _).trans (hb.mono (by omega))⟩

def tokCells (t : Mt.Tok) : List Value := [.int .i64 t.kind, .int .i64 t.frm, .int .i64 t.to, .int .i64 t.n, .int .i64 t.m, .int .i64 t.how, .string ⟨t.set.toArray⟩]
def tokV (t : Mt.Tok) : Value := .agg #[.int .i64 t.kind, .int .i64 t.frm, .int .i64 t.to, .int .i64 t.n, .int .i64 t.m, .int .i64 t.how, .string ⟨t.set.toArray⟩]

set_option maxHeartbeats 1000000 in
theorem opening_any (p : ByteArray) (i : Int) (w : World) (hp : p.size ≤ 64) (hi0 : 0 ≤ i) (hi1 : i ≤ 100) :
    Calls Tryz.prog 76 #[.string p, .int .i64 i] w fun e w' => e = .returned (.tuple #[tokV (Mt.opening p i).1, .bool (Mt.opening p i).2]) ∧ Below w.heap.size w w' := by
  rcases Mt.opening_cases p i with ⟨a1, e⟩ | ⟨a1, ⟨a2, e⟩ | ⟨a2, a3, e⟩ | ⟨a2, a3, a4, e⟩ | ⟨a2, a3, a4, a5, e⟩ | ⟨a2, a3, a4, a5, e⟩⟩
  all_goals
    rw [e]; clear e
    go_enter Tryz.func76, Tryz.ntmps76
    go_wp2_with (go_at_call 100; refine (at_any _ _ _ hp).mono ?_; rintro e w' ⟨rfl, rfl⟩)
    go_returns
    exact ⟨rfl, by go_grown⟩
end Go.Proofs.YtedcboimnmhdaaaGreat
set_option linter.unusedVariables false
set_option linter.unusedSimpArgs false
namespace Go.Proofs.YtedcboimnmhdaaaGreat
open Go.RowKit

theorem mood_cases (p : ByteArray) (t : Int) :
    ((Mt.atB p t == 63) = true ∧ Mt.mood p t = (1, t + 1)) ∨ ((Mt.atB p t == 63) = false ∧ (Mt.atB p t == 43) = true ∧ Mt.mood p t = (2, t + 1)) ∨
    ((Mt.atB p t == 63) = false ∧ (Mt.atB p t == 43) = false ∧ Mt.mood p t = (0, t)) := by
  unfold Mt.mood
  simp only [beq_iff_eq, beq_eq_false_iff_ne]
  by_cases h : Mt.atB p t = 63
  · simp [h]
  · rw [if_neg h]
    by_cases h2 : Mt.atB p t = 43
    · simp [h2]
    · simp [h, h2]

/-- The byte at k as a number, in the walk's spelling. -/
theorem byte_at (p : ByteArray) (k : Nat) (h : k < p.size) : ((p[k]'h).toNat : Int) = Mt.atB p k := by
  have := atB_nat p k h
  have hb := (p[k]'h).toNat_lt
  rw [← this]
  exact (IntWalk.wrap64_in _ ⟨by omega, by omega⟩).symm

set_option maxRecDepth 100000 in
set_option maxHeartbeats 1000000 in
theorem repeat_plain (p : ByteArray) (k : Nat) (w : World) (hp : p.size ≤ 64) (hk : k < p.size) (h1 : (((p[k]'hk).toNat : Int) == 43) = false) (h2 : (((p[k]'hk).toNat : Int) == 63) = false) (h3 : (((p[k]'hk).toNat : Int) == 123) = false) :
    Calls Tryz.prog 77 #[.string p, .int .i64 k] w fun e w' => e = .returned (.tuple #[tokV ⟨8, k, (Mt.mood p (k + 1)).2, 0, -1, (Mt.mood p (k + 1)).1, []⟩, .bool true]) ∧ Below w.heap.size w w' := by
  rcases mood_cases p (k + 1) with ⟨a1, e⟩ | ⟨a1, a2, e⟩ | ⟨a1, a2, e⟩
  all_goals
    rw [e]; clear e
    go_enter Tryz.func77, Tryz.ntmps77
    go_wp2_with (go_at_call 100; refine (at_any _ _ _ hp).mono ?_; rintro e w' ⟨rfl, rfl⟩)
    go_returns
    exact ⟨rfl, by go_grown⟩

set_option maxRecDepth 100000 in
set_option maxHeartbeats 1000000 in
theorem repeat_plus (p : ByteArray) (k : Nat) (w : World) (hp : p.size ≤ 64) (hk : k < p.size) (h1 : (((p[k]'hk).toNat : Int) == 43) = true) :
    Calls Tryz.prog 77 #[.string p, .int .i64 k] w fun e w' => e = .returned (.tuple #[tokV ⟨8, k, (Mt.mood p (k + 1)).2, 1, -1, (Mt.mood p (k + 1)).1, []⟩, .bool true]) ∧ Below w.heap.size w w' := by
  rcases mood_cases p (k + 1) with ⟨a1, e⟩ | ⟨a1, a2, e⟩ | ⟨a1, a2, e⟩
  all_goals
    rw [e]; clear e
    go_enter Tryz.func77, Tryz.ntmps77
    go_wp2_with (go_at_call 100; refine (at_any _ _ _ hp).mono ?_; rintro e w' ⟨rfl, rfl⟩)
    go_returns
    exact ⟨rfl, by go_grown⟩

set_option maxRecDepth 100000 in
set_option maxHeartbeats 1000000 in
theorem repeat_mark (p : ByteArray) (k : Nat) (w : World) (hp : p.size ≤ 64) (hk : k < p.size) (h1 : (((p[k]'hk).toNat : Int) == 43) = false) (h2 : (((p[k]'hk).toNat : Int) == 63) = true) :
    Calls Tryz.prog 77 #[.string p, .int .i64 k] w fun e w' => e = .returned (.tuple #[tokV ⟨8, k, (Mt.mood p (k + 1)).2, 0, 1, (Mt.mood p (k + 1)).1, []⟩, .bool true]) ∧ Below w.heap.size w w' := by
  rcases mood_cases p (k + 1) with ⟨a1, e⟩ | ⟨a1, a2, e⟩ | ⟨a1, a2, e⟩
  all_goals
    rw [e]; clear e
    go_enter Tryz.func77, Tryz.ntmps77
    go_wp2_with (go_at_call 100; refine (at_any _ _ _ hp).mono ?_; rintro e w' ⟨rfl, rfl⟩)
    go_returns
    exact ⟨rfl, by go_grown⟩

set_option maxRecDepth 100000 in
set_option maxHeartbeats 1000000 in
theorem repeat_count (p : ByteArray) (k : Nat) (w : World) (hp : p.size ≤ 64) (hk : k < p.size) (h1 : (((p[k]'hk).toNat : Int) == 43) = false) (h2 : (((p[k]'hk).toNat : Int) == 63) = false) (h3 : (((p[k]'hk).toNat : Int) == 123) = true) (hc : (Mt.count p k).2.2.2 = true) :
    Calls Tryz.prog 77 #[.string p, .int .i64 k] w fun e w' => e = .returned (.tuple #[tokV ⟨8, k, (Mt.mood p (Mt.count p k).2.2.1).2, (Mt.count p k).1, (Mt.count p k).2.1, (Mt.mood p (Mt.count p k).2.2.1).1, []⟩, .bool true]) ∧ Below w.heap.size w w' := by
  have ⟨b1, b2, b3, b4, b5, b6⟩ := Mt.count_bd p k (by omega)
  rcases mood_cases p (Mt.count p k).2.2.1 with ⟨a1, e⟩ | ⟨a1, a2, e⟩ | ⟨a1, a2, e⟩
  all_goals
    rw [e]; clear e
    go_enter Tryz.func77, Tryz.ntmps77
    go_wp2_with (first | (go_at_call 100; refine (at_any _ _ _ hp).mono ?_; rintro e w' ⟨rfl, rfl⟩) | (go_at_call 104; refine (count_any _ _ _ hp (by omega) (by omega)).mono ?_; rintro e w' ⟨rfl, rfl⟩))
    go_returns
    exact ⟨rfl, by go_grown⟩

set_option maxRecDepth 100000 in
set_option maxHeartbeats 1000000 in
theorem repeat_none (p : ByteArray) (k : Nat) (w : World) (hp : p.size ≤ 64) (hk : k < p.size) (h1 : (((p[k]'hk).toNat : Int) == 43) = false) (h2 : (((p[k]'hk).toNat : Int) == 63) = false) (h3 : (((p[k]'hk).toNat : Int) == 123) = true) (hc : (Mt.count p k).2.2.2 = false) :
    Calls Tryz.prog 77 #[.string p, .int .i64 k] w fun e w' => e = .returned (.tuple #[tokV ⟨8, k, k + 1, 0, -1, 0, []⟩, .bool false]) ∧ Below w.heap.size w w' := by
  go_enter Tryz.func77, Tryz.ntmps77
  go_wp2_with (first | (go_at_call 100; refine (at_any _ _ _ hp).mono ?_; rintro e w' ⟨rfl, rfl⟩) | (go_at_call 104; refine (count_any _ _ _ hp (by omega) (by omega)).mono ?_; rintro e w' ⟨rfl, rfl⟩))
  go_returns
  exact ⟨rfl, by go_grown⟩

theorem repeat_any (p : ByteArray) (i : Int) (w : World) (hp : p.size ≤ 64) (hi0 : 0 ≤ i) (hi1 : i < (p.size : Int)) :
    Calls Tryz.prog 77 #[.string p, .int .i64 i] w fun e w' => e = .returned (.tuple #[tokV (Mt.repeatT p i).1, .bool (Mt.repeatT p i).2]) ∧ Below w.heap.size w w' := by
  obtain ⟨k, rfl⟩ := Int.eq_ofNat_of_zero_le hi0
  have hk : k < p.size := by omega
  have eb := byte_at p k hk
  unfold Mt.repeatT
  by_cases h1 : Mt.atB p k = 43
  · rw [if_pos h1]
    exact repeat_plus p k w hp hk (by rw [eb]; simpa using h1)
  · rw [if_neg h1]
    by_cases h2 : Mt.atB p k = 63
    · rw [if_pos h2]
      exact repeat_mark p k w hp hk (by rw [eb]; simpa using h1) (by rw [eb]; simpa using h2)
    · rw [if_neg h2]
      by_cases h3 : Mt.atB p k = 123
      · rw [if_pos h3]
        cases hc : (Mt.count p k).2.2.2
        · exact repeat_none p k w hp hk (by rw [eb]; simpa using h1) (by rw [eb]; simpa using h2) (by rw [eb]; simpa using h3) hc
        · exact repeat_count p k w hp hk (by rw [eb]; simpa using h1) (by rw [eb]; simpa using h2) (by rw [eb]; simpa using h3) hc
      · rw [if_neg h3]
        exact repeat_plain p k w hp hk (by rw [eb]; simpa using h1) (by rw [eb]; simpa using h2) (by rw [eb]; simpa using h3)
end Go.Proofs.YtedcboimnmhdaaaGreat
