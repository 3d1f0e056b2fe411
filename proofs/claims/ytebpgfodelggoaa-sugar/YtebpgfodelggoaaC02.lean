import Derived.Test.YtebpgfodelggoaaC01
/- THE PLAIN MATHEMATICS OF matcherref/tokens.go: the tokens. -/
set_option linter.unusedVariables false
namespace Mt

structure Tok where
  kind : Int
  frm : Int
  to : Int
  n : Int
  m : Int
  how : Int
  set : List UInt8

def opening (p : ByteArray) (i : Int) : Tok × Bool :=
  if atB p (i + 1) ≠ 63 then (⟨6, i, i + 1, 0, 0, 4, []⟩, true)
  else if atB p (i + 2) = 58 then (⟨6, i, i + 3, 0, 0, 3, []⟩, true)
  else if atB p (i + 2) = 62 then (⟨6, i, i + 3, 0, 0, 0, []⟩, true)
  else if atB p (i + 2) = 61 then (⟨6, i, i + 3, 0, 0, 1, []⟩, true)
  else if atB p (i + 2) = 33 then (⟨6, i, i + 3, 0, 0, 2, []⟩, true)
  else (⟨6, i, i + 3, 0, 0, 4, []⟩, false)

theorem opening_cases (p : ByteArray) (i : Int) :
    ((atB p (i + 1) != 63) = true ∧ opening p i = (⟨6, i, i + 1, 0, 0, 4, []⟩, true)) ∨
    ((atB p (i + 1) != 63) = false ∧
      (((atB p (i + 2) == 58) = true ∧ opening p i = (⟨6, i, i + 3, 0, 0, 3, []⟩, true)) ∨
       ((atB p (i + 2) == 58) = false ∧ (atB p (i + 2) == 62) = true ∧ opening p i = (⟨6, i, i + 3, 0, 0, 0, []⟩, true)) ∨
       ((atB p (i + 2) == 58) = false ∧ (atB p (i + 2) == 62) = false ∧ (atB p (i + 2) == 61) = true ∧ opening p i = (⟨6, i, i + 3, 0, 0, 1, []⟩, true)) ∨
       ((atB p (i + 2) == 58) = false ∧ (atB p (i + 2) == 62) = false ∧ (atB p (i + 2) == 61) = false ∧ (atB p (i + 2) == 33) = true ∧ opening p i = (⟨6, i, i + 3, 0, 0, 2, []⟩, true)) ∨
       ((atB p (i + 2) == 58) = false ∧ (atB p (i + 2) == 62) = false ∧ (atB p (i + 2) == 61) = false ∧ (atB p (i + 2) == 33) = false ∧ opening p i = (⟨6, i, i + 3, 0, 0, 4, []⟩, false)))) := by
  unfold opening
  generalize atB p (i + 1) = c
  generalize atB p (i + 2) = d
  simp only [beq_iff_eq, beq_eq_false_iff_ne, bne_iff_ne, bne_eq_false_iff_eq]
  by_cases h1 : c ≠ 63
  · rw [if_pos h1]; simp; omega
  · rw [if_neg h1]
    by_cases h2 : d = 58
    · rw [if_pos h2]; simp; omega
    · rw [if_neg h2]
      by_cases h3 : d = 62
      · rw [if_pos h3]; simp; omega
      · rw [if_neg h3]
        by_cases h4 : d = 61
        · rw [if_pos h4]; simp; omega
        · rw [if_neg h4]
          by_cases h5 : d = 33
          · rw [if_pos h5]; simp; omega
          · rw [if_neg h5]; simp; omega

/-- The token that a backslash at i begins. -/
def escape (p : ByteArray) (i : Int) : Tok × Bool :=
  if atB p (i + 1) < 0 then (⟨1, i, i + 2, 0, 0, 0, []⟩, false)
  else if atB p (i + 1) = 100 ∨ atB p (i + 1) = 119 then (⟨1, i, i + 2, 0, 0, 0, all p i (i + 2) false⟩, true)
  else if 49 ≤ atB p (i + 1) ∧ atB p (i + 1) ≤ 57 then (⟨2, i, i + 2, atB p (i + 1) - 48, 0, 0, []⟩, true)
  else (⟨1, i, i + 2, 0, 0, 0, [UInt8.ofNat (atB p (i + 1)).toNat]⟩, !digB (atB p (i + 1)) && !letB (atB p (i + 1)))

theorem escape_cases (p : ByteArray) (i : Int) :
    (decide (atB p (i + 1) < 0) = true ∧ escape p i = (⟨1, i, i + 2, 0, 0, 0, []⟩, false)) ∨
    (0 ≤ atB p (i + 1) ∧ decide (atB p (i + 1) < 0) = false ∧
      (((atB p (i + 1) == 100) = true ∧ escape p i = (⟨1, i, i + 2, 0, 0, 0, all p i (i + 2) false⟩, true)) ∨
       ((atB p (i + 1) == 100) = false ∧ (atB p (i + 1) == 119) = true ∧ escape p i = (⟨1, i, i + 2, 0, 0, 0, all p i (i + 2) false⟩, true)) ∨
       ((atB p (i + 1) == 100) = false ∧ (atB p (i + 1) == 119) = false ∧ 49 ≤ atB p (i + 1) ∧ atB p (i + 1) ≤ 57 ∧ decide (49 ≤ atB p (i + 1)) = true ∧ decide (atB p (i + 1) ≤ 57) = true ∧ escape p i = (⟨2, i, i + 2, atB p (i + 1) - 48, 0, 0, []⟩, true)) ∨
       ((atB p (i + 1) == 100) = false ∧ (atB p (i + 1) == 119) = false ∧ (decide (49 ≤ atB p (i + 1)) = false ∨ decide (49 ≤ atB p (i + 1)) = true ∧ decide (atB p (i + 1) ≤ 57) = false) ∧
         escape p i = (⟨1, i, i + 2, 0, 0, 0, [UInt8.ofNat (atB p (i + 1)).toNat]⟩, !digB (atB p (i + 1)) && !letB (atB p (i + 1)))))) := by
  unfold escape
  generalize atB p (i + 1) = c
  simp only [beq_iff_eq, beq_eq_false_iff_ne, decide_eq_true_eq, decide_eq_false_iff_not]
  by_cases h1 : c < 0
  · rw [if_pos h1]; simp; omega
  · rw [if_neg h1]
    by_cases h2 : c = 100 ∨ c = 119
    · rw [if_pos h2]; simp; omega
    · rw [if_neg h2]
      by_cases h3 : 49 ≤ c ∧ c ≤ 57
      · rw [if_pos h3]; simp; omega
      · rw [if_neg h3]; simp; omega

/-- The mood behind a repeat that ends at t: its number, where the token ends. -/
def mood (p : ByteArray) (t : Int) : Int × Int := if atB p t = 63 then (1, t + 1) else if atB p t = 43 then (2, t + 1) else (0, t)

/-- The repeat that begins at i. -/
def repeatT (p : ByteArray) (i : Int) : Tok × Bool :=
  if atB p i = 43 then (⟨8, i, (mood p (i + 1)).2, 1, -1, (mood p (i + 1)).1, []⟩, true)
  else if atB p i = 63 then (⟨8, i, (mood p (i + 1)).2, 0, 1, (mood p (i + 1)).1, []⟩, true)
  else if atB p i = 123 then
    (if (count p i).2.2.2 then (⟨8, i, (mood p (count p i).2.2.1).2, (count p i).1, (count p i).2.1, (mood p (count p i).2.2.1).1, []⟩, true) else (⟨8, i, i + 1, 0, -1, 0, []⟩, false))
  else (⟨8, i, (mood p (i + 1)).2, 0, -1, (mood p (i + 1)).1, []⟩, true)

/-- The end of the items of a class from b on: where the bracket stands; -1: there is none. -/
def classEnd (p : ByteArray) : Nat → Int → Int
  | 0, _ => -1
  | f + 1, b =>
    if (p.size : Int) ≤ b then -1
    else if atB p b = 93 then b
    else if (item p b).2.2.1 = 0 then -1
    else classEnd p f (b + (item p b).2.2.1)

theorem classEnd_fuel (p : ByteArray) : ∀ (f g : Nat) (b : Int), (p.size : Int) - b < f → (p.size : Int) - b < g → classEnd p f b = classEnd p g b := by
  intro f
  induction f with
  | zero =>
    intro g b hf hg
    cases g with
    | zero => rfl
    | succ g => simp only [classEnd]; rw [if_pos (by omega)]
  | succ f ih =>
    intro g b hf hg
    cases g with
    | zero => simp only [classEnd]; rw [if_pos (by omega)]
    | succ g =>
      simp only [classEnd]
      have hb := item_bd p b
      by_cases h0 : (item p b).2.2.1 = 0
      · simp [h0]
      · by_cases h1 : (p.size : Int) ≤ b
        · simp [h1]
        · rw [ih g (b + (item p b).2.2.1) (by omega) (by omega)]

def classFrom (p : ByteArray) (b : Int) : Int := classEnd p ((p.size : Int) - b + 1).toNat b
theorem classFrom_step (p : ByteArray) (b : Int) : classFrom p b =
    if (p.size : Int) ≤ b then -1
    else if atB p b = 93 then b
    else if (item p b).2.2.1 = 0 then -1
    else classFrom p (b + (item p b).2.2.1) := by
  have hb := item_bd p b
  by_cases h : (p.size : Int) ≤ b
  · rw [if_pos h]; unfold classFrom
    generalize ((p.size : Int) - b + 1).toNat = f
    cases f with
    | zero => rfl
    | succ f => simp only [classEnd]; rw [if_pos h]
  · rw [if_neg h]
    by_cases h1 : atB p b = 93
    · rw [if_pos h1]; unfold classFrom
      rw [show ((p.size : Int) - b + 1).toNat = ((p.size : Int) - b).toNat + 1 by omega]; simp only [classEnd]
      rw [if_neg h, if_pos h1]
    · rw [if_neg h1]
      by_cases h0 : (item p b).2.2.1 = 0
      · rw [if_pos h0]; unfold classFrom
        rw [show ((p.size : Int) - b + 1).toNat = ((p.size : Int) - b).toNat + 1 by omega]; simp only [classEnd]
        rw [if_neg h, if_neg h1, if_pos h0]
      · rw [if_neg h0]
        unfold classFrom
        rw [show ((p.size : Int) - b + 1).toNat = ((p.size : Int) - b).toNat + 1 by omega]; simp only [classEnd]
        rw [if_neg h, if_neg h1, if_neg h0]
        exact classEnd_fuel _ _ _ _ (by omega) (by omega)

theorem classFrom_bd (p : ByteArray) : ∀ (f : Nat) (b : Int), (p.size : Int) - b < f → 0 ≤ b → classFrom p b = -1 ∨ (b ≤ classFrom p b ∧ classFrom p b < (p.size : Int)) := by
  intro f
  induction f with
  | zero => intro b h hb; rw [classFrom_step, if_pos (by omega)]; simp
  | succ f ih =>
    intro b h hb
    have hi := item_bd p b
    rw [classFrom_step]
    by_cases h1 : (p.size : Int) ≤ b
    · simp [h1]
    · rw [if_neg h1]
      by_cases h2 : atB p b = 93
      · rw [if_pos h2]; omega
      · rw [if_neg h2]
        by_cases h3 : (item p b).2.2.1 = 0
        · simp [h3]
        · rw [if_neg h3]
          have := ih (b + (item p b).2.2.1) (by omega) (by omega)
          omega

/-- Where the items of the class that begins at i begin. -/
def classA (p : ByteArray) (i : Int) : Int := if atB p (i + 1) = 94 then i + 2 else i + 1
/-- The class that begins at i. -/
def classT (p : ByteArray) (i : Int) : Tok × Bool :=
  if classFrom p (classA p i) = -1 ∨ classFrom p (classA p i) = classA p i then (⟨0, 0, 0, 0, 0, 0, []⟩, false)
  else (⟨1, i, classFrom p (classA p i) + 1, 0, 0, 0, all p (classA p i) (classFrom p (classA p i)) (decide (atB p (i + 1) = 94))⟩, true)

end Mt
