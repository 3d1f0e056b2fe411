import Derived.Test.YtebpgfodelggoabC00
/- THE PLAIN MATHEMATICS OF matcherref/tokens.go: the tokens. -/
set_option linter.unusedVariables false
namespace Mt

structure Tok where
  kind : Int
  frm : Int
  to : Int
  n : Int
  m : Int
  how : Int
  set : List UInt8

def opening (p : ByteArray) (i : Int) : Tok × Bool :=
  if atB p (i + 1) ≠ 63 then (⟨6, i, i + 1, 0, 0, 4, []⟩, true)
  else if atB p (i + 2) = 58 then (⟨6, i, i + 3, 0, 0, 3, []⟩, true)
  else if atB p (i + 2) = 62 then (⟨6, i, i + 3, 0, 0, 0, []⟩, true)
  else if atB p (i + 2) = 61 then (⟨6, i, i + 3, 0, 0, 1, []⟩, true)
  else if atB p (i + 2) = 33 then (⟨6, i, i + 3, 0, 0, 2, []⟩, true)
  else (⟨6, i, i + 3, 0, 0, 4, []⟩, false)

theorem opening_cases (p : ByteArray) (i : Int) :
    ((atB p (i + 1) != 63) = true ∧ opening p i = (⟨6, i, i + 1, 0, 0, 4, []⟩, true)) ∨
    ((atB p (i + 1) != 63) = false ∧
      (((atB p (i + 2) == 58) = true ∧ opening p i = (⟨6, i, i + 3, 0, 0, 3, []⟩, true)) ∨
       ((atB p (i + 2) == 58) = false ∧ (atB p (i + 2) == 62) = true ∧ opening p i = (⟨6, i, i + 3, 0, 0, 0, []⟩, true)) ∨
       ((atB p (i + 2) == 58) = false ∧ (atB p (i + 2) == 62) = false ∧ (atB p (i + 2) == 61) = true ∧ opening p i = (⟨6, i, i + 3, 0, 0, 1, []⟩, true)) ∨
       ((atB p (i + 2) == 58) = false ∧ (atB p (i + 2) == 62) = false ∧ (atB p (i + 2) == 61) = false ∧ (atB p (i + 2) == 33) = true ∧ opening p i = (⟨6, i, i + 3, 0, 0, 2, []⟩, true)) ∨
       ((atB p (i + 2) == 58) = false ∧ (atB p (i + 2) == 62) = false ∧ (atB p (i + 2) == 61) = false ∧ (atB p (i + 2) == 33) = false ∧ opening p i = (⟨6, i, i + 3, 0, 0, 4, []⟩, false)))) := by
  unfold opening
  generalize atB p (i + 1) = c
  generalize atB p (i + 2) = d
  simp only [beq_iff_eq, beq_eq_false_iff_ne, bne_iff_ne, bne_eq_false_iff_eq]
  by_cases h1 : c ≠ 63
  · rw [if_pos h1]; simp; omega
  · rw [if_neg h1]
    by_cases h2 : d = 58
    · rw [if_pos h2]; simp; omega
    · rw [if_neg h2]
      by_cases h3 : d = 62
      · rw [if_pos h3]; simp; omega
      · rw [if_neg h3]
        by_cases h4 : d = 61
        · rw [if_pos h4]; simp; omega
        · rw [if_neg h4]
          by_cases h5 : d = 33
          · rw [if_pos h5]; simp; omega
          · rw [if_neg h5]; simp; omega

/-- The token that a backslash at i begins. -/
def escape (p : ByteArray) (i : Int) : Tok × Bool :=
  if atB p (i + 1) < 0 then (⟨1, i, i + 2, 0, 0, 0, []⟩, false)
  else if atB p (i + 1) = 100 ∨ atB p (i + 1) = 119 then (⟨1, i, i + 2, 0, 0, 0, all p i (i + 2) false⟩, true)
  else if 49 ≤ atB p (i + 1) ∧ atB p (i + 1) ≤ 57 then (⟨2, i, i + 2, atB p (i + 1) - 48, 0, 0, []⟩, true)
  else (⟨1, i, i + 2, 0, 0, 0, [UInt8.ofNat (atB p (i + 1)).toNat]⟩, !digB (atB p (i + 1)) && !letB (atB p (i + 1)))

theorem escape_cases (p : ByteArray) (i : Int) :
    (decide (atB p (i + 1) < 0) = true ∧ escape p i = (⟨1, i, i + 2, 0, 0, 0, []⟩, false)) ∨
    (0 ≤ atB p (i + 1) ∧ decide (atB p (i + 1) < 0) = false ∧
      (((atB p (i + 1) == 100) = true ∧ escape p i = (⟨1, i, i + 2, 0, 0, 0, all p i (i + 2) false⟩, true)) ∨
       ((atB p (i + 1) == 100) = false ∧ (atB p (i + 1) == 119) = true ∧ escape p i = (⟨1, i, i + 2, 0, 0, 0, all p i (i + 2) false⟩, true)) ∨
       ((atB p (i + 1) == 100) = false ∧ (atB p (i + 1) == 119) = false ∧ 49 ≤ atB p (i + 1) ∧ atB p (i + 1) ≤ 57 ∧ decide (49 ≤ atB p (i + 1)) = true ∧ decide (atB p (i + 1) ≤ 57) = true ∧ escape p i = (⟨2, i, i + 2, atB p (i + 1) - 48, 0, 0, []⟩, true)) ∨
       ((atB p (i + 1) == 100) = false ∧ (atB p (i + 1) == 119) = false ∧ (decide (49 ≤ atB p (i + 1)) = false ∨ decide (49 ≤ atB p (i + 1)) = true ∧ decide (atB p (i + 1) ≤ 57) = false) ∧
         escape p i = (⟨1, i, i + 2, 0, 0, 0, [UInt8.ofNat (atB p (i + 1)).toNat]⟩, !digB (atB p (i + 1)) && !letB (atB p (i + 1)))))) := by
  unfold escape
  generalize atB p (i + 1) = c
  simp only [beq_iff_eq, beq_eq_false_iff_ne, decide_eq_true_eq, decide_eq_false_iff_not]
  by_cases h1 : c < 0
  · rw [if_pos h1]; simp; omega
  · rw [if_neg h1]
    by_cases h2 : c = 100 ∨ c = 119
    · rw [if_pos h2]; simp; omega
    · rw [if_neg h2]
      by_cases h3 : 49 ≤ c ∧ c ≤ 57
      · rw [if_pos h3]; simp; omega
      · rw [if_neg h3]; simp; omega

/-- The mood behind a repeat that ends at t: its number, where the token ends. -/
def mood (p : ByteArray) (t : Int) : Int × Int := if atB p t = 63 then (1, t + 1) else if atB p t = 43 then (2, t + 1) else (0, t)

/-- The repeat that begins at i. -/
def repeatT (p : ByteArray) (i : Int) : Tok × Bool :=
  if atB p i = 43 then (⟨8, i, (mood p (i + 1)).2, 1, -1, (mood p (i + 1)).1, []⟩, true)
  else if atB p i = 63 then (⟨8, i, (mood p (i + 1)).2, 0, 1, (mood p (i + 1)).1, []⟩, true)
  else if atB p i = 123 then
    (if (count p i).2.2.2 then (⟨8, i, (mood p (count p i).2.2.1).2, (count p i).1, (count p i).2.1, (mood p (count p i).2.2.1).1, []⟩, true) else (⟨8, i, i + 1, 0, -1, 0, []⟩, false))
  else (⟨8, i, (mood p (i + 1)).2, 0, -1, (mood p (i + 1)).1, []⟩, true)

/-- The end of the items of a class from b on: where the bracket stands; -1: there is none. -/
def classEnd (p : ByteArray) : Nat → Int → Int
  | 0, _ => -1
  | f + 1, b =>
    if (p.size : Int) ≤ b then -1
    else if atB p b = 93 then b
    else if (item p b).2.2.1 = 0 then -1
    else classEnd p f (b + (item p b).2.2.1)

theorem classEnd_fuel (p : ByteArray) : ∀ (f g : Nat) (b : Int), (p.size : Int) - b < f → (p.size : Int) - b < g → classEnd p f b = classEnd p g b := by
  intro f
  induction f with
  | zero =>
    intro g b hf hg
    cases g with
    | zero => rfl
    | succ g => simp only [classEnd]; rw [if_pos (by omega)]
  | succ f ih =>
    intro g b hf hg
    cases g with
    | zero => simp only [classEnd]; rw [if_pos (by omega)]
    | succ g =>
      simp only [classEnd]
      have hb := item_bd p b
      by_cases h0 : (item p b).2.2.1 = 0
      · simp [h0]
      · by_cases h1 : (p.size : Int) ≤ b
        · simp [h1]
        · rw [ih g (b + (item p b).2.2.1) (by omega) (by omega)]

def classFrom (p : ByteArray) (b : Int) : Int := classEnd p ((p.size : Int) - b + 1).toNat b
theorem classFrom_step (p : ByteArray) (b : Int) : classFrom p b =
    if (p.size : Int) ≤ b then -1
    else if atB p b = 93 then b
    else if (item p b).2.2.1 = 0 then -1
    else classFrom p (b + (item p b).2.2.1) := by
  have hb := item_bd p b
  by_cases h : (p.size : Int) ≤ b
  · rw [if_pos h]; unfold classFrom
    generalize ((p.size : Int) - b + 1).toNat = f
    cases f with
    | zero => rfl
    | succ f => simp only [classEnd]; rw [if_pos h]
  · rw [if_neg h]
    by_cases h1 : atB p b = 93
    · rw [if_pos h1]; unfold classFrom
      rw [show ((p.size : Int) - b + 1).toNat = ((p.size : Int) - b).toNat + 1 by omega]; simp only [classEnd]
      rw [if_neg h, if_pos h1]
    · rw [if_neg h1]
      by_cases h0 : (item p b).2.2.1 = 0
      · rw [if_pos h0]; unfold classFrom
        rw [show ((p.size : Int) - b + 1).toNat = ((p.size : Int) - b).toNat + 1 by omega]; simp only [classEnd]
        rw [if_neg h, if_neg h1, if_pos h0]
      · rw [if_neg h0]
        unfold classFrom
        rw [show ((p.size : Int) - b + 1).toNat = ((p.size : Int) - b).toNat + 1 by omega]; simp only [classEnd]
        rw [if_neg h, if_neg h1, if_neg h0]
        exact classEnd_fuel _ _ _ _ (by omega) (by omega)

theorem classFrom_bd (p : ByteArray) : ∀ (f : Nat) (b : Int), (p.size : Int) - b < f → 0 ≤ b → classFrom p b = -1 ∨ (b ≤ classFrom p b ∧ classFrom p b < (p.size : Int)) := by
  intro f
  induction f with
  | zero => intro b h hb; rw [classFrom_step, if_pos (by omega)]; simp
  | succ f ih =>
    intro b h hb
    have hi := item_bd p b
    rw [classFrom_step]
    by_cases h1 : (p.size : Int) ≤ b
    · simp [h1]
    · rw [if_neg h1]
      by_cases h2 : atB p b = 93
      · rw [if_pos h2]; omega
      · rw [if_neg h2]
        by_cases h3 : (item p b).2.2.1 = 0
        · simp [h3]
        · rw [if_neg h3]
          have := ih (b + (item p b).2.2.1) (by omega) (by omega)
          omega

/-- Where the items of the class that begins at i begin. -/
def classA (p : ByteArray) (i : Int) : Int := if atB p (i + 1) = 94 then i + 2 else i + 1
/-- The class that begins at i. -/
def classT (p : ByteArray) (i : Int) : Tok × Bool :=
  if classFrom p (classA p i) = -1 ∨ classFrom p (classA p i) = classA p i then (⟨0, 0, 0, 0, 0, 0, []⟩, false)
  else (⟨1, i, classFrom p (classA p i) + 1, 0, 0, 0, all p (classA p i) (classFrom p (classA p i)) (decide (atB p (i + 1) = 94))⟩, true)

end Mt
/- The token that begins at a place (matcherref/tokens.go, next). -/
set_option linter.unusedVariables false
namespace Mt

/-- The token that begins at i, and why none does (0: one does). -/
def nextT (p : ByteArray) (i : Int) : Tok × Int :=
  if atB p i = 124 then (⟨5, i, i + 1, 0, 0, 0, []⟩, 0)
  else if atB p i = 41 then (⟨7, i, i + 1, 0, 0, 0, []⟩, 0)
  else if atB p i = 94 then (⟨3, i, i + 1, 0, 0, 0, []⟩, 0)
  else if atB p i = 36 then (⟨4, i, i + 1, 0, 0, 0, []⟩, 0)
  else if atB p i = 92 then ((escape p i).1, if (escape p i).2 then 0 else 2)
  else if atB p i = 91 then ((classT p i).1, if (classT p i).2 then 0 else 3)
  else if atB p i = 40 then ((opening p i).1, if (opening p i).2 then 0 else 5)
  else if atB p i = 42 ∨ atB p i = 43 ∨ atB p i = 63 ∨ atB p i = 123 then ((repeatT p i).1, if (repeatT p i).2 then 0 else 4)
  else if atB p i = 46 then (⟨1, i, i + 1, 0, 0, 0, all p i i true⟩, 0)
  else (⟨1, i, i + 1, 0, 0, 0, [UInt8.ofNat (atB p i).toNat]⟩, 0)

end Mt
/- THE PLAIN MATHEMATICS OF LISTS OF TOKENS (matcherref/tokens.go). -/
set_option linter.unusedVariables false
namespace Mt

def tok0 : Tok := ⟨0, 0, 0, 0, 0, 0, []⟩
/-- What a token adds to the number of open groups. -/
def delta (t : Tok) : Int := if t.kind = 6 then 1 else if t.kind = 7 then -1 else 0
def opened : List Tok → Int
  | [] => 0
  | t :: r => delta t + opened r
theorem opened_append (a b : List Tok) : opened (a ++ b) = opened a + opened b := by
  induction a with
  | nil => simp [opened]
  | cons t r ih => simp only [List.cons_append, opened, ih]; omega
theorem take_next (l : List Tok) (k : Nat) (h : k < l.length) : l.take (k + 1) = l.take k ++ [l.getD k tok0] := by
  rw [List.take_succ_eq_append_getElem h, List.getD_eq_getElem?_getD, List.getElem?_eq_getElem h]; rfl
theorem opened_next (l : List Tok) (k : Nat) (h : k < l.length) : opened (l.take (k + 1)) = opened (l.take k) + delta (l.getD k tok0) := by
  rw [take_next l k h, opened_append]; simp [opened]
theorem delta_bd (t : Tok) : -1 ≤ delta t ∧ delta t ≤ 1 := by
  unfold delta
  split
  · omega
  · split <;> omega
theorem opened_bd (l : List Tok) : -(l.length : Int) ≤ opened l ∧ opened l ≤ l.length := by
  induction l with
  | nil => simp [opened]
  | cons t r ih => have := delta_bd t; simp only [opened, List.length_cons]; omega
theorem opened_bd_take (l : List Tok) (k : Nat) : -(k : Int) ≤ opened (l.take k) ∧ opened (l.take k) ≤ k := by
  have := opened_bd (l.take k)
  have h2 : (l.take k).length ≤ k := List.length_take_le _ _
  omega

/-- Does the token open a capturing group? -/
def isCap (t : Tok) : Bool := decide (t.kind = 6 ∧ t.how = 4)
def captures : List Tok → Int
  | [] => 0
  | t :: r => (if isCap t then 1 else 0) + captures r
theorem captures_append (a b : List Tok) : captures (a ++ b) = captures a + captures b := by
  induction a with
  | nil => simp [captures]
  | cons t r ih => simp only [List.cons_append, captures, ih]; omega
theorem captures_next (l : List Tok) (k : Nat) (h : k < l.length) : captures (l.take (k + 1)) = captures (l.take k) + if isCap (l.getD k tok0) then 1 else 0 := by
  rw [take_next l k h, captures_append]; simp [captures]
theorem captures_bd (l : List Tok) : 0 ≤ captures l ∧ captures l ≤ l.length := by
  induction l with
  | nil => simp [captures]
  | cons t r ih => simp only [captures, List.length_cons]; split <;> omega
theorem captures_bd_take (l : List Tok) (k : Nat) : 0 ≤ captures (l.take k) ∧ captures (l.take k) ≤ k := by
  have := captures_bd (l.take k)
  have h2 : (l.take k).length ≤ k := List.length_take_le _ _
  omega

/-- From place j on, n groups being open: where the last of them is closed; the list's end: nowhere. -/
def closeFrom : List Tok → Int → Nat → Nat
  | [], _, j => j
  | t :: r, n, j => if n + delta t = 0 then j else closeFrom r (n + delta t) (j + 1)
def closing (l : List Tok) (i : Nat) : Nat := closeFrom (l.drop i) 0 i
theorem drop_next (l : List Tok) (k : Nat) (h : k < l.length) : l.drop k = l.getD k tok0 :: l.drop (k + 1) := by
  rw [List.drop_eq_getElem_cons h, List.getD_eq_getElem?_getD, List.getElem?_eq_getElem h]; rfl
theorem closeFrom_le : ∀ (l : List Tok) (n : Int) (j : Nat), closeFrom l n j ≤ j + l.length := by
  intro l
  induction l with
  | nil => intro n j; simp [closeFrom]
  | cons t r ih =>
    intro n j
    simp only [closeFrom, List.length_cons]
    split
    · omega
    · have := ih (n + delta t) (j + 1); omega
theorem closeFrom_ge : ∀ (l : List Tok) (n : Int) (j : Nat), j ≤ closeFrom l n j := by
  intro l
  induction l with
  | nil => intro n j; simp [closeFrom]
  | cons t r ih =>
    intro n j
    simp only [closeFrom]
    split
    · omega
    · have := ih (n + delta t) (j + 1); omega
theorem closing_le (l : List Tok) (i : Nat) (h : i ≤ l.length) : closing l i ≤ l.length := by
  have := closeFrom_le (l.drop i) 0 i
  rw [List.length_drop] at this
  unfold closing; omega
theorem closing_ge (l : List Tok) (i : Nat) : i ≤ closing l i := closeFrom_ge _ _ _

/-- From place j on: is the capturing group k closed? -/
def closedFrom (l : List Tok) (k : Int) : List Tok → Nat → Bool
  | [], _ => false
  | t :: r, j => if isCap t = true ∧ t.n = k then decide (closing l j < l.length) else closedFrom l k r (j + 1)
def closed (l : List Tok) (k : Int) : Bool := closedFrom l k l 0

/-- Does an atom end with the last of these tokens? -/
def atomEnds (l : List Tok) : Bool :=
  match l.getLast? with
  | none => false
  | some t => decide (t.kind = 1 ∨ t.kind = 2 ∨ t.kind = 3 ∨ t.kind = 4 ∨ t.kind = 7)

/-- May the token stand behind these? (0: it may) -/
def may (l : List Tok) (t : Tok) : Int :=
  if t.kind = 2 then (if closed l t.n then 0 else 6)
  else if t.kind = 8 then (if atomEnds l then 0 else 7)
  else if t.kind = 6 then (if 10 ≤ opened l then 8 else if t.how = 4 ∧ 9 ≤ captures l then 9 else 0)
  else if t.kind = 7 then (if opened l = 0 then 10 else 0)
  else 0

/-- The token as it joins the list: a capturing group has its number. -/
def joined (l : List Tok) (t : Tok) : Tok := if isCap t then { t with n := captures l + 1 } else t

/-- Reading on from place i behind the tokens l: the tokens, or the error and its place. -/
def readFrom (p : ByteArray) : Nat → List Tok → Int → List Tok × Int × Int
  | 0, l, i => (l, 0, i)
  | f + 1, l, i =>
    if (p.size : Int) ≤ i then (l, 0, i)
    else if (nextT p i).2 ≠ 0 then ([], (nextT p i).2, i)
    else if may l (nextT p i).1 ≠ 0 then ([], may l (nextT p i).1, i)
    else readFrom p f (l ++ [joined l (nextT p i).1]) (nextT p i).1.to

/-- The tokens of a pattern; or the error and its place. -/
def tokens (p : ByteArray) : List Tok × Int × Int :=
  if 64 < p.size then ([], 1, 0)
  else if (readFrom p 65 [] 0).2.1 ≠ 0 then readFrom p 65 [] 0
  else if 0 < opened (readFrom p 65 [] 0).1 then ([], 11, p.size)
  else ((readFrom p 65 [] 0).1, 0, 0)

theorem closeFrom_step (l : List Tok) (n : Int) (k : Nat) (h : k < l.length) : closeFrom (l.drop k) n k = if n + delta (l.getD k tok0) = 0 then k else closeFrom (l.drop (k + 1)) (n + delta (l.getD k tok0)) (k + 1) := by
  rw [drop_next l k h]; rfl
theorem closedFrom_step (l : List Tok) (c : Int) (k : Nat) (h : k < l.length) : closedFrom l c (l.drop k) k = if isCap (l.getD k tok0) = true ∧ (l.getD k tok0).n = c then decide (closing l k < l.length) else closedFrom l c (l.drop (k + 1)) (k + 1) := by
  rw [drop_next l k h]; rfl
end Mt
/- Where a token ends; the reading of tokens ends. -/
set_option linter.unusedVariables false
namespace Mt

theorem number_to (p : ByteArray) (i : Int) (h0 : 0 ≤ i) : (number p i).2 = 0 ∨ (0 < (number p i).2 ∧ i + (number p i).2 ≤ p.size) := by
  unfold number
  split
  · simp
  · split
    · have := atB_ge p i (by omega); right; simp only; omega
    · have := atB_ge p (i + 1) (by omega); right; simp only; omega
theorem count_to (p : ByteArray) (i : Int) (h0 : 0 ≤ i) (h : (count p i).2.2.2 = true) : i < (count p i).2.2.1 ∧ (count p i).2.2.1 ≤ p.size := by
  have b1 := number_bd p (i + 1)
  have b2 := number_bd p (i + 1 + (number p (i + 1)).2 + 1)
  unfold count at h ⊢
  split at h
  · simp at h
  · rename_i h1
    split at h
    · rename_i h2
      rw [if_neg h1, if_pos h2]
      have := atB_ge p (i + 1 + (number p (i + 1)).2) (by omega)
      simp only; omega
    · rename_i h2
      split at h
      · simp at h
      · rename_i h3
        split at h
        · rename_i h4
          rw [if_neg h1, if_neg h2, if_neg h3, if_pos h4]
          have := atB_ge p (i + 1 + (number p (i + 1)).2 + 1) (by omega)
          simp only; omega
        · rename_i h4
          split at h
          · simp at h
          · rename_i h5
            rw [if_neg h1, if_neg h2, if_neg h3, if_neg h4, if_neg h5]
            have := atB_ge p (i + 1 + (number p (i + 1)).2 + 1 + (number p (i + 1 + (number p (i + 1)).2 + 1)).2) (by omega)
            simp only; omega
theorem mood_to (p : ByteArray) (t : Int) (h0 : 0 ≤ t) (h : t ≤ p.size) : t ≤ (mood p t).2 ∧ (mood p t).2 ≤ p.size := by
  unfold mood
  split
  · have := atB_ge p t (by omega); simp only; omega
  · split
    · have := atB_ge p t (by omega); simp only; omega
    · simp only; omega
theorem repeat_to (p : ByteArray) (i : Int) (h0 : 0 ≤ i) (h1 : i < p.size) (h : (repeatT p i).2 = true) : i < (repeatT p i).1.to ∧ (repeatT p i).1.to ≤ p.size := by
  have m1 := mood_to p (i + 1) (by omega) (by omega)
  unfold repeatT at h ⊢
  split
  · simp only; omega
  · split
    · simp only; omega
    · split
      · rename_i a b c
        rw [if_neg a, if_neg b, if_pos c] at h
        split at h
        · rename_i d
          have k := count_to p i h0 d
          have m2 := mood_to p (count p i).2.2.1 (by omega) (by omega)
          rw [if_pos d]
          simp only; omega
        · simp at h
      · simp only; omega
theorem opening_to (p : ByteArray) (i : Int) (h0 : 0 ≤ i) (h1 : i < p.size) (h : (opening p i).2 = true) : i < (opening p i).1.to ∧ (opening p i).1.to ≤ p.size := by
  rcases opening_cases p i with ⟨a1, e⟩ | ⟨a1, ⟨a2, e⟩ | ⟨a2, a3, e⟩ | ⟨a2, a3, a4, e⟩ | ⟨a2, a3, a4, a5, e⟩ | ⟨a2, a3, a4, a5, e⟩⟩
  · rw [e]; simp only; omega
  · rw [e]; have := atB_ge p (i + 2) (by rw [eq_of_beq a2]; omega); simp only; omega
  · rw [e]; have := atB_ge p (i + 2) (by rw [eq_of_beq a3]; omega); simp only; omega
  · rw [e]; have := atB_ge p (i + 2) (by rw [eq_of_beq a4]; omega); simp only; omega
  · rw [e]; have := atB_ge p (i + 2) (by rw [eq_of_beq a5]; omega); simp only; omega
  · rw [e] at h; simp at h
theorem escape_to (p : ByteArray) (i : Int) (h0 : 0 ≤ i) (h1 : i < p.size) (h : (escape p i).2 = true) : i < (escape p i).1.to ∧ (escape p i).1.to ≤ p.size := by
  rcases escape_cases p i with ⟨a1, e⟩ | ⟨a0, a1, ⟨a2, e⟩ | ⟨a2, a3, e⟩ | ⟨a2, a3, a4, a5, a6, a7, e⟩ | ⟨a2, a3, a4, e⟩⟩
  · rw [e] at h; simp at h
  all_goals
    rw [e]; have := atB_ge p (i + 1) a0; simp only; omega
theorem class_to (p : ByteArray) (i : Int) (h0 : 0 ≤ i) (h1 : i < p.size) (h : (classT p i).2 = true) : i < (classT p i).1.to ∧ (classT p i).1.to ≤ p.size := by
  have ha : i + 1 ≤ classA p i := by unfold classA; split <;> omega
  have hb := classFrom_bd p ((p.size : Int) - classA p i + 1).toNat (classA p i) (by omega) (by omega)
  unfold classT at h ⊢
  split at h
  · simp at h
  · rename_i g
    rw [if_neg g]
    simp only; omega
theorem nextT_to (p : ByteArray) (i : Int) (h0 : 0 ≤ i) (h1 : i < p.size) (h : (nextT p i).2 = 0) : i < (nextT p i).1.to ∧ (nextT p i).1.to ≤ p.size := by
  unfold nextT at h ⊢
  split
  · simp only; omega
  split
  · simp only; omega
  split
  · simp only; omega
  split
  · simp only; omega
  split
  · rename_i a b c d e
    rw [if_neg a, if_neg b, if_neg c, if_neg d, if_pos e] at h
    exact escape_to p i h0 h1 (by cases x : (escape p i).2 <;> simp [x] at h ⊢)
  split
  · rename_i a b c d e f
    rw [if_neg a, if_neg b, if_neg c, if_neg d, if_neg e, if_pos f] at h
    exact class_to p i h0 h1 (by cases x : (classT p i).2 <;> simp [x] at h ⊢)
  split
  · rename_i a b c d e f g
    rw [if_neg a, if_neg b, if_neg c, if_neg d, if_neg e, if_neg f, if_pos g] at h
    exact opening_to p i h0 h1 (by cases x : (opening p i).2 <;> simp [x] at h ⊢)
  split
  · rename_i a b c d e f g k
    rw [if_neg a, if_neg b, if_neg c, if_neg d, if_neg e, if_neg f, if_neg g, if_pos k] at h
    exact repeat_to p i h0 h1 (by cases x : (repeatT p i).2 <;> simp [x] at h ⊢)
  split
  · simp only; omega
  · simp only; omega

/-- Reading on from i behind l. -/
def readOn (p : ByteArray) (l : List Tok) (i : Int) : List Tok × Int × Int := readFrom p ((p.size : Int) - i + 1).toNat l i
theorem readFrom_fuel (p : ByteArray) : ∀ (f g : Nat) (l : List Tok) (i : Int), 0 ≤ i → (p.size : Int) - i < f → (p.size : Int) - i < g → i ≤ p.size → readFrom p f l i = readFrom p g l i := by
  intro f
  induction f with
  | zero =>
    intro g l i h0 hf hg hi
    omega
  | succ f ih =>
    intro g l i h0 hf hg hi
    cases g with
    | zero => omega
    | succ g =>
      simp only [readFrom]
      by_cases h1 : (p.size : Int) ≤ i
      · rw [if_pos h1, if_pos h1]
      · rw [if_neg h1, if_neg h1]
        by_cases h2 : (nextT p i).2 ≠ 0
        · rw [if_pos h2, if_pos h2]
        · rw [if_neg h2, if_neg h2]
          have := nextT_to p i h0 (by omega) (by omega)
          split
          · rfl
          · exact ih g _ _ (by omega) (by omega) (by omega) (by omega)
theorem readOn_step (p : ByteArray) (l : List Tok) (i : Int) (h0 : 0 ≤ i) (hi : i ≤ p.size) : readOn p l i =
    if (p.size : Int) ≤ i then (l, 0, i)
    else if (nextT p i).2 ≠ 0 then ([], (nextT p i).2, i)
    else if may l (nextT p i).1 ≠ 0 then ([], may l (nextT p i).1, i)
    else readOn p (l ++ [joined l (nextT p i).1]) (nextT p i).1.to := by
  unfold readOn
  rw [show ((p.size : Int) - i + 1).toNat = ((p.size : Int) - i).toNat + 1 by omega]
  simp only [readFrom]
  by_cases h1 : (p.size : Int) ≤ i
  · rw [if_pos h1, if_pos h1]
  · rw [if_neg h1, if_neg h1]
    by_cases h2 : (nextT p i).2 ≠ 0
    · rw [if_pos h2, if_pos h2]
    · rw [if_neg h2, if_neg h2]
      have := nextT_to p i h0 (by omega) (by omega)
      split
      · rfl
      · exact readFrom_fuel p _ _ _ _ (by omega) (by omega) (by omega) (by omega)
theorem readOn_start (p : ByteArray) (h : p.size ≤ 64) : readFrom p 65 [] 0 = readOn p [] 0 := readFrom_fuel p _ _ _ _ (by omega) (by omega) (by omega) (by omega)

end Mt
