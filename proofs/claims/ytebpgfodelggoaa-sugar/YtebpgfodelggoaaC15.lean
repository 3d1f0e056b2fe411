import Derived.Test.YtebpgfodelggoaaC13
/- The tokens of a pattern are small, and no more than its bytes. Check as the reference answers it. -/
set_option linter.unusedVariables false
namespace Mt

theorem mood_how (p : ByteArray) (t : Int) : 0 ≤ (mood p t).1 ∧ (mood p t).1 ≤ 2 := by
  unfold mood
  split
  · simp
  · split <;> simp
theorem count_nm (p : ByteArray) (i : Int) : 0 ≤ (count p i).1 ∧ (count p i).1 ≤ 20 ∧ -1 ≤ (count p i).2.1 ∧ (count p i).2.1 ≤ 20 := by
  have b1 := number_bd p (i + 1)
  have b2 := number_bd p (i + 1 + (number p (i + 1)).2 + 1)
  unfold count
  split
  · simp
  · split
    · simp only; omega
    · split
      · simp
      · split
        · simp only; omega
        · split
          · simp
          · simp only; omega
theorem repeat_ok (p : ByteArray) (i : Int) : tokOk (repeatT p i).1 := by
  have m1 := mood_how p (i + 1)
  have m2 := mood_how p (count p i).2.2.1
  have c := count_nm p i
  unfold repeatT
  split
  · simp only [tokOk]; omega
  · split
    · simp only [tokOk]; omega
    · split
      · split
        · simp only [tokOk]; omega
        · simp [tokOk]
      · simp only [tokOk]; omega
theorem escape_ok (p : ByteArray) (i : Int) : tokOk (escape p i).1 := by
  unfold escape
  split
  · simp [tokOk]
  · split
    · simp [tokOk]
    · split
      · simp only [tokOk]; omega
      · simp [tokOk]
theorem opening_ok (p : ByteArray) (i : Int) : tokOk (opening p i).1 := by
  unfold opening
  split
  · simp [tokOk]
  · split
    · simp [tokOk]
    · split
      · simp [tokOk]
      · split
        · simp [tokOk]
        · split <;> simp [tokOk]
theorem class_ok (p : ByteArray) (i : Int) : tokOk (classT p i).1 := by
  unfold classT
  split <;> simp [tokOk]
theorem next_ok (p : ByteArray) (i : Int) : tokOk (nextT p i).1 := by
  unfold nextT
  split
  · simp [tokOk]
  split
  · simp [tokOk]
  split
  · simp [tokOk]
  split
  · simp [tokOk]
  split
  · exact escape_ok p i
  split
  · exact class_ok p i
  split
  · exact opening_ok p i
  split
  · exact repeat_ok p i
  split
  · simp [tokOk]
  · simp [tokOk]
theorem joined_ok {l : List Tok} {t : Tok} (h : tokOk t) (hl : l.length ≤ 64) : tokOk (joined l t) := by
  unfold joined
  split
  · rename_i hc
    have hk : t.kind = 6 := by simp [isCap] at hc; exact hc.1
    have := captures_bd l
    simp only [tokOk] at *
    omega
  · exact h

theorem readOn_ok (p : ByteArray) (hp : p.size ≤ 64) : ∀ (f : Nat) (l : List Tok) (i : Int), 0 ≤ i → i ≤ p.size → (p.size : Int) - i < f → toksOk l → (l.length : Int) ≤ i → toksOk (readOn p l i).1 ∧ ((readOn p l i).1.length : Int) ≤ p.size := by
  intro f
  induction f with
  | zero => intro l i h0 h1 h2; omega
  | succ f ih =>
    intro l i h0 h1 h2 hl hn
    rw [readOn_step p l i h0 h1]
    split
    · exact ⟨hl, by simp only; omega⟩
    · split
      · exact ⟨by simp [toksOk], by simp⟩
      · split
        · exact ⟨by simp [toksOk], by simp⟩
        · rename_i a b c
          have ht := nextT_to p i h0 (by omega) (by omega)
          refine ih _ _ (by omega) (by omega) (by omega) ?_ ?_
          · intro t hm
            rcases List.mem_append.1 hm with hm | hm
            · exact hl t hm
            · simp at hm; rw [hm]; exact joined_ok (next_ok p i) (by omega)
          · rw [List.length_append]; simp; omega
theorem tokens_small (p : ByteArray) : toksOk (tokens p).1 ∧ (tokens p).1.length ≤ 64 := by
  unfold tokens
  split
  · exact ⟨by simp [toksOk], by simp⟩
  · rename_i hp
    have h := readOn_ok p (by omega) ((p.size : Int) + 1).toNat [] 0 (by omega) (by omega) (by omega) (by simp [toksOk]) (by simp)
    rw [readOn_start p (by omega)]
    split
    · exact ⟨h.1, by have := h.2; omega⟩
    · split
      · exact ⟨by simp [toksOk], by simp⟩
      · exact ⟨h.1, by have := h.2; simp only; omega⟩

/-- Check: the error and its place. -/
def checkR (p : ByteArray) : Int × Int :=
  if (tokens p).2.1 ≠ 0 then (tokens p).2
  else if 300 < (coded (tokens p).1).length then (12, 0)
  else (0, 0)

theorem tokens_place (p : ByteArray) : 0 ≤ (tokens p).2.2 ∧ True := by
  refine ⟨?_, trivial⟩
  unfold tokens
  split
  · simp
  · rename_i hp
    rw [readOn_start p (by omega)]
    have key : ∀ (f : Nat) (l : List Tok) (i : Int), 0 ≤ i → i ≤ p.size → (p.size : Int) - i < f → 0 ≤ (readOn p l i).2.2 := by
      intro f
      induction f with
      | zero => intro l i h0 h1 h2; omega
      | succ f ih =>
        intro l i h0 h1 h2
        rw [readOn_step p l i h0 h1]
        split
        · exact h0
        · split
          · exact h0
          · split
            · exact h0
            · have ht := nextT_to p i h0 (by omega) (by omega)
              exact ih _ _ (by omega) (by omega) (by omega)
    split
    · exact key ((p.size : Int) + 1).toNat [] 0 (by omega) (by omega) (by omega)
    · split <;> simp

end Mt
