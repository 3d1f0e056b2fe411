import Derived.Test.YtebpgfodelggoaaGreatC11
import Derived.Test.YtebpgfodelggoaaGreatC16
import Derived.Test.YtebpgfodelggoaaGreatC19
/- The tokens of a pattern are small, and no more than its bytes. Check as the reference answers it. -/
set_option linter.unusedVariables false
namespace Mt

theorem mood_how (p : ByteArray) (t : Int) : 0 ≤ (mood p t).1 ∧ (mood p t).1 ≤ 2 := by
  unfold mood
  split
  · simp
  · split <;> simp
theorem count_nm (p : ByteArray) (i : Int) : 0 ≤ (count p i).1 ∧ (count p i).1 ≤ 20 ∧ -1 ≤ (count p i).2.1 ∧ (count p i).2.1 ≤ 20 := by
  have b1 := number_bd p (i + 1)
  have b2 := number_bd p (i + 1 + (number p (i + 1)).2 + 1)
  unfold count
  split
  · simp
  · split
    · simp only; omega
    · split
      · simp
      · split
        · simp only; omega
        · split
          · simp
          · simp only; omega
theorem repeat_ok (p : ByteArray) (i : Int) : tokOk (repeatT p i).1 := by
  have m1 := mood_how p (i + 1)
  have m2 := mood_how p (count p i).2.2.1
  have c := count_nm p i
  unfold repeatT
  split
  · simp only [tokOk]; omega
  · split
    · simp only [tokOk]; omega
    · split
      · split
        · simp only [tokOk]; omega
        · simp [tokOk]
      · simp only [tokOk]; omega
theorem escape_ok (p : ByteArray) (i : Int) : tokOk (escape p i).1 := by
  unfold escape
  split
  · simp [tokOk]
  · split
    · simp [tokOk]
    · split
      · simp only [tokOk]; omega
      · simp [tokOk]
theorem opening_ok (p : ByteArray) (i : Int) : tokOk (opening p i).1 := by
  unfold opening
  split
  · simp [tokOk]
  · split
    · simp [tokOk]
    · split
      · simp [tokOk]
      · split
        · simp [tokOk]
        · split <;> simp [tokOk]
theorem class_ok (p : ByteArray) (i : Int) : tokOk (classT p i).1 := by
  unfold classT
  split <;> simp [tokOk]
theorem next_ok (p : ByteArray) (i : Int) : tokOk (nextT p i).1 := by
  unfold nextT
  split
  · simp [tokOk]
  split
  · simp [tokOk]
  split
  · simp [tokOk]
  split
  · simp [tokOk]
  split
  · exact escape_ok p i
  split
  · exact class_ok p i
  split
  · exact opening_ok p i
  split
  · exact repeat_ok p i
  split
  · simp [tokOk]
  · simp [tokOk]
theorem joined_ok {l : List Tok} {t : Tok} (h : tokOk t) (hl : l.length ≤ 64) : tokOk (joined l t) := by
  unfold joined
  split
  · rename_i hc
    have hk : t.kind = 6 := by simp [isCap] at hc; exact hc.1
    have := captures_bd l
    simp only [tokOk] at *
    omega
  · exact h

theorem readOn_ok (p : ByteArray) (hp : p.size ≤ 64) : ∀ (f : Nat) (l : List Tok) (i : Int), 0 ≤ i → i ≤ p.size → (p.size : Int) - i < f → toksOk l → (l.length : Int) ≤ i → toksOk (readOn p l i).1 ∧ ((readOn p l i).1.length : Int) ≤ p.size := by
  intro f
  induction f with
  | zero => intro l i h0 h1 h2; omega
  | succ f ih =>
    intro l i h0 h1 h2 hl hn
    rw [readOn_step p l i h0 h1]
    split
    · exact ⟨hl, by simp only; omega⟩
    · split
      · exact ⟨by simp [toksOk], by simp⟩
      · split
        · exact ⟨by simp [toksOk], by simp⟩
        · rename_i a b c
          have ht := nextT_to p i h0 (by omega) (by omega)
          refine ih _ _ (by omega) (by omega) (by omega) ?_ ?_
          · intro t hm
            rcases List.mem_append.1 hm with hm | hm
            · exact hl t hm
            · simp at hm; rw [hm]; exact joined_ok (next_ok p i) (by omega)
          · rw [List.length_append]; simp; omega
theorem tokens_small (p : ByteArray) : toksOk (tokens p).1 ∧ (tokens p).1.length ≤ 64 := by
  unfold tokens
  split
  · exact ⟨by simp [toksOk], by simp⟩
  · rename_i hp
    have h := readOn_ok p (by omega) ((p.size : Int) + 1).toNat [] 0 (by omega) (by omega) (by omega) (by simp [toksOk]) (by simp)
    rw [readOn_start p (by omega)]
    split
    · exact ⟨h.1, by have := h.2; omega⟩
    · split
      · exact ⟨by simp [toksOk], by simp⟩
      · exact ⟨h.1, by have := h.2; simp only; omega⟩

/-- Check: the error and its place. -/
def checkR (p : ByteArray) : Int × Int :=
  if (tokens p).2.1 ≠ 0 then (tokens p).2
  else if 300 < (coded (tokens p).1).length then (12, 0)
  else (0, 0)

theorem tokens_place (p : ByteArray) : 0 ≤ (tokens p).2.2 ∧ True := by
  refine ⟨?_, trivial⟩
  unfold tokens
  split
  · simp
  · rename_i hp
    rw [readOn_start p (by omega)]
    have key : ∀ (f : Nat) (l : List Tok) (i : Int), 0 ≤ i → i ≤ p.size → (p.size : Int) - i < f → 0 ≤ (readOn p l i).2.2 := by
      intro f
      induction f with
      | zero => intro l i h0 h1 h2; omega
      | succ f ih =>
        intro l i h0 h1 h2
        rw [readOn_step p l i h0 h1]
        split
        · exact h0
        · split
          · exact h0
          · split
            · exact h0
            · have ht := nextT_to p i h0 (by omega) (by omega)
              exact ih _ _ (by omega) (by omega) (by omega)
    split
    · exact key ((p.size : Int) + 1).toNat [] 0 (by omega) (by omega) (by omega)
    · split <;> simp

end Mt
set_option linter.unusedVariables false
set_option linter.unusedSimpArgs false
namespace Go.Proofs.YtebpgfodelggoaaGreat
open Go.RowKit

theorem tokens_any (p : ByteArray) (w : World) (hm : p.size ≤ maxLen) :
    Calls Tryz.prog 23 #[.string p] w fun e w' => ∃ v, e = .returned (.tuple #[v, .int .i64 (Mt.tokens p).2.1, .int .i64 (Mt.tokens p).2.2]) ∧ toks w' v (Mt.tokens p).1 ∧ Below w.heap.size w w' := by
  by_cases h : 64 < p.size
  · have e : Mt.tokens p = ([], 1, 0) := by unfold Mt.tokens; rw [if_pos h]
    rw [e]
    refine (tokens_long p w h hm).mono ?_
    rintro e w' ⟨rfl, rfl⟩
    exact ⟨_, rfl, World.ownsRow_nil _ _ _ _, Below.refl _ _⟩
  · refine (tokens_short p w (by omega)).mono ?_
    rintro e w' ⟨v, rfl, h1, h2⟩
    exact ⟨v, rfl, h1.toks, h2⟩

set_option maxHeartbeats 1000000 in
theorem refCheck_any (p : ByteArray) (w : World) (hm : p.size ≤ maxLen) :
    Calls Tryz.prog 28 #[.string p] w fun e w' => e = .returned (.tuple #[.int .i64 (Mt.checkR p).1, .int .i64 (Mt.checkR p).2]) ∧ Below w.heap.size w w' := by
  have K : Hid (Calls Tryz.prog 23 #[.string p] w fun e w' => ∃ v, e = .returned (.tuple #[v, .int .i64 (Mt.tokens p).2.1, .int .i64 (Mt.tokens p).2.2]) ∧ toks w' v (Mt.tokens p).1 ∧ Below w.heap.size w w') := tokens_any p w hm
  have ts := Mt.tokens_small p
  have tsl := ts.2
  have TS : Hid (Mt.toksOk (Mt.tokens p).1) := ts.1
  have KC : Hid (∀ (v : Value) (z : World), toks z v (Mt.tokens p).1 → Calls Tryz.prog 43 #[v] z fun e w' => ∃ v', e = .returned v' ∧ ownIns w' 0 v' (Mt.coded (Mt.tokens p).1) ∧ Below z.heap.size z w') := fun v z hz => coded_any _ v z tsl TS.out hz
  have cb : ((Mt.coded (Mt.tokens p).1).length : Int) ≤ 100000000 := by
    have fc := gen_ok TS.out 283 0 0 (Mt.tokens p).1.length 0 (by omega) (by omega)
    have := (Mt.fit_behind fc (Mt.fit_one (M := 70000000) (i := ⟨13, 0, 0, []⟩) (fitI_small _ _ _ _ (by omega) (by omega)) (by omega))).1
    unfold Mt.coded
    omega
  unfold Mt.checkR
  generalize hT : Mt.tokens p = T at *
  clear hT ts
  generalize hC : Mt.coded T.1 = C at *
  clear hC
  cases he : (T.2.1 != 0)
  · rw [if_neg (by simpa using he)]
    by_cases hb : 300 < C.length
    · rw [if_pos hb]
      go_enter Tryz.func28, Tryz.ntmps28
      go_wp2_with fail
      refine K.out.mono ?_
      rintro e w1 ⟨v1, rfl, q1, hb1⟩
      have Q1 : Hid (toks w1 v1 T.1) := q1
      have hs1 := hb1.size
      clear q1
      go_wp2_with fail
      refine (KC.out v1 _ Q1.out).mono ?_
      rintro e w2 ⟨v2, rfl, q2, hb2⟩
      obtain ⟨ao, cap, rfl⟩ := len_val q2
      have hB2 : Below w.heap.size w w2 := hb1.trans (hb2.mono hs1)
      clear q2 hb2 hb1
      go_wp2_with fail
      go_ret2
      exact ⟨rfl, hB2⟩
    · rw [if_neg hb]
      go_enter Tryz.func28, Tryz.ntmps28
      go_wp2_with fail
      refine K.out.mono ?_
      rintro e w1 ⟨v1, rfl, q1, hb1⟩
      have Q1 : Hid (toks w1 v1 T.1) := q1
      have hs1 := hb1.size
      clear q1
      go_wp2_with fail
      refine (KC.out v1 _ Q1.out).mono ?_
      rintro e w2 ⟨v2, rfl, q2, hb2⟩
      obtain ⟨ao, cap, rfl⟩ := len_val q2
      have hB2 : Below w.heap.size w w2 := hb1.trans (hb2.mono hs1)
      clear q2 hb2 hb1
      go_wp2_with fail
      go_ret2
      exact ⟨rfl, hB2⟩
  · rw [if_pos (by simpa using he)]
    go_enter Tryz.func28, Tryz.ntmps28
    go_wp2_with fail
    refine K.out.mono ?_
    rintro e w1 ⟨v1, rfl, q1, hb1⟩
    clear q1
    go_wp2_with fail
    go_ret2
    exact ⟨rfl, hb1⟩
end Go.Proofs.YtebpgfodelggoaaGreat
