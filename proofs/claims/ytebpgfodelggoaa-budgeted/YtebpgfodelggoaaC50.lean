import Derived.Test.YtebpgfodelggoaaC01
import Derived.Test.YtebpgfodelggoaaC12
/- READING IS LOCAL: a pattern that stands in another one, with a closing parenthesis behind it, has there the tokens that it has alone. -/
set_option linter.unusedVariables false
namespace Mt

/-- p stands in p' from s on, and a closing parenthesis behind it. -/
structure Stands (p p' : ByteArray) (s : Int) : Prop where
  lo : 0 ≤ s
  hi : (p.size : Int) + s < p'.size
  at' : ∀ j : Int, 0 ≤ j → j < p.size → atB p' (j + s) = atB p j
  stop : atB p' (p.size + s) = 41
section
variable {p p' : ByteArray} {s : Int}
theorem Stands.cases (h : Stands p p' s) (j : Int) (h0 : 0 ≤ j) (h1 : j ≤ p.size) : (j < p.size ∧ atB p' (j + s) = atB p j ∧ 0 ≤ atB p j) ∨ (j = p.size ∧ atB p' (j + s) = 41 ∧ atB p j = -1) := by
  by_cases e : j < p.size
  · exact Or.inl ⟨e, h.at' j h0 e, by rw [atB_in p j h0 e]; omega⟩
  · have : j = p.size := by omega
    subst this
    exact Or.inr ⟨rfl, h.stop, atB_out p _ (Or.inr (Int.le_refl _))⟩
theorem number_sh (h : Stands p p' s) (i : Int) (h0 : 0 ≤ i) (h1 : i ≤ p.size) : number p' (i + s) = number p i ∧ i + (number p i).2 ≤ p.size := by
  unfold number
  rcases h.cases i h0 h1 with ⟨a, b, c⟩ | ⟨a, b, c⟩
  · rw [b]
    by_cases x : atB p i < 48 ∨ 57 < atB p i
    · rw [if_pos x, if_pos x]; exact ⟨rfl, by simp only; omega⟩
    · rw [if_neg x, if_neg x]
      rw [show i + s + 1 = i + 1 + s by omega]
      rcases h.cases (i + 1) (by omega) (by omega) with ⟨a', b', c'⟩ | ⟨a', b', c'⟩
      · rw [b']
        split
        · exact ⟨rfl, by simp only; omega⟩
        · exact ⟨rfl, by simp only; omega⟩
      · rw [b', c', if_pos (by omega), if_pos (by omega)]; exact ⟨rfl, by simp only; omega⟩
  · rw [b, c, if_pos (by omega), if_pos (by omega)]; exact ⟨rfl, by simp only; omega⟩
theorem at_same (h : Stands p p' s) (j : Int) (h0 : 0 ≤ j) (h1 : j ≤ p.size) (v : Int) (hv : v ≠ 41) (hv2 : v ≠ -1) : (atB p' (j + s) = v) ↔ (atB p j = v) := by
  rcases h.cases j h0 h1 with ⟨a, b, c⟩ | ⟨a, b, c⟩
  · rw [b]
  · rw [b, c]; omega
theorem at_lt (j v : Int) (h0 : 0 ≤ j) (hv : 0 ≤ v) (he : atB p j = v) : j < p.size := (atB_ge p j (by omega)).2
theorem mood_sh (h : Stands p p' s) (t : Int) (h0 : 0 ≤ t) (h1 : t ≤ p.size) : mood p' (t + s) = ((mood p t).1, (mood p t).2 + s) ∧ (mood p t).2 ≤ p.size ∧ t ≤ (mood p t).2 := by
  have e1 := at_same h t h0 h1 63 (by omega) (by omega)
  have e2 := at_same h t h0 h1 43 (by omega) (by omega)
  unfold mood
  by_cases a : atB p t = 63
  · rw [if_pos a, if_pos (e1.2 a)]
    have := at_lt t 63 h0 (by omega) a
    exact ⟨by simp only [Prod.mk.injEq, true_and]; omega, by simp only; omega, by simp only; omega⟩
  · rw [if_neg a, if_neg (fun x => a (e1.1 x))]
    by_cases b : atB p t = 43
    · rw [if_pos b, if_pos (e2.2 b)]
      have := at_lt t 43 h0 (by omega) b
      exact ⟨by simp only [Prod.mk.injEq, true_and]; omega, by simp only; omega, by simp only; omega⟩
    · rw [if_neg b, if_neg (fun x => b (e2.1 x))]
      exact ⟨rfl, h1, Int.le_refl _⟩
theorem count_sh (h : Stands p p' s) (i : Int) (h0 : 0 ≤ i) (h1 : i < p.size) (hc : (count p i).2.2.2 = true) :
    count p' (i + s) = ((count p i).1, (count p i).2.1, (count p i).2.2.1 + s, true) ∧ (count p i).2.2.1 ≤ p.size ∧ i < (count p i).2.2.1 := by
  obtain ⟨n1, n2⟩ := number_sh h (i + 1) (by omega) (by omega)
  have nb := number_bd p (i + 1)
  unfold count at hc ⊢
  rw [show i + s + 1 = i + 1 + s by omega, n1]
  generalize number p (i + 1) = N at *
  by_cases a : N.2 = 0 ∨ 20 < N.1
  · rw [if_pos a] at hc; simp at hc
  rw [if_neg a] at hc ⊢
  rw [if_neg a]
  rw [show i + 1 + s + N.2 = i + 1 + N.2 + s by omega]
  have q1 := at_same h (i + 1 + N.2) (by omega) n2 125 (by omega) (by omega)
  have q2 := at_same h (i + 1 + N.2) (by omega) n2 44 (by omega) (by omega)
  by_cases b : atB p (i + 1 + N.2) = 125
  · rw [if_pos b, if_pos (q1.2 b)]
    have := at_lt _ 125 (by omega) (by omega) b
    exact ⟨by simp only [Prod.mk.injEq, true_and, and_true]; omega, by simp only; omega, by simp only; omega⟩
  rw [if_neg b] at hc ⊢
  rw [if_neg (fun x => b (q1.1 x))]
  by_cases c : atB p (i + 1 + N.2) ≠ 44
  · rw [if_pos c] at hc; simp at hc
  have c' : atB p (i + 1 + N.2) = 44 := by omega
  rw [if_neg c] at hc ⊢
  rw [if_neg (fun x => c (fun y => x (q2.2 y)))]
  have l1 := at_lt _ 44 (by omega) (by omega) c'
  rw [show i + 1 + N.2 + s + 1 = i + 1 + N.2 + 1 + s by omega]
  have q3 := at_same h (i + 1 + N.2 + 1) (by omega) (by omega) 125 (by omega) (by omega)
  by_cases e : atB p (i + 1 + N.2 + 1) = 125
  · rw [if_pos e, if_pos (q3.2 e)]
    have := at_lt _ 125 (by omega) (by omega) e
    exact ⟨by simp only [Prod.mk.injEq, true_and, and_true]; omega, by simp only; omega, by simp only; omega⟩
  rw [if_neg e] at hc ⊢
  rw [if_neg (fun x => e (q3.1 x))]
  obtain ⟨m1, m2⟩ := number_sh h (i + 1 + N.2 + 1) (by omega) (by omega)
  have mb := number_bd p (i + 1 + N.2 + 1)
  rw [m1]
  generalize number p (i + 1 + N.2 + 1) = M at *
  rw [show i + 1 + N.2 + 1 + s + M.2 = i + 1 + N.2 + 1 + M.2 + s by omega]
  have q4 := at_same h (i + 1 + N.2 + 1 + M.2) (by omega) m2 125 (by omega) (by omega)
  by_cases f : M.2 = 0 ∨ 20 < M.1 ∨ M.1 < N.1 ∨ atB p (i + 1 + N.2 + 1 + M.2) ≠ 125
  · rw [if_pos f] at hc; simp at hc
  · rw [if_neg f]
    have f4 : atB p (i + 1 + N.2 + 1 + M.2) = 125 := by omega
    have := at_lt _ 125 (by omega) (by omega) f4
    rw [if_neg (fun x => f (by rcases x with x | x | x | x; exact Or.inl x; exact Or.inr (Or.inl x); exact Or.inr (Or.inr (Or.inl x)); exact absurd (q4.2 f4) x))]
    exact ⟨by simp only [Prod.mk.injEq, true_and, and_true]; omega, by simp only; omega, by simp only; omega⟩
theorem classByte_sh (h : Stands p p' s) (i : Int) (h0 : 0 ≤ i) (hc : (classByte p i).2 ≠ 0) : classByte p' (i + s) = classByte p i ∧ i + (classByte p i).2 ≤ p.size := by
  unfold classByte at hc ⊢
  by_cases a : atB p i < 0 ∨ atB p i = 93 ∨ atB p i = 45
  · rw [if_pos a] at hc; simp at hc
  rw [if_neg a] at hc ⊢
  have l := (atB_ge p i (by omega)).2
  rw [h.at' i h0 l, if_neg a]
  by_cases b : atB p i ≠ 92
  · rw [if_pos b, if_pos b]; exact ⟨rfl, by simp only; omega⟩
  rw [if_neg b] at hc ⊢
  rw [if_neg b]
  by_cases c : atB p (i + 1) < 0 ∨ digB (atB p (i + 1)) = true ∨ letB (atB p (i + 1)) = true
  · rw [if_pos c] at hc; simp at hc
  rw [if_neg c] at hc ⊢
  have l2 := (atB_ge p (i + 1) (by omega)).2
  rw [show i + s + 1 = i + 1 + s by omega, h.at' (i + 1) (by omega) l2, if_neg c]
  exact ⟨rfl, by simp only; omega⟩
theorem item_sh (h : Stands p p' s) (i : Int) (h0 : 0 ≤ i) (hc : (item p i).2.2.1 ≠ 0) : item p' (i + s) = item p i ∧ i + (item p i).2.2.1 ≤ p.size := by
  unfold item at hc ⊢
  by_cases a : atB p i = 92 ∧ (atB p (i + 1) = 100 ∨ atB p (i + 1) = 119)
  · have l := (atB_ge p i (by omega)).2
    have l2 := (atB_ge p (i + 1) (by omega)).2
    rw [if_pos a, show i + s + 1 = i + 1 + s by omega, h.at' i h0 l, h.at' (i + 1) (by omega) l2, if_pos a]
    exact ⟨rfl, by simp only; omega⟩
  rw [if_neg a] at hc ⊢
  by_cases b : (classByte p i).2 = 0
  · rw [if_pos b] at hc; simp at hc
  obtain ⟨k1, k2⟩ := classByte_sh h i h0 b
  have kb := classByte_bd p i
  have l : i < p.size := by omega
  have na : ¬ (atB p' (i + s) = 92 ∧ (atB p' (i + s + 1) = 100 ∨ atB p' (i + s + 1) = 119)) := by
    rw [h.at' i h0 l, show i + s + 1 = i + 1 + s by omega]
    rintro ⟨x, y⟩
    have e1 := at_same h (i + 1) (by omega) (by omega) 100 (by omega) (by omega)
    have e2 := at_same h (i + 1) (by omega) (by omega) 119 (by omega) (by omega)
    exact a ⟨x, y.elim (fun y => Or.inl (e1.1 y)) (fun y => Or.inr (e2.1 y))⟩
  rw [if_neg na, k1]
  rw [if_neg b] at hc ⊢
  generalize hK : classByte p i = K at *
  rw [show i + s + K.2 = i + K.2 + s by omega, if_neg b]
  have q := at_same h (i + K.2) (by omega) k2 45 (by omega) (by omega)
  by_cases c : atB p (i + K.2) ≠ 45
  · rw [if_pos c, if_pos (fun x => c (q.1 x))]
    exact ⟨rfl, by simp only; omega⟩
  have c' : atB p (i + K.2) = 45 := by omega
  rw [if_neg c] at hc ⊢
  rw [if_neg (fun x => x (q.2 c'))]
  by_cases d : (classByte p (i + K.2 + 1)).2 = 0 ∨ (classByte p (i + K.2 + 1)).1 < K.1
  · rw [if_pos d] at hc; simp at hc
  obtain ⟨m1, m2⟩ := classByte_sh h (i + K.2 + 1) (by omega) (fun x => d (Or.inl x))
  rw [show i + K.2 + s + 1 = i + K.2 + 1 + s by omega, m1, if_neg d]
  exact ⟨rfl, by simp only; omega⟩
theorem classFrom_sh (h : Stands p p' s) : ∀ (f : Nat) (b : Int), (p.size : Int) - b < f → 0 ≤ b → classFrom p b ≠ -1 → classFrom p' (b + s) = classFrom p b + s ∧ ∀ c, inClass p' (b + s) (classFrom p b + s) c = inClass p b (classFrom p b) c
  | 0, b, hf, h0, hc => by rw [classFrom_step, if_pos (by omega)] at hc; exact absurd rfl hc
  | f + 1, b, hf, h0, hc => by
    have hbd := classFrom_bd p (((p.size : Int) - b + 1).toNat + 1) b (by omega) h0
    have ib := item_bd p b
    have st := classFrom_step p b
    have st' := classFrom_step p' (b + s)
    by_cases a : (p.size : Int) ≤ b
    · rw [if_pos a] at st; exact absurd st hc
    rw [if_neg a] at st
    rw [if_neg (by have := h.hi; omega)] at st'
    rw [h.at' b h0 (by omega)] at st'
    by_cases e : atB p b = 93
    · rw [if_pos e] at st st'
      rw [st, st']
      exact ⟨rfl, fun c => by rw [inClass_step p', if_pos (Int.le_refl _), inClass_step p, if_pos (Int.le_refl _)]⟩
    rw [if_neg e] at st st'
    by_cases z : (item p b).2.2.1 = 0
    · rw [if_pos z] at st; exact absurd st hc
    rw [if_neg z] at st
    obtain ⟨i1, i2⟩ := item_sh h b h0 z
    rw [i1, if_neg z, show b + s + (item p b).2.2.1 = b + (item p b).2.2.1 + s by omega] at st'
    have hc2 : classFrom p (b + (item p b).2.2.1) ≠ -1 := by rw [← st]; exact hc
    obtain ⟨r1, r2⟩ := classFrom_sh h f (b + (item p b).2.2.1) (by omega) (by omega) hc2
    have bd2 := classFrom_bd p (((p.size : Int) - b + 1).toNat + 1) (b + (item p b).2.2.1) (by omega) (by omega)
    rw [st', st]
    refine ⟨r1, fun c => ?_⟩
    have R := inClass_step p b (classFrom p (b + (item p b).2.2.1)) c
    have S := inClass_step p' (b + s) (classFrom p (b + (item p b).2.2.1) + s) c
    rw [if_neg (by omega), if_neg z] at R
    rw [if_neg (by omega), i1, if_neg z, show b + s + (item p b).2.2.1 = b + (item p b).2.2.1 + s by omega, r2] at S
    rw [S, R]
theorem all_of {a b a' b' : Int} (no : Bool) (h : ∀ c, inClass p' a' b' c = inClass p a b c) : all p' a' b' no = all p a b no := by
  unfold all allTo; simp only [h]

/-- A token, moved. -/
def mv (s : Int) (t : Tok) : Tok := { t with frm := t.frm + s, to := t.to + s }
theorem next_sh (h : Stands p p' s) (i : Int) (h0 : 0 ≤ i) (h1 : i < p.size) (hn : (nextT p i).2 = 0) : nextT p' (i + s) = (mv s (nextT p i).1, 0) ∧ i < (nextT p i).1.to ∧ (nextT p i).1.to ≤ p.size := by
  have e0 := h.at' i h0 h1
  unfold nextT at hn ⊢
  rw [e0]
  by_cases a1 : atB p i = 124
  · rw [if_pos a1, if_pos a1]; exact ⟨by simp [mv]; omega, by simp only; omega, by simp only; omega⟩
  rw [if_neg a1] at hn ⊢
  rw [if_neg a1]
  by_cases a2 : atB p i = 41
  · rw [if_pos a2, if_pos a2]; exact ⟨by simp [mv]; omega, by simp only; omega, by simp only; omega⟩
  rw [if_neg a2] at hn ⊢
  rw [if_neg a2]
  by_cases a3 : atB p i = 94
  · rw [if_pos a3, if_pos a3]; exact ⟨by simp [mv]; omega, by simp only; omega, by simp only; omega⟩
  rw [if_neg a3] at hn ⊢
  rw [if_neg a3]
  by_cases a4 : atB p i = 36
  · rw [if_pos a4, if_pos a4]; exact ⟨by simp [mv]; omega, by simp only; omega, by simp only; omega⟩
  rw [if_neg a4] at hn ⊢
  rw [if_neg a4]
  by_cases a5 : atB p i = 92
  · rw [if_pos a5] at hn ⊢
    rw [if_pos a5]
    have hk : (escape p i).2 = true := by
      cases x : (escape p i).2
      · rw [x] at hn; simp at hn
      · rfl
    have l2 : i + 1 < p.size := by
      unfold escape at hk
      by_cases b : atB p (i + 1) < 0
      · rw [if_pos b] at hk; simp at hk
      · exact (atB_ge p (i + 1) (by omega)).2
    have e1 := h.at' (i + 1) (by omega) l2
    have key : escape p' (i + s) = (mv s (escape p i).1, (escape p i).2) ∧ (escape p i).1.to = i + 2 := by
      unfold escape
      rw [show i + s + 1 = i + 1 + s by omega, e1]
      by_cases b : atB p (i + 1) < 0
      · rw [if_pos b, if_pos b]; exact ⟨by simp [mv]; omega, rfl⟩
      rw [if_neg b, if_neg b]
      by_cases c : atB p (i + 1) = 100 ∨ atB p (i + 1) = 119
      · rw [if_pos c, if_pos c]
        have hit : (item p i).2.2.1 ≠ 0 := by unfold item; rw [if_pos ⟨a5, c⟩]; simp
        have hit2 : (item p i).2.2.1 = 2 := by unfold item; rw [if_pos ⟨a5, c⟩]
        obtain ⟨i1, i2⟩ := item_sh h i h0 hit
        have ea : all p' (i + s) (i + s + 2) false = all p i (i + 2) false := all_of false (fun v => by
          have R := inClass_step p i (i + 2) v
          have S := inClass_step p' (i + s) (i + s + 2) v
          have R2 := inClass_step p (i + 2) (i + 2) v
          have S2 := inClass_step p' (i + s + 2) (i + s + 2) v
          rw [if_pos (Int.le_refl _)] at R2 S2
          rw [if_neg (by omega), if_neg hit, hit2, R2] at R
          rw [if_neg (by omega), i1, if_neg hit, hit2, S2] at S
          rw [S, R])
        rw [ea]
        exact ⟨by simp [mv]; omega, rfl⟩
      rw [if_neg c, if_neg c]
      split
      · exact ⟨by simp [mv]; omega, rfl⟩
      · exact ⟨by simp [mv]; omega, rfl⟩
    rw [key.1, key.2, hk]
    exact ⟨rfl, by omega, by omega⟩
  rw [if_neg a5] at hn ⊢
  rw [if_neg a5]
  by_cases a6 : atB p i = 91
  · rw [if_pos a6] at hn ⊢
    rw [if_pos a6]
    have hk : (classT p i).2 = true := by
      cases x : (classT p i).2
      · rw [x] at hn; simp at hn
      · rfl
    have hA : classA p' (i + s) = classA p i + s := by
      unfold classA
      rw [show i + s + 1 = i + 1 + s by omega]
      have e := at_same h (i + 1) (by omega) (by omega) 94 (by omega) (by omega)
      by_cases b : atB p (i + 1) = 94
      · rw [if_pos b, if_pos (e.2 b)]; omega
      · rw [if_neg b, if_neg (fun x => b (e.1 x))]
    have hA0 : i < classA p i := by unfold classA; split <;> omega
    unfold classT at hk ⊢
    by_cases b : classFrom p (classA p i) = -1 ∨ classFrom p (classA p i) = classA p i
    · rw [if_pos b] at hk; simp at hk
    obtain ⟨c1, c2⟩ := classFrom_sh h (((p.size : Int) - classA p i + 1).toNat + 1) (classA p i) (by omega) (by omega) (fun x => b (Or.inl x))
    have bd := classFrom_bd p (((p.size : Int) - classA p i + 1).toNat + 1) (classA p i) (by omega) (by omega)
    have en : decide (atB p' (i + s + 1) = 94) = decide (atB p (i + 1) = 94) := by
      rw [show i + s + 1 = i + 1 + s by omega]
      have e := at_same h (i + 1) (by omega) (by omega) 94 (by omega) (by omega)
      exact decide_eq_decide.2 e
    have hs0 := h.lo
    rw [if_neg b, hA, c1, if_neg (by omega), en, all_of _ c2]
    exact ⟨by simp [mv]; omega, by simp only; omega, by simp only; omega⟩
  rw [if_neg a6] at hn ⊢
  rw [if_neg a6]
  by_cases a7 : atB p i = 40
  · rw [if_pos a7] at hn ⊢
    rw [if_pos a7]
    have hk : (opening p i).2 = true := by
      cases x : (opening p i).2
      · rw [x] at hn; simp at hn
      · rfl
    unfold opening at hk ⊢
    rw [show i + s + 1 = i + 1 + s by omega, show i + s + 2 = i + 2 + s by omega]
    have e := at_same h (i + 1) (by omega) (by omega) 63 (by omega) (by omega)
    by_cases b : atB p (i + 1) ≠ 63
    · rw [if_pos b, if_pos (fun x => b (e.1 x))]
      exact ⟨by simp [mv], by simp only; omega, by simp only; omega⟩
    have b' : atB p (i + 1) = 63 := by omega
    have l1 := at_lt _ 63 (by omega) (by omega) b'
    rw [if_neg b] at hk ⊢
    rw [if_neg (fun x => x (e.2 b'))]
    have f1 := at_same h (i + 2) (by omega) (by omega) 58 (by omega) (by omega)
    have f2 := at_same h (i + 2) (by omega) (by omega) 62 (by omega) (by omega)
    have f3 := at_same h (i + 2) (by omega) (by omega) 61 (by omega) (by omega)
    have f4 := at_same h (i + 2) (by omega) (by omega) 33 (by omega) (by omega)
    by_cases c1 : atB p (i + 2) = 58
    · have := at_lt _ 58 (by omega) (by omega) c1
      rw [if_pos c1, if_pos (f1.2 c1)]; exact ⟨by simp [mv]; omega, by simp only; omega, by simp only; omega⟩
    rw [if_neg c1] at hk ⊢
    rw [if_neg (fun x => c1 (f1.1 x))]
    by_cases c2 : atB p (i + 2) = 62
    · have := at_lt _ 62 (by omega) (by omega) c2
      rw [if_pos c2, if_pos (f2.2 c2)]; exact ⟨by simp [mv]; omega, by simp only; omega, by simp only; omega⟩
    rw [if_neg c2] at hk ⊢
    rw [if_neg (fun x => c2 (f2.1 x))]
    by_cases c3 : atB p (i + 2) = 61
    · have := at_lt _ 61 (by omega) (by omega) c3
      rw [if_pos c3, if_pos (f3.2 c3)]; exact ⟨by simp [mv]; omega, by simp only; omega, by simp only; omega⟩
    rw [if_neg c3] at hk ⊢
    rw [if_neg (fun x => c3 (f3.1 x))]
    by_cases c4 : atB p (i + 2) = 33
    · have := at_lt _ 33 (by omega) (by omega) c4
      rw [if_pos c4, if_pos (f4.2 c4)]; exact ⟨by simp [mv]; omega, by simp only; omega, by simp only; omega⟩
    · rw [if_neg c4] at hk; simp at hk
  rw [if_neg a7] at hn ⊢
  rw [if_neg a7]
  by_cases a8 : atB p i = 42 ∨ atB p i = 43 ∨ atB p i = 63 ∨ atB p i = 123
  · rw [if_pos a8] at hn ⊢
    rw [if_pos a8]
    have hk : (repeatT p i).2 = true := by
      cases x : (repeatT p i).2
      · rw [x] at hn; simp at hn
      · rfl
    obtain ⟨m1, m2, m3⟩ := mood_sh h (i + 1) (by omega) (by omega)
    unfold repeatT at hk ⊢
    rw [e0, show i + s + 1 = i + 1 + s by omega, m1]
    by_cases b1 : atB p i = 43
    · rw [if_pos b1, if_pos b1]; exact ⟨by simp [mv], by simp only; omega, by simp only; omega⟩
    rw [if_neg b1] at hk ⊢
    rw [if_neg b1]
    by_cases b2 : atB p i = 63
    · rw [if_pos b2, if_pos b2]; exact ⟨by simp [mv], by simp only; omega, by simp only; omega⟩
    rw [if_neg b2] at hk ⊢
    rw [if_neg b2]
    by_cases b3 : atB p i = 123
    · rw [if_pos b3] at hk ⊢
      rw [if_pos b3]
      have hc : (count p i).2.2.2 = true := by
        cases x : (count p i).2.2.2
        · rw [x] at hk; simp at hk
        · rfl
      obtain ⟨k1, k2, k3⟩ := count_sh h i h0 h1 hc
      obtain ⟨n1, n2, n3⟩ := mood_sh h (count p i).2.2.1 (by omega) k2
      rw [k1, hc]
      simp only [if_true]
      rw [n1]
      exact ⟨by simp [mv], by omega, by omega⟩
    · rw [if_neg b3, if_neg b3]; exact ⟨by simp [mv], by simp only; omega, by simp only; omega⟩
  rw [if_neg a8] at hn ⊢
  rw [if_neg a8]
  by_cases a9 : atB p i = 46
  · rw [if_pos a9, if_pos a9]
    rw [all_of (p := p) (a := i) (b := i) true (fun c => by rw [inClass_step p', if_pos (Int.le_refl _), inClass_step p, if_pos (Int.le_refl _)])]
    exact ⟨by simp [mv]; omega, by simp only; omega, by simp only; omega⟩
  · rw [if_neg a9, if_neg a9]; exact ⟨by simp [mv]; omega, by simp only; omega, by simp only; omega⟩
end
end Mt
/- The tokens of a pattern without capturing groups, as pieces that are read one behind the other; its code. -/
set_option linter.unusedVariables false
namespace Mt

/-- From i to j these tokens are read. -/
inductive Lex (p : ByteArray) : Int → List Tok → Int → Prop
  | nil (i : Int) : Lex p i [] i
  | cons {i j : Int} {t : Tok} {l : List Tok} (h0 : 0 ≤ i) (h1 : i < p.size) (ht : nextT p i = (t, 0)) (hl : Lex p t.to l j) : Lex p i (t :: l) j
theorem Lex.app {p : ByteArray} {i j k : Int} {l m : List Tok} (h : Lex p i l j) (g : Lex p j m k) : Lex p i (l ++ m) k := by
  induction h with
  | nil i => exact g
  | cons h0 h1 ht hl ih => exact Lex.cons h0 h1 ht (ih g)
theorem Lex.one {p : ByteArray} {i : Int} {t : Tok} (h0 : 0 ≤ i) (h1 : i < p.size) (ht : nextT p i = (t, 0)) : Lex p i [t] t.to := Lex.cons h0 h1 ht (Lex.nil _)
theorem Lex.move {p p' : ByteArray} {s : Int} (h : Stands p p' s) {i j : Int} {l : List Tok} (g : Lex p i l j) : Lex p' (i + s) (l.map (mv s)) (j + s) := by
  induction g with
  | nil i => exact Lex.nil _
  | @cons i j t l h0 h1 ht hl ih =>
    have hn := next_sh h i h0 h1 (by rw [ht])
    rw [ht] at hn
    refine Lex.cons (by have := h.lo; omega) (by have := h.hi; omega) hn.1 ?_
    exact ih
/-- Behind l these may stand, and none opens a capturing group. -/
def MayAll : List Tok → List Tok → Prop
  | _, [] => True
  | l, t :: r => may l t = 0 ∧ isCap t = false ∧ MayAll (l ++ [t]) r
theorem MayAll.app : ∀ {l a b : List Tok}, MayAll l a → MayAll (l ++ a) b → MayAll l (a ++ b)
  | l, [], b, _, h => by simpa using h
  | l, t :: r, b, h, g => ⟨h.1, h.2.1, MayAll.app h.2.2 (by simpa using g)⟩
/-- No parenthesis opens a capturing group. -/
def NoCap (p : ByteArray) : Prop := ∀ i : Int, atB p i = 40 → atB p (i + 1) = 63
theorem next_nocap {p : ByteArray} (h : NoCap p) (i : Int) (hn : (nextT p i).2 = 0) : isCap (nextT p i).1 = false := by
  unfold nextT at hn ⊢
  split
  · rfl
  split
  · rfl
  split
  · rfl
  split
  · rfl
  split
  · unfold escape; repeat' split
    all_goals rfl
  split
  · unfold classT; repeat' split
    all_goals rfl
  split
  · rename_i a b c d e f g
    rw [if_neg a, if_neg b, if_neg c, if_neg d, if_neg e, if_neg f, if_pos g] at hn
    have hq := h i g
    unfold opening at hn ⊢
    rw [if_neg (by omega)] at hn ⊢
    split
    · rfl
    split
    · rfl
    split
    · rfl
    split
    · rfl
    · rename_i x y z u
      rw [if_neg x, if_neg y, if_neg z, if_neg u] at hn; simp at hn
  split
  · unfold repeatT; repeat' split
    all_goals rfl
  split
  · rfl
  · rfl
theorem read_lex {p : ByteArray} (hc : NoCap p) : ∀ (f : Nat) (l : List Tok) (i : Int), 0 ≤ i → i ≤ p.size → (p.size : Int) - i < f → (readOn p l i).2.1 = 0 → ∃ m, Lex p i m p.size ∧ MayAll l m ∧ (readOn p l i).1 = l ++ m
  | 0, l, i, h0, h1, hf, he => by omega
  | f + 1, l, i, h0, h1, hf, he => by
    rw [readOn_step p l i h0 h1] at he ⊢
    by_cases a : (p.size : Int) ≤ i
    · rw [if_pos a]
      have : i = p.size := by omega
      subst this
      exact ⟨[], Lex.nil _, trivial, by simp⟩
    rw [if_neg a] at he ⊢
    by_cases b : (nextT p i).2 ≠ 0
    · rw [if_pos b] at he; exact absurd he b
    rw [if_neg b] at he ⊢
    by_cases c : may l (nextT p i).1 ≠ 0
    · rw [if_pos c] at he; exact absurd he c
    rw [if_neg c] at he ⊢
    have hz : (nextT p i).2 = 0 := by omega
    have ht := nextT_to p i h0 (by omega) hz
    have hk := next_nocap hc i hz
    have hj : joined l (nextT p i).1 = (nextT p i).1 := by unfold joined; rw [if_neg (by rw [hk]; simp)]
    rw [hj] at he ⊢
    obtain ⟨m, m1, m2, m3⟩ := read_lex hc f _ _ (by omega) ht.2 (by omega) he
    refine ⟨(nextT p i).1 :: m, Lex.cons h0 (by omega) (by rw [← hz]) m1, ⟨by omega, hk, m2⟩, ?_⟩
    rw [m3]; simp
theorem lex_read {p : ByteArray} {i j : Int} {m : List Tok} (h : Lex p i m j) : ∀ l, MayAll l m → j = p.size → 0 ≤ j → readOn p l i = (l ++ m, 0, (p.size : Int)) := by
  induction h with
  | nil i =>
    intro l _ e h0
    rw [readOn_step p l i h0 (by omega), if_pos (by omega), e]; simp
  | @cons i j t r h0 h1 ht hl ih =>
    intro l hm e hj
    rw [readOn_step p l i h0 (by omega), if_neg (by omega), ht, if_neg (by simp), if_neg (by rw [hm.1]; simp)]
    have hjn : joined l t = t := by unfold joined; rw [if_neg (by rw [hm.2.1]; simp)]
    rw [hjn, ih _ hm.2.2 e hj]; simp
/-- The code of a pattern whose tokens are those of a forest. -/
def codeOf (r : Re) : List Ins × Int := if 300 < r.len + 1 then ([], 12) else (r.code 0 0 ++ [⟨13, 0, 0, []⟩], 0)
theorem code_of (p : ByteArray) (T : Fs) (hp : p.size ≤ 64) (hw : T.wf) (hl : Lex p 0 T.flat p.size) (hm : MayAll [] T.flat) (ho : ¬ 0 < opened T.flat) (hn : T.flat.length ≤ 64) : codeR p = codeOf T.re := by
  have hr := lex_read hl [] hm rfl (by omega)
  rw [List.nil_append] at hr
  have ht : tokens p = (T.flat, 0, 0) := by
    unfold tokens
    rw [if_neg (by omega), readOn_start p hp, hr, if_neg (by simp), if_neg ho]
  have e := treeOf_flat T hw hn
  have hc := coded_len T.flat
  rw [e] at hc
  have hk : checkR p = if 300 < (coded T.flat).length then (12, 0) else (0, 0) := by unfold checkR; rw [ht]; simp
  unfold codeR codeOf
  rw [hk, ht]
  by_cases x : 300 < T.re.len + 1
  · rw [if_pos x, if_pos (hc.2 x)]; simp
  · have hlen := hc.1 (by omega)
    have := (coded_tree T.flat (by omega)).1
    rw [e] at this
    rw [if_neg x, if_neg (show ¬ 300 < (coded T.flat).length by omega)]
    simp [this]
/-- A pattern's own tokens, if it opens no capturing group. -/
theorem tokens_lex (p : ByteArray) (hc : NoCap p) (h : (checkR p).1 = 0) : ∃ f : Fs, f.wf ∧ f.ok ∧ Lex p 0 f.flat p.size ∧ MayAll [] f.flat ∧ opened f.flat = 0 ∧ f.flat.length ≤ 64 ∧ p.size ≤ 64 := by
  have h0 : (tokens p).2.1 = 0 := by
    unfold checkR at h
    split at h
    · rename_i x; exact absurd h x
    · rename_i x; simpa using x
  obtain ⟨f, hw, hok, hfl, _⟩ := forest p h0
  have hs := (tokens_small p).2
  have hv := tokens_valid p h0
  have ho := valid_opened hv.1 (tokens p).1.length (Nat.le_refl _)
  rw [List.take_length] at ho
  unfold tokens at h0
  by_cases a : 64 < p.size
  · rw [if_pos a] at h0; simp at h0
  rw [if_neg a] at h0
  by_cases b : (readFrom p 65 [] 0).2.1 ≠ 0
  · rw [if_pos b] at h0; exact absurd h0 b
  rw [readOn_start p (by omega)] at b
  obtain ⟨m, m1, m2, m3⟩ := read_lex hc (p.size + 1) [] 0 (by omega) (by omega) (by omega) (by omega)
  have e : (tokens p).1 = m := by
    have hv2 := hv.2
    unfold tokens at hv2 ⊢
    rw [if_neg a, readOn_start p (by omega), if_neg b] at hv2 ⊢
    by_cases c : 0 < opened (readOn p [] 0).1
    · rw [readOn_start p (by omega), if_neg b, if_pos c] at h0; simp at h0
    · rw [if_neg c]; rw [m3]; simp
  rw [e] at hfl hs ho
  have hv2 := hv.2
  rw [e] at hv2
  exact ⟨f, hw, hok, by rw [← hfl]; exact m1, by rw [← hfl]; exact m2, by rw [← hfl]; omega, by rw [← hfl]; exact hs, by omega⟩
end Mt
/- Patterns put together out of pieces: their tokens and whether they may stand. -/
set_option linter.unusedVariables false
namespace Mt

theorem mv_kind (s : Int) (t : Tok) : (mv s t).kind = t.kind ∧ (mv s t).n = t.n ∧ (mv s t).m = t.m ∧ (mv s t).how = t.how ∧ (mv s t).set = t.set ∧ isCap (mv s t) = isCap t ∧ delta (mv s t) = delta t := ⟨rfl, rfl, rfl, rfl, rfl, rfl, rfl⟩
theorem opened_mv (s : Int) : ∀ l : List Tok, opened (l.map (mv s)) = opened l
  | [] => rfl
  | t :: r => by simp only [List.map_cons, opened, opened_mv s r]; rfl
/-- How many groups are opened. -/
def opens : List Tok → Int
  | [] => 0
  | t :: r => (if t.kind = 6 then 1 else 0) + opens r
theorem opens_nn : ∀ l, 0 ≤ opens l
  | [] => Int.le_refl _
  | t :: r => by have := opens_nn r; simp only [opens]; split <;> omega
theorem next_open' {p : ByteArray} (h : NoCap p) (i : Int) (hn : (nextT p i).2 = 0) (hk : (nextT p i).1.kind = 6) : (nextT p i).1.to = i + 3 := by
  unfold nextT at hn hk ⊢
  by_cases a1 : atB p i = 124
  · rw [if_pos a1] at hk; simp at hk
  rw [if_neg a1] at hn hk ⊢
  by_cases a2 : atB p i = 41
  · rw [if_pos a2] at hk; simp at hk
  rw [if_neg a2] at hn hk ⊢
  by_cases a3 : atB p i = 94
  · rw [if_pos a3] at hk; simp at hk
  rw [if_neg a3] at hn hk ⊢
  by_cases a4 : atB p i = 36
  · rw [if_pos a4] at hk; simp at hk
  rw [if_neg a4] at hn hk ⊢
  by_cases a5 : atB p i = 92
  · rw [if_pos a5] at hk
    unfold escape at hk
    repeat' split at hk
    all_goals simp at hk
  rw [if_neg a5] at hn hk ⊢
  by_cases a6 : atB p i = 91
  · rw [if_pos a6] at hk
    unfold classT at hk
    split at hk <;> simp at hk
  rw [if_neg a6] at hn hk ⊢
  by_cases a7 : atB p i = 40
  · rw [if_pos a7] at hn hk ⊢
    have hq := h i a7
    unfold opening at hn ⊢
    rw [if_neg (by omega)] at hn ⊢
    repeat' split
    all_goals rfl
  rw [if_neg a7] at hn hk ⊢
  by_cases a8 : atB p i = 42 ∨ atB p i = 43 ∨ atB p i = 63 ∨ atB p i = 123
  · rw [if_pos a8] at hk
    unfold repeatT at hk
    repeat' split at hk
    all_goals simp at hk
  rw [if_neg a8] at hn hk ⊢
  split at hk <;> simp at hk
theorem lex_opens {p : ByteArray} (hc : NoCap p) {i j : Int} {m : List Tok} (h : Lex p i m j) : 3 * opens m ≤ j - i ∧ i ≤ j := by
  induction h with
  | nil i => simp [opens]
  | @cons i j t l h0 h1 ht hl ih =>
    have hn := nextT_to p i h0 h1 (by rw [ht])
    rw [ht] at hn
    simp only [opens]
    split
    · rename_i k
      have := next_open' hc i (by rw [ht]) (by rw [ht]; exact k)
      rw [ht] at this
      simp only at this
      omega
    · simp only at hn; omega
theorem closed_none : ∀ (l : List Tok) (k : Int) (r : List Tok) (j : Nat), (∀ t ∈ r, isCap t = false) → closedFrom l k r j = false
  | l, k, [], j, _ => rfl
  | l, k, t :: r, j, h => by
    simp only [closedFrom]
    rw [if_neg (by rw [h t (List.mem_cons_self ..)]; simp), closed_none l k r _ (fun t ht => h t (List.mem_cons_of_mem _ ht))]
theorem ends_snoc (l : List Tok) (t : Tok) : atomEnds (l ++ [t]) = decide (t.kind = 1 ∨ t.kind = 2 ∨ t.kind = 3 ∨ t.kind = 4 ∨ t.kind = 7) := by
  unfold atomEnds; simp
theorem opened_one (l : List Tok) (t : Tok) : opened (l ++ [t]) = opened l + delta t := by rw [opened_append]; simp [opened]
theorem mayAll_move (s : Int) : ∀ (m l1 l0 : List Tok), MayAll l1 m → (∀ t ∈ l1, isCap t = false) → 0 ≤ opened l1 → opened l1 + opens m ≤ 4 → opened l1 ≤ opened l0 → opened l0 ≤ opened l1 + 5 → (atomEnds l1 = true → atomEnds l0 = true) → MayAll l0 (m.map (mv s))
  | [], _, _, _, _, _, _, _, _, _ => trivial
  | t :: r, l1, l0, ⟨h1, h2, h3⟩, hc, o1, o2, o3, o4, he => by
    have hn := opens_nn r
    have hd : (t.kind = 6 → delta t = 1) ∧ (t.kind = 7 → delta t = -1) ∧ (t.kind ≠ 6 → t.kind ≠ 7 → delta t = 0) := by
      unfold delta
      refine ⟨fun x => by rw [if_pos x], fun x => by rw [if_neg (by omega), if_pos x], fun x y => by rw [if_neg x, if_neg y]⟩
    have h4 : ¬ (t.kind = 6 ∧ t.how = 4) := by unfold isCap at h2; simpa using h2
    have hm : may l0 (mv s t) = 0 ∧ (t.kind = 7 → 1 ≤ opened l1) ∧ (t.kind = 6 → opened l1 ≤ 3) := by
      unfold may at h1 ⊢
      simp only [(mv_kind s t).1, (mv_kind s t).2.1, (mv_kind s t).2.2.2.1]
      simp only [opens] at o2
      by_cases k2 : t.kind = 2
      · rw [if_pos k2] at h1
        have : closed l1 t.n = false := closed_none _ _ _ _ hc
        rw [this] at h1; simp at h1
      rw [if_neg k2] at h1 ⊢
      by_cases k8 : t.kind = 8
      · rw [if_pos k8] at h1 ⊢
        have : atomEnds l1 = true := by
          cases x : atomEnds l1
          · rw [x] at h1; simp at h1
          · rfl
        rw [he this]
        exact ⟨rfl, fun _ => by omega, fun _ => by omega⟩
      rw [if_neg k8] at h1 ⊢
      by_cases k6 : t.kind = 6
      · rw [if_pos k6] at h1 ⊢
        rw [if_pos k6] at o2
        rw [if_neg (by omega), if_neg (by omega)]
        exact ⟨rfl, fun _ => by omega, fun _ => by omega⟩
      rw [if_neg k6] at h1 ⊢
      by_cases k7 : t.kind = 7
      · rw [if_pos k7] at h1 ⊢
        have : opened l1 ≠ 0 := fun x => by rw [if_pos x] at h1; simp at h1
        rw [if_neg (by omega)]
        exact ⟨rfl, fun _ => by omega, fun _ => by omega⟩
      · rw [if_neg k7]
        exact ⟨rfl, fun _ => by omega, fun _ => by omega⟩
    refine ⟨hm.1, h2, mayAll_move s r (l1 ++ [t]) (l0 ++ [mv s t]) h3 ?_ ?_ ?_ ?_ ?_ ?_⟩
    · intro u hu
      rcases List.mem_append.1 hu with x | x
      · exact hc u x
      · simp at x; subst x; exact h2
    · rw [opened_one]
      by_cases k7 : t.kind = 7
      · have := hm.2.1 k7; have := hd.2.1 k7; omega
      · by_cases k6 : t.kind = 6
        · have := hd.1 k6; omega
        · have := hd.2.2 k6 k7; omega
    · rw [opened_one]
      simp only [opens] at o2
      by_cases k6 : t.kind = 6
      · rw [if_pos k6] at o2; have := hd.1 k6; omega
      · rw [if_neg k6] at o2
        by_cases k7 : t.kind = 7
        · have := hd.2.1 k7; omega
        · have := hd.2.2 k6 k7; omega
    · rw [opened_one, opened_one, (mv_kind s t).2.2.2.2.2.2]; omega
    · rw [opened_one, opened_one, (mv_kind s t).2.2.2.2.2.2]; omega
    · rw [ends_snoc, ends_snoc, (mv_kind s t).1]; exact fun x => x

/-- The forest, moved. -/
def mvF (s : Int) : Fs → Fs
  | .nil => .nil
  | .bar t r => .bar (mv s t) (mvF s r)
  | .leaf t r k => .leaf (mv s t) (r.map (mv s)) (mvF s k)
  | .grp t i c r k => .grp (mv s t) (mvF s i) (mv s c) (r.map (mv s)) (mvF s k)
theorem mvF_flat (s : Int) : ∀ f : Fs, (mvF s f).flat = f.flat.map (mv s)
  | .nil => rfl
  | .bar t r => by simp [mvF, Fs.flat, mvF_flat s r]
  | .leaf t r k => by cases r <;> simp [mvF, Fs.flat, mvF_flat s k]
  | .grp t i c r k => by cases r <;> simp [mvF, Fs.flat, mvF_flat s k, mvF_flat s i]
theorem mvF_wf (s : Int) : ∀ f : Fs, f.wf → (mvF s f).wf
  | .nil, _ => trivial
  | .bar t r, h => ⟨h.1, mvF_wf s r h.2⟩
  | .leaf t r k, h => ⟨h.1, fun q hq => by
      cases r with
      | none => simp at hq
      | some u => simp at hq; subst hq; exact h.2.1 u rfl, mvF_wf s k h.2.2⟩
  | .grp t i c r k, h => ⟨h.1, h.2.1, mvF_wf s i h.2.2.1, fun q hq => by
      cases r with
      | none => simp at hq
      | some u => simp at hq; subst hq; exact h.2.2.2.1 u rfl, mvF_wf s k h.2.2.2.2⟩
theorem part_mv (s : Int) (r : Option Tok) (x : Re) : part (r.map (mv s)) x = part r x := by
  cases r <;> rfl
theorem mvF_both (s : Int) : ∀ f : Fs, (mvF s f).both = f.both
  | .nil => rfl
  | .bar t r => by simp only [mvF, Fs.both, mvF_both s r]
  | .leaf t r k => by simp only [mvF, Fs.both, mvF_both s k, part_mv]; rfl
  | .grp t i c r k => by simp only [mvF, Fs.both, mvF_both s k, mvF_both s i, part_mv]; rfl
end Mt
