import Derived.Test.YtebpgfodelggoaaC32
/- The forest of a pattern, in memory as the program's builder leaves it. -/
set_option linter.unusedVariables false
namespace Mt

theorem count_le (p : ByteArray) (i : Int) (h : (count p i).2.2.2 = true) : (count p i).2.1 = -1 ∨ (count p i).1 ≤ (count p i).2.1 := by
  rcases count_cases p i with ⟨a1, e⟩ | ⟨a1, a2, e⟩ | ⟨a1, a2, ⟨a3, e⟩ | ⟨a3, a4, e⟩ | ⟨a3, a4, ⟨a5, e⟩ | ⟨a5, ⟨a6, e⟩ | ⟨a6, a7, e⟩ | ⟨a6, a7, a8, e⟩ | ⟨a6, a7, a8, a9, e⟩ | ⟨a6, a7, a8, a9, e⟩⟩⟩⟩
  · rw [e]; exact Or.inr (Int.le_refl _)
  · rw [e]; exact Or.inr (Int.le_refl _)
  · rw [e]; exact Or.inr (Int.le_refl _)
  · rw [e]; exact Or.inr (Int.le_refl _)
  · rw [e]; exact Or.inl rfl
  · rw [e]; exact Or.inr (Int.le_refl _)
  · rw [e]; exact Or.inr (Int.le_refl _)
  · rw [e]; exact Or.inr (Int.le_refl _)
  · rw [e]; exact Or.inr (Int.le_refl _)
  · rw [e]
    simp only [decide_eq_false_iff_not] at a8
    exact Or.inr (by show (number p (i + 1)).1 ≤ (number p (i + 1 + (number p (i + 1)).2 + 1)).1; omega)
theorem repeat_le (p : ByteArray) (i : Int) (h : (repeatT p i).2 = true) : (repeatT p i).1.m = -1 ∨ (repeatT p i).1.n ≤ (repeatT p i).1.m := by
  unfold repeatT at h ⊢
  by_cases h1 : atB p i = 43
  · rw [if_pos h1]; exact Or.inl rfl
  · rw [if_neg h1] at h ⊢
    by_cases h2 : atB p i = 63
    · rw [if_pos h2]; exact Or.inr (by simp)
    · rw [if_neg h2] at h ⊢
      by_cases h3 : atB p i = 123
      · rw [if_pos h3] at h ⊢
        cases hc : (count p i).2.2.2
        · rw [hc] at h; simp at h
        · rw [if_pos rfl]; exact count_le p i hc
      · rw [if_neg h3]; exact Or.inl rfl
theorem escape_kind (p : ByteArray) (i : Int) : (escape p i).1.kind ≠ 8 := by
  rcases escape_cases p i with ⟨a1, e⟩ | ⟨a0, a1, ⟨a2, e⟩ | ⟨a2, a3, e⟩ | ⟨a2, a3, a4, a5, a6, a7, e⟩ | ⟨a2, a3, a4, e⟩⟩ <;> rw [e] <;> simp
theorem opening_kind (p : ByteArray) (i : Int) : (opening p i).1.kind ≠ 8 := by
  rcases opening_cases p i with ⟨a1, e⟩ | ⟨a1, ⟨a2, e⟩ | ⟨a2, a3, e⟩ | ⟨a2, a3, a4, e⟩ | ⟨a2, a3, a4, a5, e⟩ | ⟨a2, a3, a4, a5, e⟩⟩ <;> rw [e] <;> simp
theorem class_kind (p : ByteArray) (i : Int) : (classT p i).1.kind ≠ 8 := by
  unfold classT; split <;> simp
theorem nextT_rep (p : ByteArray) (i : Int) (h : (nextT p i).2 = 0) (hk : (nextT p i).1.kind = 8) : (nextT p i).1.m = -1 ∨ (nextT p i).1.n ≤ (nextT p i).1.m := by
  unfold nextT at h hk ⊢
  by_cases h1 : atB p i = 124
  · rw [if_pos h1] at hk; simp at hk
  rw [if_neg h1] at h hk ⊢
  by_cases h2 : atB p i = 41
  · rw [if_pos h2] at hk; simp at hk
  rw [if_neg h2] at h hk ⊢
  by_cases h3 : atB p i = 94
  · rw [if_pos h3] at hk; simp at hk
  rw [if_neg h3] at h hk ⊢
  by_cases h4 : atB p i = 36
  · rw [if_pos h4] at hk; simp at hk
  rw [if_neg h4] at h hk ⊢
  by_cases h5 : atB p i = 92
  · rw [if_pos h5] at hk; exact absurd hk (escape_kind p i)
  rw [if_neg h5] at h hk ⊢
  by_cases h6 : atB p i = 91
  · rw [if_pos h6] at hk; exact absurd hk (class_kind p i)
  rw [if_neg h6] at h hk ⊢
  by_cases h7 : atB p i = 40
  · rw [if_pos h7] at hk; exact absurd hk (opening_kind p i)
  rw [if_neg h7] at h hk ⊢
  by_cases h8 : atB p i = 42 ∨ atB p i = 43 ∨ atB p i = 63 ∨ atB p i = 123
  · rw [if_pos h8] at h ⊢
    exact repeat_le p i (by cases x : (repeatT p i).2 <;> simp [x] at h ⊢)
  rw [if_neg h8] at h hk ⊢
  by_cases h9 : atB p i = 46
  · rw [if_pos h9] at hk; simp at hk
  · rw [if_neg h9] at hk; simp at hk
def repsLe (l : List Tok) : Prop := ∀ t ∈ l, t.kind = 8 → t.m = -1 ∨ t.n ≤ t.m
theorem readOn_reps (p : ByteArray) : ∀ (f : Nat) (l : List Tok) (i : Int), 0 ≤ i → i ≤ p.size → (p.size : Int) - i < f → repsLe l → repsLe (readOn p l i).1 := by
  intro f
  induction f with
  | zero => intro l i h0 h1 h2; omega
  | succ f ih =>
    intro l i h0 h1 h2 hl
    rw [readOn_step p l i h0 h1]
    by_cases a : (p.size : Int) ≤ i
    · rw [if_pos a]; exact hl
    rw [if_neg a]
    by_cases b : (nextT p i).2 ≠ 0
    · rw [if_pos b]; intro t ht; simp at ht
    rw [if_neg b]
    by_cases c : may l (nextT p i).1 ≠ 0
    · rw [if_pos c]; intro t ht; simp at ht
    rw [if_neg c]
    have hn := nextT_to p i h0 (by omega) (by omega)
    refine ih _ _ (by omega) (by omega) (by omega) (fun t ht hk => ?_)
    rcases List.mem_append.1 ht with ht | ht
    · exact hl t ht hk
    · simp at ht
      have jk := joined_kind l (nextT p i).1
      subst ht
      rw [jk.1] at hk
      have e : joined l (nextT p i).1 = (nextT p i).1 := jk.2.2.2.2.1 (by unfold isCap; simp [hk])
      rw [e]; exact nextT_rep p i (by omega) hk
theorem tokens_reps (p : ByteArray) (h : (tokens p).2.1 = 0) : repsLe (tokens p).1 := by
  by_cases hp : p.size ≤ 64
  · have hr := readOn_reps p ((p.size : Int) + 1).toNat [] 0 (by omega) (by omega) (by omega) (by intro t ht; simp at ht)
    unfold tokens at h ⊢
    rw [if_neg (by omega), readOn_start p hp] at h ⊢
    split
    · rename_i h1; rw [if_pos h1] at h; exact absurd h h1
    · split
      · intro t ht; simp at ht
      · exact hr
  · unfold tokens at h; rw [if_pos (by omega)] at h; simp at h
theorem fs_ok : ∀ f : Fs, f.wf → (∀ t ∈ f.flat, t.kind = 8 → repOk' t) → (∀ t ∈ f.flat, t.kind = 6 → 0 ≤ t.how ∧ t.how ≤ 4) → f.ok
  | .nil, _, _, _ => trivial
  | .bar t r, hw, h1, h2 => fs_ok r hw.2 (fun u hu => h1 u (by simp [Fs.flat, hu])) (fun u hu => h2 u (by simp [Fs.flat, hu]))
  | .leaf t r s, hw, h1, h2 => ⟨fun q hq => h1 q (by simp [Fs.flat, hq]) (hw.2.1 q hq), fs_ok s hw.2.2 (fun u hu => h1 u (by simp [Fs.flat, hu])) (fun u hu => h2 u (by simp [Fs.flat, hu]))⟩
  | .grp t i c r s, hw, h1, h2 => ⟨fun q hq => h1 q (by simp [Fs.flat, hq]) (hw.2.2.2.1 q hq), h2 t (by simp [Fs.flat]) hw.1, fs_ok i hw.2.2.1 (fun u hu => h1 u (by simp [Fs.flat, hu])) (fun u hu => h2 u (by simp [Fs.flat, hu])), fs_ok s hw.2.2.2.2 (fun u hu => h1 u (by simp [Fs.flat, hu])) (fun u hu => h2 u (by simp [Fs.flat, hu]))⟩
theorem nums_numd : ∀ (m : List Tok) (l : List Tok), Nums (l ++ m) → numd (captures l) m
  | [], l, h => trivial
  | t :: r, l, h => by
    have e : l ++ t :: r = (l ++ [t]) ++ r := by simp
    refine ⟨fun hc => ?_, ?_⟩
    · have := h l.length (by simp) (by rw [List.getD_eq_getElem?_getD, List.getElem?_append_right (Nat.le_refl _)]; simpa using hc)
      rw [List.getD_eq_getElem?_getD, List.getElem?_append_right (Nat.le_refl _)] at this
      simpa using this
    · have := nums_numd r (l ++ [t]) (by rw [← e]; exact h)
      rwa [captures_snoc] at this
theorem next_len (b : PB) (t : PT) : (b.next t).atoms.length ≤ b.atoms.length + 1 ∧ (b.next t).seqs.length ≤ b.seqs.length + 1 := by
  have ha : ∀ t, (b.addAtom t).atoms.length = b.atoms.length + 1 ∧ (b.addAtom t).seqs.length = b.seqs.length := fun t => by
    unfold PB.addAtom; split <;> simp
  unfold PB.next
  split
  · simp [PB.bar]
  split
  · have := ha t
    unfold PB.opening PB.into PB.number
    cases decide (t.group = 1) <;> simp [this.1, this.2]
  split
  · simp [PB.close]
  split
  · simp [PB.repeated]
  · have := ha t; omega
theorem run_len : ∀ (l : List Tok) (b : PB), (b.run l).atoms.length ≤ b.atoms.length + l.length ∧ (b.run l).seqs.length ≤ b.seqs.length + l.length
  | [], b => by simp [PB.run]
  | t :: r, b => by
    have h1 := next_len b (ptok t)
    have h2 := run_len r (b.next (ptok t))
    rw [PB.run_cons]; simp only [List.length_cons]; omega
theorem start_at : PB.start.At := ⟨by decide, Or.inl rfl, fun _ => rfl, rfl⟩
/-- A pattern that may be read: its forest stands in the builder. -/
theorem forest (p : ByteArray) (h : (tokens p).2.1 = 0) : ∃ f : Fs, f.wf ∧ f.ok ∧ (tokens p).1 = f.flat ∧ standsF (PB.start.run (tokens p).1) 0 0 f ((PB.start.run (tokens p).1).sAt 0).first ((PB.start.run (tokens p).1).sAt 0).next ∧ 0 < (PB.start.run (tokens p).1).seqs.length ∧
    (PB.start.run (tokens p).1).atoms.length ≤ 64 ∧ (PB.start.run (tokens p).1).seqs.length ≤ 65 ∧ (300 < (coded (tokens p).1).length ↔ 300 < f.re.len + 1) ∧ (f.re.len + 1 ≤ 300 → coded (tokens p).1 = f.re.code 0 0 ++ [⟨13, 0, 0, []⟩]) := by
  have hv := tokens_valid p h
  have hr := tokens_reps p h
  have hs := (tokens_small p).2
  obtain ⟨f, hw, e⟩ := valid_parse hv.1 hv.2
  have hN := nums_valid hv.1
  have hG : ∀ t ∈ (tokens p).1, tokG t := by
    intro t ht
    obtain ⟨k, hk, rfl⟩ := List.mem_iff_getElem.1 ht
    have := (hv.1 k hk).2.1
    rw [List.getD_eq_getElem?_getD, List.getElem?_eq_getElem hk] at this
    exact this
  rw [e] at hr hs hN hG ⊢
  have hok := fs_ok f hw (fun t ht hk => by
    obtain ⟨_, _, _, _, g5⟩ := hG t ht
    have := g5 hk
    have := hr t ht hk
    exact ⟨by omega, by omega, by omega, by omega, by omega, by omega, this⟩) (fun t ht hk => (hG t ht).2.2.2.1 hk)
  have hd := run_forest f hw (fun t ht hk => (hG t ht).2.2.2.1 hk) PB.start start_at (nums_numd f.flat [] (by simpa using hN))
  have hl := run_len f.flat PB.start
  have ht := treeOf_flat f hw hs
  have hc := coded_len f.flat
  rw [ht] at hc
  have st := hd.stands
  have e0 : PB.start.last = -1 := rfl
  rw [if_pos e0] at st
  refine ⟨f, hw, hok, rfl, standsF_mono (Nat.zero_le _) (Nat.zero_le _) (fun _ _ _ => rfl) (fun _ _ _ => rfl) (Nat.le_refl _) (Nat.le_refl _) _ _ _ st, ?_, ?_, ?_, ?_, fun h300 => ?_⟩
  · have := hd.sl; exact Nat.lt_of_lt_of_le (by decide) this
  · have := hl.1; simp [PB.start] at this ⊢; omega
  · have := hl.2; simp [PB.start] at this ⊢; omega
  · constructor
    · intro x; omega
    · intro x; exact hc.2 x
  · have := (coded_tree f.flat (by rw [hc.1 h300]; exact h300)).1
    rwa [ht] at this
end Mt
