import Derived.Test.YtebpgfodelggoabC12
import Derived.Test.YtebpgfodelggoabC06
import Derived.Test.YtebpgfodelggoabC04
/- How long the code of a tree is, plainly. -/
set_option linter.unusedVariables false
namespace Mt

theorem timesA_len (x : Re) : ∀ n, (timesA x n).len = n * x.len
  | 0 => by simp [timesA, Re.len]
  | n + 1 => by rw [timesA, Re.len, timesA_len x n, Nat.add_mul]; omega
/-- A repeat's numbers. -/
def repOk' (q : Tok) : Prop := 0 ≤ q.n ∧ q.n ≤ 20 ∧ -1 ≤ q.m ∧ q.m ≤ 20 ∧ 0 ≤ q.how ∧ q.how ≤ 2 ∧ (q.m = -1 ∨ q.n ≤ q.m)
/-- How many instructions a repeat makes of o. -/
def repLen (o : Nat) (q : Tok) : Nat := q.n.toNat * o + (if q.m = -1 then o + 3 else (q.m - q.n).toNat * (o + 1)) + (if q.how = 2 then 2 else 0)
theorem repA_len (x : Re) (q : Tok) (h : repOk' q) : (repA x q).len = repLen x.len q := by
  obtain ⟨h1, h2, h3, h4, h5, h6, h7⟩ := h
  unfold repA repLen
  dsimp only
  have c1 : (if 0 < q.n ∨ 0 < q.m then (if q.n < q.m then Re.cat (timesA x q.n.toNat) (optA x (decide (q.how = 1)) (q.m - q.n).toNat) else timesA x q.n.toNat) else Re.eps).len = q.n.toNat * x.len + (if q.m = -1 then 0 else (q.m - q.n).toNat * (x.len + 1)) := by
    by_cases a : 0 < q.n ∨ 0 < q.m
    · rw [if_pos a]
      by_cases b : q.n < q.m
      · rw [if_pos b, if_neg (by omega), Re.len, timesA_len, optA_len]
      · rw [if_neg b, timesA_len]
        by_cases c : q.m = -1
        · rw [if_pos c]; omega
        · rw [if_neg c, show (q.m - q.n).toNat = 0 by omega]; simp
    · rw [if_neg a, show q.n.toNat = 0 by omega]
      by_cases c : q.m = -1
      · rw [if_pos c]; simp [Re.len]
      · rw [if_neg c, show (q.m - q.n).toNat = 0 by omega]; simp [Re.len]
  generalize (if 0 < q.n ∨ 0 < q.m then (if q.n < q.m then Re.cat (timesA x q.n.toNat) (optA x (decide (q.how = 1)) (q.m - q.n).toNat) else timesA x q.n.toNat) else Re.eps) = z at *
  have c2 : (if q.m < 0 then Re.cat z (.loop (decide (q.how = 1)) x) else z).len = q.n.toNat * x.len + (if q.m = -1 then x.len + 3 else (q.m - q.n).toNat * (x.len + 1)) := by
    by_cases c : q.m = -1
    · rw [if_pos (by omega), if_pos c, Re.len, Re.len, c1, if_pos c]; omega
    · rw [if_neg (by omega), if_neg c, c1, if_neg c]
  generalize (if q.m < 0 then Re.cat z (.loop (decide (q.how = 1)) x) else z) = z2 at *
  by_cases e : q.how = 2
  · rw [if_pos e, if_pos e, Re.len, c2]
  · rw [if_neg e, if_neg e, c2]; omega
def lim (n : Nat) : Nat := min n 301
theorem lim_le (n : Nat) : lim n ≤ 301 := Nat.min_le_right _ _
theorem lim_add (a b : Nat) : lim (lim a + lim b) = lim (a + b) := by unfold lim; omega
theorem lim_add2 (a b c : Nat) : lim (lim a + c + lim b) = lim (a + c + b) := by unfold lim; omega
theorem lim_rep (o : Nat) (q : Tok) (h : repOk' q) : lim (repLen (lim o) q) = lim (repLen o q) := by
  obtain ⟨h1, h2, h3, h4, h5, h6, h7⟩ := h
  by_cases a : o ≤ 301
  · have : lim o = o := by unfold lim; omega
    rw [this]
  · have : lim o = 301 := by unfold lim; omega
    rw [this]
    unfold repLen lim
    have key : ∀ (n c : Nat), 0 < n → 301 ≤ n * (301 + c) ∧ 301 ≤ n * (o + c) := fun n c hn => by
      have e1 : 1 * (301 + c) ≤ n * (301 + c) := Nat.mul_le_mul_right _ (by omega)
      have e2 : 1 * (o + c) ≤ n * (o + c) := Nat.mul_le_mul_right _ (by omega)
      omega
    by_cases b : 0 < q.n.toNat
    · have := key q.n.toNat 0 b
      simp only [Nat.add_zero] at this
      omega
    · have e : q.n.toNat = 0 := by omega
      rw [e]
      simp only [Nat.zero_mul, Nat.zero_add]
      by_cases c : q.m = -1
      · rw [if_pos c, if_pos c]; omega
      · rw [if_neg c, if_neg c]
        by_cases d : 0 < (q.m - q.n).toNat
        · have := key (q.m - q.n).toNat 1 d
          omega
        · rw [show (q.m - q.n).toNat = 0 by omega]; simp
/-- How many instructions an atom with its repeat has. -/
def partLen (o : Nat) (r : Option Tok) : Nat := match r with
  | none => o
  | some q => repLen o q
def repsOk (r : Option Tok) : Prop := ∀ q, r = some q → repOk' q
theorem part_len (x : Re) (r : Option Tok) (h : repsOk r) : (part r x).len = partLen x.len r := by
  cases r with
  | none => rfl
  | some q => exact repA_len x q (h q rfl)
theorem lim_part (o : Nat) (r : Option Tok) (h : repsOk r) : lim (partLen (lim o) r) = lim (partLen o r) := by
  cases r with
  | none => show lim (lim o) = lim o; unfold lim; omega
  | some q => exact lim_rep o q (h q rfl)
/-- All repeats of a forest are such. -/
def Fs.ok : Fs → Prop
  | .nil => True
  | .bar _ r => r.ok
  | .leaf t r s => repsOk r ∧ s.ok
  | .grp t i c r s => repsOk r ∧ (0 ≤ t.how ∧ t.how ≤ 4) ∧ i.ok ∧ s.ok
theorem leafRe_len (t : Tok) : (leafRe t).len = 1 := by
  unfold leafRe
  split
  · rfl
  split
  · rfl
  split
  · rfl
  · rfl
theorem grpRe_len (t : Tok) (x : Re) : (grpRe t x).len = x.len + if t.how = 3 then 0 else 2 := by
  unfold grpRe
  by_cases h : t.how = 3
  · rw [if_pos h, if_pos h]; rfl
  · rw [if_neg h, if_neg h]; split <;> rfl
theorem re_len (f : Fs) : f.re.len = f.both.1.len + (match f.rs with | none => 0 | some r => 2 + r.re.len) := by
  have h := f.both2
  unfold Fs.re
  generalize f.both = xy at *
  obtain ⟨x, y⟩ := xy
  simp only at h
  cases hr : f.rs with
  | none => rw [hr] at h; simp at h; subst h; rfl
  | some r => rw [hr] at h; simp at h; subst h; show x.len + r.re.len + 2 = x.len + (2 + r.re.len); omega
/-- The next alternative of a forest that stands in memory. -/
theorem stands_rs {b : PB} : ∀ (f : Fs) (a n : Int), standsF b 0 0 f a n → (f.rs = none ∧ n = -1) ∨ ∃ (r : Fs) (k : Nat), f.rs = some r ∧ n = k ∧ k < b.seqs.length ∧ standsF b 0 0 r (b.sAt k).first (b.sAt k).next
  | .nil, a, n, h => Or.inl ⟨rfl, h.2⟩
  | .bar t r, a, n, ⟨_, k, h1, _, h2, h3⟩ => Or.inr ⟨r, k, rfl, h1, h2, h3⟩
  | .leaf t r s, a, n, ⟨k, _, _, _, _, _, _, h⟩ => stands_rs s _ _ h
  | .grp t i c r s, a, n, ⟨k, _, _, _, _, _, _, _, h⟩ => stands_rs s _ _ h
theorem rs_less : ∀ (f r : Fs), f.rs = some r → r.flat.length < f.flat.length ∧ (f.wf → r.wf) ∧ (f.ok → r.ok)
  | .nil, r, h => by simp [Fs.rs] at h
  | .bar t s, r, h => by simp only [Fs.rs, Option.some.injEq] at h; subst h; exact ⟨by simp [Fs.flat], fun h => h.2, fun h => h⟩
  | .leaf t q s, r, h => by have := rs_less s r h; exact ⟨by simp [Fs.flat]; omega, fun hh => this.2.1 hh.2.2, fun hh => this.2.2 hh.2⟩
  | .grp t i c q s, r, h => by have := rs_less s r h; exact ⟨by simp [Fs.flat]; omega, fun hh => this.2.1 hh.2.2.2.2, fun hh => this.2.2 hh.2.2.2⟩
end Mt
/- The forest of a pattern, in memory as the program's builder leaves it. -/
set_option linter.unusedVariables false
namespace Mt

theorem count_le (p : ByteArray) (i : Int) (h : (count p i).2.2.2 = true) : (count p i).2.1 = -1 ∨ (count p i).1 ≤ (count p i).2.1 := by
  rcases count_cases p i with ⟨a1, e⟩ | ⟨a1, a2, e⟩ | ⟨a1, a2, ⟨a3, e⟩ | ⟨a3, a4, e⟩ | ⟨a3, a4, ⟨a5, e⟩ | ⟨a5, ⟨a6, e⟩ | ⟨a6, a7, e⟩ | ⟨a6, a7, a8, e⟩ | ⟨a6, a7, a8, a9, e⟩ | ⟨a6, a7, a8, a9, e⟩⟩⟩⟩
  · rw [e]; exact Or.inr (Int.le_refl _)
  · rw [e]; exact Or.inr (Int.le_refl _)
  · rw [e]; exact Or.inr (Int.le_refl _)
  · rw [e]; exact Or.inr (Int.le_refl _)
  · rw [e]; exact Or.inl rfl
  · rw [e]; exact Or.inr (Int.le_refl _)
  · rw [e]; exact Or.inr (Int.le_refl _)
  · rw [e]; exact Or.inr (Int.le_refl _)
  · rw [e]; exact Or.inr (Int.le_refl _)
  · rw [e]
    simp only [decide_eq_false_iff_not] at a8
    exact Or.inr (by show (number p (i + 1)).1 ≤ (number p (i + 1 + (number p (i + 1)).2 + 1)).1; omega)
theorem repeat_le (p : ByteArray) (i : Int) (h : (repeatT p i).2 = true) : (repeatT p i).1.m = -1 ∨ (repeatT p i).1.n ≤ (repeatT p i).1.m := by
  unfold repeatT at h ⊢
  by_cases h1 : atB p i = 43
  · rw [if_pos h1]; exact Or.inl rfl
  · rw [if_neg h1] at h ⊢
    by_cases h2 : atB p i = 63
    · rw [if_pos h2]; exact Or.inr (by simp)
    · rw [if_neg h2] at h ⊢
      by_cases h3 : atB p i = 123
      · rw [if_pos h3] at h ⊢
        cases hc : (count p i).2.2.2
        · rw [hc] at h; simp at h
        · rw [if_pos rfl]; exact count_le p i hc
      · rw [if_neg h3]; exact Or.inl rfl
theorem escape_kind (p : ByteArray) (i : Int) : (escape p i).1.kind ≠ 8 := by
  rcases escape_cases p i with ⟨a1, e⟩ | ⟨a0, a1, ⟨a2, e⟩ | ⟨a2, a3, e⟩ | ⟨a2, a3, a4, a5, a6, a7, e⟩ | ⟨a2, a3, a4, e⟩⟩ <;> rw [e] <;> simp
theorem opening_kind (p : ByteArray) (i : Int) : (opening p i).1.kind ≠ 8 := by
  rcases opening_cases p i with ⟨a1, e⟩ | ⟨a1, ⟨a2, e⟩ | ⟨a2, a3, e⟩ | ⟨a2, a3, a4, e⟩ | ⟨a2, a3, a4, a5, e⟩ | ⟨a2, a3, a4, a5, e⟩⟩ <;> rw [e] <;> simp
theorem class_kind (p : ByteArray) (i : Int) : (classT p i).1.kind ≠ 8 := by
  unfold classT; split <;> simp
theorem nextT_rep (p : ByteArray) (i : Int) (h : (nextT p i).2 = 0) (hk : (nextT p i).1.kind = 8) : (nextT p i).1.m = -1 ∨ (nextT p i).1.n ≤ (nextT p i).1.m := by
  unfold nextT at h hk ⊢
  by_cases h1 : atB p i = 124
  · rw [if_pos h1] at hk; simp at hk
  rw [if_neg h1] at h hk ⊢
  by_cases h2 : atB p i = 41
  · rw [if_pos h2] at hk; simp at hk
  rw [if_neg h2] at h hk ⊢
  by_cases h3 : atB p i = 94
  · rw [if_pos h3] at hk; simp at hk
  rw [if_neg h3] at h hk ⊢
  by_cases h4 : atB p i = 36
  · rw [if_pos h4] at hk; simp at hk
  rw [if_neg h4] at h hk ⊢
  by_cases h5 : atB p i = 92
  · rw [if_pos h5] at hk; exact absurd hk (escape_kind p i)
  rw [if_neg h5] at h hk ⊢
  by_cases h6 : atB p i = 91
  · rw [if_pos h6] at hk; exact absurd hk (class_kind p i)
  rw [if_neg h6] at h hk ⊢
  by_cases h7 : atB p i = 40
  · rw [if_pos h7] at hk; exact absurd hk (opening_kind p i)
  rw [if_neg h7] at h hk ⊢
  by_cases h8 : atB p i = 42 ∨ atB p i = 43 ∨ atB p i = 63 ∨ atB p i = 123
  · rw [if_pos h8] at h ⊢
    exact repeat_le p i (by cases x : (repeatT p i).2 <;> simp [x] at h ⊢)
  rw [if_neg h8] at h hk ⊢
  by_cases h9 : atB p i = 46
  · rw [if_pos h9] at hk; simp at hk
  · rw [if_neg h9] at hk; simp at hk
def repsLe (l : List Tok) : Prop := ∀ t ∈ l, t.kind = 8 → t.m = -1 ∨ t.n ≤ t.m
theorem readOn_reps (p : ByteArray) : ∀ (f : Nat) (l : List Tok) (i : Int), 0 ≤ i → i ≤ p.size → (p.size : Int) - i < f → repsLe l → repsLe (readOn p l i).1 := by
  intro f
  induction f with
  | zero => intro l i h0 h1 h2; omega
  | succ f ih =>
    intro l i h0 h1 h2 hl
    rw [readOn_step p l i h0 h1]
    by_cases a : (p.size : Int) ≤ i
    · rw [if_pos a]; exact hl
    rw [if_neg a]
    by_cases b : (nextT p i).2 ≠ 0
    · rw [if_pos b]; intro t ht; simp at ht
    rw [if_neg b]
    by_cases c : may l (nextT p i).1 ≠ 0
    · rw [if_pos c]; intro t ht; simp at ht
    rw [if_neg c]
    have hn := nextT_to p i h0 (by omega) (by omega)
    refine ih _ _ (by omega) (by omega) (by omega) (fun t ht hk => ?_)
    rcases List.mem_append.1 ht with ht | ht
    · exact hl t ht hk
    · simp at ht
      have jk := joined_kind l (nextT p i).1
      subst ht
      rw [jk.1] at hk
      have e : joined l (nextT p i).1 = (nextT p i).1 := jk.2.2.2.2.1 (by unfold isCap; simp [hk])
      rw [e]; exact nextT_rep p i (by omega) hk
theorem tokens_reps (p : ByteArray) (h : (tokens p).2.1 = 0) : repsLe (tokens p).1 := by
  by_cases hp : p.size ≤ 64
  · have hr := readOn_reps p ((p.size : Int) + 1).toNat [] 0 (by omega) (by omega) (by omega) (by intro t ht; simp at ht)
    unfold tokens at h ⊢
    rw [if_neg (by omega), readOn_start p hp] at h ⊢
    split
    · rename_i h1; rw [if_pos h1] at h; exact absurd h h1
    · split
      · intro t ht; simp at ht
      · exact hr
  · unfold tokens at h; rw [if_pos (by omega)] at h; simp at h
theorem fs_ok : ∀ f : Fs, f.wf → (∀ t ∈ f.flat, t.kind = 8 → repOk' t) → (∀ t ∈ f.flat, t.kind = 6 → 0 ≤ t.how ∧ t.how ≤ 4) → f.ok
  | .nil, _, _, _ => trivial
  | .bar t r, hw, h1, h2 => fs_ok r hw.2 (fun u hu => h1 u (by simp [Fs.flat, hu])) (fun u hu => h2 u (by simp [Fs.flat, hu]))
  | .leaf t r s, hw, h1, h2 => ⟨fun q hq => h1 q (by simp [Fs.flat, hq]) (hw.2.1 q hq), fs_ok s hw.2.2 (fun u hu => h1 u (by simp [Fs.flat, hu])) (fun u hu => h2 u (by simp [Fs.flat, hu]))⟩
  | .grp t i c r s, hw, h1, h2 => ⟨fun q hq => h1 q (by simp [Fs.flat, hq]) (hw.2.2.2.1 q hq), h2 t (by simp [Fs.flat]) hw.1, fs_ok i hw.2.2.1 (fun u hu => h1 u (by simp [Fs.flat, hu])) (fun u hu => h2 u (by simp [Fs.flat, hu])), fs_ok s hw.2.2.2.2 (fun u hu => h1 u (by simp [Fs.flat, hu])) (fun u hu => h2 u (by simp [Fs.flat, hu]))⟩
theorem nums_numd : ∀ (m : List Tok) (l : List Tok), Nums (l ++ m) → numd (captures l) m
  | [], l, h => trivial
  | t :: r, l, h => by
    have e : l ++ t :: r = (l ++ [t]) ++ r := by simp
    refine ⟨fun hc => ?_, ?_⟩
    · have := h l.length (by simp) (by rw [List.getD_eq_getElem?_getD, List.getElem?_append_right (Nat.le_refl _)]; simpa using hc)
      rw [List.getD_eq_getElem?_getD, List.getElem?_append_right (Nat.le_refl _)] at this
      simpa using this
    · have := nums_numd r (l ++ [t]) (by rw [← e]; exact h)
      rwa [captures_snoc] at this
theorem next_len (b : PB) (t : PT) : (b.next t).atoms.length ≤ b.atoms.length + 1 ∧ (b.next t).seqs.length ≤ b.seqs.length + 1 := by
  have ha : ∀ t, (b.addAtom t).atoms.length = b.atoms.length + 1 ∧ (b.addAtom t).seqs.length = b.seqs.length := fun t => by
    unfold PB.addAtom; split <;> simp
  unfold PB.next
  split
  · simp [PB.bar]
  split
  · have := ha t
    unfold PB.opening PB.into PB.number
    cases decide (t.group = 1) <;> simp [this.1, this.2]
  split
  · simp [PB.close]
  split
  · simp [PB.repeated]
  · have := ha t; omega
theorem run_len : ∀ (l : List Tok) (b : PB), (b.run l).atoms.length ≤ b.atoms.length + l.length ∧ (b.run l).seqs.length ≤ b.seqs.length + l.length
  | [], b => by simp [PB.run]
  | t :: r, b => by
    have h1 := next_len b (ptok t)
    have h2 := run_len r (b.next (ptok t))
    rw [PB.run_cons]; simp only [List.length_cons]; omega
theorem start_at : PB.start.At := ⟨by decide, Or.inl rfl, fun _ => rfl, rfl⟩
/-- A pattern that may be read: its forest stands in the builder. -/
theorem forest (p : ByteArray) (h : (tokens p).2.1 = 0) : ∃ f : Fs, f.wf ∧ f.ok ∧ (tokens p).1 = f.flat ∧ standsF (PB.start.run (tokens p).1) 0 0 f ((PB.start.run (tokens p).1).sAt 0).first ((PB.start.run (tokens p).1).sAt 0).next ∧ 0 < (PB.start.run (tokens p).1).seqs.length ∧
    (PB.start.run (tokens p).1).atoms.length ≤ 64 ∧ (PB.start.run (tokens p).1).seqs.length ≤ 65 ∧ (300 < (coded (tokens p).1).length ↔ 300 < f.re.len + 1) ∧ (f.re.len + 1 ≤ 300 → coded (tokens p).1 = f.re.code 0 0 ++ [⟨13, 0, 0, []⟩]) := by
  have hv := tokens_valid p h
  have hr := tokens_reps p h
  have hs := (tokens_small p).2
  obtain ⟨f, hw, e⟩ := valid_parse hv.1 hv.2
  have hN := nums_valid hv.1
  have hG : ∀ t ∈ (tokens p).1, tokG t := by
    intro t ht
    obtain ⟨k, hk, rfl⟩ := List.mem_iff_getElem.1 ht
    have := (hv.1 k hk).2.1
    rw [List.getD_eq_getElem?_getD, List.getElem?_eq_getElem hk] at this
    exact this
  rw [e] at hr hs hN hG ⊢
  have hok := fs_ok f hw (fun t ht hk => by
    obtain ⟨_, _, _, _, g5⟩ := hG t ht
    have := g5 hk
    have := hr t ht hk
    exact ⟨by omega, by omega, by omega, by omega, by omega, by omega, this⟩) (fun t ht hk => (hG t ht).2.2.2.1 hk)
  have hd := run_forest f hw (fun t ht hk => (hG t ht).2.2.2.1 hk) PB.start start_at (nums_numd f.flat [] (by simpa using hN))
  have hl := run_len f.flat PB.start
  have ht := treeOf_flat f hw hs
  have hc := coded_len f.flat
  rw [ht] at hc
  have st := hd.stands
  have e0 : PB.start.last = -1 := rfl
  rw [if_pos e0] at st
  refine ⟨f, hw, hok, rfl, standsF_mono (Nat.zero_le _) (Nat.zero_le _) (fun _ _ _ => rfl) (fun _ _ _ => rfl) (Nat.le_refl _) (Nat.le_refl _) _ _ _ st, ?_, ?_, ?_, ?_, fun h300 => ?_⟩
  · have := hd.sl; exact Nat.lt_of_lt_of_le (by decide) this
  · have := hl.1; simp [PB.start] at this ⊢; omega
  · have := hl.2; simp [PB.start] at this ⊢; omega
  · constructor
    · intro x; omega
    · intro x; exact hc.2 x
  · have := (coded_tree f.flat (by rw [hc.1 h300]; exact h300)).1
    rwa [ht] at this
end Mt
/- Marks and Agains of a code come in pairs: how many loops an instruction stands in may be counted from the front. -/
set_option linter.unusedVariables false
namespace Mt
def isMark (i : Ins) : Bool := decide (i.op = 4)
def isAgain (i : Ins) : Bool := decide (i.op = 5)
theorem take_cons' (q : Ins → Bool) (n : Nat) (x : Ins) (l : List Ins) : ((x :: l).take n).countP q = (if 0 < n ∧ q x = true then 1 else 0) + (l.take (n - 1)).countP q := by
  cases n with
  | zero => simp
  | succ n =>
    rw [List.take_succ_cons, List.countP_cons, Nat.add_sub_cancel]
    cases h : q x <;> simp <;> omega
theorem take_app' (q : Ins → Bool) (n : Nat) (a b : List Ins) : ((a ++ b).take n).countP q = (a.take n).countP q + (b.take (n - a.length)).countP q := by
  rw [List.take_append, List.countP_append]
theorem marks_pair : ∀ (r : Re) (p d t : Int), ((r.code p d).take (t - p).toNat).countP isMark = (r.code p d).countP (isLoop t)
  | .eps, p, d, t => by simp [Re.code]
  | .one s, p, d, t => by rw [Re.code, take_cons']; simp [isMark, isLoop]
  | .back k, p, d, t => by rw [Re.code, take_cons']; simp [isMark, isLoop]
  | .head, p, d, t => by rw [Re.code, take_cons']; simp [isMark, isLoop]
  | .tail, p, d, t => by rw [Re.code, take_cons']; simp [isMark, isLoop]
  | .cat a b, p, d, t => by
    rw [Re.code, take_app', List.countP_append, marks_pair a, Re.code_len, show (t - p).toNat - a.len = (t - (p + a.len)).toNat by omega, marks_pair b]
  | .alt a b, p, d, t => by
    rw [Re.code, take_cons', take_app', take_cons', Re.code_len, List.countP_cons, List.countP_append, List.countP_cons, show (t - p).toNat - 1 = (t - (p + 1)).toNat by omega, marks_pair a, show (t - (p + 1)).toNat - a.len - 1 = (t - (p + a.len + 2)).toNat by omega, marks_pair b]
    simp [isMark, isLoop]
  | .cap k a, p, d, t => by
    rw [Re.code, take_cons', take_app', take_cons', List.countP_cons, List.countP_append, show (t - p).toNat - 1 = (t - (p + 1)).toNat by omega, marks_pair a]
    simp [isMark, isLoop]
  | .sub s a, p, d, t => by
    rw [Re.code, take_cons', take_app', take_cons', List.countP_cons, List.countP_append, show (t - p).toNat - 1 = (t - (p + 1)).toNat by omega, marks_pair a]
    simp [isMark, isLoop]
  | .opt late a, p, d, t => by
    rw [Re.code, take_cons', List.countP_cons, show (t - p).toNat - 1 = (t - (p + 1)).toNat by omega, marks_pair a]
    cases late <;> simp [isMark, isLoop, spl]
  | .loop late a, p, d, t => by
    rw [Re.code, take_cons', take_cons', take_app', take_cons', List.countP_cons, List.countP_cons, List.countP_append, show (t - p).toNat - 1 - 1 = (t - (p + 2)).toNat by omega, marks_pair a]
    have e : (0 < (t - p).toNat - 1) ↔ p + 1 < t := by omega
    cases late <;> simp [isMark, isLoop, spl, List.countP_cons] <;> split <;> split <;> omega
theorem agains_in : ∀ (r : Re) (p d t : Int) (x : Ins), x ∈ (r.code p d).take (t - p).toNat → x.op = 5 → x.x + 1 < t
  | .eps, p, d, t, x, h, h5 => by simp [Re.code] at h
  | .one s, p, d, t, x, h, h5 => by have := List.mem_of_mem_take h; simp [Re.code] at this; subst this; simp at h5
  | .back k, p, d, t, x, h, h5 => by have := List.mem_of_mem_take h; simp [Re.code] at this; subst this; simp at h5
  | .head, p, d, t, x, h, h5 => by have := List.mem_of_mem_take h; simp [Re.code] at this; subst this; simp at h5
  | .tail, p, d, t, x, h, h5 => by have := List.mem_of_mem_take h; simp [Re.code] at this; subst this; simp at h5
  | .cat a b, p, d, t, x, h, h5 => by
    rw [Re.code, List.take_append, List.mem_append, Re.code_len, show (t - p).toNat - a.len = (t - (p + a.len)).toNat by omega] at h
    rcases h with h | h
    · exact agains_in a _ _ _ x h h5
    · exact agains_in b _ _ _ x h h5
  | .alt a b, p, d, t, x, h, h5 => by
    rw [Re.code] at h
    rcases cons_take h with rfl | h
    · simp at h5
    rw [List.take_append, List.mem_append, Re.code_len, show (t - p).toNat - 1 = (t - (p + 1)).toNat by omega] at h
    rcases h with h | h
    · exact agains_in a _ _ _ x h h5
    rcases cons_take h with rfl | h
    · simp at h5
    rw [show (t - (p + 1)).toNat - a.len - 1 = (t - (p + a.len + 2)).toNat by omega] at h
    exact agains_in b _ _ _ x h h5
  | .cap k a, p, d, t, x, h, h5 => by
    rw [Re.code] at h
    rcases cons_take h with rfl | h
    · simp at h5
    rw [List.take_append, List.mem_append, show (t - p).toNat - 1 = (t - (p + 1)).toNat by omega] at h
    rcases h with h | h
    · exact agains_in a _ _ _ x h h5
    · have := List.mem_of_mem_take h; simp at this; subst this; simp at h5
  | .sub s a, p, d, t, x, h, h5 => by
    rw [Re.code] at h
    rcases cons_take h with rfl | h
    · simp at h5
    rw [List.take_append, List.mem_append, show (t - p).toNat - 1 = (t - (p + 1)).toNat by omega] at h
    rcases h with h | h
    · exact agains_in a _ _ _ x h h5
    · have := List.mem_of_mem_take h; simp at this; subst this; simp at h5
  | .opt late a, p, d, t, x, h, h5 => by
    rw [Re.code] at h
    rcases cons_take h with rfl | h
    · cases late <;> simp [spl] at h5
    rw [show (t - p).toNat - 1 = (t - (p + 1)).toNat by omega] at h
    exact agains_in a _ _ _ x h h5
  | .loop late a, p, d, t, x, h, h5 => by
    rw [Re.code] at h
    rcases cons_take h with rfl | h
    · cases late <;> simp [spl] at h5
    rcases cons_take h with rfl | h
    · simp at h5
    rw [List.take_append, List.mem_append, Re.code_len, show (t - p).toNat - 1 - 1 = (t - (p + 2)).toNat by omega] at h
    rcases h with h | h
    · exact agains_in a _ _ _ x h h5
    · have h' := List.mem_of_mem_take h
      simp at h'
      subst h'
      have : 0 < (t - (p + 2)).toNat - a.len := by
        rcases Nat.eq_zero_or_pos ((t - (p + 2)).toNat - a.len) with e | e
        · rw [e] at h; simp at h
        · exact e
      show p + 1 < t
      omega
where
  cons_take {x y : Ins} {l : List Ins} {n : Nat} (h : x ∈ (y :: l).take n) : x = y ∨ x ∈ l.take (n - 1) := by
    cases n with
    | zero => simp at h
    | succ n => rw [List.take_succ_cons, List.mem_cons] at h; exact h
/-- A pattern's code: the loops that an instruction stands in are the Marks before it that have no Again before it. -/
theorem code_loops (r : Re) (c : List Ins) (hc : c = r.code 0 0 ++ [⟨13, 0, 0, []⟩]) (k : Nat) : (c.take k).countP isMark = (c.take k).countP isAgain + loopsAt c k := by
  have m := marks_pair r 0 0 k
  rw [show ((k : Int) - 0).toNat = k by omega] at m
  have m1 : (c.take k).countP isMark = ((r.code 0 0).take k).countP isMark := by
    rw [hc, take_app', take_cons']; simp [isMark]
  have m2 : c.countP (isLoop k) = (r.code 0 0).countP (isLoop k) := by
    rw [hc, List.countP_append]; simp [isLoop]
  have m3 : (c.take k).countP (isLoop k) = (c.take k).countP isAgain := by
    refine List.countP_congr (fun x hx => ?_)
    unfold isLoop isAgain
    simp only [decide_eq_true_eq]
    constructor
    · exact fun h => h.1
    · intro h
      refine ⟨h, ?_⟩
      rw [hc, List.take_append, List.mem_append] at hx
      rcases hx with hx | hx
      · exact agains_in r 0 0 k x (by rw [show ((k : Int) - 0).toNat = k by omega]; exact hx) h
      · have := List.mem_of_mem_take hx; simp at this; subst this; simp at h
  have m4 : c.countP (isLoop k) = (c.take k).countP (isLoop k) + (c.drop k).countP (isLoop k) := by
    rw [← List.countP_append, List.take_append_drop]
  have m5 : loopsAt c k = (c.drop k).countP (isLoop k) := by
    unfold loopsAt loopsTo
    rw [List.take_of_length_le (by rw [List.length_drop]; exact Nat.le_refl _)]
  omega
theorem count_next (q : Ins → Bool) (c : List Ins) (k : Nat) (h : k < c.length) : (c.take (k + 1)).countP q = (c.take k).countP q + if q (c.getD k ins0) = true then 1 else 0 := by
  rw [List.take_succ_eq_append_getElem h, List.countP_append, List.getD_eq_getElem?_getD, List.getElem?_eq_getElem h]
  simp [List.countP_cons]
end Mt
/- WHAT STANDS AROUND AN INSTRUCTION of a pattern's code: the groups that are open, the loops, the run of its own. -/
set_option linter.unusedVariables false
namespace Mt

/-- The open groups; how many loops; where the run of its own goes on (0: it is none), and the groups that were open when it began. -/
structure Att where
  G : List Int
  d : Int
  y : Int
  B : List Int

/-- A says of each instruction of the tree's code at p what stands around it. -/
def Lies (A : Int → Att) : Re → Int → Att → Prop
  | .eps, p, a => A p = a
  | .one _, p, a => A p = a ∧ A (p + 1) = a
  | .back _, p, a => A p = a ∧ A (p + 1) = a
  | .head, p, a => A p = a ∧ A (p + 1) = a
  | .tail, p, a => A p = a ∧ A (p + 1) = a
  | .cat x y, p, a => Lies A x p a ∧ Lies A y (p + x.len) a
  | .alt x y, p, a => A p = a ∧ Lies A x (p + 1) a ∧ Lies A y (p + x.len + 2) a
  | .cap k x, p, a => A p = a ∧ Lies A x (p + 1) ⟨k :: a.G, a.d, a.y, a.B⟩ ∧ A (p + x.len + 2) = a
  | .sub _ x, p, a => A p = a ∧ Lies A x (p + 1) ⟨a.G, a.d, p + x.len + 2, a.G⟩ ∧ A (p + x.len + 2) = a
  | .opt _ x, p, a => A p = a ∧ Lies A x (p + 1) a
  | .loop _ x, p, a => A p = a ∧ A (p + 1) = a ∧ Lies A x (p + 2) ⟨a.G, a.d + 1, a.y, a.B⟩ ∧ A (p + x.len + 3) = a

theorem Lies.first {A : Int → Att} : ∀ {r : Re} {p : Int} {a : Att}, Lies A r p a → A p = a
  | .eps, p, a, h => h
  | .one _, p, a, h => h.1
  | .back _, p, a, h => h.1
  | .head, p, a, h => h.1
  | .tail, p, a, h => h.1
  | .cat x y, p, a, h => Lies.first h.1
  | .alt x y, p, a, h => h.1
  | .cap k x, p, a, h => h.1
  | .sub _ x, p, a, h => h.1
  | .opt _ x, p, a, h => h.1
  | .loop _ x, p, a, h => h.1
theorem Lies.last {A : Int → Att} : ∀ {r : Re} {p : Int} {a : Att}, Lies A r p a → A (p + r.len) = a
  | .eps, p, a, h => by
    have h' : A p = a := h
    rw [← h']; congr 1; simp only [Re.len]; omega
  | .one _, p, a, h => h.2
  | .back _, p, a, h => h.2
  | .head, p, a, h => h.2
  | .tail, p, a, h => h.2
  | .cat x y, p, a, h => by have := Lies.last h.2; simp only [Re.len]; rw [← this]; congr 1; omega
  | .alt x y, p, a, h => by have := Lies.last h.2.2; simp only [Re.len]; rw [← this]; congr 1; omega
  | .cap k x, p, a, h => by have := h.2.2; simp only [Re.len]; rw [← this]; congr 1; omega
  | .sub _ x, p, a, h => by have := h.2.2; simp only [Re.len]; rw [← this]; congr 1; omega
  | .opt _ x, p, a, h => by have := Lies.last h.2; simp only [Re.len]; rw [← this]; congr 1; omega
  | .loop _ x, p, a, h => by have := h.2.2.2; simp only [Re.len]; rw [← this]; congr 1; omega
theorem Lies.congr {A B : Int → Att} : ∀ {r : Re} {p : Int} {a : Att}, (∀ q, p ≤ q → q ≤ p + r.len → A q = B q) → Lies A r p a → Lies B r p a
  | .eps, p, a, e, h => by show B p = a; rw [← e p (by omega) (by omega)]; exact h
  | .one _, p, a, e, h => ⟨by rw [← e p (by omega) (by omega)]; exact h.1, by rw [← e (p + 1) (by omega) (by simp only [Re.len]; omega)]; exact h.2⟩
  | .back _, p, a, e, h => ⟨by rw [← e p (by omega) (by omega)]; exact h.1, by rw [← e (p + 1) (by omega) (by simp only [Re.len]; omega)]; exact h.2⟩
  | .head, p, a, e, h => ⟨by rw [← e p (by omega) (by omega)]; exact h.1, by rw [← e (p + 1) (by omega) (by simp only [Re.len]; omega)]; exact h.2⟩
  | .tail, p, a, e, h => ⟨by rw [← e p (by omega) (by omega)]; exact h.1, by rw [← e (p + 1) (by omega) (by simp only [Re.len]; omega)]; exact h.2⟩
  | .cat x y, p, a, e, h => ⟨Lies.congr (fun q h1 h2 => e q (by omega) (by simp only [Re.len]; omega)) h.1, Lies.congr (fun q h1 h2 => e q (by omega) (by simp only [Re.len]; omega)) h.2⟩
  | .alt x y, p, a, e, h => ⟨by rw [← e p (by omega) (by omega)]; exact h.1, Lies.congr (fun q h1 h2 => e q (by omega) (by simp only [Re.len]; omega)) h.2.1, Lies.congr (fun q h1 h2 => e q (by omega) (by simp only [Re.len]; omega)) h.2.2⟩
  | .cap k x, p, a, e, h => ⟨by rw [← e p (by omega) (by omega)]; exact h.1, Lies.congr (fun q h1 h2 => e q (by omega) (by simp only [Re.len]; omega)) h.2.1, by rw [← e _ (by omega) (by simp only [Re.len]; omega)]; exact h.2.2⟩
  | .sub _ x, p, a, e, h => ⟨by rw [← e p (by omega) (by omega)]; exact h.1, Lies.congr (fun q h1 h2 => e q (by omega) (by simp only [Re.len]; omega)) h.2.1, by rw [← e _ (by omega) (by simp only [Re.len]; omega)]; exact h.2.2⟩
  | .opt _ x, p, a, e, h => ⟨by rw [← e p (by omega) (by omega)]; exact h.1, Lies.congr (fun q h1 h2 => e q (by omega) (by simp only [Re.len]; omega)) h.2⟩
  | .loop _ x, p, a, e, h => ⟨by rw [← e p (by omega) (by omega)]; exact h.1, by rw [← e (p + 1) (by omega) (by simp only [Re.len]; omega)]; exact h.2.1, Lies.congr (fun q h1 h2 => e q (by omega) (by simp only [Re.len]; omega)) h.2.2.1, by rw [← e _ (by omega) (by simp only [Re.len]; omega)]; exact h.2.2.2⟩
theorem lies_some : ∀ (r : Re) (p : Int) (a : Att), ∃ A, Lies A r p a
  | .eps, p, a => ⟨fun _ => a, rfl⟩
  | .one _, p, a => ⟨fun _ => a, rfl, rfl⟩
  | .back _, p, a => ⟨fun _ => a, rfl, rfl⟩
  | .head, p, a => ⟨fun _ => a, rfl, rfl⟩
  | .tail, p, a => ⟨fun _ => a, rfl, rfl⟩
  | .cat x y, p, a => by
    obtain ⟨A, hA⟩ := lies_some x p a
    obtain ⟨B, hB⟩ := lies_some y (p + x.len) a
    refine ⟨fun q => if q < p + x.len then A q else B q, hA.congr (fun q h1 h2 => ?_), hB.congr (fun q h1 h2 => ?_)⟩
    · (try dsimp only); split
      · rfl
      · have e : q = p + x.len := by omega
        subst e; rw [hA.last, hB.first]
    · (try dsimp only); rw [if_neg (by omega)]
  | .alt x y, p, a => by
    obtain ⟨A, hA⟩ := lies_some x (p + 1) a
    obtain ⟨B, hB⟩ := lies_some y (p + x.len + 2) a
    refine ⟨fun q => if q ≤ p then a else if q < p + x.len + 2 then A q else B q, ?_, hA.congr (fun q h1 h2 => ?_), hB.congr (fun q h1 h2 => ?_)⟩
    · (try dsimp only); rw [if_pos (by omega)]
    · (try dsimp only); rw [if_neg (by omega), if_pos (by omega)]
    · (try dsimp only); rw [if_neg (by omega), if_neg (by omega)]
  | .cap k x, p, a => by
    obtain ⟨A, hA⟩ := lies_some x (p + 1) ⟨k :: a.G, a.d, a.y, a.B⟩
    refine ⟨fun q => if q ≤ p then a else if q < p + x.len + 2 then A q else a, ?_, hA.congr (fun q h1 h2 => ?_), ?_⟩
    · (try dsimp only); rw [if_pos (by omega)]
    · (try dsimp only); rw [if_neg (by omega), if_pos (by omega)]
    · (try dsimp only); rw [if_neg (by omega), if_neg (by omega)]
  | .sub _ x, p, a => by
    obtain ⟨A, hA⟩ := lies_some x (p + 1) ⟨a.G, a.d, p + x.len + 2, a.G⟩
    refine ⟨fun q => if q ≤ p then a else if q < p + x.len + 2 then A q else a, ?_, hA.congr (fun q h1 h2 => ?_), ?_⟩
    · (try dsimp only); rw [if_pos (by omega)]
    · (try dsimp only); rw [if_neg (by omega), if_pos (by omega)]
    · (try dsimp only); rw [if_neg (by omega), if_neg (by omega)]
  | .opt _ x, p, a => by
    obtain ⟨A, hA⟩ := lies_some x (p + 1) a
    refine ⟨fun q => if q ≤ p then a else A q, ?_, hA.congr (fun q h1 h2 => ?_)⟩
    · (try dsimp only); rw [if_pos (by omega)]
    · (try dsimp only); rw [if_neg (by omega)]
  | .loop _ x, p, a => by
    obtain ⟨A, hA⟩ := lies_some x (p + 2) ⟨a.G, a.d + 1, a.y, a.B⟩
    refine ⟨fun q => if q ≤ p + 1 then a else if q < p + x.len + 3 then A q else a, ?_, ?_, hA.congr (fun q h1 h2 => ?_), ?_⟩
    · (try dsimp only); rw [if_pos (by omega)]
    · (try dsimp only); rw [if_pos (by omega)]
    · (try dsimp only); rw [if_neg (by omega), if_pos (by omega)]
    · (try dsimp only); rw [if_neg (by omega), if_neg (by omega)]

/-- Groups in groups have greater numbers. -/
def Re.inc : Re → Int → Prop
  | .cat a b, n => a.inc n ∧ b.inc n
  | .alt a b, n => a.inc n ∧ b.inc n
  | .cap k a, n => n < k ∧ a.inc k
  | .sub _ a, n => a.inc n
  | .opt _ a, n => a.inc n
  | .loop _ a, n => a.inc n
  | _, _ => True
theorem Re.inc_less : ∀ (r : Re) (m n : Int), m ≤ n → r.inc n → r.inc m
  | .eps, _, _, _, _ => trivial
  | .one _, _, _, _, _ => trivial
  | .back _, _, _, _, _ => trivial
  | .head, _, _, _, _ => trivial
  | .tail, _, _, _, _ => trivial
  | .cat a b, m, n, h, i => ⟨Re.inc_less a m n h i.1, Re.inc_less b m n h i.2⟩
  | .alt a b, m, n, h, i => ⟨Re.inc_less a m n h i.1, Re.inc_less b m n h i.2⟩
  | .cap k a, m, n, h, i => ⟨by have := i.1; omega, i.2⟩
  | .sub _ a, m, n, h, i => Re.inc_less a m n h i
  | .opt _ a, m, n, h, i => Re.inc_less a m n h i
  | .loop _ a, m, n, h, i => Re.inc_less a m n h i
theorem timesA_inc {x : Re} {m : Int} (h : x.inc m) : ∀ n, (timesA x n).inc m
  | 0 => trivial
  | n + 1 => ⟨h, timesA_inc h n⟩
theorem optA_inc {x : Re} {m : Int} (late : Bool) (h : x.inc m) : ∀ n, (optA x late n).inc m
  | 0 => trivial
  | n + 1 => ⟨h, optA_inc late h n⟩
theorem repA_inc {x : Re} {m : Int} (h : x.inc m) (r : Tok) : (repA x r).inc m := by
  unfold repA
  dsimp only
  have t := timesA_inc h r.n.toNat
  have o := optA_inc (decide (r.how = 1)) h (r.m - r.n).toNat
  have c1 : (if 0 < r.n ∨ 0 < r.m then (if r.n < r.m then Re.cat (timesA x r.n.toNat) (optA x (decide (r.how = 1)) (r.m - r.n).toNat) else timesA x r.n.toNat) else Re.eps).inc m := by
    split
    · split
      · exact ⟨t, o⟩
      · exact t
    · trivial
  generalize (if 0 < r.n ∨ 0 < r.m then (if r.n < r.m then Re.cat (timesA x r.n.toNat) (optA x (decide (r.how = 1)) (r.m - r.n).toNat) else timesA x r.n.toNat) else Re.eps) = z at *
  have c2 : (if r.m < 0 then Re.cat z (.loop (decide (r.how = 1)) x) else z).inc m := by
    split
    · exact ⟨c1, h⟩
    · exact c1
  split
  · exact c2
  · exact c2
theorem part_inc {x : Re} {m : Int} (h : x.inc m) (r : Option Tok) : (part r x).inc m := by
  cases r with
  | none => exact h
  | some q => exact repA_inc h q
theorem joinRe_inc {b : Re × Option Re} {m : Int} (h : b.1.inc m ∧ ∀ a, b.2 = some a → a.inc m) : (joinRe b).inc m := by
  obtain ⟨x, y⟩ := b
  cases y with
  | none => exact h.1
  | some a => exact ⟨h.1, h.2 a rfl⟩
theorem both_inc : ∀ (f : Fs) (n : Int), f.wf → numd n f.flat → f.both.1.inc n ∧ ∀ a, f.both.2 = some a → a.inc n
  | .nil, n, _, _ => ⟨trivial, fun a e => (by cases e)⟩
  | .bar t r, n, h, hn => by
    have hc : isCap t = false := by have := h.1; unfold isCap; simp; omega
    simp only [Fs.flat, numd, hc] at hn
    have ih := both_inc r n h.2 (by simpa using hn.2)
    refine ⟨trivial, fun a e => ?_⟩
    simp only [Fs.both, Option.some.injEq] at e; subst e; exact joinRe_inc ih
  | .leaf t r s, n, h, hn => by
    simp only [Fs.flat, numd, cap_leaf h.1, numd_app, cap_rep h.2.1] at hn
    have ih := both_inc s n h.2.2 (by simpa using hn.2.2)
    refine ⟨⟨part_inc ?_ r, ih.1⟩, ih.2⟩
    unfold leafRe
    repeat' split
    all_goals trivial
  | .grp t i c r s, n, h, hn => by
    have hc7 : isCap c = false := by have := h.2.1; unfold isCap; simp; omega
    simp only [Fs.flat, numd, numd_app, hc7, cap_rep h.2.2.2.1] at hn
    obtain ⟨h1, h2, h3, h4⟩ := hn
    have hcb := captures_bd i.flat
    have ii := both_inc i _ h.2.2.1 h2
    have is := both_inc s _ h.2.2.2.2 h4.2
    refine ⟨⟨part_inc ?_ r, Re.inc_less _ n _ ?_ is.1⟩, fun a e => Re.inc_less _ n _ ?_ (is.2 a e)⟩
    · have j := joinRe_inc ii
      unfold grpRe
      split
      · exact Re.inc_less _ n _ (by split <;> omega) j
      split
      · rename_i h3' h4'
        have hcap : isCap t = true := by have := h.1; unfold isCap; simp [h4', this]
        rw [hcap] at j h1
        have e := h1 rfl
        simp only [if_true] at j
        exact ⟨by omega, by rw [e]; exact j⟩
      · exact Re.inc_less _ n _ (by split <;> omega) j
    · simp; split <;> omega
    · simp; split <;> omega
end Mt
