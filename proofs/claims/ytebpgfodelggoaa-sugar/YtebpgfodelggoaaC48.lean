import Derived.Test.YtebpgfodelggoaaC47
import Derived.Test.YtebpgfodelggoaaC03
import Derived.Test.YtebpgfodelggoaaC36
/- The tokens of a pattern without capturing groups, as pieces that are read one behind the other; its code. -/
set_option linter.unusedVariables false
namespace Mt

/-- From i to j these tokens are read. -/
inductive Lex (p : ByteArray) : Int → List Tok → Int → Prop
  | nil (i : Int) : Lex p i [] i
  | cons {i j : Int} {t : Tok} {l : List Tok} (h0 : 0 ≤ i) (h1 : i < p.size) (ht : nextT p i = (t, 0)) (hl : Lex p t.to l j) : Lex p i (t :: l) j
theorem Lex.app {p : ByteArray} {i j k : Int} {l m : List Tok} (h : Lex p i l j) (g : Lex p j m k) : Lex p i (l ++ m) k := by
  induction h with
  | nil i => exact g
  | cons h0 h1 ht hl ih => exact Lex.cons h0 h1 ht (ih g)
theorem Lex.one {p : ByteArray} {i : Int} {t : Tok} (h0 : 0 ≤ i) (h1 : i < p.size) (ht : nextT p i = (t, 0)) : Lex p i [t] t.to := Lex.cons h0 h1 ht (Lex.nil _)
theorem Lex.move {p p' : ByteArray} {s : Int} (h : Stands p p' s) {i j : Int} {l : List Tok} (g : Lex p i l j) : Lex p' (i + s) (l.map (mv s)) (j + s) := by
  induction g with
  | nil i => exact Lex.nil _
  | @cons i j t l h0 h1 ht hl ih =>
    have hn := next_sh h i h0 h1 (by rw [ht])
    rw [ht] at hn
    refine Lex.cons (by have := h.lo; omega) (by have := h.hi; omega) hn.1 ?_
    exact ih
/-- Behind l these may stand, and none opens a capturing group. -/
def MayAll : List Tok → List Tok → Prop
  | _, [] => True
  | l, t :: r => may l t = 0 ∧ isCap t = false ∧ MayAll (l ++ [t]) r
theorem MayAll.app : ∀ {l a b : List Tok}, MayAll l a → MayAll (l ++ a) b → MayAll l (a ++ b)
  | l, [], b, _, h => by simpa using h
  | l, t :: r, b, h, g => ⟨h.1, h.2.1, MayAll.app h.2.2 (by simpa using g)⟩
/-- No parenthesis opens a capturing group. -/
def NoCap (p : ByteArray) : Prop := ∀ i : Int, atB p i = 40 → atB p (i + 1) = 63
theorem next_nocap {p : ByteArray} (h : NoCap p) (i : Int) (hn : (nextT p i).2 = 0) : isCap (nextT p i).1 = false := by
  unfold nextT at hn ⊢
  split
  · rfl
  split
  · rfl
  split
  · rfl
  split
  · rfl
  split
  · unfold escape; repeat' split
    all_goals rfl
  split
  · unfold classT; repeat' split
    all_goals rfl
  split
  · rename_i a b c d e f g
    rw [if_neg a, if_neg b, if_neg c, if_neg d, if_neg e, if_neg f, if_pos g] at hn
    have hq := h i g
    unfold opening at hn ⊢
    rw [if_neg (by omega)] at hn ⊢
    split
    · rfl
    split
    · rfl
    split
    · rfl
    split
    · rfl
    · rename_i x y z u
      rw [if_neg x, if_neg y, if_neg z, if_neg u] at hn; simp at hn
  split
  · unfold repeatT; repeat' split
    all_goals rfl
  split
  · rfl
  · rfl
theorem read_lex {p : ByteArray} (hc : NoCap p) : ∀ (f : Nat) (l : List Tok) (i : Int), 0 ≤ i → i ≤ p.size → (p.size : Int) - i < f → (readOn p l i).2.1 = 0 → ∃ m, Lex p i m p.size ∧ MayAll l m ∧ (readOn p l i).1 = l ++ m
  | 0, l, i, h0, h1, hf, he => by omega
  | f + 1, l, i, h0, h1, hf, he => by
    rw [readOn_step p l i h0 h1] at he ⊢
    by_cases a : (p.size : Int) ≤ i
    · rw [if_pos a]
      have : i = p.size := by omega
      subst this
      exact ⟨[], Lex.nil _, trivial, by simp⟩
    rw [if_neg a] at he ⊢
    by_cases b : (nextT p i).2 ≠ 0
    · rw [if_pos b] at he; exact absurd he b
    rw [if_neg b] at he ⊢
    by_cases c : may l (nextT p i).1 ≠ 0
    · rw [if_pos c] at he; exact absurd he c
    rw [if_neg c] at he ⊢
    have hz : (nextT p i).2 = 0 := by omega
    have ht := nextT_to p i h0 (by omega) hz
    have hk := next_nocap hc i hz
    have hj : joined l (nextT p i).1 = (nextT p i).1 := by unfold joined; rw [if_neg (by rw [hk]; simp)]
    rw [hj] at he ⊢
    obtain ⟨m, m1, m2, m3⟩ := read_lex hc f _ _ (by omega) ht.2 (by omega) he
    refine ⟨(nextT p i).1 :: m, Lex.cons h0 (by omega) (by rw [← hz]) m1, ⟨by omega, hk, m2⟩, ?_⟩
    rw [m3]; simp
theorem lex_read {p : ByteArray} {i j : Int} {m : List Tok} (h : Lex p i m j) : ∀ l, MayAll l m → j = p.size → 0 ≤ j → readOn p l i = (l ++ m, 0, (p.size : Int)) := by
  induction h with
  | nil i =>
    intro l _ e h0
    rw [readOn_step p l i h0 (by omega), if_pos (by omega), e]; simp
  | @cons i j t r h0 h1 ht hl ih =>
    intro l hm e hj
    rw [readOn_step p l i h0 (by omega), if_neg (by omega), ht, if_neg (by simp), if_neg (by rw [hm.1]; simp)]
    have hjn : joined l t = t := by unfold joined; rw [if_neg (by rw [hm.2.1]; simp)]
    rw [hjn, ih _ hm.2.2 e hj]; simp
/-- The code of a pattern whose tokens are those of a forest. -/
def codeOf (r : Re) : List Ins × Int := if 300 < r.len + 1 then ([], 12) else (r.code 0 0 ++ [⟨13, 0, 0, []⟩], 0)
theorem code_of (p : ByteArray) (T : Fs) (hp : p.size ≤ 64) (hw : T.wf) (hl : Lex p 0 T.flat p.size) (hm : MayAll [] T.flat) (ho : ¬ 0 < opened T.flat) (hn : T.flat.length ≤ 64) : codeR p = codeOf T.re := by
  have hr := lex_read hl [] hm rfl (by omega)
  rw [List.nil_append] at hr
  have ht : tokens p = (T.flat, 0, 0) := by
    unfold tokens
    rw [if_neg (by omega), readOn_start p hp, hr, if_neg (by simp), if_neg ho]
  have e := treeOf_flat T hw hn
  have hc := coded_len T.flat
  rw [e] at hc
  have hk : checkR p = if 300 < (coded T.flat).length then (12, 0) else (0, 0) := by unfold checkR; rw [ht]; simp
  unfold codeR codeOf
  rw [hk, ht]
  by_cases x : 300 < T.re.len + 1
  · rw [if_pos x, if_pos (hc.2 x)]; simp
  · have hlen := hc.1 (by omega)
    have := (coded_tree T.flat (by omega)).1
    rw [e] at this
    rw [if_neg x, if_neg (show ¬ 300 < (coded T.flat).length by omega)]
    simp [this]
/-- A pattern's own tokens, if it opens no capturing group. -/
theorem tokens_lex (p : ByteArray) (hc : NoCap p) (h : (checkR p).1 = 0) : ∃ f : Fs, f.wf ∧ f.ok ∧ Lex p 0 f.flat p.size ∧ MayAll [] f.flat ∧ opened f.flat = 0 ∧ f.flat.length ≤ 64 ∧ p.size ≤ 64 := by
  have h0 : (tokens p).2.1 = 0 := by
    unfold checkR at h
    split at h
    · rename_i x; exact absurd h x
    · rename_i x; simpa using x
  obtain ⟨f, hw, hok, hfl, _⟩ := forest p h0
  have hs := (tokens_small p).2
  have hv := tokens_valid p h0
  have ho := valid_opened hv.1 (tokens p).1.length (Nat.le_refl _)
  rw [List.take_length] at ho
  unfold tokens at h0
  by_cases a : 64 < p.size
  · rw [if_pos a] at h0; simp at h0
  rw [if_neg a] at h0
  by_cases b : (readFrom p 65 [] 0).2.1 ≠ 0
  · rw [if_pos b] at h0; exact absurd h0 b
  rw [readOn_start p (by omega)] at b
  obtain ⟨m, m1, m2, m3⟩ := read_lex hc (p.size + 1) [] 0 (by omega) (by omega) (by omega) (by omega)
  have e : (tokens p).1 = m := by
    have hv2 := hv.2
    unfold tokens at hv2 ⊢
    rw [if_neg a, readOn_start p (by omega), if_neg b] at hv2 ⊢
    by_cases c : 0 < opened (readOn p [] 0).1
    · rw [readOn_start p (by omega), if_neg b, if_pos c] at h0; simp at h0
    · rw [if_neg c]; rw [m3]; simp
  rw [e] at hfl hs ho
  have hv2 := hv.2
  rw [e] at hv2
  exact ⟨f, hw, hok, by rw [← hfl]; exact m1, by rw [← hfl]; exact m2, by rw [← hfl]; omega, by rw [← hfl]; exact hs, by omega⟩
end Mt
/- Patterns put together out of pieces: their tokens and whether they may stand. -/
set_option linter.unusedVariables false
namespace Mt

theorem mv_kind (s : Int) (t : Tok) : (mv s t).kind = t.kind ∧ (mv s t).n = t.n ∧ (mv s t).m = t.m ∧ (mv s t).how = t.how ∧ (mv s t).set = t.set ∧ isCap (mv s t) = isCap t ∧ delta (mv s t) = delta t := ⟨rfl, rfl, rfl, rfl, rfl, rfl, rfl⟩
theorem opened_mv (s : Int) : ∀ l : List Tok, opened (l.map (mv s)) = opened l
  | [] => rfl
  | t :: r => by simp only [List.map_cons, opened, opened_mv s r]; rfl
/-- How many groups are opened. -/
def opens : List Tok → Int
  | [] => 0
  | t :: r => (if t.kind = 6 then 1 else 0) + opens r
theorem opens_nn : ∀ l, 0 ≤ opens l
  | [] => Int.le_refl _
  | t :: r => by have := opens_nn r; simp only [opens]; split <;> omega
theorem next_open' {p : ByteArray} (h : NoCap p) (i : Int) (hn : (nextT p i).2 = 0) (hk : (nextT p i).1.kind = 6) : (nextT p i).1.to = i + 3 := by
  unfold nextT at hn hk ⊢
  by_cases a1 : atB p i = 124
  · rw [if_pos a1] at hk; simp at hk
  rw [if_neg a1] at hn hk ⊢
  by_cases a2 : atB p i = 41
  · rw [if_pos a2] at hk; simp at hk
  rw [if_neg a2] at hn hk ⊢
  by_cases a3 : atB p i = 94
  · rw [if_pos a3] at hk; simp at hk
  rw [if_neg a3] at hn hk ⊢
  by_cases a4 : atB p i = 36
  · rw [if_pos a4] at hk; simp at hk
  rw [if_neg a4] at hn hk ⊢
  by_cases a5 : atB p i = 92
  · rw [if_pos a5] at hk
    unfold escape at hk
    repeat' split at hk
    all_goals simp at hk
  rw [if_neg a5] at hn hk ⊢
  by_cases a6 : atB p i = 91
  · rw [if_pos a6] at hk
    unfold classT at hk
    split at hk <;> simp at hk
  rw [if_neg a6] at hn hk ⊢
  by_cases a7 : atB p i = 40
  · rw [if_pos a7] at hn hk ⊢
    have hq := h i a7
    unfold opening at hn ⊢
    rw [if_neg (by omega)] at hn ⊢
    repeat' split
    all_goals rfl
  rw [if_neg a7] at hn hk ⊢
  by_cases a8 : atB p i = 42 ∨ atB p i = 43 ∨ atB p i = 63 ∨ atB p i = 123
  · rw [if_pos a8] at hk
    unfold repeatT at hk
    repeat' split at hk
    all_goals simp at hk
  rw [if_neg a8] at hn hk ⊢
  split at hk <;> simp at hk
theorem lex_opens {p : ByteArray} (hc : NoCap p) {i j : Int} {m : List Tok} (h : Lex p i m j) : 3 * opens m ≤ j - i ∧ i ≤ j := by
  induction h with
  | nil i => simp [opens]
  | @cons i j t l h0 h1 ht hl ih =>
    have hn := nextT_to p i h0 h1 (by rw [ht])
    rw [ht] at hn
    simp only [opens]
    split
    · rename_i k
      have := next_open' hc i (by rw [ht]) (by rw [ht]; exact k)
      rw [ht] at this
      simp only at this
      omega
    · simp only at hn; omega
theorem closed_none : ∀ (l : List Tok) (k : Int) (r : List Tok) (j : Nat), (∀ t ∈ r, isCap t = false) → closedFrom l k r j = false
  | l, k, [], j, _ => rfl
  | l, k, t :: r, j, h => by
    simp only [closedFrom]
    rw [if_neg (by rw [h t (List.mem_cons_self ..)]; simp), closed_none l k r _ (fun t ht => h t (List.mem_cons_of_mem _ ht))]
theorem ends_snoc (l : List Tok) (t : Tok) : atomEnds (l ++ [t]) = decide (t.kind = 1 ∨ t.kind = 2 ∨ t.kind = 3 ∨ t.kind = 4 ∨ t.kind = 7) := by
  unfold atomEnds; simp
theorem opened_one (l : List Tok) (t : Tok) : opened (l ++ [t]) = opened l + delta t := by rw [opened_append]; simp [opened]
theorem mayAll_move (s : Int) : ∀ (m l1 l0 : List Tok), MayAll l1 m → (∀ t ∈ l1, isCap t = false) → 0 ≤ opened l1 → opened l1 + opens m ≤ 4 → opened l1 ≤ opened l0 → opened l0 ≤ opened l1 + 5 → (atomEnds l1 = true → atomEnds l0 = true) → MayAll l0 (m.map (mv s))
  | [], _, _, _, _, _, _, _, _, _ => trivial
  | t :: r, l1, l0, ⟨h1, h2, h3⟩, hc, o1, o2, o3, o4, he => by
    have hn := opens_nn r
    have hd : (t.kind = 6 → delta t = 1) ∧ (t.kind = 7 → delta t = -1) ∧ (t.kind ≠ 6 → t.kind ≠ 7 → delta t = 0) := by
      unfold delta
      refine ⟨fun x => by rw [if_pos x], fun x => by rw [if_neg (by omega), if_pos x], fun x y => by rw [if_neg x, if_neg y]⟩
    have h4 : ¬ (t.kind = 6 ∧ t.how = 4) := by unfold isCap at h2; simpa using h2
    have hm : may l0 (mv s t) = 0 ∧ (t.kind = 7 → 1 ≤ opened l1) ∧ (t.kind = 6 → opened l1 ≤ 3) := by
      unfold may at h1 ⊢
      simp only [(mv_kind s t).1, (mv_kind s t).2.1, (mv_kind s t).2.2.2.1]
      simp only [opens] at o2
      by_cases k2 : t.kind = 2
      · rw [if_pos k2] at h1
        have : closed l1 t.n = false := closed_none _ _ _ _ hc
        rw [this] at h1; simp at h1
      rw [if_neg k2] at h1 ⊢
      by_cases k8 : t.kind = 8
      · rw [if_pos k8] at h1 ⊢
        have : atomEnds l1 = true := by
          cases x : atomEnds l1
          · rw [x] at h1; simp at h1
          · rfl
        rw [he this]
        exact ⟨rfl, fun _ => by omega, fun _ => by omega⟩
      rw [if_neg k8] at h1 ⊢
      by_cases k6 : t.kind = 6
      · rw [if_pos k6] at h1 ⊢
        rw [if_pos k6] at o2
        rw [if_neg (by omega), if_neg (by omega)]
        exact ⟨rfl, fun _ => by omega, fun _ => by omega⟩
      rw [if_neg k6] at h1 ⊢
      by_cases k7 : t.kind = 7
      · rw [if_pos k7] at h1 ⊢
        have : opened l1 ≠ 0 := fun x => by rw [if_pos x] at h1; simp at h1
        rw [if_neg (by omega)]
        exact ⟨rfl, fun _ => by omega, fun _ => by omega⟩
      · rw [if_neg k7]
        exact ⟨rfl, fun _ => by omega, fun _ => by omega⟩
    refine ⟨hm.1, h2, mayAll_move s r (l1 ++ [t]) (l0 ++ [mv s t]) h3 ?_ ?_ ?_ ?_ ?_ ?_⟩
    · intro u hu
      rcases List.mem_append.1 hu with x | x
      · exact hc u x
      · simp at x; subst x; exact h2
    · rw [opened_one]
      by_cases k7 : t.kind = 7
      · have := hm.2.1 k7; have := hd.2.1 k7; omega
      · by_cases k6 : t.kind = 6
        · have := hd.1 k6; omega
        · have := hd.2.2 k6 k7; omega
    · rw [opened_one]
      simp only [opens] at o2
      by_cases k6 : t.kind = 6
      · rw [if_pos k6] at o2; have := hd.1 k6; omega
      · rw [if_neg k6] at o2
        by_cases k7 : t.kind = 7
        · have := hd.2.1 k7; omega
        · have := hd.2.2 k6 k7; omega
    · rw [opened_one, opened_one, (mv_kind s t).2.2.2.2.2.2]; omega
    · rw [opened_one, opened_one, (mv_kind s t).2.2.2.2.2.2]; omega
    · rw [ends_snoc, ends_snoc, (mv_kind s t).1]; exact fun x => x

/-- The forest, moved. -/
def mvF (s : Int) : Fs → Fs
  | .nil => .nil
  | .bar t r => .bar (mv s t) (mvF s r)
  | .leaf t r k => .leaf (mv s t) (r.map (mv s)) (mvF s k)
  | .grp t i c r k => .grp (mv s t) (mvF s i) (mv s c) (r.map (mv s)) (mvF s k)
theorem mvF_flat (s : Int) : ∀ f : Fs, (mvF s f).flat = f.flat.map (mv s)
  | .nil => rfl
  | .bar t r => by simp [mvF, Fs.flat, mvF_flat s r]
  | .leaf t r k => by cases r <;> simp [mvF, Fs.flat, mvF_flat s k]
  | .grp t i c r k => by cases r <;> simp [mvF, Fs.flat, mvF_flat s k, mvF_flat s i]
theorem mvF_wf (s : Int) : ∀ f : Fs, f.wf → (mvF s f).wf
  | .nil, _ => trivial
  | .bar t r, h => ⟨h.1, mvF_wf s r h.2⟩
  | .leaf t r k, h => ⟨h.1, fun q hq => by
      cases r with
      | none => simp at hq
      | some u => simp at hq; subst hq; exact h.2.1 u rfl, mvF_wf s k h.2.2⟩
  | .grp t i c r k, h => ⟨h.1, h.2.1, mvF_wf s i h.2.2.1, fun q hq => by
      cases r with
      | none => simp at hq
      | some u => simp at hq; subst hq; exact h.2.2.2.1 u rfl, mvF_wf s k h.2.2.2.2⟩
theorem part_mv (s : Int) (r : Option Tok) (x : Re) : part (r.map (mv s)) x = part r x := by
  cases r <;> rfl
theorem mvF_both (s : Int) : ∀ f : Fs, (mvF s f).both = f.both
  | .nil => rfl
  | .bar t r => by simp only [mvF, Fs.both, mvF_both s r]
  | .leaf t r k => by simp only [mvF, Fs.both, mvF_both s k, part_mv]; rfl
  | .grp t i c r k => by simp only [mvF, Fs.both, mvF_both s k, mvF_both s i, part_mv]; rfl
end Mt
