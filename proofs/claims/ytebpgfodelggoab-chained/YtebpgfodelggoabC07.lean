import Derived.Test.YtebpgfodelggoabC06
import Derived.Test.YtebpgfodelggoabC04
/- TOKENS AS TREES: what stands in what. -/
set_option linter.unusedVariables false
namespace Mt

inductive Fs where
  | nil
  | bar (t : Tok) (rest : Fs)
  | leaf (t : Tok) (r : Option Tok) (rest : Fs)
  | grp (t : Tok) (inner : Fs) (c : Tok) (r : Option Tok) (rest : Fs)

def Fs.flat : Fs → List Tok
  | .nil => []
  | .bar t rest => t :: rest.flat
  | .leaf t r rest => t :: (r.toList ++ rest.flat)
  | .grp t inner c r rest => t :: (inner.flat ++ c :: (r.toList ++ rest.flat))
def leafK (t : Tok) : Prop := t.kind = 1 ∨ t.kind = 2 ∨ t.kind = 3 ∨ t.kind = 4
def repK (r : Option Tok) : Prop := ∀ q, r = some q → q.kind = 8
def Fs.wf : Fs → Prop
  | .nil => True
  | .bar t rest => t.kind = 5 ∧ rest.wf
  | .leaf t r rest => leafK t ∧ repK r ∧ rest.wf
  | .grp t inner c r rest => t.kind = 6 ∧ c.kind = 7 ∧ inner.wf ∧ repK r ∧ rest.wf

def leafRe (t : Tok) : Re := if t.kind = 1 then .one t.set else if t.kind = 2 then .back t.n else if t.kind = 3 then .head else .tail
def grpRe (t : Tok) (x : Re) : Re := if t.how = 3 then x else if t.how = 4 then .cap t.n x else .sub t.how x
def part (r : Option Tok) (x : Re) : Re := match r with
  | none => x
  | some q => repA x q
def joinRe : Re × Option Re → Re
  | (s, none) => s
  | (s, some a) => .alt s a
/-- The first sequence, and the alternatives behind its bar. -/
def Fs.both : Fs → Re × Option Re
  | .nil => (.eps, none)
  | .bar _ rest => (.eps, some (joinRe rest.both))
  | .leaf t r rest => (.cat (part r (leafRe t)) rest.both.1, rest.both.2)
  | .grp t inner _ r rest => (.cat (part r (grpRe t (joinRe inner.both))) rest.both.1, rest.both.2)
def Fs.re (f : Fs) : Re := joinRe f.both

/-- The first sequence; what stands behind its bar. -/
def Fs.sq : Fs → Fs
  | .nil => .nil
  | .bar _ _ => .nil
  | .leaf t r rest => .leaf t r rest.sq
  | .grp t inner c r rest => .grp t inner c r rest.sq
def Fs.rs : Fs → Option Fs
  | .nil => none
  | .bar _ rest => some rest
  | .leaf _ _ rest => rest.rs
  | .grp _ _ _ _ rest => rest.rs
theorem Fs.both2 : ∀ f : Fs, f.both.2 = f.rs.map Fs.re
  | .nil => rfl
  | .bar _ rest => rfl
  | .leaf _ _ rest => by simp only [Fs.both, Fs.rs]; exact Fs.both2 rest
  | .grp _ _ _ _ rest => by simp only [Fs.both, Fs.rs]; exact Fs.both2 rest
theorem Fs.rs_none : ∀ f : Fs, f.rs = none → f.sq = f
  | .nil, _ => rfl
  | .bar _ rest, h => by simp [Fs.rs] at h
  | .leaf _ _ rest, h => by simp only [Fs.sq]; rw [Fs.rs_none rest h]
  | .grp _ _ _ _ rest, h => by simp only [Fs.sq]; rw [Fs.rs_none rest h]
theorem Fs.rs_some : ∀ (f g : Fs), f.wf → f.rs = some g → g.wf ∧ ∃ t : Tok, t.kind = 5 ∧ f.flat = f.sq.flat ++ t :: g.flat
  | .nil, g, _, h => by simp [Fs.rs] at h
  | .bar t rest, g, hw, h => by simp [Fs.rs] at h; subst h; exact ⟨hw.2, t, hw.1, rfl⟩
  | .leaf t r rest, g, hw, h => by
    obtain ⟨a, u, k, e⟩ := Fs.rs_some rest g hw.2.2 h
    exact ⟨a, u, k, by simp only [Fs.flat, Fs.sq, e]; simp⟩
  | .grp t inner c r rest, g, hw, h => by
    obtain ⟨a, u, k, e⟩ := Fs.rs_some rest g hw.2.2.2.2 h
    exact ⟨a, u, k, by simp only [Fs.flat, Fs.sq, e]; simp⟩
theorem Fs.sq_wf : ∀ f : Fs, f.wf → f.sq.wf
  | .nil, _ => trivial
  | .bar _ _, _ => trivial
  | .leaf _ _ rest, h => ⟨h.1, h.2.1, Fs.sq_wf rest h.2.2⟩
  | .grp _ _ _ _ rest, h => ⟨h.1, h.2.1, h.2.2.1, h.2.2.2.1, Fs.sq_wf rest h.2.2.2.2⟩

theorem drop_cons {l : List Tok} {a : Nat} {t : Tok} {s : List Tok} (h : l.drop a = t :: s) : l.getD a tok0 = t ∧ l.drop (a + 1) = s ∧ a < l.length := by
  have hl : a < l.length := by
    rcases Nat.lt_or_ge a l.length with h1 | h1
    · exact h1
    · rw [List.drop_eq_nil_of_le h1] at h; cases h
  rw [drop_next l a hl] at h
  simp only [List.cons.injEq] at h
  exact ⟨h.1, h.2, hl⟩
theorem drop_app {l : List Tok} {a : Nat} {x s : List Tok} (h : l.drop a = x ++ s) : l.drop (a + x.length) = s := by
  rw [Nat.add_comm, ← List.drop_drop]
  have : ∀ n, List.drop n (l.drop a) = List.drop n (x ++ s) := fun n => by rw [h]
  rw [List.drop_drop, Nat.add_comm, ← List.drop_drop, h, List.drop_left]

theorem delta_rep {r : Option Tok} (h : repK r) : ∀ (n : Int) (rest : List Tok) (j : Nat), 1 ≤ n → closeFrom (r.toList ++ rest) n j = closeFrom rest n (j + r.toList.length) := by
  intro n rest j hn
  cases r with
  | none => rfl
  | some q =>
    have := h q rfl
    have hd : delta q = 0 := by unfold delta; rw [if_neg (by omega), if_neg (by omega)]
    show closeFrom (q :: rest) n j = _
    rw [closeFrom, hd, if_neg (by omega), Int.add_zero]; rfl
theorem close_flat : ∀ (f : Fs), f.wf → ∀ (n : Int) (rest : List Tok) (j : Nat), 1 ≤ n → closeFrom (f.flat ++ rest) n j = closeFrom rest n (j + f.flat.length)
  | .nil, _, n, rest, j, hn => rfl
  | .bar t r, hw, n, rest, j, hn => by
    have hd : delta t = 0 := by have := hw.1; unfold delta; rw [if_neg (by omega), if_neg (by omega)]
    show closeFrom (t :: (r.flat ++ rest)) n j = _
    rw [closeFrom, hd, if_neg (by omega), Int.add_zero, close_flat r hw.2 n rest (j + 1) hn]
    simp only [Fs.flat, List.length_cons]; rw [show j + 1 + r.flat.length = j + (r.flat.length + 1) by omega]
  | .leaf t r s, hw, n, rest, j, hn => by
    have hd : delta t = 0 := by have := hw.1; unfold leafK at this; unfold delta; rw [if_neg (by omega), if_neg (by omega)]
    show closeFrom (t :: ((r.toList ++ s.flat) ++ rest)) n j = _
    rw [closeFrom, hd, if_neg (by omega), Int.add_zero, List.append_assoc, delta_rep hw.2.1 _ _ _ hn, close_flat s hw.2.2 n rest _ hn]
    simp only [Fs.flat, List.length_cons, List.length_append]; congr 1; omega
  | .grp t i c r s, hw, n, rest, j, hn => by
    have hd : delta t = 1 := by have := hw.1; unfold delta; rw [if_pos (by omega)]
    have hc : delta c = -1 := by have := hw.2.1; unfold delta; rw [if_neg (by omega), if_pos (by omega)]
    have e : (Fs.grp t i c r s).flat ++ rest = t :: (i.flat ++ (c :: (r.toList ++ (s.flat ++ rest)))) := by simp [Fs.flat]
    rw [e, closeFrom, hd, if_neg (by omega), close_flat i hw.2.2.1 (n + 1) _ _ (by omega), closeFrom, hc, if_neg (by omega)]
    rw [show n + 1 + -1 = n by omega, delta_rep hw.2.2.2.1 _ _ _ hn, close_flat s hw.2.2.2.2 n rest _ hn]
    simp only [Fs.flat, List.length_cons, List.length_append]; congr 1; omega
/-- Where a group is closed. -/
theorem closing_grp {l : List Tok} {i : Nat} {t c : Tok} {inner : Fs} {tl : List Tok} (h : l.drop i = t :: (inner.flat ++ c :: tl)) (ht : t.kind = 6) (hc : c.kind = 7) (hw : inner.wf) : closing l i = i + inner.flat.length + 1 := by
  have hd : delta t = 1 := by unfold delta; rw [if_pos (by omega)]
  have hd2 : delta c = -1 := by unfold delta; rw [if_neg (by omega), if_pos (by omega)]
  unfold closing
  rw [h, closeFrom, hd, if_neg (by omega), close_flat inner hw _ _ _ (by omega), closeFrom, hd2, if_pos (by omega)]
  omega

theorem rep_len {r : Option Tok} : r.toList.length = 0 ∧ r = none ∨ ∃ q, r = some q ∧ r.toList = [q] := by
  cases r with
  | none => exact .inl ⟨rfl, rfl⟩
  | some q => exact .inr ⟨q, rfl, rfl⟩

theorem bar_flat : ∀ (f : Fs), f.wf → ∀ (l : List Tok) (i : Nat) (post : List Tok), l.drop i = f.flat ++ post → bar l i (i + f.flat.length) = i + f.sq.flat.length
  | .nil, _, l, i, post, h => by rw [bar_step, if_pos (by simp [Fs.flat])]; rfl
  | .bar t r, hw, l, i, post, h => by
    have h1 := drop_cons (t := t) (s := r.flat ++ post) h
    rw [bar_step, if_neg (by simp [Fs.flat]), if_pos (by unfold kindAt; rw [h1.1]; exact hw.1)]; rfl
  | .leaf t r s, hw, l, i, post, h => by
    have h1 := drop_cons (t := t) (s := (r.toList ++ s.flat) ++ post) h
    have hk := hw.1
    unfold leafK at hk
    have hl : (Fs.leaf t r s).flat.length = 1 + r.toList.length + s.flat.length := by simp [Fs.flat]; omega
    have hq : (Fs.leaf t r s).sq.flat.length = 1 + r.toList.length + s.sq.flat.length := by simp [Fs.flat, Fs.sq]; omega
    rw [hl, hq]
    rw [bar_step, if_neg (by omega), if_neg (by unfold kindAt; rw [h1.1]; omega), if_neg (by unfold kindAt; rw [h1.1]; omega)]
    have h2 := h1.2.1
    rw [List.append_assoc] at h2
    rcases rep_len (r := r) with ⟨e0, e⟩ | ⟨q, e, e1⟩
    · subst e
      have := bar_flat s hw.2.2 l (i + 1) post h2
      simp only [Option.toList] at *
      simpa [Nat.add_assoc, Nat.add_comm, Nat.add_left_comm] using this
    · subst e
      have h3 := drop_cons (t := q) (s := s.flat ++ post) h2
      have hq8 := hw.2.1 q rfl
      simp only [Option.toList, List.length_cons, List.length_nil]
      rw [bar_step, if_neg (by omega), if_neg (by unfold kindAt; rw [h3.1]; omega), if_neg (by unfold kindAt; rw [h3.1]; omega)]
      have := bar_flat s hw.2.2 l (i + 1 + 1) post h3.2.1
      simpa [Nat.add_assoc, Nat.add_comm, Nat.add_left_comm] using this
  | .grp t inner c r s, hw, l, i, post, h => by
    have h0 : l.drop i = t :: (inner.flat ++ c :: (r.toList ++ (s.flat ++ post))) := by rw [h]; simp [Fs.flat]
    have h1 := drop_cons h0
    have hk := hw.1
    have hl : (Fs.grp t inner c r s).flat.length = 2 + inner.flat.length + r.toList.length + s.flat.length := by simp [Fs.flat]; omega
    have hq : (Fs.grp t inner c r s).sq.flat.length = 2 + inner.flat.length + r.toList.length + s.sq.flat.length := by simp [Fs.flat, Fs.sq]; omega
    rw [hl, hq, bar_step, if_neg (by omega), if_neg (by unfold kindAt; rw [h1.1]; omega), if_pos (by unfold kindAt; rw [h1.1]; omega)]
    rw [closing_grp h0 hk hw.2.1 hw.2.2.1]
    have h2 := drop_app h1.2.1
    have h3 := (drop_cons h2).2.1
    rcases rep_len (r := r) with ⟨e0, e⟩ | ⟨q, e, e1⟩
    · subst e
      have := bar_flat s hw.2.2.2.2 l (i + 1 + inner.flat.length + 1) post h3
      simp only [Option.toList, List.length_nil]
      rw [show i + inner.flat.length + 1 + 1 = i + 1 + inner.flat.length + 1 by omega, show i + (2 + inner.flat.length + 0 + s.flat.length) = i + 1 + inner.flat.length + 1 + s.flat.length by omega, this]
      omega
    · subst e
      have h4 := drop_cons (t := q) (s := s.flat ++ post) h3
      have hq8 := hw.2.2.2.1 q rfl
      simp only [Option.toList, List.length_cons, List.length_nil]
      rw [show i + inner.flat.length + 1 + 1 = i + 1 + inner.flat.length + 1 by omega]
      rw [bar_step, if_neg (by omega), if_neg (by unfold kindAt; rw [h4.1]; omega), if_neg (by unfold kindAt; rw [h4.1]; omega)]
      have := bar_flat s hw.2.2.2.2 l (i + 1 + inner.flat.length + 1 + 1) post h4.2.1
      rw [show i + (2 + inner.flat.length + (0 + 1) + s.flat.length) = i + 1 + inner.flat.length + 1 + 1 + s.flat.length by omega, this]
      omega

/-- The first token of a first sequence is no repeat. -/
theorem sq_head : ∀ (f : Fs), f.wf → ∀ (t : Tok) (s : List Tok), f.sq.flat = t :: s → t.kind ≠ 8
  | .nil, _, t, s, h => by simp [Fs.sq, Fs.flat] at h
  | .bar _ _, _, t, s, h => by simp [Fs.sq, Fs.flat] at h
  | .leaf u r rest, hw, t, s, h => by
    simp only [Fs.sq, Fs.flat, List.cons.injEq] at h
    have := hw.1; unfold leafK at this; rw [← h.1]; omega
  | .grp u i c r rest, hw, t, s, h => by
    simp only [Fs.sq, Fs.flat, List.cons.injEq] at h
    have := hw.1; rw [← h.1]; omega
/-- A first sequence is the head of the whole. -/
theorem flat_sq (f : Fs) (hw : f.wf) : ∃ s, f.flat = f.sq.flat ++ s := by
  cases h : f.rs with
  | none => exact ⟨[], by rw [Fs.rs_none f h]; simp⟩
  | some g => obtain ⟨_, t, _, e⟩ := Fs.rs_some f g hw h; exact ⟨_, e⟩
theorem kind_after {l : List Tok} {f : Fs} (hw : f.wf) {i : Nat} {post : List Tok} (h : l.drop i = f.flat ++ post) (hl : 0 < f.sq.flat.length) : kindAt l i ≠ 8 := by
  obtain ⟨s, e⟩ := flat_sq f hw
  cases hq : f.sq.flat with
  | nil => rw [hq] at hl; simp at hl
  | cons t u =>
    rw [e, hq] at h
    have := drop_cons (t := t) (s := (u ++ s) ++ post) (by rw [h]; simp)
    unfold kindAt; rw [this.1]; exact sq_head f hw t u hq

theorem tree_leaf {l : List Tok} {i j f : Nat} {t : Tok} (h : l.getD i tok0 = t) (hk : leafK t) : tree l (f + 1) 2 i j = leafRe t := by
  simp only [tree]
  unfold kindAt leafRe
  rw [h]
  unfold leafK at hk
  by_cases h1 : t.kind = 1
  · rw [if_pos h1, if_pos h1]
  rw [if_neg h1, if_neg h1]
  by_cases h2 : t.kind = 2
  · rw [if_pos h2, if_pos h2]
  rw [if_neg h2, if_neg h2]
  by_cases h3 : t.kind = 3
  · rw [if_pos h3, if_pos h3]
  rw [if_neg h3, if_neg h3, if_pos (by omega)]
theorem tree_grp {l : List Tok} {i j f : Nat} {t : Tok} (h : l.getD i tok0 = t) (hk : t.kind = 6) : tree l (f + 1) 2 i j = grpRe t (tree l f 0 (i + 1) (j - 1)) := by
  simp only [tree]
  unfold kindAt grpRe
  rw [h]
  rw [if_neg (by omega), if_neg (by omega), if_neg (by omega), if_neg (by omega)]
theorem tree_rep {l : List Tok} {i j f : Nat} : tree l (f + 1) 3 i j = repA (tree l f 2 i j) (l.getD j tok0) := by simp only [tree]

/-- What is to be shown of alternatives of fewer than N tokens. -/
def AltOk (N : Nat) : Prop := ∀ g : Fs, g.wf → g.flat.length < N → ∀ (l : List Tok) (a : Nat) (post : List Tok) (f : Nat), l.drop a = g.flat ++ post → 2 * g.flat.length + 4 ≤ f → tree l f 0 a (a + g.flat.length) = g.re

theorem seq_flat (N : Nat) (hA : AltOk N) (l : List Tok) (f' : Nat) (hf : 2 * N + 2 ≤ f') : ∀ (f : Fs), f.wf → f.flat.length ≤ N → ∀ (i : Nat) (post : List Tok) (g : Nat), l.drop i = f.flat ++ post → f.sq.flat.length ≤ g →
    seqA (fun i j => tree l f' 2 i j) (fun i j => tree l f' 3 i j) l (i + f.sq.flat.length) g i = f.both.1
  | .nil, _, _, i, post, g, h, hg => by
    cases g with
    | zero => rfl
    | succ g => simp only [seqA]; rw [if_pos (by simp [Fs.sq, Fs.flat])]; rfl
  | .bar _ _, _, _, i, post, g, h, hg => by
    cases g with
    | zero => rfl
    | succ g => simp only [seqA]; rw [if_pos (by simp [Fs.sq, Fs.flat])]; rfl
  | .leaf t r s, hw, hN, i, post, g, h, hg => by
    have h1 := drop_cons (t := t) (s := (r.toList ++ s.flat) ++ post) h
    have h2 := h1.2.1
    rw [List.append_assoc] at h2
    have hk := hw.1
    have hk' := hk
    unfold leafK at hk'
    have hq : (Fs.leaf t r s).sq.flat.length = 1 + r.toList.length + s.sq.flat.length := by simp [Fs.flat, Fs.sq]; omega
    have hNs : s.flat.length ≤ N := by simp [Fs.flat] at hN; omega
    have haf : after l i = i + 1 := by unfold after kindAt; rw [h1.1, if_neg (by omega)]
    rw [hq] at hg ⊢
    obtain ⟨g, rfl⟩ : ∃ g', g = g' + 1 := ⟨g - 1, by omega⟩
    obtain ⟨f1, rfl⟩ : ∃ f1, f' = f1 + 1 + 1 := ⟨f' - 2, by omega⟩
    simp only [seqA]
    rw [if_neg (by omega), haf]
    rcases rep_len (r := r) with ⟨e0, e⟩ | ⟨q, e, e1⟩
    · subst e
      have h3 : l.drop (i + 1) = s.flat ++ post := h2
      rw [if_neg (by
        rintro ⟨hlt, h8⟩
        exact kind_after hw.2.2 h3 (by simp at hlt; omega) h8)]
      have := seq_flat N hA l (f1 + 1 + 1) hf s hw.2.2 hNs (i + 1) post g h3 (by simp at hg; omega)
      rw [show i + (1 + (Option.none : Option Tok).toList.length + s.sq.flat.length) = i + 1 + s.sq.flat.length by simp; omega, this, tree_leaf h1.1 hk]
      rfl
    · subst e
      have h3 := drop_cons (t := q) (s := s.flat ++ post) h2
      have hq8 := hw.2.1 q rfl
      simp only [Option.toList, List.length_cons, List.length_nil] at hg
      rw [if_pos ⟨by simp; omega, by unfold kindAt; rw [h3.1]; exact hq8⟩]
      have := seq_flat N hA l (f1 + 1 + 1) hf s hw.2.2 hNs (i + 1 + 1) post g h3.2.1 (by omega)
      rw [show i + (1 + (some q).toList.length + s.sq.flat.length) = i + 1 + 1 + s.sq.flat.length by simp; omega, this, tree_rep, tree_leaf h1.1 hk, h3.1]
      rfl
  | .grp t inner c r s, hw, hN, i, post, g, h, hg => by
    have h0 : l.drop i = t :: (inner.flat ++ c :: (r.toList ++ (s.flat ++ post))) := by rw [h]; simp [Fs.flat]
    have h1 := drop_cons h0
    have hk := hw.1
    have hcl := closing_grp h0 hk hw.2.1 hw.2.2.1
    have hq : (Fs.grp t inner c r s).sq.flat.length = 2 + inner.flat.length + r.toList.length + s.sq.flat.length := by simp [Fs.flat, Fs.sq]; omega
    have hl : (Fs.grp t inner c r s).flat.length = 2 + inner.flat.length + r.toList.length + s.flat.length := by simp [Fs.flat]; omega
    have haf : after l i = i + 1 + inner.flat.length + 1 := by unfold after kindAt; rw [h1.1, if_pos hk, hcl]; omega
    rw [hq] at hg ⊢
    rw [hl] at hN
    obtain ⟨g, rfl⟩ : ∃ g', g = g' + 1 := ⟨g - 1, by omega⟩
    obtain ⟨f1, rfl⟩ : ∃ f1, f' = f1 + 1 + 1 := ⟨f' - 2, by omega⟩
    have h2 := drop_app h1.2.1
    have h3 := (drop_cons h2).2.1
    simp only [seqA]
    rw [if_neg (by omega), haf]
    rcases rep_len (r := r) with ⟨e0, e⟩ | ⟨q, e, e1⟩
    · subst e
      have h4 : l.drop (i + 1 + inner.flat.length + 1) = s.flat ++ post := h3
      rw [if_neg (by
        rintro ⟨hlt, h8⟩
        exact kind_after hw.2.2.2.2 h4 (by simp at hlt; omega) h8)]
      have := seq_flat N hA l (f1 + 1 + 1) hf s hw.2.2.2.2 (by omega) (i + 1 + inner.flat.length + 1) post g h4 (by simp at hg; omega)
      rw [show i + (2 + inner.flat.length + (Option.none : Option Tok).toList.length + s.sq.flat.length) = i + 1 + inner.flat.length + 1 + s.sq.flat.length by simp; omega, this, tree_grp h1.1 hk,
        show i + 1 + inner.flat.length + 1 - 1 = i + 1 + inner.flat.length by omega, hA inner hw.2.2.1 (by omega) l (i + 1) _ (f1 + 1) h1.2.1 (by omega)]
      rfl
    · subst e
      have h4 := drop_cons (t := q) (s := s.flat ++ post) h3
      have hq8 := hw.2.2.2.1 q rfl
      simp only [Option.toList, List.length_cons, List.length_nil] at hg hN
      rw [if_pos ⟨by simp; omega, by unfold kindAt; rw [h4.1]; exact hq8⟩]
      have := seq_flat N hA l (f1 + 1 + 1) hf s hw.2.2.2.2 (by omega) (i + 1 + inner.flat.length + 1 + 1) post g h4.2.1 (by omega)
      rw [show i + (2 + inner.flat.length + (some q).toList.length + s.sq.flat.length) = i + 1 + inner.flat.length + 1 + 1 + s.sq.flat.length by simp; omega, this, tree_rep, tree_grp h1.1 hk, h4.1,
        show i + 1 + inner.flat.length + 1 - 1 = i + 1 + inner.flat.length by omega, hA inner hw.2.2.1 (by omega) l (i + 1) _ f1 h1.2.1 (by omega)]
      rfl

theorem tree_alts (l : List Tok) (f a b : Nat) : tree l (f + 1) 0 a b = if bar l a b = b then tree l f 1 a (bar l a b) else .alt (tree l f 1 a (bar l a b)) (tree l f 0 (bar l a b + 1) b) := by simp only [tree]
theorem tree_seq (l : List Tok) (f a b : Nat) : tree l (f + 1) 1 a b = seqA (fun i j => tree l f 2 i j) (fun i j => tree l f 3 i j) l b (b - a) a := by simp only [tree]
theorem alt_flat : ∀ N, AltOk N
  | 0 => fun g _ h => by omega
  | N + 1 => by
    intro f hw hN l a post fu h hf
    have ih := alt_flat N
    obtain ⟨f', rfl⟩ : ∃ f', fu = f' + 1 + 1 := ⟨fu - 2, by omega⟩
    have hb := bar_flat f hw l a post h
    rw [tree_alts, hb, tree_seq]
    have hlen : f.flat.length = f.sq.flat.length + match f.rs with | none => 0 | some g => g.flat.length + 1 := by
      cases hr : f.rs with
      | none => rw [Fs.rs_none f hr]; rfl
      | some g => obtain ⟨_, t, _, e⟩ := Fs.rs_some f g hw hr; rw [e]; simp
    have hs := seq_flat f.flat.length (fun g gw gl => ih g gw (by omega)) l f' (by omega) f hw (Nat.le_refl _) a post (a + f.sq.flat.length - a) h (by omega)
    have e2 := f.both2
    unfold Fs.re
    cases hr : f.rs with
    | none =>
      rw [hr] at hlen e2
      rw [if_pos (by simp at hlen; omega), hs]
      generalize hB : f.both = B at *
      obtain ⟨b1, b2⟩ := B
      simp at e2; subst e2; rfl
    | some g =>
      rw [hr] at hlen e2
      obtain ⟨gw, t, _, e⟩ := Fs.rs_some f g hw hr
      simp only at hlen
      rw [if_neg (by omega), hs]
      have h5 : l.drop (a + f.sq.flat.length + 1) = g.flat ++ post := by
        rw [e, List.append_assoc] at h
        exact (drop_cons (drop_app h)).2.1
      have hr2 := ih g gw (by omega) l (a + f.sq.flat.length + 1) post (f' + 1) h5 (by omega)
      rw [show a + f.sq.flat.length + 1 + g.flat.length = a + f.flat.length by omega] at hr2
      rw [hr2]
      generalize hB : f.both = B at *
      obtain ⟨b1, b2⟩ := B
      simp at e2; subst e2; rfl
/-- The tree that the reference's code comes from is the one of what stands in what. -/
theorem treeOf_flat (f : Fs) (hw : f.wf) (h : f.flat.length ≤ 64) : treeOf f.flat = f.re := by
  have := alt_flat (f.flat.length + 1) f hw (by omega) f.flat 0 [] 283 (by simp) (by omega)
  rw [Nat.zero_add] at this
  exact this
end Mt
