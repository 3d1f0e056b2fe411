import Derived.Test.YtebpgfodelggoaaC51
import Derived.Test.YtebpgfodelggoaaC38
/- The twins of a pattern without capturing groups have the same code. -/
set_option linter.unusedVariables false
set_option linter.unusedSimpArgs false
namespace Mt
def rp3 (n m how : Int) : Tok := ⟨8, 0, 0, n, m, how, []⟩
theorem repA_eq (X : Re) (t : Tok) : repA X t = repA X (rp3 t.n t.m t.how) := rfl
/-- A repeat from j to k. -/
def RepAt (p : ByteArray) (j k n m how : Int) : Prop := ∃ t, nextT p j = (t, 0) ∧ t.kind = 8 ∧ t.to = k ∧ t.n = n ∧ t.m = m ∧ t.how = how ∧ j < p.size
def Pr (p : ByteArray) (i k D : Int) (a : Re) : Prop := ∃ F, Pc p i k F D ∧ F.both = (a, none)
theorem pr_nil (p : ByteArray) (i D : Int) : Pr p i i D .eps := ⟨.nil, Pc.nil p i D, rfl⟩
theorem pr_nil' {p : ByteArray} {i k : Int} (D : Int) (h : i = k) : Pr p i k D .eps := by subst h; exact pr_nil p i D
theorem pr_code {p : ByteArray} {a : Re} {D : Int} (h : Pr p 0 p.size D a) (hD : 0 ≤ D) (hp : p.size ≤ 64) : codeR p = codeOf a := by
  obtain ⟨F, h1, h2⟩ := h
  rw [pc_code h1 hD hp]
  unfold Fs.re; rw [h2]; rfl
theorem pr_wrap0 {p : ByteArray} {i j k D : Int} {c : UInt8} {a b : Re} (hc : c = 58 ∨ c = 62) (h1 : Holds p i [40, 63, c]) (hF : Pr p (i + 3) j (D + 1) a) (h2 : Holds p j [41]) (hR : Pr p (j + 1) k D b) (hD : D ≤ 8) :
    Pr p i k D (.cat (if c = 58 then a else .sub 0 a) b) := by
  obtain ⟨F, f1, f2⟩ := hF
  obtain ⟨R, r1, r2⟩ := hR
  refine ⟨_, pc_grp hc h1 f1 h2 (Or.inl ⟨rfl, rfl⟩) r1 hD, ?_⟩
  simp only [Fs.both, f2, r2, joinRe, part]
  rcases hc with rfl | rfl <;> simp [grpRe, hw3]
theorem pr_wrap1 {p : ByteArray} {i j k j2 D n m how : Int} {c : UInt8} {a b : Re} (hc : c = 58 ∨ c = 62) (h1 : Holds p i [40, 63, c]) (hF : Pr p (i + 3) j (D + 1) a) (h2 : Holds p j [41]) (hq : RepAt p (j + 1) j2 n m how) (hR : Pr p j2 k D b) (hD : D ≤ 8) :
    Pr p i k D (.cat (repA (if c = 58 then a else .sub 0 a) (rp3 n m how)) b) := by
  obtain ⟨F, f1, f2⟩ := hF
  obtain ⟨R, r1, r2⟩ := hR
  obtain ⟨t, t1, t2, t3, rfl, rfl, rfl, t7⟩ := hq
  refine ⟨_, pc_grp hc h1 f1 h2 (Or.inr ⟨t, rfl, t1, t2, t3, t7⟩) r1 hD, ?_⟩
  simp only [Fs.both, f2, r2, joinRe, part]
  rw [repA_eq]
  rcases hc with rfl | rfl <;> simp [grpRe, hw3]

/-- x in a group. -/
def yB (x : List UInt8) : List UInt8 := 40 :: 63 :: 58 :: (x ++ [41])
theorem yB_len (x : List UInt8) : (yB x).length = x.length + 4 := by simp [yB]
/-- What is known of x. -/
structure Good' (x : List UInt8) (f : Fs) : Prop where
  nc : NoCap (bp x)
  hx : x.length ≤ 12
  wf : f.wf
  lex : Lex (bp x) 0 f.flat (bp x).size
  may : MayAll [] f.flat
  op : opened f.flat = 0
section
variable {x : List UInt8} {f : Fs} (g : Good' x f) {p : ByteArray} {i k D : Int} {r : List UInt8}
include g
theorem pr_in (h : Holds p i (yB x ++ r)) (hD : D ≤ 4) : Holds p i [40, 63, 58] ∧ (∃ F, Pc p (i + 3) (i + 3 + x.length) F (D + 1) ∧ joinRe F.both = f.re) ∧ Holds p (i + 3 + x.length) [41] ∧ Holds p (i + x.length + 4) r := by
  obtain ⟨h1, h2⟩ := holds_app [40, 63, 58] (x ++ 41 :: r) i (by simpa [yB] using h)
  replace h2 : Holds p (i + 3) (x ++ 41 :: r) := h2
  obtain ⟨h3, h4⟩ := holds_app x (41 :: r) _ h2
  have hp := pc_x g.nc g.hx g.wf g.lex g.may g.op h2
  refine ⟨h1, ⟨_, ⟨hp.wf, hp.lex, fun l hl h0 h5 => hp.ok l hl h0 (by omega), hp.op, hp.nc⟩, by rw [mvF_both]; rfl⟩, ?_, ?_⟩
  · have a := h4.1
    have b := h4.2.1
    exact ⟨a, b, h4.2.2.1, by omega, by omega⟩
  · have := h4.2.2.2
    rw [show i + x.length + 4 = i + 3 + x.length + 1 by omega]; exact this
theorem pr_y0 {b : Re} (h : Holds p i (yB x ++ r)) (hR : Pr p (i + x.length + 4) k D b) (hD : D ≤ 4) : Pr p i k D (.cat f.re b) := by
  obtain ⟨h1, ⟨F, f1, f2⟩, h3, h4⟩ := pr_in g h hD
  obtain ⟨R, r1, r2⟩ := hR
  refine ⟨_, pc_grp (Or.inl rfl) h1 f1 h3 (Or.inl ⟨rfl, by omega⟩) r1 (by omega), ?_⟩
  simp only [Fs.both, f2, r2, part]; simp [grpRe, hw3]
theorem pr_y1 {b : Re} {j2 n m how : Int} (h : Holds p i (yB x ++ r)) (hq : RepAt p (i + x.length + 4) j2 n m how) (hR : Pr p j2 k D b) (hD : D ≤ 4) : Pr p i k D (.cat (repA f.re (rp3 n m how)) b) := by
  obtain ⟨h1, ⟨F, f1, f2⟩, h3, h4⟩ := pr_in g h hD
  obtain ⟨R, r1, r2⟩ := hR
  obtain ⟨t, t1, t2, t3, rfl, rfl, rfl, t7⟩ := hq
  rw [show i + x.length + 4 = i + 3 + x.length + 1 by omega] at t1 t7
  refine ⟨_, pc_grp (Or.inl rfl) h1 f1 h3 (Or.inr ⟨t, rfl, t1, t2, t3, t7⟩) r1 (by omega), ?_⟩
  simp only [Fs.both, f2, r2, part]; rw [repA_eq]; simp [grpRe, hw3]
theorem pr_rest (h : Holds p i (yB x ++ r)) : Holds p (i + x.length + 4) r := (pr_in (D := 0) g h (by omega)).2.2.2
end
theorem calm_end {p : ByteArray} {j : Int} (h : j = p.size) : Calm p j := by unfold Calm; rw [at_end h]; omega
theorem calm_41 {p : ByteArray} {j : Int} {r : List UInt8} (h : Holds p j (41 :: r)) : Calm p j := by unfold Calm; rw [h.2.2.1]; decide
theorem rep_mk {p : ByteArray} {j k n m how : Int} (h : nextT p j = (⟨8, j, k, n, m, how, []⟩, 0)) (hj : j < p.size) : RepAt p j k n m how := ⟨_, h, rfl, rfl, rfl, rfl, rfl, hj⟩
theorem Holds.lt {p : ByteArray} {j : Int} {c : UInt8} {r : List UInt8} (h : Holds p j (c :: r)) : j < p.size := h.2.1
theorem tw_nil : codeR (bp []) = codeOf .eps := pr_code (p := bp []) (D := 4) (pr_nil' 4 (by simp [bp_size])) (by omega) (by simp [bp_size])
section
variable {x : List UInt8} {f : Fs} (g : Good' x f)
include g
theorem tw_x : codeR (bp x) = codeOf f.re := code_of (bp x) f (by rw [bp_size]; have := g.hx; omega) g.wf g.lex g.may (by rw [g.op]; omega) (by have := lex_len g.lex; rw [bp_size] at this; have := g.hx; omega)
theorem tw_y : codeR (bp (yB x)) = codeOf (.cat f.re .eps) := by
  have hx := g.hx
  have hs : ((bp (yB x)).size : Int) = x.length + 4 := by rw [bp_size, yB_len]; push_cast; rfl
  have h := holds_self (yB x ++ [])
  rw [List.append_nil] at h
  exact pr_code (D := 4) (pr_y0 g (r := []) (by simpa using h) (pr_nil' 4 (by omega)) (by omega)) (by omega) (by omega)
/-- One repeat behind the group. -/
theorem tw_1 (rb : List UInt8) (n m how : Int) (hrb : rb ≠ []) (hl : rb.length ≤ 10) (hr : ∀ (p : ByteArray) (j : Int), Holds p j rb → Calm p (j + rb.length) → nextT p j = (⟨8, j, j + rb.length, n, m, how, []⟩, 0)) : codeR (bp (yB x ++ rb)) = codeOf (.cat (repA f.re (rp3 n m how)) .eps) := by
  have hx := g.hx
  have hs : ((bp (yB x ++ rb)).size : Int) = x.length + 4 + rb.length := by rw [bp_size, List.length_append, yB_len]; push_cast; rfl
  have h := holds_self (yB x ++ rb)
  have h2 := pr_rest g h
  have hp : 0 < rb.length := List.length_pos_iff.2 hrb
  refine pr_code (D := 4) (pr_y1 g h (rep_mk (hr _ _ h2 (calm_end (by omega))) (by omega)) (pr_nil' 4 (by omega)) (by omega)) (by omega) (by omega)
/-- The group twice, the second time with a repeat or without. -/
theorem tw_yy : codeR (bp (yB x ++ yB x)) = codeOf (.cat f.re (.cat f.re .eps)) := by
  have hx := g.hx
  have hs : ((bp (yB x ++ yB x)).size : Int) = x.length + 4 + (x.length + 4) := by rw [bp_size, List.length_append, yB_len]; push_cast; rfl
  have h := holds_self (yB x ++ yB x)
  have h2 := pr_rest g h
  exact pr_code (D := 4) (pr_y0 g h (pr_y0 g (r := []) (by simpa using h2) (pr_nil' 4 (by omega)) (by omega)) (by omega)) (by omega) (by omega)
theorem tw_2 (rb : List UInt8) (n m how : Int) (hrb : rb ≠ []) (hl : rb.length ≤ 10) (hr : ∀ (p : ByteArray) (j : Int), Holds p j rb → Calm p (j + rb.length) → nextT p j = (⟨8, j, j + rb.length, n, m, how, []⟩, 0)) : codeR (bp (yB x ++ (yB x ++ rb))) = codeOf (.cat f.re (.cat (repA f.re (rp3 n m how)) .eps)) := by
  have hx := g.hx
  have hs : ((bp (yB x ++ (yB x ++ rb))).size : Int) = x.length + 4 + (x.length + 4 + rb.length) := by rw [bp_size, List.length_append, List.length_append, yB_len]; push_cast; rfl
  have h := holds_self (yB x ++ (yB x ++ rb))
  have h2 := pr_rest g h
  have h3 := pr_rest g h2
  have hp : 0 < rb.length := List.length_pos_iff.2 hrb
  exact pr_code (D := 4) (pr_y0 g h (pr_y1 g h2 (rep_mk (hr _ _ h3 (calm_end (by omega))) (by omega)) (pr_nil' 4 (by omega)) (by omega)) (by omega)) (by omega) (by omega)
theorem tw_3 (rb : List UInt8) (n m how : Int) (hrb : rb ≠ []) (hl : rb.length ≤ 10) (hr : ∀ (p : ByteArray) (j : Int), Holds p j rb → Calm p (j + rb.length) → nextT p j = (⟨8, j, j + rb.length, n, m, how, []⟩, 0)) : codeR (bp (yB x ++ (yB x ++ (yB x ++ rb)))) = codeOf (.cat f.re (.cat f.re (.cat (repA f.re (rp3 n m how)) .eps))) := by
  have hx := g.hx
  have hs : ((bp (yB x ++ (yB x ++ (yB x ++ rb)))).size : Int) = x.length + 4 + (x.length + 4 + (x.length + 4 + rb.length)) := by rw [bp_size, List.length_append, List.length_append, List.length_append, yB_len]; push_cast; rfl
  have h := holds_self (yB x ++ (yB x ++ (yB x ++ rb)))
  have h2 := pr_rest g h
  have h3 := pr_rest g h2
  have h4 := pr_rest g h3
  have hp : 0 < rb.length := List.length_pos_iff.2 hrb
  exact pr_code (D := 4) (pr_y0 g h (pr_y0 g h2 (pr_y1 g h3 (rep_mk (hr _ _ h4 (calm_end (by omega))) (by omega)) (pr_nil' 4 (by omega)) (by omega)) (by omega)) (by omega)) (by omega) (by omega)
/-- In a group of its own: the group with a repeat. -/
theorem tw_in1 (rb : List UInt8) (n m how : Int) (hrb : rb ≠ []) (hl : rb.length ≤ 10) (hr : ∀ (p : ByteArray) (j : Int), Holds p j rb → Calm p (j + rb.length) → nextT p j = (⟨8, j, j + rb.length, n, m, how, []⟩, 0)) : codeR (bp (40 :: 63 :: 62 :: (yB x ++ (rb ++ [41])))) = codeOf (.cat (.sub 0 (.cat (repA f.re (rp3 n m how)) .eps)) .eps) := by
  have hx := g.hx
  have hs : ((bp (40 :: 63 :: 62 :: (yB x ++ (rb ++ [41])))).size : Int) = x.length + 8 + rb.length := by rw [bp_size]; simp [yB_len]; omega
  have h := holds_self (40 :: 63 :: 62 :: (yB x ++ (rb ++ [41])))
  obtain ⟨h1, h2⟩ := holds_app [40, 63, 62] (yB x ++ (rb ++ [41])) 0 h
  replace h2 : Holds _ (0 + 3) (yB x ++ (rb ++ [41])) := h2
  have h3 := pr_rest g h2
  obtain ⟨h4, h5⟩ := holds_app rb [41] _ h3
  have hp : 0 < rb.length := List.length_pos_iff.2 hrb
  have := pr_wrap0 (D := 3) (Or.inr rfl) h1 (pr_y1 g h2 (rep_mk (hr _ _ h4 (calm_41 h5)) (by have := h5.1; have := h5.2.1; omega)) (pr_nil _ _ _) (by omega)) h5 (pr_nil' 3 (k := ((bp (40 :: 63 :: 62 :: (yB x ++ (rb ++ [41])))).size : Int)) (by omega)) (by omega)
  exact pr_code this (by omega) (by omega)
theorem tw_in2 (rb : List UInt8) (n m how : Int) (hrb : rb ≠ []) (hl : rb.length ≤ 10) (hr : ∀ (p : ByteArray) (j : Int), Holds p j rb → Calm p (j + rb.length) → nextT p j = (⟨8, j, j + rb.length, n, m, how, []⟩, 0)) : codeR (bp (40 :: 63 :: 62 :: (yB x ++ (yB x ++ (rb ++ [41]))))) = codeOf (.cat (.sub 0 (.cat f.re (.cat (repA f.re (rp3 n m how)) .eps))) .eps) := by
  have hx := g.hx
  have hs : ((bp (40 :: 63 :: 62 :: (yB x ++ (yB x ++ (rb ++ [41]))))).size : Int) = x.length + x.length + 12 + rb.length := by rw [bp_size]; simp [yB_len]; omega
  have h := holds_self (40 :: 63 :: 62 :: (yB x ++ (yB x ++ (rb ++ [41]))))
  obtain ⟨h1, h2⟩ := holds_app [40, 63, 62] (yB x ++ (yB x ++ (rb ++ [41]))) 0 h
  replace h2 : Holds _ (0 + 3) (yB x ++ (yB x ++ (rb ++ [41]))) := h2
  have h3 := pr_rest g h2
  have h3' := pr_rest g h3
  obtain ⟨h4, h5⟩ := holds_app rb [41] _ h3'
  have hp : 0 < rb.length := List.length_pos_iff.2 hrb
  have := pr_wrap0 (D := 3) (Or.inr rfl) h1 (pr_y0 g h2 (pr_y1 g h3 (rep_mk (hr _ _ h4 (calm_41 h5)) (by have := h5.1; have := h5.2.1; omega)) (pr_nil _ _ _) (by omega)) (by omega)) h5 (pr_nil' 3 (k := ((bp (40 :: 63 :: 62 :: (yB x ++ (yB x ++ (rb ++ [41]))))).size : Int)) (by omega)) (by omega)
  exact pr_code this (by omega) (by omega)
theorem tw_opt2 : codeR (bp (40 :: 63 :: 58 :: (yB x ++ (yB x ++ (63 :: 63 :: 41 :: [63, 63]))))) = codeOf (.cat (repA (.cat f.re (.cat (repA f.re (rp3 0 1 1)) .eps)) (rp3 0 1 1)) .eps) := by
  have hx := g.hx
  have hs : ((bp (40 :: 63 :: 58 :: (yB x ++ (yB x ++ (63 :: 63 :: 41 :: [63, 63]))))).size : Int) = x.length + x.length + 16 := by rw [bp_size]; simp [yB_len]; omega
  have h := holds_self (40 :: 63 :: 58 :: (yB x ++ (yB x ++ (63 :: 63 :: 41 :: [63, 63]))))
  obtain ⟨h1, h2⟩ := holds_app [40, 63, 58] (yB x ++ (yB x ++ (63 :: 63 :: 41 :: [63, 63]))) 0 h
  replace h2 : Holds _ (0 + 3) (yB x ++ (yB x ++ (63 :: 63 :: 41 :: [63, 63]))) := h2
  have h3 := pr_rest g h2
  have h3' := pr_rest g h3
  obtain ⟨h4, h5⟩ := holds_app [63, 63] (41 :: [63, 63]) _ h3'
  obtain ⟨h6, h7⟩ := holds_app [41] [63, 63] _ h5
  have := pr_wrap1 (D := 3) (Or.inl rfl) h1 (pr_y0 g h2 (pr_y1 g h3 (rep_mk (rep_optl h4) (by have := h4.2.1; omega)) (pr_nil' _ rfl) (by omega)) (by omega)) h6 (rep_mk (rep_optl h7) (by have := h7.2.1; exact this)) (pr_nil' 3 (k := ((bp (40 :: 63 :: 58 :: (yB x ++ (yB x ++ (63 :: 63 :: 41 :: [63, 63]))))).size : Int)) (by simp; omega)) (by omega)
  exact pr_code this (by omega) (by omega)
end
end Mt
/- Repeats written in two ways have the same code: the mathematics of the law Sugar. -/
set_option linter.unusedVariables false
set_option linter.unusedSimpArgs false
namespace Mt
theorem codeOf_err (a : Re) : (codeOf a).2 = 0 ∨ (codeOf a).2 = 12 := by unfold codeOf; split <;> simp
theorem codeOf_last (a : Re) (h : (codeOf a).2 = 0) : (codeOf a).1 = a.code 0 0 ++ [⟨13, 0, 0, []⟩] := by
  unfold codeOf at h ⊢
  split
  · rename_i x; rw [if_pos x] at h; simp at h
  · rfl
/-- The pairs of twins. -/
def twinL (x : List UInt8) : List (List UInt8 × List UInt8) :=
  [(x, yB x),
   (yB x ++ [123, 49, 125], yB x),
   (yB x ++ [123, 48, 125], []),
   (yB x ++ [123, 48, 44, 49, 125], yB x ++ [63]),
   (yB x ++ [123, 48, 44, 125], yB x ++ [42]),
   (yB x ++ [123, 49, 44, 125, 63], yB x ++ [43, 63]),
   (yB x ++ [123, 50, 125], yB x ++ yB x),
   (yB x ++ [43], yB x ++ (yB x ++ [42])),
   (yB x ++ [43, 63], yB x ++ (yB x ++ [42, 63])),
   (yB x ++ [123, 50, 44, 51, 125], yB x ++ (yB x ++ (yB x ++ [63]))),
   (yB x ++ [123, 48, 44, 50, 125, 63], 40 :: 63 :: 58 :: (yB x ++ (yB x ++ (63 :: 63 :: 41 :: [63, 63])))),
   (yB x ++ [42, 43], 40 :: 63 :: 62 :: (yB x ++ ([42] ++ [41]))),
   (yB x ++ [63, 43], 40 :: 63 :: 62 :: (yB x ++ ([63] ++ [41]))),
   (yB x ++ [123, 49, 44, 125, 43], 40 :: 63 :: 62 :: (yB x ++ (yB x ++ ([42] ++ [41]))))]
/-- What two twins have in common. -/
def Same2 (a b : List UInt8) : Prop := codeR (bp a) = codeR (bp b) ∧ ((codeR (bp a)).2 = 0 ∨ (codeR (bp a)).2 = 12) ∧ ((codeR (bp a)).2 = 0 → ∃ c, (codeR (bp a)).1 = c ++ [⟨13, 0, 0, []⟩])
theorem same2 {a b : List UInt8} {A B : Re} (ha : codeR (bp a) = codeOf A) (hb : codeR (bp b) = codeOf B) (h : A.code 0 0 = B.code 0 0) : Same2 a b := by
  refine ⟨by rw [ha, hb, codeOf_same h], by rw [ha]; exact codeOf_err A, fun h0 => ?_⟩
  rw [ha] at h0 ⊢
  exact ⟨_, codeOf_last A h0⟩
theorem twins_same {x : List UInt8} {f : Fs} (g : Good' x f) : ∀ q ∈ twinL x, Same2 q.1 q.2 := by
  have r_1 := tw_1 g [123, 49, 125] 1 1 0 (by simp) (by simp) (fun p j h c => rep_1 h c)
  have r_0 := tw_1 g [123, 48, 125] 0 0 0 (by simp) (by simp) (fun p j h c => rep_0 h c)
  have r_01 := tw_1 g [123, 48, 44, 49, 125] 0 1 0 (by simp) (by simp) (fun p j h c => rep_01 h c)
  have r_o := tw_1 g [63] 0 1 0 (by simp) (by simp) (fun p j h c => rep_opt h c)
  have r_0e := tw_1 g [123, 48, 44, 125] 0 (-1) 0 (by simp) (by simp) (fun p j h c => rep_0e h c)
  have r_s := tw_1 g [42] 0 (-1) 0 (by simp) (by simp) (fun p j h c => rep_star h c)
  have r_1el := tw_1 g [123, 49, 44, 125, 63] 1 (-1) 1 (by simp) (by simp) (fun p j h c => rep_1el h)
  have r_pl := tw_1 g [43, 63] 1 (-1) 1 (by simp) (by simp) (fun p j h c => rep_plusl h)
  have r_2 := tw_1 g [123, 50, 125] 2 2 0 (by simp) (by simp) (fun p j h c => rep_2 h c)
  have r_p := tw_1 g [43] 1 (-1) 0 (by simp) (by simp) (fun p j h c => rep_plus h c)
  have r_23 := tw_1 g [123, 50, 44, 51, 125] 2 3 0 (by simp) (by simp) (fun p j h c => rep_23 h c)
  have r_02l := tw_1 g [123, 48, 44, 50, 125, 63] 0 2 1 (by simp) (by simp) (fun p j h c => rep_02l h)
  have r_sp := tw_1 g [42, 43] 0 (-1) 2 (by simp) (by simp) (fun p j h c => rep_starp h)
  have r_op := tw_1 g [63, 43] 0 1 2 (by simp) (by simp) (fun p j h c => rep_optp h)
  have r_1ep := tw_1 g [123, 49, 44, 125, 43] 1 (-1) 2 (by simp) (by simp) (fun p j h c => rep_1ep h)
  have y2s := tw_2 g [42] 0 (-1) 0 (by simp) (by simp) (fun p j h c => rep_star h c)
  have y2sl := tw_2 g [42, 63] 0 (-1) 1 (by simp) (by simp) (fun p j h c => rep_starl h)
  have y3o := tw_3 g [63] 0 1 0 (by simp) (by simp) (fun p j h c => rep_opt h c)
  have i1s := tw_in1 g [42] 0 (-1) 0 (by simp) (by simp) (fun p j h c => rep_star h c)
  have i1o := tw_in1 g [63] 0 1 0 (by simp) (by simp) (fun p j h c => rep_opt h c)
  have i2s := tw_in2 g [42] 0 (-1) 0 (by simp) (by simp) (fun p j h c => rep_star h c)
  intro q hq
  simp only [twinL, List.mem_cons, List.not_mem_nil, or_false] at hq
  rcases hq with rfl | rfl | rfl | rfl | rfl | rfl | rfl | rfl | rfl | rfl | rfl | rfl | rfl | rfl
  · exact same2 (tw_x g) (tw_y g) (by simp [Re.code])
  · exact same2 r_1 (tw_y g) (by simp [Re.code, repA, rp3, timesA, optA, Re.len])
  · exact same2 r_0 tw_nil (by simp [Re.code, repA, rp3, timesA, optA, Re.len])
  · exact same2 r_01 r_o rfl
  · exact same2 r_0e r_s rfl
  · exact same2 r_1el r_pl rfl
  · exact same2 r_2 (tw_yy g) (by simp [Re.code, repA, rp3, timesA, optA, Re.len])
  · exact same2 r_p y2s (by simp [Re.code, repA, rp3, timesA, optA, Re.len])
  · exact same2 r_pl y2sl (by simp [Re.code, repA, rp3, timesA, optA, Re.len])
  · exact same2 r_23 y3o (by simp [Re.code, repA, rp3, timesA, optA, Re.len, Int.add_assoc])
  · exact same2 r_02l (tw_opt2 g) (by simp [Re.code, repA, rp3, timesA, optA, Re.len, Int.add_assoc])
  · exact same2 r_sp i1s (by simp [Re.code, repA, rp3, timesA, optA, Re.len])
  · exact same2 r_op i1o (by simp [Re.code, repA, rp3, timesA, optA, Re.len])
  · exact same2 r_1ep i2s (by simp [Re.code, repA, rp3, timesA, optA, Re.len, Int.add_assoc])
/-- Of every pattern that opens no capturing group. -/
theorem sugar_math (x : List UInt8) (hx : x.length ≤ 12) (hc : NoCap (bp x)) (h : (checkR (bp x)).1 = 0) : ∀ q ∈ twinL x, Same2 q.1 q.2 := by
  obtain ⟨f, h1, h2, h3, h4, h5, h6, h7⟩ := tokens_lex (bp x) hc h
  exact twins_same ⟨hc, hx, h1, h3, h4, h5⟩
end Mt
/- matcherkeep: some, mayCapture. (Plain seats alone.) -/
set_option linter.unusedVariables false
set_option linter.unusedSimpArgs false
namespace Go.Proofs.Ytebpgfodelggoaa
open Go.RowKit

def someB (p : ByteArray) (n : Nat) : ByteArray := if n < p.size then p.extract 0 n else p
theorem someB_size (p : ByteArray) (n : Nat) : (someB p n).size ≤ n ∧ (someB p n).size ≤ p.size := by
  unfold someB
  split
  · simp [ByteArray.size_extract]; omega
  · omega
set_option maxRecDepth 100000 in
set_option maxHeartbeats 1000000 in
theorem some_any (p : ByteArray) (n : Nat) (w : World) (hm : p.size ≤ maxLen) (hn : n ≤ 1000) : Calls Try.prog 7 #[.string p, .int .i64 (n : Int)] w fun e w' => e = .returned (.string (someB p n)) ∧ w = w' := by
  unfold maxLen at hm
  unfold someB
  by_cases h : n < p.size
  · have d1 : decide ((n : Int) < (p.size : Int)) = true := by simpa using h
    rw [if_pos h]
    go_enter Try.func7, Try.ntmps7
    go_wp2_with fail
    go_ret
    exact ⟨rfl, rfl⟩
  · have d1 : decide ((n : Int) < (p.size : Int)) = false := by simpa using h
    rw [if_neg h]
    go_enter Try.func7, Try.ntmps7
    go_wp2_with fail
    go_ret
    exact ⟨rfl, rfl⟩

theorem atB_get (p : ByteArray) (k : Nat) (h : k < p.size) : ((p[k]'h).toNat : Int) = Mt.atB p k := by
  rw [Mt.atB_in p k (by omega) (by omega), Int.toNat_natCast, List.getD_eq_getElem?_getD, List.getElem?_eq_getElem (by simpa using h)]
  rfl
theorem nocap_of {p : ByteArray} (h : ∀ j : Nat, j < p.size → Mt.atB p j = 40 → Mt.atB p (j + 1) = 63) : Mt.NoCap p := by
  intro i hi
  have hb := Mt.atB_ge p i (by omega)
  obtain ⟨k, rfl⟩ := Int.eq_ofNat_of_zero_le hb.1
  exact h k (by omega) hi
def CapSays (p : ByteArray) (e : Ending) : Prop := ∃ b, e = .returned (.bool b) ∧ (b = false → Mt.NoCap p)
set_option maxRecDepth 100000 in
set_option maxHeartbeats 1000000 in
theorem mayCapture_any (p : ByteArray) (w : World) (hm : p.size ≤ 1000) : Calls Try.prog 10 #[.string p] w fun e w' => CapSays p e ∧ w = w' := by
  go_enter Try.func10, Try.ntmps10
  go_wp2_with fail
  go_loop [3] (fun i => ∃ k : Nat, k ≤ p.size ∧ i = .int .i64 k ∧ ∀ j : Nat, j < k → Mt.atB p j = 40 → Mt.atB p (j + 1) = 63) (fun i => p.size - (intOf i).toNat)
  case atStart => exact ⟨0, Nat.zero_le _, rfl, fun j hj => by omega⟩
  case round =>
    obtain ⟨k, hk, rfl, hr⟩ := hrel
    have HR : Hid (∀ j : Nat, j < k → Mt.atB p j = 40 → Mt.atB p (j + 1) = 63) := hr
    clear hr
    by_cases hlt : k < p.size
    · have hk' : (k : Int) < (p.size : Int) := by omega
      have g0 := atB_get p k hlt
      by_cases e0 : Mt.atB p k = 40
      · rw [e0] at g0
        have b0 : (((p[k]'hlt).toNat : Int) == 40) = true := by simpa using g0
        by_cases h1 : k + 1 < p.size
        · have d1 : decide ((p.size : Int) ≤ (k : Int) + 1) = false := by simp; omega
          have h1' : (k : Int) + 1 < (p.size : Int) := by omega
          have g1 := atB_get p (k + 1) h1
          have e1 : Mt.atB p ((k + 1 : Nat) : Int) = Mt.atB p ((k : Int) + 1) := rfl
          rw [e1] at g1
          cases hb : (Mt.atB p ((k : Int) + 1) != 63)
          · have HN : Hid (∀ j : Nat, j < k + 1 → Mt.atB p j = 40 → Mt.atB p (j + 1) = 63) := fun j hj hh => by
              by_cases ej : j = k
              · subst ej; simpa using hb
              · exact HR.out j (by omega) hh
            clear e0 e1
            go_wp2_with fail
            go_round
            case rel => exact ⟨k + 1, by omega, by go_num, HN.out⟩
            case measure => simp [intOf]; omega
          · clear e0 e1
            go_wp2_with fail
            go_ret
            exact ⟨⟨_, rfl, fun h => by simp at h⟩, rfl⟩
        · have d1 : decide ((p.size : Int) ≤ (k : Int) + 1) = true := by simp; omega
          clear e0
          go_wp2_with fail
          go_ret
          exact ⟨⟨_, rfl, fun h => by simp at h⟩, rfl⟩
      · have b0 : (((p[k]'hlt).toNat : Int) == 40) = false := by rw [g0]; simpa using e0
        have HN : Hid (∀ j : Nat, j < k + 1 → Mt.atB p j = 40 → Mt.atB p (j + 1) = 63) := fun j hj hh => by
          by_cases ej : j = k
          · subst ej; exact absurd hh e0
          · exact HR.out j (by omega) hh
        clear e0 g0
        go_wp2_with fail
        go_round
        case rel => exact ⟨k + 1, by omega, by go_num, HN.out⟩
        case measure => simp [intOf]; omega
    · have ek : k = p.size := by omega
      subst ek
      have HN : Hid (Mt.NoCap p) := nocap_of HR.out
      go_wp2_with fail
      go_ret
      exact ⟨⟨_, rfl, fun _ => HN.out⟩, rfl⟩
end Go.Proofs.Ytebpgfodelggoaa
/- matcherkeep: sameCode, checked. (Plain seats alone.) -/
set_option linter.unusedVariables false
set_option linter.unusedSimpArgs false
namespace Go.Proofs.Ytebpgfodelggoaa
open Go.RowKit

theorem ins_two {w : World} {base : Nat} {v : Value} {l : List Mt.Ins} (h : ownIns w base v l) :
    (l = [] ∧ ∃ ao cap, v = .slice ao 0 cap) ∨
    (0 < l.length ∧ ∃ g cap, v = .slice (some ⟨g, 0, none⟩) l.length cap ∧ l.length ≤ cap ∧ g < w.heap.size ∧ base ≤ g ∧ ∀ k j, k < l.length → j < 4 → w.cell? ⟨g, k * 4 + j, none⟩ = (insCells (l.getD k Mt.ins0))[j]?) := by
  by_cases h0 : l = []
  · left
    subst h0
    refine ⟨rfl, ?_⟩
    rcases h.2 with ⟨rfl, _⟩ | ⟨g, cap, cur, rfl, _⟩
    · exact ⟨_, _, rfl⟩
    · exact ⟨_, _, rfl⟩
  · right
    have hp : 0 < l.length := List.length_pos_iff.2 h0
    refine ⟨hp, ?_⟩
    rcases h.2 with ⟨rfl, hn⟩ | ⟨g, cap, cur, rfl, hb, hg, h1, h2, h3, h4⟩
    · omega
    · refine ⟨g, cap, rfl, h1, (Array.getElem?_eq_some_iff.1 hg).1, hb, fun k j hk hj => ?_⟩
      have hc := World.ownsRow.cellAt (g := g) (cap := cap) h (k * 4 + j) (by omega)
      rw [hc, ins_flat_at l k j hk hj]

set_option maxRecDepth 100000 in
set_option maxHeartbeats 4000000 in
theorem keepSame_same (c : List Mt.Ins) (va vb : Value) (w : World) (ha : ownIns w 0 va c) (hb : ownIns w 0 vb c) (hl : c.length ≤ 300) :
    Calls Try.prog 13 #[va, vb] w fun e w' => e = .returned (.bool true) ∧ ∃ n, w' = w.drewN n := by
  rcases ins_two ha with ⟨rfl, ao, capa, rfl⟩ | ⟨hpos, ga, capa, rfl, hca, hga, _, hA⟩
  · rcases ins_two hb with ⟨_, bo, capb, rfl⟩ | ⟨hpos, _⟩
    · clear ha hb
      go_enter Try.func13, Try.ntmps13
      go_wp2_with fail
      refine wp_loop_rounds 1 ?_
      rw [rounds_succ]
      go_wp2_with fail
      go_ret
      exact ⟨rfl, 0, rfl⟩
    · simp at hpos
  · rcases ins_two hb with ⟨rfl, _⟩ | ⟨_, gb, capb, rfl, hcb, hgb, _, hB⟩
    · simp at hpos
    · have HA : Hid (∀ k j, k < c.length → j < 4 → w.cell? ⟨ga, k * 4 + j, none⟩ = (insCells (c.getD k Mt.ins0))[j]?) := hA
      have HB : Hid (∀ k j, k < c.length → j < 4 → w.cell? ⟨gb, k * 4 + j, none⟩ = (insCells (c.getD k Mt.ins0))[j]?) := hB
      clear ha hb hA hB
      go_enter Try.func13, Try.ntmps13
      go_wp2_with fail
      go_loopw [5] (fun i wr => ∃ k d : Nat, k ≤ c.length ∧ i = .int .i64 k ∧ wr = w.drewN d) (fun i _ => c.length - (intOf i).toNat)
      case atStart => exact ⟨0, 0, Nat.zero_le _, rfl, rfl⟩
      case round =>
        obtain ⟨k, d, hk, rfl, rfl⟩ := hrel
        by_cases hlt : k < c.length
        · have a0 : w.cell? ⟨ga, k * 4, none⟩ = some (.int .i64 (c.getD k Mt.ins0).op) := HA.out k 0 hlt (by omega)
          have a1 : w.cell? ⟨ga, k * 4 + 1, none⟩ = some (.int .i64 (c.getD k Mt.ins0).x) := HA.out k 1 hlt (by omega)
          have a2 : w.cell? ⟨ga, k * 4 + 2, none⟩ = some (.int .i64 (c.getD k Mt.ins0).y) := HA.out k 2 hlt (by omega)
          have a3 : w.cell? ⟨ga, k * 4 + 3, none⟩ = some (.string ⟨(c.getD k Mt.ins0).set.toArray⟩) := HA.out k 3 hlt (by omega)
          have b0 : w.cell? ⟨gb, k * 4, none⟩ = some (.int .i64 (c.getD k Mt.ins0).op) := HB.out k 0 hlt (by omega)
          have b1 : w.cell? ⟨gb, k * 4 + 1, none⟩ = some (.int .i64 (c.getD k Mt.ins0).x) := HB.out k 1 hlt (by omega)
          have b2 : w.cell? ⟨gb, k * 4 + 2, none⟩ = some (.int .i64 (c.getD k Mt.ins0).y) := HB.out k 2 hlt (by omega)
          have b3 : w.cell? ⟨gb, k * 4 + 3, none⟩ = some (.string ⟨(c.getD k Mt.ins0).set.toArray⟩) := HB.out k 3 hlt (by omega)
          generalize c.getD k Mt.ins0 = I at *
          have i0 : (0 : Int) ≤ (k : Int) := by omega
          have i1 : (k : Int) < (c.length : Int) := by omega
          go_wp2_with fail
          go_quiet (fail)
          go_wp2_with fail
          go_roundw
          case rel => exact ⟨k + 1, _, by omega, by go_num, rfl⟩
          case measure => simp [intOf]; omega
        · go_wp2_with fail
          go_ret
          exact ⟨rfl, _, rfl⟩

theorem checkR_code (p : ByteArray) : (Mt.codeR p).2 = (Mt.checkR p).1 ∧ ((Mt.checkR p).1 ≠ 0 → (Mt.codeR p).1 = []) ∧ ((Mt.checkR p).1 = 0 → ∃ c, (Mt.codeR p).1 = c ++ [⟨13, 0, 0, []⟩]) := by
  refine ⟨?_, fun h => by unfold Mt.codeR; rw [if_pos h], fun h => ?_⟩
  · unfold Mt.codeR
    split
    · rfl
    · rename_i x; simp at x; simp [x]
  · obtain ⟨f, _, _, _, _, _, hc, _⟩ := Mt.pattern_tree p h
    exact ⟨_, hc⟩

set_option maxRecDepth 100000 in
set_option maxHeartbeats 4000000 in
theorem checked_any (p : ByteArray) (w : World) (hm : p.size ≤ maxLen) : Calls Try.prog 8 #[.string p] w fun e w' => e = .returned (.tuple #[.int .i64 (Mt.checkR p).1, .bool true]) ∧ Below w.heap.size w w' := by
  have K1 : Hid (Calls Try.prog 28 #[.string p] w fun e w' => e = .returned (.tuple #[.int .i64 (Mt.checkR p).1, .int .i64 (Mt.checkR p).2]) ∧ Below w.heap.size w w') := Check_any p w hm
  have K2 : Hid (∀ z : World, Calls Try.prog 12 #[.string p] z fun e w' => ∃ v, e = .returned (.tuple #[v, .int .i64 (Mt.codeR p).2]) ∧ ownIns w' z.heap.size v (Mt.codeR p).1 ∧ Below z.heap.size z w') := fun z => Code_any p z hm
  obtain ⟨h1, h2, h3⟩ := checkR_code p
  have hl := (Mt.codeR_fit p).2
  have HE : Hid ((Mt.codeR p).2 = (Mt.checkR p).1) := h1
  have H2 : Hid ((Mt.checkR p).1 ≠ 0 → (Mt.codeR p).1 = []) := h2
  have H3 : Hid ((Mt.checkR p).1 = 0 → ∃ c, (Mt.codeR p).1 = c ++ [⟨13, 0, 0, []⟩]) := h3
  rw [HE.out] at K2
  clear h1 h2 h3 HE
  generalize (Mt.codeR p).1 = C at *
  generalize (Mt.checkR p).2 = P at *
  generalize (Mt.checkR p).1 = E at *
  go_enter Try.func8, Try.ntmps8
  go_wp2_with fail
  refine K1.out.mono ?_
  rintro e w1 ⟨rfl, hb1⟩
  have HB1 : Hid (Below w.heap.size w w1) := hb1
  clear hb1
  go_wp2_with fail
  refine (K2.out w1).mono ?_
  rintro e w2 ⟨v, rfl, ho, hb2⟩
  have HB2 : Hid (Below w.heap.size w w2) := HB1.out.trans (hb2.mono HB1.out.size)
  clear hb2
  by_cases hE : E = 0
  · obtain ⟨c, hc⟩ := H3.out hE
    rcases ins_two ho with ⟨e0, _⟩ | ⟨hpos, g, cap, rfl, hcap, hg, hgb, hcell⟩
    · rw [hc] at e0; simp at e0
    have hn : C.length = c.length + 1 := by rw [hc]; simp
    have c0 := hcell c.length 0 (by omega) (by omega)
    have e13 : C.getD c.length Mt.ins0 = ⟨13, 0, 0, []⟩ := by rw [hc, List.getD_eq_getElem?_getD, List.getElem?_append_right (Nat.le_refl _)]; simp
    rw [e13] at c0
    change w2.cell? ⟨g, c.length * 4, none⟩ = some (.int .i64 13) at c0
    have m0 : (E != 0) = false := by simpa using hE
    have m1 : (E != E) = false := by simp
    rw [hn] at hl hcap hpos ⊢
    clear ho hcell hc e13 H2 H3 K1 K2
    have hL : c.length + 1 ≤ 300 := hl
    generalize c.length = n at *
    subst hE
    have g1 : decide ((0 : Int) < (n : Int) + 1) = true := by rw [decide_eq_true_eq]; omega
    have g2 : decide (0 < n + 1) = true := by simp
    have i1 : (n : Int) < (n : Int) + 1 := by omega
    have i0 : (0 : Int) ≤ (n : Int) := by omega
    have i2 : (n : Int) + 1 - 1 = n := by omega
    go_wp2_with fail
    go_quiet (fail)
    go_wp2_with fail
    go_ret2
    exact ⟨rfl, below_drewN HB2.out _⟩
  · have hC := H2.out hE
    have m0 : (E != 0) = true := by simpa using hE
    have m1 : (E != E) = false := by simp
    subst hC
    rcases ins_two ho with ⟨_, ao, cap, rfl⟩ | ⟨hpos, _⟩
    · clear ho H2 H3 K1 K2
      go_wp2_with fail
      go_ret2
      exact ⟨rfl, HB2.out⟩
    · simp at hpos
end Go.Proofs.Ytebpgfodelggoaa
