import Derived.Test.YtebpgfodelggoaaC49
/- The twins of a pattern without capturing groups have the same code. -/
set_option linter.unusedVariables false
set_option linter.unusedSimpArgs false
namespace Mt
def rp3 (n m how : Int) : Tok := ⟨8, 0, 0, n, m, how, []⟩
theorem repA_eq (X : Re) (t : Tok) : repA X t = repA X (rp3 t.n t.m t.how) := rfl
/-- A repeat from j to k. -/
def RepAt (p : ByteArray) (j k n m how : Int) : Prop := ∃ t, nextT p j = (t, 0) ∧ t.kind = 8 ∧ t.to = k ∧ t.n = n ∧ t.m = m ∧ t.how = how ∧ j < p.size
def Pr (p : ByteArray) (i k D : Int) (a : Re) : Prop := ∃ F, Pc p i k F D ∧ F.both = (a, none)
theorem pr_nil (p : ByteArray) (i D : Int) : Pr p i i D .eps := ⟨.nil, Pc.nil p i D, rfl⟩
theorem pr_nil' {p : ByteArray} {i k : Int} (D : Int) (h : i = k) : Pr p i k D .eps := by subst h; exact pr_nil p i D
theorem pr_code {p : ByteArray} {a : Re} {D : Int} (h : Pr p 0 p.size D a) (hD : 0 ≤ D) (hp : p.size ≤ 64) : codeR p = codeOf a := by
  obtain ⟨F, h1, h2⟩ := h
  rw [pc_code h1 hD hp]
  unfold Fs.re; rw [h2]; rfl
theorem pr_wrap0 {p : ByteArray} {i j k D : Int} {c : UInt8} {a b : Re} (hc : c = 58 ∨ c = 62) (h1 : Holds p i [40, 63, c]) (hF : Pr p (i + 3) j (D + 1) a) (h2 : Holds p j [41]) (hR : Pr p (j + 1) k D b) (hD : D ≤ 8) :
    Pr p i k D (.cat (if c = 58 then a else .sub 0 a) b) := by
  obtain ⟨F, f1, f2⟩ := hF
  obtain ⟨R, r1, r2⟩ := hR
  refine ⟨_, pc_grp hc h1 f1 h2 (Or.inl ⟨rfl, rfl⟩) r1 hD, ?_⟩
  simp only [Fs.both, f2, r2, joinRe, part]
  rcases hc with rfl | rfl <;> simp [grpRe, hw3]
theorem pr_wrap1 {p : ByteArray} {i j k j2 D n m how : Int} {c : UInt8} {a b : Re} (hc : c = 58 ∨ c = 62) (h1 : Holds p i [40, 63, c]) (hF : Pr p (i + 3) j (D + 1) a) (h2 : Holds p j [41]) (hq : RepAt p (j + 1) j2 n m how) (hR : Pr p j2 k D b) (hD : D ≤ 8) :
    Pr p i k D (.cat (repA (if c = 58 then a else .sub 0 a) (rp3 n m how)) b) := by
  obtain ⟨F, f1, f2⟩ := hF
  obtain ⟨R, r1, r2⟩ := hR
  obtain ⟨t, t1, t2, t3, rfl, rfl, rfl, t7⟩ := hq
  refine ⟨_, pc_grp hc h1 f1 h2 (Or.inr ⟨t, rfl, t1, t2, t3, t7⟩) r1 hD, ?_⟩
  simp only [Fs.both, f2, r2, joinRe, part]
  rw [repA_eq]
  rcases hc with rfl | rfl <;> simp [grpRe, hw3]

/-- x in a group. -/
def yB (x : List UInt8) : List UInt8 := 40 :: 63 :: 58 :: (x ++ [41])
theorem yB_len (x : List UInt8) : (yB x).length = x.length + 4 := by simp [yB]
/-- What is known of x. -/
structure Good' (x : List UInt8) (f : Fs) : Prop where
  nc : NoCap (bp x)
  hx : x.length ≤ 12
  wf : f.wf
  lex : Lex (bp x) 0 f.flat (bp x).size
  may : MayAll [] f.flat
  op : opened f.flat = 0
section
variable {x : List UInt8} {f : Fs} (g : Good' x f) {p : ByteArray} {i k D : Int} {r : List UInt8}
include g
theorem pr_in (h : Holds p i (yB x ++ r)) (hD : D ≤ 4) : Holds p i [40, 63, 58] ∧ (∃ F, Pc p (i + 3) (i + 3 + x.length) F (D + 1) ∧ joinRe F.both = f.re) ∧ Holds p (i + 3 + x.length) [41] ∧ Holds p (i + x.length + 4) r := by
  obtain ⟨h1, h2⟩ := holds_app [40, 63, 58] (x ++ 41 :: r) i (by simpa [yB] using h)
  replace h2 : Holds p (i + 3) (x ++ 41 :: r) := h2
  obtain ⟨h3, h4⟩ := holds_app x (41 :: r) _ h2
  have hp := pc_x g.nc g.hx g.wf g.lex g.may g.op h2
  refine ⟨h1, ⟨_, ⟨hp.wf, hp.lex, fun l hl h0 h5 => hp.ok l hl h0 (by omega), hp.op, hp.nc⟩, by rw [mvF_both]; rfl⟩, ?_, ?_⟩
  · have a := h4.1
    have b := h4.2.1
    exact ⟨a, b, h4.2.2.1, by omega, by omega⟩
  · have := h4.2.2.2
    rw [show i + x.length + 4 = i + 3 + x.length + 1 by omega]; exact this
theorem pr_y0 {b : Re} (h : Holds p i (yB x ++ r)) (hR : Pr p (i + x.length + 4) k D b) (hD : D ≤ 4) : Pr p i k D (.cat f.re b) := by
  obtain ⟨h1, ⟨F, f1, f2⟩, h3, h4⟩ := pr_in g h hD
  obtain ⟨R, r1, r2⟩ := hR
  refine ⟨_, pc_grp (Or.inl rfl) h1 f1 h3 (Or.inl ⟨rfl, by omega⟩) r1 (by omega), ?_⟩
  simp only [Fs.both, f2, r2, part]; simp [grpRe, hw3]
theorem pr_y1 {b : Re} {j2 n m how : Int} (h : Holds p i (yB x ++ r)) (hq : RepAt p (i + x.length + 4) j2 n m how) (hR : Pr p j2 k D b) (hD : D ≤ 4) : Pr p i k D (.cat (repA f.re (rp3 n m how)) b) := by
  obtain ⟨h1, ⟨F, f1, f2⟩, h3, h4⟩ := pr_in g h hD
  obtain ⟨R, r1, r2⟩ := hR
  obtain ⟨t, t1, t2, t3, rfl, rfl, rfl, t7⟩ := hq
  rw [show i + x.length + 4 = i + 3 + x.length + 1 by omega] at t1 t7
  refine ⟨_, pc_grp (Or.inl rfl) h1 f1 h3 (Or.inr ⟨t, rfl, t1, t2, t3, t7⟩) r1 (by omega), ?_⟩
  simp only [Fs.both, f2, r2, part]; rw [repA_eq]; simp [grpRe, hw3]
theorem pr_rest (h : Holds p i (yB x ++ r)) : Holds p (i + x.length + 4) r := (pr_in (D := 0) g h (by omega)).2.2.2
end
theorem calm_end {p : ByteArray} {j : Int} (h : j = p.size) : Calm p j := by unfold Calm; rw [at_end h]; omega
theorem calm_41 {p : ByteArray} {j : Int} {r : List UInt8} (h : Holds p j (41 :: r)) : Calm p j := by unfold Calm; rw [h.2.2.1]; decide
theorem rep_mk {p : ByteArray} {j k n m how : Int} (h : nextT p j = (⟨8, j, k, n, m, how, []⟩, 0)) (hj : j < p.size) : RepAt p j k n m how := ⟨_, h, rfl, rfl, rfl, rfl, rfl, hj⟩
theorem Holds.lt {p : ByteArray} {j : Int} {c : UInt8} {r : List UInt8} (h : Holds p j (c :: r)) : j < p.size := h.2.1
theorem tw_nil : codeR (bp []) = codeOf .eps := pr_code (p := bp []) (D := 4) (pr_nil' 4 (by simp [bp_size])) (by omega) (by simp [bp_size])
section
variable {x : List UInt8} {f : Fs} (g : Good' x f)
include g
theorem tw_x : codeR (bp x) = codeOf f.re := code_of (bp x) f (by rw [bp_size]; have := g.hx; omega) g.wf g.lex g.may (by rw [g.op]; omega) (by have := lex_len g.lex; rw [bp_size] at this; have := g.hx; omega)
theorem tw_y : codeR (bp (yB x)) = codeOf (.cat f.re .eps) := by
  have hx := g.hx
  have hs : ((bp (yB x)).size : Int) = x.length + 4 := by rw [bp_size, yB_len]; push_cast; rfl
  have h := holds_self (yB x ++ [])
  rw [List.append_nil] at h
  exact pr_code (D := 4) (pr_y0 g (r := []) (by simpa using h) (pr_nil' 4 (by omega)) (by omega)) (by omega) (by omega)
/-- One repeat behind the group. -/
theorem tw_1 (rb : List UInt8) (n m how : Int) (hrb : rb ≠ []) (hl : rb.length ≤ 10) (hr : ∀ (p : ByteArray) (j : Int), Holds p j rb → Calm p (j + rb.length) → nextT p j = (⟨8, j, j + rb.length, n, m, how, []⟩, 0)) : codeR (bp (yB x ++ rb)) = codeOf (.cat (repA f.re (rp3 n m how)) .eps) := by
  have hx := g.hx
  have hs : ((bp (yB x ++ rb)).size : Int) = x.length + 4 + rb.length := by rw [bp_size, List.length_append, yB_len]; push_cast; rfl
  have h := holds_self (yB x ++ rb)
  have h2 := pr_rest g h
  have hp : 0 < rb.length := List.length_pos_iff.2 hrb
  refine pr_code (D := 4) (pr_y1 g h (rep_mk (hr _ _ h2 (calm_end (by omega))) (by omega)) (pr_nil' 4 (by omega)) (by omega)) (by omega) (by omega)
/-- The group twice, the second time with a repeat or without. -/
theorem tw_yy : codeR (bp (yB x ++ yB x)) = codeOf (.cat f.re (.cat f.re .eps)) := by
  have hx := g.hx
  have hs : ((bp (yB x ++ yB x)).size : Int) = x.length + 4 + (x.length + 4) := by rw [bp_size, List.length_append, yB_len]; push_cast; rfl
  have h := holds_self (yB x ++ yB x)
  have h2 := pr_rest g h
  exact pr_code (D := 4) (pr_y0 g h (pr_y0 g (r := []) (by simpa using h2) (pr_nil' 4 (by omega)) (by omega)) (by omega)) (by omega) (by omega)
theorem tw_2 (rb : List UInt8) (n m how : Int) (hrb : rb ≠ []) (hl : rb.length ≤ 10) (hr : ∀ (p : ByteArray) (j : Int), Holds p j rb → Calm p (j + rb.length) → nextT p j = (⟨8, j, j + rb.length, n, m, how, []⟩, 0)) : codeR (bp (yB x ++ (yB x ++ rb))) = codeOf (.cat f.re (.cat (repA f.re (rp3 n m how)) .eps)) := by
  have hx := g.hx
  have hs : ((bp (yB x ++ (yB x ++ rb))).size : Int) = x.length + 4 + (x.length + 4 + rb.length) := by rw [bp_size, List.length_append, List.length_append, yB_len]; push_cast; rfl
  have h := holds_self (yB x ++ (yB x ++ rb))
  have h2 := pr_rest g h
  have h3 := pr_rest g h2
  have hp : 0 < rb.length := List.length_pos_iff.2 hrb
  exact pr_code (D := 4) (pr_y0 g h (pr_y1 g h2 (rep_mk (hr _ _ h3 (calm_end (by omega))) (by omega)) (pr_nil' 4 (by omega)) (by omega)) (by omega)) (by omega) (by omega)
theorem tw_3 (rb : List UInt8) (n m how : Int) (hrb : rb ≠ []) (hl : rb.length ≤ 10) (hr : ∀ (p : ByteArray) (j : Int), Holds p j rb → Calm p (j + rb.length) → nextT p j = (⟨8, j, j + rb.length, n, m, how, []⟩, 0)) : codeR (bp (yB x ++ (yB x ++ (yB x ++ rb)))) = codeOf (.cat f.re (.cat f.re (.cat (repA f.re (rp3 n m how)) .eps))) := by
  have hx := g.hx
  have hs : ((bp (yB x ++ (yB x ++ (yB x ++ rb)))).size : Int) = x.length + 4 + (x.length + 4 + (x.length + 4 + rb.length)) := by rw [bp_size, List.length_append, List.length_append, List.length_append, yB_len]; push_cast; rfl
  have h := holds_self (yB x ++ (yB x ++ (yB x ++ rb)))
  have h2 := pr_rest g h
  have h3 := pr_rest g h2
  have h4 := pr_rest g h3
  have hp : 0 < rb.length := List.length_pos_iff.2 hrb
  exact pr_code (D := 4) (pr_y0 g h (pr_y0 g h2 (pr_y1 g h3 (rep_mk (hr _ _ h4 (calm_end (by omega))) (by omega)) (pr_nil' 4 (by omega)) (by omega)) (by omega)) (by omega)) (by omega) (by omega)
/-- In a group of its own: the group with a repeat. -/
theorem tw_in1 (rb : List UInt8) (n m how : Int) (hrb : rb ≠ []) (hl : rb.length ≤ 10) (hr : ∀ (p : ByteArray) (j : Int), Holds p j rb → Calm p (j + rb.length) → nextT p j = (⟨8, j, j + rb.length, n, m, how, []⟩, 0)) : codeR (bp (40 :: 63 :: 62 :: (yB x ++ (rb ++ [41])))) = codeOf (.cat (.sub 0 (.cat (repA f.re (rp3 n m how)) .eps)) .eps) := by
  have hx := g.hx
  have hs : ((bp (40 :: 63 :: 62 :: (yB x ++ (rb ++ [41])))).size : Int) = x.length + 8 + rb.length := by rw [bp_size]; simp [yB_len]; omega
  have h := holds_self (40 :: 63 :: 62 :: (yB x ++ (rb ++ [41])))
  obtain ⟨h1, h2⟩ := holds_app [40, 63, 62] (yB x ++ (rb ++ [41])) 0 h
  replace h2 : Holds _ (0 + 3) (yB x ++ (rb ++ [41])) := h2
  have h3 := pr_rest g h2
  obtain ⟨h4, h5⟩ := holds_app rb [41] _ h3
  have hp : 0 < rb.length := List.length_pos_iff.2 hrb
  have := pr_wrap0 (D := 3) (Or.inr rfl) h1 (pr_y1 g h2 (rep_mk (hr _ _ h4 (calm_41 h5)) (by have := h5.1; have := h5.2.1; omega)) (pr_nil _ _ _) (by omega)) h5 (pr_nil' 3 (k := ((bp (40 :: 63 :: 62 :: (yB x ++ (rb ++ [41])))).size : Int)) (by omega)) (by omega)
  exact pr_code this (by omega) (by omega)
theorem tw_in2 (rb : List UInt8) (n m how : Int) (hrb : rb ≠ []) (hl : rb.length ≤ 10) (hr : ∀ (p : ByteArray) (j : Int), Holds p j rb → Calm p (j + rb.length) → nextT p j = (⟨8, j, j + rb.length, n, m, how, []⟩, 0)) : codeR (bp (40 :: 63 :: 62 :: (yB x ++ (yB x ++ (rb ++ [41]))))) = codeOf (.cat (.sub 0 (.cat f.re (.cat (repA f.re (rp3 n m how)) .eps))) .eps) := by
  have hx := g.hx
  have hs : ((bp (40 :: 63 :: 62 :: (yB x ++ (yB x ++ (rb ++ [41]))))).size : Int) = x.length + x.length + 12 + rb.length := by rw [bp_size]; simp [yB_len]; omega
  have h := holds_self (40 :: 63 :: 62 :: (yB x ++ (yB x ++ (rb ++ [41]))))
  obtain ⟨h1, h2⟩ := holds_app [40, 63, 62] (yB x ++ (yB x ++ (rb ++ [41]))) 0 h
  replace h2 : Holds _ (0 + 3) (yB x ++ (yB x ++ (rb ++ [41]))) := h2
  have h3 := pr_rest g h2
  have h3' := pr_rest g h3
  obtain ⟨h4, h5⟩ := holds_app rb [41] _ h3'
  have hp : 0 < rb.length := List.length_pos_iff.2 hrb
  have := pr_wrap0 (D := 3) (Or.inr rfl) h1 (pr_y0 g h2 (pr_y1 g h3 (rep_mk (hr _ _ h4 (calm_41 h5)) (by have := h5.1; have := h5.2.1; omega)) (pr_nil _ _ _) (by omega)) (by omega)) h5 (pr_nil' 3 (k := ((bp (40 :: 63 :: 62 :: (yB x ++ (yB x ++ (rb ++ [41]))))).size : Int)) (by omega)) (by omega)
  exact pr_code this (by omega) (by omega)
theorem tw_opt2 : codeR (bp (40 :: 63 :: 58 :: (yB x ++ (yB x ++ (63 :: 63 :: 41 :: [63, 63]))))) = codeOf (.cat (repA (.cat f.re (.cat (repA f.re (rp3 0 1 1)) .eps)) (rp3 0 1 1)) .eps) := by
  have hx := g.hx
  have hs : ((bp (40 :: 63 :: 58 :: (yB x ++ (yB x ++ (63 :: 63 :: 41 :: [63, 63]))))).size : Int) = x.length + x.length + 16 := by rw [bp_size]; simp [yB_len]; omega
  have h := holds_self (40 :: 63 :: 58 :: (yB x ++ (yB x ++ (63 :: 63 :: 41 :: [63, 63]))))
  obtain ⟨h1, h2⟩ := holds_app [40, 63, 58] (yB x ++ (yB x ++ (63 :: 63 :: 41 :: [63, 63]))) 0 h
  replace h2 : Holds _ (0 + 3) (yB x ++ (yB x ++ (63 :: 63 :: 41 :: [63, 63]))) := h2
  have h3 := pr_rest g h2
  have h3' := pr_rest g h3
  obtain ⟨h4, h5⟩ := holds_app [63, 63] (41 :: [63, 63]) _ h3'
  obtain ⟨h6, h7⟩ := holds_app [41] [63, 63] _ h5
  have := pr_wrap1 (D := 3) (Or.inl rfl) h1 (pr_y0 g h2 (pr_y1 g h3 (rep_mk (rep_optl h4) (by have := h4.2.1; omega)) (pr_nil' _ rfl) (by omega)) (by omega)) h6 (rep_mk (rep_optl h7) (by have := h7.2.1; exact this)) (pr_nil' 3 (k := ((bp (40 :: 63 :: 58 :: (yB x ++ (yB x ++ (63 :: 63 :: 41 :: [63, 63]))))).size : Int)) (by simp; omega)) (by omega)
  exact pr_code this (by omega) (by omega)
end
end Mt
