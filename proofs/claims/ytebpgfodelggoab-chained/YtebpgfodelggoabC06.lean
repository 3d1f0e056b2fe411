import Derived.Test.YtebpgfodelggoabC03
/- PATTERNS AS TREES, and their code: what matcherref/code.go puts together out of pieces is the code of a tree. -/
set_option linter.unusedVariables false
namespace Mt

inductive Re where
  | eps
  | one (s : List UInt8)
  | back (k : Int)
  | head
  | tail
  | cat (a b : Re)
  | alt (a b : Re)
  | cap (k : Int) (a : Re)
  | sub (s : Int) (a : Re)
  | opt (late : Bool) (a : Re)
  | loop (late : Bool) (a : Re)

def Re.len : Re → Nat
  | .eps => 0
  | .one _ => 1
  | .back _ => 1
  | .head => 1
  | .tail => 1
  | .cat a b => a.len + b.len
  | .alt a b => a.len + b.len + 2
  | .cap _ a => a.len + 2
  | .sub _ a => a.len + 2
  | .opt _ a => a.len + 1
  | .loop _ a => a.len + 3

def spl (x y : Int) (late : Bool) : Ins := if late then ⟨2, y, x, []⟩ else ⟨2, x, y, []⟩
/-- The code of a tree whose first instruction has the number p, in d loops. -/
def Re.code : Re → Int → Int → List Ins
  | .eps, _, _ => []
  | .one s, _, _ => [⟨1, 0, 0, s⟩]
  | .back k, _, _ => [⟨8, k, 0, []⟩]
  | .head, _, _ => [⟨9, 0, 0, []⟩]
  | .tail, _, _ => [⟨10, 0, 0, []⟩]
  | .cat a b, p, d => a.code p d ++ b.code (p + a.len) d
  | .alt a b, p, d => ⟨2, p + 1, p + a.len + 2, []⟩ :: (a.code (p + 1) d ++ ⟨3, p + a.len + 2 + b.len, 0, []⟩ :: b.code (p + a.len + 2) d)
  | .cap k a, p, d => ⟨6, k, 0, []⟩ :: (a.code (p + 1) d ++ [⟨7, k, 0, []⟩])
  | .sub s a, p, d => ⟨11, s, p + a.len + 2, []⟩ :: (a.code (p + 1) d ++ [⟨12, 0, 0, []⟩])
  | .opt late a, p, d => spl (p + 1) (p + a.len + 1) late :: a.code (p + 1) d
  | .loop late a, p, d => spl (p + 1) (p + a.len + 3) late :: ⟨4, d, 0, []⟩ :: (a.code (p + 2) (d + 1) ++ [⟨5, p, d, []⟩])

theorem Re.code_len : ∀ (r : Re) (p d : Int), (r.code p d).length = r.len
  | .eps, _, _ => rfl
  | .one _, _, _ => rfl
  | .back _, _, _ => rfl
  | .head, _, _ => rfl
  | .tail, _, _ => rfl
  | .cat a b, p, d => by simp [Re.code, Re.len, Re.code_len a, Re.code_len b]
  | .alt a b, p, d => by simp [Re.code, Re.len, Re.code_len a, Re.code_len b]; omega
  | .cap _ a, p, d => by simp [Re.code, Re.len, Re.code_len a]
  | .sub _ a, p, d => by simp [Re.code, Re.len, Re.code_len a]
  | .opt _ a, p, d => by simp [Re.code, Re.len, Re.code_len a]
  | .loop _ a, p, d => by simp [Re.code, Re.len, Re.code_len a]

theorem moved_app (a b : List Ins) (n : Int) : moved (a ++ b) n = moved a n ++ moved b n := by simp [moved]
theorem moved_cons (i : Ins) (b : List Ins) (n : Int) : moved (i :: b) n = movedI i n :: moved b n := rfl
theorem moved_nil (n : Int) : moved [] n = [] := rfl
theorem movedI_spl (x y : Int) (late : Bool) (n : Int) : movedI (spl x y late) n = spl (x + n) (y + n) late := by cases late <;> rfl
theorem movedI_add (i : Ins) (m n : Int) : movedI (movedI i m) n = movedI i (m + n) := by
  unfold movedI
  by_cases h2 : i.op = 2
  · simp only [h2, if_true]; simp only [Int.add_assoc]
  · by_cases h3 : i.op = 3 ∨ i.op = 5
    · simp only [if_neg h2, if_pos h3]; simp only [Int.add_assoc]
    · by_cases h11 : i.op = 11
      · simp only [h11]; simp [Int.add_assoc]
      · simp only [if_neg h2, if_neg h3, if_neg h11]
theorem moved_add (c : List Ins) (m n : Int) : moved (moved c m) n = moved c (m + n) := by
  unfold moved; rw [List.map_map]; apply List.map_congr_left; intro i _; exact movedI_add i m n
theorem moved_zero (c : List Ins) : moved c 0 = c := by
  unfold moved
  conv => rhs; rw [← List.map_id c]
  apply List.map_congr_left; intro i _
  unfold movedI
  simp only [Int.add_zero]
  repeat' split
  all_goals rfl
/-- Code that is moved is the code at another place. -/
theorem Re.code_moved : ∀ (r : Re) (p d n : Int), moved (r.code p d) n = r.code (p + n) d
  | .eps, _, _, _ => rfl
  | .one _, _, _, _ => rfl
  | .back _, _, _, _ => rfl
  | .head, _, _, _ => rfl
  | .tail, _, _, _ => rfl
  | .cat a b, p, d, n => by
    simp only [Re.code, moved_app, Re.code_moved a, Re.code_moved b]
    rw [show p + a.len + n = p + n + a.len by omega]
  | .alt a b, p, d, n => by
    simp only [Re.code, moved_app, moved_cons, Re.code_moved a, Re.code_moved b]
    rw [show p + a.len + 2 + n = p + n + a.len + 2 by omega, show p + 1 + n = p + n + 1 by omega]
    simp only [movedI]
    simp
    omega
  | .cap _ a, p, d, n => by
    simp only [Re.code, moved_app, moved_cons, moved_nil, Re.code_moved a]
    rw [show p + 1 + n = p + n + 1 by omega]; rfl
  | .sub _ a, p, d, n => by
    simp only [Re.code, moved_app, moved_cons, moved_nil, Re.code_moved a]
    rw [show p + 1 + n = p + n + 1 by omega]
    simp only [movedI]
    simp
    omega
  | .opt _ a, p, d, n => by
    simp only [Re.code, moved_cons, Re.code_moved a, movedI_spl]
    rw [show p + 1 + n = p + n + 1 by omega, show p + a.len + 1 + n = p + n + a.len + 1 by omega]
  | .loop _ a, p, d, n => by
    simp only [Re.code, moved_app, moved_cons, moved_nil, Re.code_moved a, movedI_spl]
    rw [show p + 1 + n = p + n + 1 by omega, show p + 2 + n = p + n + 2 by omega, show p + a.len + 3 + n = p + n + a.len + 3 by omega]
    rfl

theorem behind_len (a b : List Ins) : (behind a b).length = if 300 < a.length then a.length else a.length + b.length := by
  unfold behind; split
  · rfl
  · simp [moved_len]
theorem behind_app (a b : List Ins) (h : a.length ≤ 300) : behind a b = a ++ moved b a.length := by unfold behind; rw [if_neg (by omega)]

/-- c is L, where that is no longer than a code may be; else c is too long too. -/
def Rep (c L : List Ins) : Prop := (L.length ≤ 300 → c = L) ∧ (300 < L.length → 300 < c.length)
theorem Rep.refl (c : List Ins) : Rep c c := ⟨fun _ => rfl, id⟩
theorem Rep.len {c L : List Ins} (h : Rep c L) : (L.length ≤ 300 → c.length = L.length) ∧ (300 < L.length → 300 < c.length) := ⟨fun hl => by rw [h.1 hl], h.2⟩
theorem Rep.behind {a A b B : List Ins} (ha : Rep a A) (hb : Rep b B) : Rep (behind a b) (A ++ moved B A.length) := by
  have la := ha.len
  have lb := hb.len
  refine ⟨fun h => ?_, fun h => ?_⟩
  · rw [List.length_append, moved_len] at h
    rw [ha.1 (by omega), hb.1 (by omega), behind_app _ _ (by omega)]
  · rw [List.length_append, moved_len] at h
    rw [behind_len]
    split <;> omega
theorem Rep.alone {c L : List Ins} (s : Int) (h : Rep c L) : Rep (alone s c) (⟨11, s, L.length + 2, []⟩ :: (moved L 1 ++ [⟨12, 0, 0, []⟩])) := by
  have hl := h.len
  refine ⟨fun hh => ?_, fun hh => ?_⟩
  · simp only [List.length_cons, List.length_append, moved_len, List.length_nil] at hh
    rw [h.1 (by omega)]
    unfold Mt.alone
    rw [behind_app [_] L (by simp), behind_app _ _ (by simp [moved_len]; omega)]
    rfl
  · simp only [List.length_cons, List.length_append, moved_len, List.length_nil] at hh
    unfold Mt.alone
    rw [behind_len, behind_len]
    simp only [List.length_cons, List.length_nil]
    repeat' split
    all_goals omega
theorem Rep.loop {c L : List Ins} (d : Int) (late : Bool) (h : Rep c L) : Rep (loopC c d late) (spl 1 (L.length + 3) late :: ⟨4, d, 0, []⟩ :: (moved L 2 ++ [⟨5, 0, d, []⟩])) := by
  have hl := h.len
  refine ⟨fun hh => ?_, fun hh => ?_⟩
  · simp only [List.length_cons, List.length_append, moved_len, List.length_nil] at hh
    rw [h.1 (by omega)]
    unfold Mt.loopC
    have e : ∀ x y, splitC x y late = [spl x y late] := fun x y => by cases late <;> rfl
    rw [e, behind_app [_] [_] (by simp)]
    have e2 : ([spl 1 ((L.length : Int) + 3) late] ++ moved [(⟨4, d, 0, []⟩ : Ins)] ([spl 1 ((L.length : Int) + 3) late].length : Int)) = [spl 1 ((L.length : Int) + 3) late, ⟨4, d, 0, []⟩] := rfl
    rw [e2, behind_app [_, _] L (by simp), behind_app _ _ (by simp [moved_len]; omega)]
    simp only [List.length_append, List.length_cons, List.length_nil, moved_len, moved_cons, moved_nil]
    have e3 : movedI ⟨5, -(L.length : Int) - 2, d, []⟩ ((0 + 1 + 1 + L.length : Nat) : Int) = ⟨5, 0, d, []⟩ := by
      show (⟨5, (-(L.length : Int) - 2) + ((0 + 1 + 1 + L.length : Nat) : Int), d, []⟩ : Ins) = _
      congr 1; omega
    rw [e3]; rfl
  · simp only [List.length_cons, List.length_append, moved_len, List.length_nil] at hh
    unfold Mt.loopC
    rw [behind_len, behind_len, behind_len]
    have e : (splitC 1 ((c.length : Int) + 3) late).length = 1 := by unfold splitC; split <;> rfl
    rw [e]
    simp only [List.length_cons, List.length_nil]
    repeat' split
    all_goals omega
theorem Rep.alts {s S r R : List Ins} (hs : Rep s S) (hr : Rep r R) : Rep (Mt.behind (Mt.behind (Mt.behind (splitC 1 ((s.length : Int) + 2) false) s) (jumpC (1 + (r.length : Int)))) r) (⟨2, 1, S.length + 2, []⟩ :: (moved S 1 ++ ⟨3, S.length + 2 + R.length, 0, []⟩ :: moved R (S.length + 2))) := by
  have ls := hs.len
  have lr := hr.len
  refine ⟨fun hh => ?_, fun hh => ?_⟩
  · simp only [List.length_cons, List.length_append, moved_len] at hh
    rw [hs.1 (by omega), hr.1 (by omega)]
    rw [behind_app (splitC _ _ _) S (by simp [splitC]), behind_app _ (jumpC _) (by simp [splitC, moved_len]; omega), behind_app _ R (by simp [splitC, jumpC, moved_len]; omega)]
    have e1 : splitC 1 ((S.length : Int) + 2) false = [⟨2, 1, (S.length : Int) + 2, []⟩] := rfl
    simp only [e1, jumpC, List.length_append, List.length_cons, List.length_nil, moved_len, moved_cons, moved_nil]
    have e2 : movedI ⟨3, 1 + (R.length : Int), 0, []⟩ ((0 + 1 + S.length : Nat) : Int) = ⟨3, S.length + 2 + R.length, 0, []⟩ := by
      show (⟨3, (1 + (R.length : Int)) + ((0 + 1 + S.length : Nat) : Int), 0, []⟩ : Ins) = _
      congr 1; omega
    rw [e2, show ((0 + 1 + S.length + (0 + 1) : Nat) : Int) = (S.length : Int) + 2 by omega]
    simp
  · simp only [List.length_cons, List.length_append, moved_len] at hh
    rw [behind_len, behind_len, behind_len]
    have e1 : (splitC 1 ((s.length : Int) + 2) false).length = 1 := rfl
    have e2 : (jumpC (1 + (r.length : Int))).length = 1 := rfl
    rw [e1, e2]
    repeat' split
    all_goals omega

def timesA (x : Re) : Nat → Re
  | 0 => .eps
  | n + 1 => .cat x (timesA x n)
def optA (x : Re) (late : Bool) : Nat → Re
  | 0 => .eps
  | n + 1 => .opt late (.cat x (optA x late n))
theorem optA_len (x : Re) (late : Bool) : ∀ n, (optA x late n).len = n * (x.len + 1)
  | 0 => by simp [optA, Re.len]
  | n + 1 => by rw [optA, Re.len, Re.len, optA_len x late n, Nat.add_mul]; omega

theorem times_rep {x : List Ins} {X : Re} {d : Int} (hx : Rep x (X.code 0 d)) : ∀ (n : Nat) (c C : List Ins), Rep c C → Rep (timesFrom x n c) (C ++ (timesA X n).code C.length d)
  | 0, c, C, h => by simpa [timesFrom, timesA, Re.code] using h
  | n + 1, c, C, h => by
    have := times_rep hx n _ _ (h.behind hx)
    simp only [timesFrom, timesA, Re.code]
    rw [Re.code_moved, Int.zero_add, List.length_append, Re.code_len, List.append_assoc] at this
    simpa using this
theorem upTo_long (x : List Ins) (late : Bool) : ∀ (n : Nat) (c : List Ins), c.length ≤ (upToFrom x late n c).length
  | 0, c => Nat.le_refl _
  | n + 1, c => by
    refine Nat.le_trans ?_ (upTo_long x late n _)
    rw [behind_len]; split <;> omega
theorem upTo_exact {X : Re} {d : Int} (late : Bool) : ∀ (n : Nat) (c C : List Ins), Rep c C → Rep (upToFrom (X.code 0 d) late n c) (C ++ (optA X late n).code C.length d)
  | 0, c, C, h => by simpa [upToFrom, optA, Re.code] using h
  | n + 1, c, C, h => by
    have e : ∀ x y, splitC x y late = [spl x y late] := fun x y => by cases late <;> rfl
    have k := upTo_exact (X := X) (d := d) late n _ _ (h.behind (Rep.behind (Rep.refl (splitC 1 (((n : Int) + 1) * ((X.code 0 d).length + 1)) late)) (Rep.refl (X.code 0 d))))
    simp only [upToFrom, optA, Re.code]
    rw [e] at k
    simp only [List.length_cons, List.length_nil, moved_app, moved_cons, moved_nil, movedI_spl, Re.code_moved, List.length_append, Re.code_len, Re.len, optA_len] at k ⊢
    rw [e]
    have a1 : (1 : Int) + (C.length : Int) = C.length + 1 := by omega
    have a2 : (((n : Int) + 1) * ((X.len : Int) + 1)) + (C.length : Int) = (C.length : Int) + ((X.len + n * (X.len + 1) : Nat) : Int) + 1 := by
      rw [Int.natCast_add, Int.natCast_mul, Int.add_mul]; simp; omega
    have a3 : (0 : Int) + ((0 + 1 : Nat) : Int) + (C.length : Int) = C.length + 1 := by omega
    have a4 : ((C.length + (0 + 1 + X.len) : Nat) : Int) = (C.length : Int) + 1 + (X.len : Int) := by omega
    rw [a1, a2, a3, a4] at k
    simpa using k
theorem upTo_rep {x : List Ins} {X : Re} {d : Int} (late : Bool) (hx : Rep x (X.code 0 d)) (n : Nat) (c C : List Ins) (h : Rep c C) : Rep (upToFrom x late n c) (C ++ (optA X late n).code C.length d) := by
  have lx := hx.len
  rw [Re.code_len] at lx
  by_cases hX : X.len ≤ 300
  · rw [hx.1 (by rw [Re.code_len]; omega)]; exact upTo_exact late n c C h
  · match n with
    | 0 => simpa [upToFrom, optA, Re.code] using h
    | n + 1 =>
      have hl : 300 < (C ++ (optA X late (n + 1)).code C.length d).length := by
        rw [List.length_append, Re.code_len, optA_len, Nat.add_mul]; omega
      refine ⟨fun hh => by omega, fun _ => ?_⟩
      refine Nat.lt_of_lt_of_le ?_ (upTo_long x late n _)
      have e1 : (splitC 1 (((n : Int) + 1) * (x.length + 1)) late).length = 1 := by unfold splitC; split <;> rfl
      rw [behind_len, behind_len, e1]
      repeat' split
      all_goals omega

/-- The tree of tokens: as gen. -/
def seqA (at' rp : Nat → Nat → Re) (l : List Tok) (b : Nat) : Nat → Nat → Re
  | 0, _ => .eps
  | f + 1, i =>
    if b ≤ i then .eps
    else if after l i < b ∧ kindAt l (after l i) = 8 then .cat (rp i (after l i)) (seqA at' rp l b f (after l i + 1))
    else .cat (at' i (after l i)) (seqA at' rp l b f (after l i))
def repA (x : Re) (r : Tok) : Re :=
  let c1 := if 0 < r.n ∨ 0 < r.m then (if r.n < r.m then .cat (timesA x r.n.toNat) (optA x (decide (r.how = 1)) (r.m - r.n).toNat) else timesA x r.n.toNat) else .eps
  let c2 := if r.m < 0 then .cat c1 (.loop (decide (r.how = 1)) x) else c1
  if r.how = 2 then .sub 0 c2 else c2
def tree (l : List Tok) : Nat → Nat → Nat → Nat → Re
  | 0, _, _, _ => .eps
  | f + 1, 0, a, b => if bar l a b = b then tree l f 1 a (bar l a b) else .alt (tree l f 1 a (bar l a b)) (tree l f 0 (bar l a b + 1) b)
  | f + 1, 1, a, b => seqA (fun i j => tree l f 2 i j) (fun i j => tree l f 3 i j) l b (b - a) a
  | f + 1, 2, a, b =>
    if kindAt l a = 1 then .one (l.getD a tok0).set
    else if kindAt l a = 2 then .back (l.getD a tok0).n
    else if kindAt l a = 3 then .head
    else if kindAt l a = 4 then .tail
    else if (l.getD a tok0).how = 3 then tree l f 0 (a + 1) (b - 1)
    else if (l.getD a tok0).how = 4 then .cap (l.getD a tok0).n (tree l f 0 (a + 1) (b - 1))
    else .sub (l.getD a tok0).how (tree l f 0 (a + 1) (b - 1))
  | f + 1, _ + 3, a, b => repA (tree l f 2 a b) (l.getD b tok0)

theorem seq_rep {at' rp : Nat → Nat → List Ins} {At Rp : Nat → Nat → Re} {d : Int} (l : List Tok) (b : Nat) (h1 : ∀ i j, Rep (at' i j) ((At i j).code 0 d)) (h2 : ∀ i j, Rep (rp i j) ((Rp i j).code 0 d)) :
    ∀ (f i : Nat) (c C : List Ins), Rep c C → Rep (seqWith at' rp l b f i c) (C ++ (seqA At Rp l b f i).code C.length d)
  | 0, i, c, C, h => by simpa [seqWith, seqA, Re.code] using h
  | f + 1, i, c, C, h => by
    simp only [seqWith, seqA]
    split
    · simpa [Re.code] using h
    split
    · have := seq_rep l b h1 h2 f (after l i + 1) _ _ (h.behind (h2 i (after l i)))
      rw [Re.code_moved, Int.zero_add, List.length_append, Re.code_len, List.append_assoc] at this
      simp only [Re.code]
      simpa using this
    · have := seq_rep l b h1 h2 f (after l i) _ _ (h.behind (h1 i (after l i)))
      rw [Re.code_moved, Int.zero_add, List.length_append, Re.code_len, List.append_assoc] at this
      simp only [Re.code]
      simpa using this

theorem rep_nil_app {c L : List Ins} (h : Rep c ([] ++ L)) : Rep c L := h

theorem repA_rep {x y : List Ins} {X : Re} {d : Int} (hx : Rep x (X.code 0 d)) (hy : Rep y (X.code 0 (d + 1))) (r : Tok) :
    Rep (let c1 := if 0 < r.n ∨ 0 < r.m then (if r.n < r.m then behind (timesFrom x r.n.toNat []) (upTo x (r.m - r.n).toNat (decide (r.how = 1))) else timesFrom x r.n.toNat []) else []
      let c2 := if r.m < 0 then behind c1 (loopC y d (decide (r.how = 1))) else c1
      if r.how = 2 then alone 0 c2 else c2) ((repA X r).code 0 d) := by
  unfold repA
  dsimp only
  have t0 : Rep (timesFrom x r.n.toNat []) ((timesA X r.n.toNat).code 0 d) := times_rep hx r.n.toNat [] [] (Rep.refl _)
  have u0 : Rep (upTo x (r.m - r.n).toNat (decide (r.how = 1))) ((optA X (decide (r.how = 1)) (r.m - r.n).toNat).code 0 d) := upTo_rep _ hx _ [] [] (Rep.refl _)
  have c1 : Rep (if 0 < r.n ∨ 0 < r.m then (if r.n < r.m then behind (timesFrom x r.n.toNat []) (upTo x (r.m - r.n).toNat (decide (r.how = 1))) else timesFrom x r.n.toNat []) else [])
      ((if 0 < r.n ∨ 0 < r.m then (if r.n < r.m then Re.cat (timesA X r.n.toNat) (optA X (decide (r.how = 1)) (r.m - r.n).toNat) else timesA X r.n.toNat) else Re.eps).code 0 d) := by
    split
    · split
      · have := t0.behind u0
        rw [Re.code_moved, Re.code_len] at this
        exact this
      · exact t0
    · exact Rep.refl _
  generalize (if 0 < r.n ∨ 0 < r.m then (if r.n < r.m then behind (timesFrom x r.n.toNat []) (upTo x (r.m - r.n).toNat (decide (r.how = 1))) else timesFrom x r.n.toNat []) else []) = z1 at *
  generalize (if 0 < r.n ∨ 0 < r.m then (if r.n < r.m then Re.cat (timesA X r.n.toNat) (optA X (decide (r.how = 1)) (r.m - r.n).toNat) else timesA X r.n.toNat) else Re.eps) = Z1 at *
  have c2 : Rep (if r.m < 0 then behind z1 (loopC y d (decide (r.how = 1))) else z1) ((if r.m < 0 then Re.cat Z1 (.loop (decide (r.how = 1)) X) else Z1).code 0 d) := by
    split
    · have := c1.behind (hy.loop d (decide (r.how = 1)))
      have e : (spl 1 (((X.code 0 (d + 1)).length : Int) + 3) (decide (r.how = 1)) :: ⟨4, d, 0, []⟩ :: (moved (X.code 0 (d + 1)) 2 ++ [⟨5, 0, d, []⟩])) = (Re.loop (decide (r.how = 1)) X).code 0 d := by
        simp only [Re.code, Re.code_moved, Re.code_len]
        rw [Int.zero_add, Int.zero_add, Int.zero_add]
      rw [e, Re.code_moved, Re.code_len] at this
      exact this
    · exact c1
  generalize (if r.m < 0 then behind z1 (loopC y d (decide (r.how = 1))) else z1) = z2 at *
  generalize (if r.m < 0 then Re.cat Z1 (.loop (decide (r.how = 1)) X) else Z1) = Z2 at *
  split
  · have := c2.alone 0
    rw [Re.code_moved, Re.code_len] at this
    simp only [Re.code]
    rw [Int.zero_add] at this ⊢
    exact this
  · exact c2

theorem gen_rep (l : List Tok) : ∀ (f tag a b : Nat) (d : Int), Rep (gen l f tag a b d) ((tree l f tag a b).code 0 d) := by
  intro f
  induction f with
  | zero => intro tag a b d; simp only [gen, tree]; exact Rep.refl _
  | succ f ih =>
    intro tag a b d
    match tag with
    | 0 =>
      simp only [gen, tree]
      split
      · exact ih 1 a _ d
      · have := (ih 1 a (bar l a b) d).alts (ih 0 (bar l a b + 1) b d)
        simp only [Re.code]
        rw [Re.code_moved, Re.code_moved, Re.code_len, Re.code_len] at this
        simp only [Int.zero_add] at this ⊢
        exact this
    | 1 =>
      simp only [gen, tree]
      exact seq_rep l b (fun i j => ih 2 i j d) (fun i j => ih 3 i j d) (b - a) a [] [] (Rep.refl _)
    | 2 =>
      simp only [gen, tree]
      split
      · exact Rep.refl _
      split
      · exact Rep.refl _
      split
      · exact Rep.refl _
      split
      · exact Rep.refl _
      split
      · exact ih 0 (a + 1) (b - 1) d
      split
      · have := (Rep.behind (Rep.behind (Rep.refl [(⟨6, (l.getD a tok0).n, 0, []⟩ : Ins)]) (ih 0 (a + 1) (b - 1) d)) (Rep.refl [(⟨7, (l.getD a tok0).n, 0, []⟩ : Ins)]))
        rw [Re.code_moved] at this
        simp only [Re.code]
        simpa [moved, movedI] using this
      · have := (ih 0 (a + 1) (b - 1) d).alone (l.getD a tok0).how
        rw [Re.code_moved, Re.code_len] at this
        simp only [Re.code]
        simp only [Int.zero_add] at this ⊢
        exact this
    | tag + 3 =>
      simp only [gen, tree]
      exact repA_rep (ih 2 a b d) (ih 2 a b (d + 1)) (l.getD b tok0)

/-- The tree of a pattern's tokens. -/
def treeOf (l : List Tok) : Re := tree l 283 0 0 l.length
theorem coded_rep (l : List Tok) : Rep (coded l) ((treeOf l).code 0 0 ++ [⟨13, 0, 0, []⟩]) := by
  have := (gen_rep l 283 0 0 l.length 0).behind (Rep.refl [(⟨13, 0, 0, []⟩ : Ins)])
  exact this
theorem coded_len (l : List Tok) : ((treeOf l).len + 1 ≤ 300 → (coded l).length = (treeOf l).len + 1) ∧ (300 < (treeOf l).len + 1 → 300 < (coded l).length) := by
  have := (coded_rep l).len
  rw [List.length_append, Re.code_len] at this
  exact this
theorem coded_tree (l : List Tok) (h : (coded l).length ≤ 300) : coded l = (treeOf l).code 0 0 ++ [⟨13, 0, 0, []⟩] ∧ (treeOf l).len + 1 ≤ 300 := by
  have h1 := coded_len l
  have h2 : (treeOf l).len + 1 ≤ 300 := by omega
  exact ⟨(coded_rep l).1 (by rw [List.length_append, Re.code_len]; exact h2), h2⟩
end Mt
