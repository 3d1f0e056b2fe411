import Derived.Test.YtedcboimnmhdaaaGreatC04
import Derived.Test.YtedcboimnmhdaaaGreatC03
/- THE PLAIN MATHEMATICS OF matcherref/code.go: a code put together out of pieces. -/
set_option linter.unusedVariables false
namespace Mt

structure Ins where
  op : Int
  x : Int
  y : Int
  set : List UInt8

def ins0 : Ins := ⟨0, 0, 0, []⟩
/-- An instruction whose numbers counted from 0 and now count from by. -/
def movedI (i : Ins) (by' : Int) : Ins :=
  if i.op = 2 then ⟨i.op, i.x + by', i.y + by', i.set⟩
  else if i.op = 3 ∨ i.op = 5 then ⟨i.op, i.x + by', i.y, i.set⟩
  else if i.op = 11 then ⟨i.op, i.x, i.y + by', i.set⟩
  else i
def moved (c : List Ins) (by' : Int) : List Ins := c.map fun i => movedI i by'
theorem moved_len (c : List Ins) (n : Int) : (moved c n).length = c.length := by simp [moved]

def behind (a b : List Ins) : List Ins := if 300 < a.length then a else a ++ moved b a.length
def splitC (x y : Int) (late : Bool) : List Ins := if late then [⟨2, y, x, []⟩] else [⟨2, x, y, []⟩]

/-- No number of the code, and no length, is beyond M. -/
def fitI (M : Int) (i : Ins) : Prop := -M ≤ i.x ∧ i.x ≤ M ∧ -M ≤ i.y ∧ i.y ≤ M
def fit (M : Int) (c : List Ins) : Prop := (c.length : Int) ≤ M ∧ ∀ i ∈ c, fitI M i
theorem fitI_mono {M N : Int} {i : Ins} (h : fitI M i) (hn : M ≤ N) : fitI N i := by unfold fitI at *; omega
theorem fit_mono {M N : Int} {c : List Ins} (h : fit M c) (hn : M ≤ N) : fit N c := ⟨by have := h.1; omega, fun i hi => fitI_mono (h.2 i hi) hn⟩
theorem fit_one {M : Int} {i : Ins} (h : fitI M i) (h1 : 1 ≤ M) : fit M [i] := ⟨by simpa using h1, fun j hj => by simp at hj; rw [hj]; exact h⟩
theorem fit_nil {M : Int} (h : 0 ≤ M) : fit M [] := ⟨by simpa using h, fun j hj => by simp at hj⟩
theorem fitI_moved {M n : Int} {i : Ins} (h : fitI M i) (h0 : 0 ≤ n) (hn : n ≤ 300) : fitI (M + 300) (movedI i n) := by
  unfold fitI at *
  unfold movedI
  split
  · simp only; omega
  · split
    · simp only; omega
    · split
      · simp only; omega
      · omega
theorem fit_behind {M : Int} {a b : List Ins} (ha : fit M a) (hb : fit M b) : fit (M + 300) (behind a b) := by
  unfold behind
  by_cases h : 300 < a.length
  · rw [if_pos h]; exact fit_mono ha (by omega)
  · rw [if_neg h]
    refine ⟨?_, fun i hi => ?_⟩
    · rw [List.length_append, moved_len]; have := hb.1; omega
    · rcases List.mem_append.1 hi with hi | hi
      · exact fitI_mono (ha.2 i hi) (by omega)
      · unfold moved at hi
        obtain ⟨j, hj, rfl⟩ := List.mem_map.1 hi
        exact fitI_moved (hb.2 j hj) (by omega) (by omega)

def kindAt (l : List Tok) (k : Nat) : Int := (l.getD k tok0).kind

/-- The first bar from i on that stands in no group; b: there is none. -/
def barFrom (l : List Tok) (b : Nat) : Nat → Nat → Nat
  | 0, _ => b
  | f + 1, i =>
    if b ≤ i then b
    else if kindAt l i = 5 then i
    else if kindAt l i = 6 then barFrom l b f (closing l i + 1)
    else barFrom l b f (i + 1)
theorem barFrom_fuel (l : List Tok) (b : Nat) : ∀ (f g i : Nat), b - i ≤ f → b - i ≤ g → barFrom l b f i = barFrom l b g i := by
  intro f
  induction f with
  | zero =>
    intro g i hf hg
    cases g with
    | zero => rfl
    | succ g => simp only [barFrom]; rw [if_pos (by omega)]
  | succ f ih =>
    intro g i hf hg
    cases g with
    | zero => simp only [barFrom]; rw [if_pos (by omega)]
    | succ g =>
      simp only [barFrom]
      by_cases h : b ≤ i
      · rw [if_pos h, if_pos h]
      · rw [if_neg h, if_neg h]
        have hc := closing_ge l i
        rw [ih g (closing l i + 1) (by omega) (by omega), ih g (i + 1) (by omega) (by omega)]
def bar (l : List Tok) (a b : Nat) : Nat := barFrom l b (b - a) a
theorem bar_step (l : List Tok) (i b : Nat) : bar l i b =
    if b ≤ i then b else if kindAt l i = 5 then i else if kindAt l i = 6 then bar l (closing l i + 1) b else bar l (i + 1) b := by
  have hc := closing_ge l i
  by_cases h : b ≤ i
  · rw [if_pos h]; unfold bar; rw [show b - i = 0 by omega]; rfl
  · rw [if_neg h]; unfold bar
    rw [show b - i = (b - i - 1) + 1 by omega]; simp only [barFrom]; rw [if_neg h]
    rw [barFrom_fuel l b (b - i - 1) (b - (closing l i + 1)) (closing l i + 1) (by omega) (by omega), barFrom_fuel l b (b - i - 1) (b - (i + 1)) (i + 1) (by omega) (by omega)]
theorem bar_le (l : List Tok) (b : Nat) : ∀ f i, b - i ≤ f → bar l i b ≤ b := by
  intro f
  induction f with
  | zero => intro i h; rw [bar_step, if_pos (by omega)]; omega
  | succ f ih =>
    intro i h
    have hc := closing_ge l i
    rw [bar_step]
    by_cases h1 : b ≤ i
    · rw [if_pos h1]; omega
    · rw [if_neg h1]
      split
      · omega
      · split
        · exact ih _ (by omega)
        · exact ih _ (by omega)
theorem bar_ge (l : List Tok) (b : Nat) : ∀ f i, b - i ≤ f → bar l i b = b ∨ (i ≤ bar l i b ∧ bar l i b < b) := by
  intro f
  induction f with
  | zero => intro i h; rw [bar_step, if_pos (by omega)]; simp
  | succ f ih =>
    intro i h
    have hc := closing_ge l i
    rw [bar_step]
    by_cases h1 : b ≤ i
    · rw [if_pos h1]; simp
    · rw [if_neg h1]
      split
      · omega
      · split
        · have := ih (closing l i + 1) (by omega); omega
        · have := ih (i + 1) (by omega); omega

/-- The index behind the atom that begins with token i. -/
def after (l : List Tok) (i : Nat) : Nat := if kindAt l i = 6 then closing l i + 1 else i + 1
theorem after_gt (l : List Tok) (i : Nat) : i < after l i := by unfold after; have := closing_ge l i; split <;> omega
theorem after_le (l : List Tok) (i : Nat) (h : i < l.length) : after l i ≤ l.length + 1 := by unfold after; have := closing_le l i (by omega); split <;> omega

def alone (sort : Int) (c : List Ins) : List Ins := behind (behind [⟨11, sort, c.length + 2, []⟩] c) [⟨12, 0, 0, []⟩]
def loopC (y : List Ins) (d : Int) (late : Bool) : List Ins := behind (behind (behind (splitC 1 (y.length + 3) late) [⟨4, d, 0, []⟩]) y) [⟨5, -y.length - 2, d, []⟩]
/-- x at most k times: the rounds that are still to come, behind c. -/
def upToFrom (x : List Ins) (late : Bool) : Nat → List Ins → List Ins
  | 0, c => c
  | n + 1, c => upToFrom x late n (behind c (behind (splitC 1 (((n : Int) + 1) * (x.length + 1)) late) x))
def upTo (x : List Ins) (k : Nat) (late : Bool) : List Ins := upToFrom x late k []
def timesFrom (x : List Ins) : Nat → List Ins → List Ins
  | 0, c => c
  | n + 1, c => timesFrom x n (behind c x)

/-- The code of a row of parts from i on, behind c. -/
def seqWith (at' rp : Nat → Nat → List Ins) (l : List Tok) (b : Nat) : Nat → Nat → List Ins → List Ins
  | 0, _, c => c
  | f + 1, i, c =>
    if b ≤ i then c
    else if after l i < b ∧ kindAt l (after l i) = 8 then seqWith at' rp l b f (after l i + 1) (behind c (rp i (after l i)))
    else seqWith at' rp l b f (after l i) (behind c (at' i (after l i)))

def jumpC (n : Int) : List Ins := [⟨3, n, 0, []⟩]

/-- The code of tokens: tag 0: alternatives from a to b; 1: a sequence; 2: the atom that is the tokens from a to b; 3: that atom with the repeat that is token b. In d loops. -/
def gen (l : List Tok) : Nat → Nat → Nat → Nat → Int → List Ins
  | 0, _, _, _, _ => []
  | f + 1, 0, a, b, d =>
    if bar l a b = b then gen l f 1 a (bar l a b) d
    else behind (behind (behind (splitC 1 ((gen l f 1 a (bar l a b) d).length + 2) false) (gen l f 1 a (bar l a b) d)) (jumpC (1 + (gen l f 0 (bar l a b + 1) b d).length))) (gen l f 0 (bar l a b + 1) b d)
  | f + 1, 1, a, b, d => seqWith (fun i j => gen l f 2 i j d) (fun i j => gen l f 3 i j d) l b (b - a) a []
  | f + 1, 2, a, b, d =>
    if kindAt l a = 1 then [⟨1, 0, 0, (l.getD a tok0).set⟩]
    else if kindAt l a = 2 then [⟨8, (l.getD a tok0).n, 0, []⟩]
    else if kindAt l a = 3 then [⟨9, 0, 0, []⟩]
    else if kindAt l a = 4 then [⟨10, 0, 0, []⟩]
    else if (l.getD a tok0).how = 3 then gen l f 0 (a + 1) (b - 1) d
    else if (l.getD a tok0).how = 4 then behind (behind [⟨6, (l.getD a tok0).n, 0, []⟩] (gen l f 0 (a + 1) (b - 1) d)) [⟨7, (l.getD a tok0).n, 0, []⟩]
    else alone (l.getD a tok0).how (gen l f 0 (a + 1) (b - 1) d)
  | f + 1, _ + 3, a, b, d =>
    let r := l.getD b tok0
    let c1 := if 0 < r.n ∨ 0 < r.m then
        (if r.n < r.m then behind (timesFrom (gen l f 2 a b d) r.n.toNat []) (upTo (gen l f 2 a b d) (r.m - r.n).toNat (decide (r.how = 1))) else timesFrom (gen l f 2 a b d) r.n.toNat [])
      else []
    let c2 := if r.m < 0 then behind c1 (loopC (gen l f 2 a b (d + 1)) d (decide (r.how = 1))) else c1
    if r.how = 2 then alone 0 c2 else c2

/-- The code of a pattern's tokens. -/
def coded (l : List Tok) : List Ins := behind (gen l 283 0 0 l.length 0) [⟨13, 0, 0, []⟩]

end Mt
set_option linter.unusedVariables false
set_option linter.unusedSimpArgs false
namespace Go.Proofs.YtedcboimnmhdaaaGreat
open Go.RowKit

def insCells (i : Mt.Ins) : List Value := [.int .i64 i.op, .int .i64 i.x, .int .i64 i.y, .string ⟨i.set.toArray⟩]
/-- The slice v holds the instructions c, in memory of a call that began at base. -/
def ownIns (w : World) (base : Nat) (v : Value) (c : List Mt.Ins) : Prop := w.ownsRow base 106 4 v c.length (c.flatMap insCells)
theorem ownIns.below {w w' : World} {base : Nat} {v : Value} {l : List Mt.Ins} (h : ownIns w base v l) (hb : Below w.heap.size w w') : ownIns w' base v l := owns_below h hb
theorem ownIns.base {w : World} {base base' : Nat} {v : Value} {l : List Mt.Ins} (h : ownIns w base v l) (hb : base' ≤ base) : ownIns w base' v l := owns_base h hb
theorem ownIns.nil (w : World) (base : Nat) : ownIns w base (.slice none 0 0) [] := World.ownsRow_nil _ _ _ _
theorem ins_one (t : Mt.Ins) : ∀ u ∈ insCells t, u.oneCell' = true := by
  intro u hu
  simp only [insCells, List.mem_cons, List.not_mem_nil, or_false] at hu
  rcases hu with rfl | rfl | rfl | rfl <;> rfl
theorem insFlat_one (c : List Mt.Ins) : ∀ u ∈ c.flatMap insCells, u.oneCell' = true := by
  intro u hu
  obtain ⟨i, _, hi⟩ := List.mem_flatMap.1 hu
  exact ins_one i u hi
theorem own_ins_snoc {w : World} {base : Nat} {v : Value} {l : List Mt.Ins} {t : Mt.Ins} (h : w.ownsRow base 106 4 v (l.length + 1) (l.flatMap insCells ++ insCells t)) : ownIns w base v (l ++ [t]) := by
  unfold ownIns
  rw [List.length_append, List.flatMap_append, List.flatMap_cons, List.flatMap_nil, List.append_nil]
  exact h
theorem ins_flat_at : ∀ (l : List Mt.Ins) (k j : Nat), k < l.length → j < 4 → (l.flatMap insCells)[k * 4 + j]? = (insCells (l.getD k Mt.ins0))[j]? := by
  intro l
  induction l with
  | nil => intro k j h; simp at h
  | cons t r ih =>
    intro k j h hj
    rw [List.flatMap_cons]
    have h7 : (insCells t).length = 4 := rfl
    cases k with
    | zero => rw [List.getElem?_append_left (by omega)]; simp
    | succ k =>
      rw [List.getElem?_append_right (by omega), h7, show (k + 1) * 4 + j - 4 = k * 4 + j by omega, ih k j (by simpa using h) hj]
      simp
theorem ins_flat_len (l : List Mt.Ins) : (l.flatMap insCells).length = l.length * 4 := by
  induction l with
  | nil => rfl
  | cons t r ih => rw [List.flatMap_cons, List.length_append, ih]; simp [insCells]; omega

theorem ins_cases {w : World} {base : Nat} {v : Value} {l : List Mt.Ins} (h : ownIns w base v l) :
    (l = [] ∧ ∃ ao cap, v = .slice ao 0 cap) ∨
    (0 < l.length ∧ ∃ g cap, v = .slice (some ⟨g, 0, none⟩) l.length cap ∧ l.length ≤ cap ∧ g < w.heap.size ∧ base ≤ g ∧ ∀ k j, k < l.length → j < 4 → w.cell? ⟨g, k * 4 + j, none⟩ = (insCells (l.getD k Mt.ins0))[j]?) := by
  by_cases h0 : l = []
  · left
    subst h0
    refine ⟨rfl, ?_⟩
    rcases h.2 with ⟨rfl, _⟩ | ⟨g, cap, cur, rfl, _⟩
    · exact ⟨_, _, rfl⟩
    · exact ⟨_, _, rfl⟩
  · right
    have hp : 0 < l.length := List.length_pos_iff.2 h0
    refine ⟨hp, ?_⟩
    rcases h.2 with ⟨rfl, hn⟩ | ⟨g, cap, cur, rfl, hb, hg, h1, h2, h3, h4⟩
    · omega
    · refine ⟨g, cap, rfl, h1, (Array.getElem?_eq_some_iff.1 hg).1, hb, fun k j hk hj => ?_⟩
      have hc := World.ownsRow.cellAt (g := g) (cap := cap) h (k * 4 + j) (by omega)
      rw [hc, ins_flat_at l k j hk hj]

theorem Tryz.info49 : (Tryz.prog.info? 106).map (fun i => (i.zero, i.size, i.bytes)) = some (some (.agg #[.int .i64 0, .int .i64 0, .int .i64 0, .string ⟨#[]⟩]), 4, 40) := by kernel_rfl

theorem moved_take {c : List Mt.Ins} {k : Nat} (h : k < c.length) (n : Int) : Mt.moved (c.take (k + 1)) n = Mt.moved (c.take k) n ++ [Mt.movedI (c.getD k Mt.ins0) n] := by
  have : c.take (k + 1) = c.take k ++ [c.getD k Mt.ins0] := by
    rw [List.take_succ_eq_append_getElem h, List.getD_eq_getElem?_getD, List.getElem?_eq_getElem h]; rfl
  rw [this]; simp [Mt.moved]

theorem movedI_cases (i : Mt.Ins) (n : Int) :
    ((i.op == 2) = true ∧ Mt.movedI i n = ⟨i.op, i.x + n, i.y + n, i.set⟩) ∨
    ((i.op == 2) = false ∧ (i.op == 3) = true ∧ Mt.movedI i n = ⟨i.op, i.x + n, i.y, i.set⟩) ∨
    ((i.op == 2) = false ∧ (i.op == 3) = false ∧ (i.op == 5) = true ∧ Mt.movedI i n = ⟨i.op, i.x + n, i.y, i.set⟩) ∨
    ((i.op == 2) = false ∧ (i.op == 3) = false ∧ (i.op == 5) = false ∧ (i.op == 11) = true ∧ Mt.movedI i n = ⟨i.op, i.x, i.y + n, i.set⟩) ∨
    ((i.op == 2) = false ∧ (i.op == 3) = false ∧ (i.op == 5) = false ∧ (i.op == 11) = false ∧ Mt.movedI i n = i) := by
  unfold Mt.movedI
  simp only [beq_iff_eq, beq_eq_false_iff_ne]
  by_cases h1 : i.op = 2
  · rw [if_pos h1]; simp [h1]
  rw [if_neg h1]
  by_cases h2 : i.op = 3
  · rw [if_pos (Or.inl h2)]; simp [h2]
  by_cases h3 : i.op = 5
  · rw [if_pos (Or.inr h3)]; simp [h3]
  rw [if_neg (by omega)]
  by_cases h4 : i.op = 11
  · rw [if_pos h4]; simp [h4]
  rw [if_neg h4]; simp [h1, h2, h3, h4]

set_option maxRecDepth 100000 in
set_option maxHeartbeats 4000000 in
theorem moved_any (c : List Mt.Ins) (n : Int) (base : Nat) (v : Value) (w : World) (h : ownIns w base v c) (hf : Mt.fit 1000000000 c) (hn0 : 0 ≤ n) (hn1 : n ≤ 300) :
    Calls Tryz.prog 96 #[v, .int .i64 n] w fun e w' => ∃ v', e = .returned v' ∧ ownIns w' w.heap.size v' (Mt.moved c n) ∧ Below w.heap.size w w' := by
  have hlen := hf.1
  rcases ins_cases h with ⟨rfl, ao, cap, rfl⟩ | ⟨hp, g, cap, rfl, hcap, hg, hgb, hc⟩
  · clear h hf
    go_enter Tryz.func96, Tryz.ntmps96
    go_wp2_with fail
    refine wp_loop_rounds 1 ?_
    rw [rounds_succ]
    go_wp2
    go_ret
    exact ⟨_, rfl, World.ownsRow_nil _ _ _ _, Below.refl _ _⟩
  · obtain ⟨i0, hi, hz0, hz1, hz2⟩ := info_parts Tryz.info49
    clear h
    have HC : Hid (∀ k j, k < c.length → j < 4 → w.cell? ⟨g, k * 4 + j, none⟩ = (insCells (c.getD k Mt.ins0))[j]?) := hc
    have HF : Hid (∀ i ∈ c, Mt.fitI 1000000000 i) := hf.2
    clear hc hf
    go_enter Tryz.func96, Tryz.ntmps96
    go_wp2_with fail
    go_loopw [5, 6] (fun v i wr => ∃ k : Nat, k ≤ c.length ∧ i = .int .i64 k ∧ ownIns wr w.heap.size v (Mt.moved (c.take k) n) ∧ Below w.heap.size w wr) (fun _ i _ => c.length - (intOf i).toNat)
    case atStart => exact ⟨0, Nat.zero_le _, rfl, World.ownsRow_nil _ _ _ _, Below.refl _ _⟩
    case round =>
      obtain ⟨k, hk, rfl, hown, hbel⟩ := hrel
      have hsz := hbel.size
      have hml : (Mt.moved (c.take k) n).length = k := by rw [Mt.moved_len, List.length_take]; omega
      have HO : Hid (ownIns wr w.heap.size u5 (Mt.moved (c.take k) n)) := hown
      clear hown
      by_cases hlt : k < c.length
      · have hc0 : wr.cell? ⟨g, k * 4, none⟩ = some (.int .i64 (c.getD k Mt.ins0).op) := (hbel.cell (p := ⟨g, k * 4, none⟩) hg).trans (HC.out k 0 hlt (by omega))
        have hc1 : wr.cell? ⟨g, k * 4 + 1, none⟩ = some (.int .i64 (c.getD k Mt.ins0).x) := (hbel.cell (p := ⟨g, k * 4 + 1, none⟩) hg).trans (HC.out k 1 hlt (by omega))
        have hc2 : wr.cell? ⟨g, k * 4 + 2, none⟩ = some (.int .i64 (c.getD k Mt.ins0).y) := (hbel.cell (p := ⟨g, k * 4 + 2, none⟩) hg).trans (HC.out k 2 hlt (by omega))
        have hc3 : wr.cell? ⟨g, k * 4 + 3, none⟩ = some (.string ⟨(c.getD k Mt.ins0).set.toArray⟩) := (hbel.cell (p := ⟨g, k * 4 + 3, none⟩) hg).trans (HC.out k 3 hlt (by omega))
        have HT : Hid (Mt.moved (c.take (k + 1)) n = Mt.moved (c.take k) n ++ [Mt.movedI (c.getD k Mt.ins0) n]) := moved_take hlt n
        have hfi : Mt.fitI 1000000000 (c.getD k Mt.ins0) := HF.out _ (by rw [List.getD_eq_getElem?_getD, List.getElem?_eq_getElem hlt]; exact List.getElem_mem hlt)
        generalize hI : c.getD k Mt.ins0 = I at *
        clear hI
        obtain ⟨f1, f2, f3, f4⟩ := hfi
        generalize hP : Mt.moved (c.take k) n = P at *
        have HP : Hid (Mt.moved (c.take k) n = P) := hP
        clear hP
        rcases movedI_cases I n with ⟨e1, e⟩ | ⟨e1, e2, e⟩ | ⟨e1, e2, e3, e⟩ | ⟨e1, e2, e3, e4, e⟩ | ⟨e1, e2, e3, e4, e⟩
        all_goals
          have HE : Hid (Mt.movedI I n = _) := e
          clear e
          go_wp2_with (first | (at_builtin; refine wpList_append_own _ rfl _ _ 40 rfl w.heap.size 106 i0 _ 4 40 Tryz.underlying40 hi hz0 hz1 hz2 rfl (by decide) _ _ _ rfl (World.ownsRow.alloc (World.ownsRow.alloc HO.out _) _) ⟨wr.heap.size + 1, 0, none⟩ 1 1 (insCells (Mt.movedI I n)) rfl rfl ?_ (ins_one _) ?_ ?_ ?_ ?_; rotate_right))
          · intro v' w1 hown' hgrow _
            have R1 : Hid (ownIns w1 w.heap.size v' (Mt.moved (c.take (k + 1)) n)) := by
              show ownIns _ _ _ _
              rw [HT.out]; exact own_ins_snoc (by rw [hml]; exact hown')
            have R2 : Below w.heap.size w w1 := ((hbel.alloc hsz _).alloc (by simp; omega) _).grown hgrow (by simp; omega) (fun q hq' => (World.ownsRow.lt HO.out q hq').1)
            clear hown' hgrow HO HT HP HE
            go_wp2
            go_roundw
            case rel => exact ⟨k + 1, by omega, by go_num, R1.out, R2⟩
            case measure => simp [intOf]; omega
          · rw [HE.out]; exact news_cells' _ _ (by simp) _ _
          · unfold maxLen; omega
          · omega
          · simp; omega
      · have hk2 : k = c.length := by omega
        have HO2 : Hid (ownIns wr w.heap.size u5 (Mt.moved c n)) := by
          have := HO.out
          rw [hk2, List.take_length] at this
          exact this
        clear HO
        go_wp2_with fail
        go_ret
        exact ⟨_, rfl, HO2.out, hbel⟩
end Go.Proofs.YtedcboimnmhdaaaGreat
