import Derived.Test.YtebpgfodelggoabC01
import Derived.Test.YtebpgfodelggoabC00
import Derived.Test.YtebpgfodelggoabRows
import Derived.WalkKit
import Derived.WalkSpells
import Derived.WalkLawsBesides
import Derived.Handy
import Derived.Laws.IdiomStrings
import Derived.Deep.MidRow
/- THE PLAIN MATHEMATICS OF matcherref/code.go: a code put together out of pieces. -/
set_option linter.unusedVariables false
namespace Mt

structure Ins where
  op : Int
  x : Int
  y : Int
  set : List UInt8

def ins0 : Ins := ⟨0, 0, 0, []⟩
/-- An instruction whose numbers counted from 0 and now count from by. -/
def movedI (i : Ins) (by' : Int) : Ins :=
  if i.op = 2 then ⟨i.op, i.x + by', i.y + by', i.set⟩
  else if i.op = 3 ∨ i.op = 5 then ⟨i.op, i.x + by', i.y, i.set⟩
  else if i.op = 11 then ⟨i.op, i.x, i.y + by', i.set⟩
  else i
def moved (c : List Ins) (by' : Int) : List Ins := c.map fun i => movedI i by'
theorem moved_len (c : List Ins) (n : Int) : (moved c n).length = c.length := by simp [moved]

def behind (a b : List Ins) : List Ins := if 300 < a.length then a else a ++ moved b a.length
def splitC (x y : Int) (late : Bool) : List Ins := if late then [⟨2, y, x, []⟩] else [⟨2, x, y, []⟩]

/-- No number of the code, and no length, is beyond M. -/
def fitI (M : Int) (i : Ins) : Prop := -M ≤ i.x ∧ i.x ≤ M ∧ -M ≤ i.y ∧ i.y ≤ M
def fit (M : Int) (c : List Ins) : Prop := (c.length : Int) ≤ M ∧ ∀ i ∈ c, fitI M i
theorem fitI_mono {M N : Int} {i : Ins} (h : fitI M i) (hn : M ≤ N) : fitI N i := by unfold fitI at *; omega
theorem fit_mono {M N : Int} {c : List Ins} (h : fit M c) (hn : M ≤ N) : fit N c := ⟨by have := h.1; omega, fun i hi => fitI_mono (h.2 i hi) hn⟩
theorem fit_one {M : Int} {i : Ins} (h : fitI M i) (h1 : 1 ≤ M) : fit M [i] := ⟨by simpa using h1, fun j hj => by simp at hj; rw [hj]; exact h⟩
theorem fit_nil {M : Int} (h : 0 ≤ M) : fit M [] := ⟨by simpa using h, fun j hj => by simp at hj⟩
theorem fitI_moved {M n : Int} {i : Ins} (h : fitI M i) (h0 : 0 ≤ n) (hn : n ≤ 300) : fitI (M + 300) (movedI i n) := by
  unfold fitI at *
  unfold movedI
  split
  · simp only; omega
  · split
    · simp only; omega
    · split
      · simp only; omega
      · omega
theorem fit_behind {M : Int} {a b : List Ins} (ha : fit M a) (hb : fit M b) : fit (M + 300) (behind a b) := by
  unfold behind
  by_cases h : 300 < a.length
  · rw [if_pos h]; exact fit_mono ha (by omega)
  · rw [if_neg h]
    refine ⟨?_, fun i hi => ?_⟩
    · rw [List.length_append, moved_len]; have := hb.1; omega
    · rcases List.mem_append.1 hi with hi | hi
      · exact fitI_mono (ha.2 i hi) (by omega)
      · unfold moved at hi
        obtain ⟨j, hj, rfl⟩ := List.mem_map.1 hi
        exact fitI_moved (hb.2 j hj) (by omega) (by omega)

def kindAt (l : List Tok) (k : Nat) : Int := (l.getD k tok0).kind

/-- The first bar from i on that stands in no group; b: there is none. -/
def barFrom (l : List Tok) (b : Nat) : Nat → Nat → Nat
  | 0, _ => b
  | f + 1, i =>
    if b ≤ i then b
    else if kindAt l i = 5 then i
    else if kindAt l i = 6 then barFrom l b f (closing l i + 1)
    else barFrom l b f (i + 1)
theorem barFrom_fuel (l : List Tok) (b : Nat) : ∀ (f g i : Nat), b - i ≤ f → b - i ≤ g → barFrom l b f i = barFrom l b g i := by
  intro f
  induction f with
  | zero =>
    intro g i hf hg
    cases g with
    | zero => rfl
    | succ g => simp only [barFrom]; rw [if_pos (by omega)]
  | succ f ih =>
    intro g i hf hg
    cases g with
    | zero => simp only [barFrom]; rw [if_pos (by omega)]
    | succ g =>
      simp only [barFrom]
      by_cases h : b ≤ i
      · rw [if_pos h, if_pos h]
      · rw [if_neg h, if_neg h]
        have hc := closing_ge l i
        rw [ih g (closing l i + 1) (by omega) (by omega), ih g (i + 1) (by omega) (by omega)]
def bar (l : List Tok) (a b : Nat) : Nat := barFrom l b (b - a) a
theorem bar_step (l : List Tok) (i b : Nat) : bar l i b =
    if b ≤ i then b else if kindAt l i = 5 then i else if kindAt l i = 6 then bar l (closing l i + 1) b else bar l (i + 1) b := by
  have hc := closing_ge l i
  by_cases h : b ≤ i
  · rw [if_pos h]; unfold bar; rw [show b - i = 0 by omega]; rfl
  · rw [if_neg h]; unfold bar
    rw [show b - i = (b - i - 1) + 1 by omega]; simp only [barFrom]; rw [if_neg h]
    rw [barFrom_fuel l b (b - i - 1) (b - (closing l i + 1)) (closing l i + 1) (by omega) (by omega), barFrom_fuel l b (b - i - 1) (b - (i + 1)) (i + 1) (by omega) (by omega)]
theorem bar_le (l : List Tok) (b : Nat) : ∀ f i, b - i ≤ f → bar l i b ≤ b := by
  intro f
  induction f with
  | zero => intro i h; rw [bar_step, if_pos (by omega)]; omega
  | succ f ih =>
    intro i h
    have hc := closing_ge l i
    rw [bar_step]
    by_cases h1 : b ≤ i
    · rw [if_pos h1]; omega
    · rw [if_neg h1]
      split
      · omega
      · split
        · exact ih _ (by omega)
        · exact ih _ (by omega)
theorem bar_ge (l : List Tok) (b : Nat) : ∀ f i, b - i ≤ f → bar l i b = b ∨ (i ≤ bar l i b ∧ bar l i b < b) := by
  intro f
  induction f with
  | zero => intro i h; rw [bar_step, if_pos (by omega)]; simp
  | succ f ih =>
    intro i h
    have hc := closing_ge l i
    rw [bar_step]
    by_cases h1 : b ≤ i
    · rw [if_pos h1]; simp
    · rw [if_neg h1]
      split
      · omega
      · split
        · have := ih (closing l i + 1) (by omega); omega
        · have := ih (i + 1) (by omega); omega

/-- The index behind the atom that begins with token i. -/
def after (l : List Tok) (i : Nat) : Nat := if kindAt l i = 6 then closing l i + 1 else i + 1
theorem after_gt (l : List Tok) (i : Nat) : i < after l i := by unfold after; have := closing_ge l i; split <;> omega
theorem after_le (l : List Tok) (i : Nat) (h : i < l.length) : after l i ≤ l.length + 1 := by unfold after; have := closing_le l i (by omega); split <;> omega

def alone (sort : Int) (c : List Ins) : List Ins := behind (behind [⟨11, sort, c.length + 2, []⟩] c) [⟨12, 0, 0, []⟩]
def loopC (y : List Ins) (d : Int) (late : Bool) : List Ins := behind (behind (behind (splitC 1 (y.length + 3) late) [⟨4, d, 0, []⟩]) y) [⟨5, -y.length - 2, d, []⟩]
/-- x at most k times: the rounds that are still to come, behind c. -/
def upToFrom (x : List Ins) (late : Bool) : Nat → List Ins → List Ins
  | 0, c => c
  | n + 1, c => upToFrom x late n (behind c (behind (splitC 1 (((n : Int) + 1) * (x.length + 1)) late) x))
def upTo (x : List Ins) (k : Nat) (late : Bool) : List Ins := upToFrom x late k []
def timesFrom (x : List Ins) : Nat → List Ins → List Ins
  | 0, c => c
  | n + 1, c => timesFrom x n (behind c x)

/-- The code of a row of parts from i on, behind c. -/
def seqWith (at' rp : Nat → Nat → List Ins) (l : List Tok) (b : Nat) : Nat → Nat → List Ins → List Ins
  | 0, _, c => c
  | f + 1, i, c =>
    if b ≤ i then c
    else if after l i < b ∧ kindAt l (after l i) = 8 then seqWith at' rp l b f (after l i + 1) (behind c (rp i (after l i)))
    else seqWith at' rp l b f (after l i) (behind c (at' i (after l i)))

def jumpC (n : Int) : List Ins := [⟨3, n, 0, []⟩]

/-- The code of tokens: tag 0: alternatives from a to b; 1: a sequence; 2: the atom that is the tokens from a to b; 3: that atom with the repeat that is token b. In d loops. -/
def gen (l : List Tok) : Nat → Nat → Nat → Nat → Int → List Ins
  | 0, _, _, _, _ => []
  | f + 1, 0, a, b, d =>
    if bar l a b = b then gen l f 1 a (bar l a b) d
    else behind (behind (behind (splitC 1 ((gen l f 1 a (bar l a b) d).length + 2) false) (gen l f 1 a (bar l a b) d)) (jumpC (1 + (gen l f 0 (bar l a b + 1) b d).length))) (gen l f 0 (bar l a b + 1) b d)
  | f + 1, 1, a, b, d => seqWith (fun i j => gen l f 2 i j d) (fun i j => gen l f 3 i j d) l b (b - a) a []
  | f + 1, 2, a, b, d =>
    if kindAt l a = 1 then [⟨1, 0, 0, (l.getD a tok0).set⟩]
    else if kindAt l a = 2 then [⟨8, (l.getD a tok0).n, 0, []⟩]
    else if kindAt l a = 3 then [⟨9, 0, 0, []⟩]
    else if kindAt l a = 4 then [⟨10, 0, 0, []⟩]
    else if (l.getD a tok0).how = 3 then gen l f 0 (a + 1) (b - 1) d
    else if (l.getD a tok0).how = 4 then behind (behind [⟨6, (l.getD a tok0).n, 0, []⟩] (gen l f 0 (a + 1) (b - 1) d)) [⟨7, (l.getD a tok0).n, 0, []⟩]
    else alone (l.getD a tok0).how (gen l f 0 (a + 1) (b - 1) d)
  | f + 1, _ + 3, a, b, d =>
    let r := l.getD b tok0
    let c1 := if 0 < r.n ∨ 0 < r.m then
        (if r.n < r.m then behind (timesFrom (gen l f 2 a b d) r.n.toNat []) (upTo (gen l f 2 a b d) (r.m - r.n).toNat (decide (r.how = 1))) else timesFrom (gen l f 2 a b d) r.n.toNat [])
      else []
    let c2 := if r.m < 0 then behind c1 (loopC (gen l f 2 a b (d + 1)) d (decide (r.how = 1))) else c1
    if r.how = 2 then alone 0 c2 else c2

/-- The code of a pattern's tokens. -/
def coded (l : List Tok) : List Ins := behind (gen l 283 0 0 l.length 0) [⟨13, 0, 0, []⟩]

end Mt
/- What every walk needs: laws on blocks and rows in memory; no function of the program or the reference. -/
set_option linter.unusedVariables false
set_option linter.unusedSimpArgs false
namespace Go.Proofs.Ytebpgfodelggoab
open Go.RowKit

theorem ret_bool {a b : Bool} (h : a = b) : Ending.returned (.bool a) = .returned (.bool b) := by rw [h]
theorem atB_nat (p : ByteArray) (k : Nat) (h : k < p.size) : wrap64 ((p[k]'h).toNat : Int) = Mt.atB p k := by
  rw [Mt.atB_in p k (by omega) (by omega)]
  have e : p.data.toList.getD (Int.toNat (k : Int)) 0 = p[k]'h := by
    rw [Int.toNat_natCast, List.getD_eq_getElem?_getD, List.getElem?_eq_getElem (by simpa using h)]
    rfl
  rw [e]
  have := (p[k]'h).toNat_lt
  exact IntWalk.wrap64_in _ ⟨by omega, by omega⟩
theorem digB_t {c : Int} (h : 48 ≤ c ∧ c ≤ 57) : Mt.digB c = true := by simp [Mt.digB, h]
theorem digB_f {c : Int} (h : ¬ (48 ≤ c ∧ c ≤ 57)) : Mt.digB c = false := by simp only [Mt.digB, decide_eq_false_iff_not]; exact h
def bcells (l : List UInt8) : List Value := l.map fun b => Value.int .u8 (b.toNat : Int)
theorem Try.info5 : (Try.prog.info? 5).map (fun i => (i.zero, i.size, i.bytes)) = some (some (.int .u8 0), 1, 1) := by kernel_rfl
theorem conv_owned (w : World) (base : Nat) (v : Value) (l : List UInt8) (h : w.ownsRow base 5 1 v l.length (bcells l)) :
    (convert 159 9 v).run Try.prog w = .ok (.string ⟨l.toArray⟩) w := by
  rcases h.2 with ⟨rfl, hn⟩ | ⟨g, cap, cur, rfl, hb, hg, h1, h2, h3, h4⟩
  · have : l = [] := List.length_eq_zero_iff.1 hn
    subst this
    rw [run_convert_bytes_string w _ _ _ none 0 0 Try.underlying159 Try.underlying5 Try.underlying9]; simp [Conv.bytesToString]; rfl
  · refine run_convert_bytes_back w _ _ _ ⟨g, 0, none⟩ cap l Try.underlying159 Try.underlying5 Try.underlying9 ?_
    intro j hj
    have := h.cells (g := g) rfl j (.int .u8 (l[j].toNat : Int)) (by simp [bcells, hj])
    exact this
theorem heap_old (w : World) (o : Obj) (k : Nat) (h : k < w.heap.size) : (w.alloc o).heap[k]? = w.heap[k]? := Below.heap_alloc w o k h
theorem cell_block {w : World} {b : Nat} {A : Array Value} {t : TypeId} (h : w.heap[b]? = some (.cells A t (0, 0))) : (∀ o, w.cell? ⟨b, o, none⟩ = A[o]?) ∧ (∀ o, w.frozen? ⟨b, o, none⟩ = false) :=
  ⟨fun o => by simp [World.cell?, h], fun o => by simp [World.frozen?, h]⟩
theorem owns_below {w w' : World} {base : Nat} {e : TypeId} {s : Nat} {v : Value} {n : Nat} {xs : List Value} (h : w.ownsRow base e s v n xs) (hb : Below w.heap.size w w') : w'.ownsRow base e s v n xs := by
  refine ⟨h.1, ?_⟩
  rcases h.2 with h' | ⟨g, cap, cur, rfl, h0, hg, rest⟩
  · exact .inl h'
  · exact .inr ⟨g, cap, cur, rfl, h0, by rw [hb.block g (Array.getElem?_eq_some_iff.1 hg).1]; exact hg, rest⟩
theorem owns_base {w : World} {base base' : Nat} {e : TypeId} {s : Nat} {v : Value} {n : Nat} {xs : List Value} (h : w.ownsRow base e s v n xs) (hb : base' ≤ base) : w.ownsRow base' e s v n xs := by
  refine ⟨h.1, ?_⟩
  rcases h.2 with h' | ⟨g, cap, cur, rfl, h0, rest⟩
  · exact .inl h'
  · exact .inr ⟨g, cap, cur, rfl, by omega, rest⟩
theorem news_cells (w : World) (xs : List Value) (e' : TypeId) : ∀ j u, xs[j]? = some u → (w.alloc (.cells xs.toArray e')).cell? ((⟨w.heap.size, 0, none⟩ : Addr).add j) = some u := by
  intro j u h
  have e : ((⟨w.heap.size, 0, none⟩ : Addr).add j) = ⟨w.heap.size, j, none⟩ := by
    simp only [Addr.add, Nat.zero_add]
    split
    · rename_i h0; rw [h0]
    · rfl
  rw [e]
  have hb : (w.alloc (.cells xs.toArray e')).heap[w.heap.size]? = some (.cells xs.toArray e' (0, 0)) := heap_alloc_new w _
  rw [(cell_block hb).1 j]
  simpa using h
theorem below_setCells (b : Nat) : ∀ (vs : List Value) (o : Nat) (w : World) (B : Nat), B ≤ b → Below B w (w.setCells b o vs) ∧ (w.setCells b o vs).heap.size = w.heap.size
  | [], o, w, B, h => ⟨Below.refl _ _, rfl⟩
  | v :: r, o, w, B, h => by
    have ih := below_setCells b r (o + 1) (w.setCell ⟨b, o, none⟩ v) B h
    refine ⟨((Below.refl B w).setCell (p := ⟨b, o, none⟩) h v).trans ih.1, ?_⟩
    show ((w.setCell ⟨b, o, none⟩ v).setCells b (o + 1) r).heap.size = _
    rw [ih.2]; simp [World.setCell]
theorem stored_block {w : World} {b : Nat} {B : Array Value} (q2 : ∀ o, w.cell? ⟨b, o, none⟩ = B[o]?) (q3 : ∀ o, w.frozen? ⟨b, o, none⟩ = false) (cs : Array Value) (hs : cs.size = B.size) :
    ∃ w2, w2 = w.setCells b 0 cs.toList ∧ (∀ o, w2.cell? ⟨b, o, none⟩ = cs[o]?) ∧ (∀ o, w2.frozen? ⟨b, o, none⟩ = false) ∧
      (∀ c o, c ≠ b → w2.cell? ⟨c, o, none⟩ = w.cell? ⟨c, o, none⟩) ∧ (∀ c o, w2.frozen? ⟨c, o, none⟩ = w.frozen? ⟨c, o, none⟩) ∧ w2.heap.size = w.heap.size ∧ (∀ L, L ≤ b → Below L w w2) := by
  refine ⟨_, rfl, fun o => ?_, fun o => ?_, fun c o hc => ?_, fun c o => ?_, (below_setCells b _ 0 w 0 (Nat.zero_le _)).2, fun L hL => (below_setCells b _ 0 w L hL).1⟩
  · by_cases ho : o < cs.size
    · have := World.cell?_setCells_in b cs.toList 0 w (fun j hj => by rw [Nat.zero_add, q2]; rw [Array.getElem?_eq_getElem (by simp at hj; omega)]; rfl) o (by simpa using ho)
      rw [Nat.zero_add] at this
      rw [this]; simp [ho]
    · rw [World.cell?_setCells_out b cs.toList 0 w ⟨b, o, none⟩ (fun _ _ => Or.inr (by simp; omega)), q2, Array.getElem?_eq_none (by omega), Array.getElem?_eq_none (by omega)]
  · rw [World.frozen?_setCells]; exact q3 o
  · exact World.cell?_setCells_out b cs.toList 0 w ⟨c, o, none⟩ (fun h => absurd h hc)
  · rw [World.frozen?_setCells]
theorem there_block {w : World} {b : Nat} {B : Array Value} (q2 : ∀ o, w.cell? ⟨b, o, none⟩ = B[o]?) (q3 : ∀ o, w.frozen? ⟨b, o, none⟩ = false) (n : Nat) (hn : n ≤ B.size) : w.there b 0 n := by
  intro j hj
  rw [Nat.zero_add, q2, Array.getElem?_eq_getElem (by omega)]
  exact ⟨rfl, q3 j⟩
def insCells (i : Mt.Ins) : List Value := [.int .i64 i.op, .int .i64 i.x, .int .i64 i.y, .string ⟨i.set.toArray⟩]
def ownIns (w : World) (base : Nat) (v : Value) (c : List Mt.Ins) : Prop := w.ownsRow base 70 4 v c.length (c.flatMap insCells)
theorem ownIns.below {w w' : World} {base : Nat} {v : Value} {l : List Mt.Ins} (h : ownIns w base v l) (hb : Below w.heap.size w w') : ownIns w' base v l := owns_below h hb
theorem ownIns.base {w : World} {base base' : Nat} {v : Value} {l : List Mt.Ins} (h : ownIns w base v l) (hb : base' ≤ base) : ownIns w base' v l := owns_base h hb
theorem ownIns.nil (w : World) (base : Nat) : ownIns w base (.slice none 0 0) [] := World.ownsRow_nil _ _ _ _
theorem ins_flat_at : ∀ (l : List Mt.Ins) (k j : Nat), k < l.length → j < 4 → (l.flatMap insCells)[k * 4 + j]? = (insCells (l.getD k Mt.ins0))[j]? := by
  intro l
  induction l with
  | nil => intro k j h; simp at h
  | cons t r ih =>
    intro k j h hj
    rw [List.flatMap_cons]
    have h7 : (insCells t).length = 4 := rfl
    cases k with
    | zero => rw [List.getElem?_append_left (by omega)]; simp
    | succ k =>
      rw [List.getElem?_append_right (by omega), h7, show (k + 1) * 4 + j - 4 = k * 4 + j by omega, ih k j (by simpa using h) hj]
      simp
end Go.Proofs.Ytebpgfodelggoab
