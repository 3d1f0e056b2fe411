import Derived.Test.YtedcboimnmhdaaaGreatC03
import Derived.Test.YtedcboimnmhdaaaGreatC05
import Derived.Deep.MidRow
/- The token that begins at a place (matcherref/tokens.go, next). -/
set_option linter.unusedVariables false
namespace Mt

/-- The token that begins at i, and why none does (0: one does). -/
def nextT (p : ByteArray) (i : Int) : Tok × Int :=
  if atB p i = 124 then (⟨5, i, i + 1, 0, 0, 0, []⟩, 0)
  else if atB p i = 41 then (⟨7, i, i + 1, 0, 0, 0, []⟩, 0)
  else if atB p i = 94 then (⟨3, i, i + 1, 0, 0, 0, []⟩, 0)
  else if atB p i = 36 then (⟨4, i, i + 1, 0, 0, 0, []⟩, 0)
  else if atB p i = 92 then ((escape p i).1, if (escape p i).2 then 0 else 2)
  else if atB p i = 91 then ((classT p i).1, if (classT p i).2 then 0 else 3)
  else if atB p i = 40 then ((opening p i).1, if (opening p i).2 then 0 else 5)
  else if atB p i = 42 ∨ atB p i = 43 ∨ atB p i = 63 ∨ atB p i = 123 then ((repeatT p i).1, if (repeatT p i).2 then 0 else 4)
  else if atB p i = 46 then (⟨1, i, i + 1, 0, 0, 0, all p i i true⟩, 0)
  else (⟨1, i, i + 1, 0, 0, 0, [UInt8.ofNat (atB p i).toNat]⟩, 0)

end Mt
set_option linter.unusedVariables false
set_option linter.unusedSimpArgs false
namespace Go.Proofs.YtedcboimnmhdaaaGreat
open Go.RowKit

theorem below_setCells (b : Nat) : ∀ (vs : List Value) (o : Nat) (w : World) (B : Nat), B ≤ b → Below B w (w.setCells b o vs) ∧ (w.setCells b o vs).heap.size = w.heap.size
  | [], o, w, B, h => ⟨Below.refl _ _, rfl⟩
  | v :: r, o, w, B, h => by
    have ih := below_setCells b r (o + 1) (w.setCell ⟨b, o, none⟩ v) B h
    refine ⟨((Below.refl B w).setCell (p := ⟨b, o, none⟩) h v).trans ih.1, ?_⟩
    show ((w.setCell ⟨b, o, none⟩ v).setCells b (o + 1) r).heap.size = _
    rw [ih.2]; simp [World.setCell]

/-- What a store of a whole struct over a block that is known leaves. -/
theorem stored_block {w : World} {b : Nat} {B : Array Value} (q2 : ∀ o, w.cell? ⟨b, o, none⟩ = B[o]?) (q3 : ∀ o, w.frozen? ⟨b, o, none⟩ = false) (cs : Array Value) (hs : cs.size = B.size) :
    ∃ w2, w2 = w.setCells b 0 cs.toList ∧ (∀ o, w2.cell? ⟨b, o, none⟩ = cs[o]?) ∧ (∀ o, w2.frozen? ⟨b, o, none⟩ = false) ∧
      (∀ c o, c ≠ b → w2.cell? ⟨c, o, none⟩ = w.cell? ⟨c, o, none⟩) ∧ (∀ c o, w2.frozen? ⟨c, o, none⟩ = w.frozen? ⟨c, o, none⟩) ∧ w2.heap.size = w.heap.size ∧ (∀ L, L ≤ b → Below L w w2) := by
  refine ⟨_, rfl, fun o => ?_, fun o => ?_, fun c o hc => ?_, fun c o => ?_, (below_setCells b _ 0 w 0 (Nat.zero_le _)).2, fun L hL => (below_setCells b _ 0 w L hL).1⟩
  · by_cases ho : o < cs.size
    · have := World.cell?_setCells_in b cs.toList 0 w (fun j hj => by rw [Nat.zero_add, q2]; rw [Array.getElem?_eq_getElem (by simp at hj; omega)]; rfl) o (by simpa using ho)
      rw [Nat.zero_add] at this
      rw [this]; simp [ho]
    · rw [World.cell?_setCells_out b cs.toList 0 w ⟨b, o, none⟩ (fun _ _ => Or.inr (by simp; omega)), q2, Array.getElem?_eq_none (by omega), Array.getElem?_eq_none (by omega)]
  · rw [World.frozen?_setCells]; exact q3 o
  · exact World.cell?_setCells_out b cs.toList 0 w ⟨c, o, none⟩ (fun h => absurd h hc)
  · rw [World.frozen?_setCells]

theorem there_block {w : World} {b : Nat} {B : Array Value} (q2 : ∀ o, w.cell? ⟨b, o, none⟩ = B[o]?) (q3 : ∀ o, w.frozen? ⟨b, o, none⟩ = false) (n : Nat) (hn : n ≤ B.size) : w.there b 0 n := by
  intro j hj
  rw [Nat.zero_add, q2, Array.getElem?_eq_getElem (by omega)]
  exact ⟨rfl, q3 j⟩

theorem Tryz.size80 : (Tryz.prog.info? 97).map (·.size) = some 7 := by kernel_rfl

/-- A struct Token stored into a block that is known: the world behind it is a letter again. -/
theorem wpList_store_tok {ops : Array Oper} {rest : List Oper} {op : Oper} {a : Act} {w : World} {Q : Exit → Act → World → Prop} (hgd : op.guard = none) (x y : Operand) (ho : op.op = .store 97 x y)
    (b : Nat) (t : Mt.Tok) (hx : a.eval x = .pointer (some ⟨b, 0, none⟩)) (hy : a.eval y = tokV t) {B : Array Value} (q2 : ∀ o, w.cell? ⟨b, o, none⟩ = B[o]?) (q3 : ∀ o, w.frozen? ⟨b, o, none⟩ = false) (hB : B.size = 7)
    (h : ∀ w2 : World, (∀ o, w2.cell? ⟨b, o, none⟩ = #[Value.int .i64 t.kind, .int .i64 t.frm, .int .i64 t.to, .int .i64 t.n, .int .i64 t.m, .int .i64 t.how, .string ⟨t.set.toArray⟩][o]?) → (∀ o, w2.frozen? ⟨b, o, none⟩ = false) →
      (∀ c o, c ≠ b → w2.cell? ⟨c, o, none⟩ = w.cell? ⟨c, o, none⟩) → (∀ c o, w2.frozen? ⟨c, o, none⟩ = w.frozen? ⟨c, o, none⟩) → w2.heap.size = w.heap.size → (∀ L, L ≤ b → Below L w w2) →
      wpList Tryz.prog ops Q rest (a.put op.dst undef) w2) : wpList Tryz.prog ops Q (op :: rest) a w := by
  obtain ⟨w2, e, h1, h2, h3, h4, h5, h6⟩ := stored_block q2 q3 #[Value.int .i64 t.kind, .int .i64 t.frm, .int .i64 t.to, .int .i64 t.n, .int .i64 t.m, .int .i64 t.how, .string ⟨t.set.toArray⟩] (by simp [hB])
  refine wpList_store_mid hgd 97 x y ho b 0 #[Value.int .i64 t.kind, .int .i64 t.frm, .int .i64 t.to, .int .i64 t.n, .int .i64 t.m, .int .i64 t.how, .string ⟨t.set.toArray⟩] hx hy (there_block q2 q3 7 (by omega)) Tryz.size80 (by simp [Value.oneCell']) ?_
  rw [← e]
  exact h w2 h1 h2 h3 h4 h5 h6
end Go.Proofs.YtedcboimnmhdaaaGreat
/- THE PLAIN MATHEMATICS OF LISTS OF TOKENS (matcherref/tokens.go). -/
set_option linter.unusedVariables false
namespace Mt

def tok0 : Tok := ⟨0, 0, 0, 0, 0, 0, []⟩
/-- What a token adds to the number of open groups. -/
def delta (t : Tok) : Int := if t.kind = 6 then 1 else if t.kind = 7 then -1 else 0
def opened : List Tok → Int
  | [] => 0
  | t :: r => delta t + opened r
theorem opened_append (a b : List Tok) : opened (a ++ b) = opened a + opened b := by
  induction a with
  | nil => simp [opened]
  | cons t r ih => simp only [List.cons_append, opened, ih]; omega
theorem take_next (l : List Tok) (k : Nat) (h : k < l.length) : l.take (k + 1) = l.take k ++ [l.getD k tok0] := by
  rw [List.take_succ_eq_append_getElem h, List.getD_eq_getElem?_getD, List.getElem?_eq_getElem h]; rfl
theorem opened_next (l : List Tok) (k : Nat) (h : k < l.length) : opened (l.take (k + 1)) = opened (l.take k) + delta (l.getD k tok0) := by
  rw [take_next l k h, opened_append]; simp [opened]
theorem delta_bd (t : Tok) : -1 ≤ delta t ∧ delta t ≤ 1 := by
  unfold delta
  split
  · omega
  · split <;> omega
theorem opened_bd (l : List Tok) : -(l.length : Int) ≤ opened l ∧ opened l ≤ l.length := by
  induction l with
  | nil => simp [opened]
  | cons t r ih => have := delta_bd t; simp only [opened, List.length_cons]; omega
theorem opened_bd_take (l : List Tok) (k : Nat) : -(k : Int) ≤ opened (l.take k) ∧ opened (l.take k) ≤ k := by
  have := opened_bd (l.take k)
  have h2 : (l.take k).length ≤ k := List.length_take_le _ _
  omega

/-- Does the token open a capturing group? -/
def isCap (t : Tok) : Bool := decide (t.kind = 6 ∧ t.how = 4)
def captures : List Tok → Int
  | [] => 0
  | t :: r => (if isCap t then 1 else 0) + captures r
theorem captures_append (a b : List Tok) : captures (a ++ b) = captures a + captures b := by
  induction a with
  | nil => simp [captures]
  | cons t r ih => simp only [List.cons_append, captures, ih]; omega
theorem captures_next (l : List Tok) (k : Nat) (h : k < l.length) : captures (l.take (k + 1)) = captures (l.take k) + if isCap (l.getD k tok0) then 1 else 0 := by
  rw [take_next l k h, captures_append]; simp [captures]
theorem captures_bd (l : List Tok) : 0 ≤ captures l ∧ captures l ≤ l.length := by
  induction l with
  | nil => simp [captures]
  | cons t r ih => simp only [captures, List.length_cons]; split <;> omega
theorem captures_bd_take (l : List Tok) (k : Nat) : 0 ≤ captures (l.take k) ∧ captures (l.take k) ≤ k := by
  have := captures_bd (l.take k)
  have h2 : (l.take k).length ≤ k := List.length_take_le _ _
  omega

/-- From place j on, n groups being open: where the last of them is closed; the list's end: nowhere. -/
def closeFrom : List Tok → Int → Nat → Nat
  | [], _, j => j
  | t :: r, n, j => if n + delta t = 0 then j else closeFrom r (n + delta t) (j + 1)
def closing (l : List Tok) (i : Nat) : Nat := closeFrom (l.drop i) 0 i
theorem drop_next (l : List Tok) (k : Nat) (h : k < l.length) : l.drop k = l.getD k tok0 :: l.drop (k + 1) := by
  rw [List.drop_eq_getElem_cons h, List.getD_eq_getElem?_getD, List.getElem?_eq_getElem h]; rfl
theorem closeFrom_le : ∀ (l : List Tok) (n : Int) (j : Nat), closeFrom l n j ≤ j + l.length := by
  intro l
  induction l with
  | nil => intro n j; simp [closeFrom]
  | cons t r ih =>
    intro n j
    simp only [closeFrom, List.length_cons]
    split
    · omega
    · have := ih (n + delta t) (j + 1); omega
theorem closeFrom_ge : ∀ (l : List Tok) (n : Int) (j : Nat), j ≤ closeFrom l n j := by
  intro l
  induction l with
  | nil => intro n j; simp [closeFrom]
  | cons t r ih =>
    intro n j
    simp only [closeFrom]
    split
    · omega
    · have := ih (n + delta t) (j + 1); omega
theorem closing_le (l : List Tok) (i : Nat) (h : i ≤ l.length) : closing l i ≤ l.length := by
  have := closeFrom_le (l.drop i) 0 i
  rw [List.length_drop] at this
  unfold closing; omega
theorem closing_ge (l : List Tok) (i : Nat) : i ≤ closing l i := closeFrom_ge _ _ _

/-- From place j on: is the capturing group k closed? -/
def closedFrom (l : List Tok) (k : Int) : List Tok → Nat → Bool
  | [], _ => false
  | t :: r, j => if isCap t = true ∧ t.n = k then decide (closing l j < l.length) else closedFrom l k r (j + 1)
def closed (l : List Tok) (k : Int) : Bool := closedFrom l k l 0

/-- Does an atom end with the last of these tokens? -/
def atomEnds (l : List Tok) : Bool :=
  match l.getLast? with
  | none => false
  | some t => decide (t.kind = 1 ∨ t.kind = 2 ∨ t.kind = 3 ∨ t.kind = 4 ∨ t.kind = 7)

/-- May the token stand behind these? (0: it may) -/
def may (l : List Tok) (t : Tok) : Int :=
  if t.kind = 2 then (if closed l t.n then 0 else 6)
  else if t.kind = 8 then (if atomEnds l then 0 else 7)
  else if t.kind = 6 then (if 10 ≤ opened l then 8 else if t.how = 4 ∧ 9 ≤ captures l then 9 else 0)
  else if t.kind = 7 then (if opened l = 0 then 10 else 0)
  else 0

/-- The token as it joins the list: a capturing group has its number. -/
def joined (l : List Tok) (t : Tok) : Tok := if isCap t then { t with n := captures l + 1 } else t

/-- Reading on from place i behind the tokens l: the tokens, or the error and its place. -/
def readFrom (p : ByteArray) : Nat → List Tok → Int → List Tok × Int × Int
  | 0, l, i => (l, 0, i)
  | f + 1, l, i =>
    if (p.size : Int) ≤ i then (l, 0, i)
    else if (nextT p i).2 ≠ 0 then ([], (nextT p i).2, i)
    else if may l (nextT p i).1 ≠ 0 then ([], may l (nextT p i).1, i)
    else readFrom p f (l ++ [joined l (nextT p i).1]) (nextT p i).1.to

/-- The tokens of a pattern; or the error and its place. -/
def tokens (p : ByteArray) : List Tok × Int × Int :=
  if 64 < p.size then ([], 1, 0)
  else if (readFrom p 65 [] 0).2.1 ≠ 0 then readFrom p 65 [] 0
  else if 0 < opened (readFrom p 65 [] 0).1 then ([], 11, p.size)
  else ((readFrom p 65 [] 0).1, 0, 0)

theorem closeFrom_step (l : List Tok) (n : Int) (k : Nat) (h : k < l.length) : closeFrom (l.drop k) n k = if n + delta (l.getD k tok0) = 0 then k else closeFrom (l.drop (k + 1)) (n + delta (l.getD k tok0)) (k + 1) := by
  rw [drop_next l k h]; rfl
theorem closedFrom_step (l : List Tok) (c : Int) (k : Nat) (h : k < l.length) : closedFrom l c (l.drop k) k = if isCap (l.getD k tok0) = true ∧ (l.getD k tok0).n = c then decide (closing l k < l.length) else closedFrom l c (l.drop (k + 1)) (k + 1) := by
  rw [drop_next l k h]; rfl
end Mt
