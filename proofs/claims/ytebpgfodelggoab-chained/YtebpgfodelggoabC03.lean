import Derived.Test.YtebpgfodelggoabC02
import Derived.Laws.ResultCell
import Derived.Deep.RegionHeld3
/- Laws on blocks and rows of memory, of any type. -/
set_option linter.unusedVariables false
set_option linter.unusedSimpArgs false
namespace Go.Proofs.Ytebpgfodelggoab
open Go.RowKit

theorem setCells_blk (b : Nat) (t : TypeId) : ∀ (vs : List Value) (o : Nat) (w : World) (C : Array Value), w.heap[b]? = some (.cells C t (0, 0)) → ∃ D : Array Value, (w.setCells b o vs).heap[b]? = some (.cells D t (0, 0)) ∧ D.size = C.size
  | [], o, w, C, h => ⟨C, h, rfl⟩
  | v :: r, o, w, C, h => by
    obtain ⟨D, h1, h2⟩ := setCells_blk b t r (o + 1) (w.setCell ⟨b, o, none⟩ v) _ (Go.heap_setCell_same w b o C t v h)
    exact ⟨D, h1, by rw [h2]; simp⟩
theorem setCells_oth (b : Nat) : ∀ (vs : List Value) (o : Nat) (w : World) (k : Nat), k ≠ b → (w.setCells b o vs).heap[k]? = w.heap[k]?
  | [], o, w, k, h => rfl
  | v :: r, o, w, k, h => by
    show ((w.setCell ⟨b, o, none⟩ v).setCells b (o + 1) r).heap[k]? = _
    rw [setCells_oth b r (o + 1) _ k h, Below.heap_setCell _ _ _ _ h]
theorem stored_blk {w : World} {b : Nat} {t : TypeId} {B : Array Value} (h : w.heap[b]? = some (.cells B t (0, 0))) (cs : Array Value) (hs : cs.size = B.size) :
    (w.setCells b 0 cs.toList).heap[b]? = some (.cells cs t (0, 0)) := by
  obtain ⟨D, h1, h2⟩ := setCells_blk b t cs.toList 0 w B h
  have hb := cell_block h
  obtain ⟨w2, e, q1, _⟩ := stored_block hb.1 hb.2 cs hs
  have hd := cell_block h1
  have : D = cs := by
    apply Array.ext (by omega)
    intro i hi1 hi2
    have a1 := hd.1 i
    have a2 := q1 i
    rw [e] at a2
    rw [a2, Array.getElem?_eq_getElem hi1, Array.getElem?_eq_getElem hi2] at a1
    simpa using a1.symm
  rw [h1, this]
theorem rangeAt_blk {w : World} {b : Nat} {t : TypeId} {A : Array Value} (h : w.heap[b]? = some (.cells A t (0, 0))) : w.rangeAt b 0 A.toList := fun j v hv => by
  rw [Nat.zero_add, (cell_block h).1 j]; simpa using hv

section
variable {P : Program} {ops : Array Oper} {rest : List Oper} {op : Oper} {a : Act} {w : World} {Q : Exit → Act → World → Prop}
/-- A whole struct read out of its block. -/
theorem load_blk (ty : TypeId) (n : Nat) {d : TypeDesc} (hu : P.underlying ty = some d) (hd : d.isRow = true) (hn : (P.info? ty).map (·.size) = some n) (hgd : op.guard = none) (x : Operand) (ho : op.op = .load ty x)
    (b : Nat) (hx : a.eval x = .pointer (some ⟨b, 0, none⟩)) {t : TypeId} {A : Array Value} (hA : w.heap[b]? = some (.cells A t (0, 0))) (hs : A.size = n)
    (h : wpList P ops Q rest (a.put op.dst (.agg A)) w) : wpList P ops Q (op :: rest) a w :=
  wpList_load_mid hgd _ x ho b 0 hx A.toList _ (rangeAt_blk hA) hu hd (by rw [hn]; simp [hs]) h
/-- A whole struct stored over its block. -/
theorem store_blk (ty : TypeId) (n : Nat) (hn : (P.info? ty).map (·.size) = some n) (hgd : op.guard = none) (x y : Operand) (ho : op.op = .store ty x y)
    (b : Nat) (cs : Array Value) (hx : a.eval x = .pointer (some ⟨b, 0, none⟩)) (hy : a.eval y = .agg cs) {t : TypeId} {B : Array Value} (hB : w.heap[b]? = some (.cells B t (0, 0))) (hs : B.size = n) (hc : cs.size = n) (h1 : cs.all (·.oneCell') = true)
    (h : ∀ w2 : World, w2.heap[b]? = some (.cells cs t (0, 0)) → (∀ k, k ≠ b → w2.heap[k]? = w.heap[k]?) → w2.heap.size = w.heap.size → (∀ L, L ≤ b → Below L w w2) → wpList P ops Q rest (a.put op.dst undef) w2) : wpList P ops Q (op :: rest) a w := by
  have hb := cell_block hB
  refine wpList_store_mid hgd _ x y ho b 0 cs hx hy (there_block hb.1 hb.2 _ (by omega)) (by rw [hn, hc]) h1 ?_
  exact h _ (stored_blk hB cs (by omega)) (fun k hk => setCells_oth b _ 0 w k hk) (below_setCells b _ 0 w 0 (Nat.zero_le _)).2 (fun L hL => (below_setCells b _ 0 w L hL).1)
end
/-- A return of a struct that lies in memory, and one value more. -/
theorem ret_blk2 {P : Program} {fn : Func} {p u : Tmp} (ty : TypeId) (n : Nat) {d : TypeDesc} (hu : P.underlying ty = some d) (hd : d.isRow = true) (hn : (P.info? ty).map (·.size) = some n) (hr : fn.results = #[.cell p ty, .tmp u]) {tmps : Array Value} {w : World} {b : Nat} {t : TypeId} {A : Array Value}
    (hp : tmps.getD p undef = .pointer (some ⟨b, 0, none⟩)) (hA : w.heap[b]? = some (.cells A t (0, 0))) (hs : A.size = n) :
    (results fn tmps).run P w = .ok (.tuple #[.agg A, tmps.getD u undef]) w := by
  rw [results_cell_tmp hr, hp]
  have := run_loadVar_mid (P := P) w b 0 ty A.toList _ (rangeAt_blk hA) hu hd (by rw [hn]; simp [hs])
  simp [asAddr, Result.andThen, this]
theorem results_cell1 {fn : Func} {p : Tmp} {ty : TypeId} (h : fn.results = #[.cell p ty]) (tmps : Array Value) (P : Program) (w : World) :
    (results fn tmps).run P w = ((asAddr (tmps.getD p undef)).run P w).andThen fun a w₁ => ((loadVar ty a).run P w₁).andThen fun v w₂ => .ok v w₂ := by
  simp only [results, h]
  simp [Sem.run_bind, Result.andThen]
  cases Sem.run P (asAddr (tmps[p]?.getD undef)) w with
  | ok a w1 => dsimp only; cases Sem.run P (loadVar ty a) w1 <;> rfl
  | halt h w1 => rfl
theorem ret_blk1 {P : Program} {fn : Func} {p : Tmp} (ty : TypeId) (n : Nat) {d : TypeDesc} (hu : P.underlying ty = some d) (hd : d.isRow = true) (hn : (P.info? ty).map (·.size) = some n) (hr : fn.results = #[.cell p ty]) {tmps : Array Value} {w : World} {b : Nat} {t : TypeId} {A : Array Value}
    (hp : tmps.getD p undef = .pointer (some ⟨b, 0, none⟩)) (hA : w.heap[b]? = some (.cells A t (0, 0))) (hs : A.size = n) :
    (results fn tmps).run P w = .ok (.agg A) w := by
  rw [results_cell1 hr, hp]
  have := run_loadVar_mid (P := P) w b 0 ty A.toList _ (rangeAt_blk hA) hu hd (by rw [hn]; simp [hs])
  simp [asAddr, Result.andThen, this]
theorem heap_b1 (w : World) (A : Obj) : (w.alloc A).heap[w.heap.size]? = some A := heap_alloc_new _ _
theorem heap_b2 (w : World) (A B : Obj) : ((w.alloc A).alloc B).heap[w.heap.size]? = some A := by rw [heap_old _ _ _ (by simp), heap_alloc_new]
theorem heap_b3 (w : World) (A B : Obj) : ((w.alloc A).alloc B).heap[w.heap.size + 1]? = some B := by
  have : (w.alloc A).heap.size = w.heap.size + 1 := by simp
  rw [← this, heap_alloc_new]

/-- A row of values written into a list from a place on. -/
def setMany {α : Type} : List α → Nat → List α → List α
  | xs, _, [] => xs
  | xs, o, v :: r => setMany (xs.set o v) (o + 1) r
theorem setMany_len {α : Type} : ∀ (vs xs : List α) (o : Nat), (setMany xs o vs).length = xs.length
  | [], xs, o => rfl
  | v :: r, xs, o => by rw [setMany, setMany_len r]; simp
theorem row_setCells {e : TypeId} {s g n cap base : Nat} : ∀ (vs : List Value) (o : Nat) (w : World) (xs : List Value), w.ownsRow base e s (.slice (some ⟨g, 0, none⟩) n cap) n xs → (w.setCells g o vs).ownsRow base e s (.slice (some ⟨g, 0, none⟩) n cap) n (setMany xs o vs)
  | [], o, w, xs, h => h
  | v :: r, o, w, xs, h => row_setCells r (o + 1) _ _ (World.ownsRow.stored h o v).1
/-- A list of structs of k cells each, one of them changed in some cells. -/
theorem flat_set {α : Type} (f : α → List Value) (k : Nat) (hk : ∀ a, (f a).length = k) : ∀ (l : List α) (i j : Nat) (v : Value) (a' : α), i < l.length → j < k → (∀ a, l[i]? = some a → f a' = (f a).set j v) → (l.flatMap f).set (i * k + j) v = (l.set i a').flatMap f
  | [], i, j, v, a', h, _, _ => by simp at h
  | x :: r, 0, j, v, a', _, hj, h => by
    simp only [List.flatMap_cons, List.set_cons_zero]
    rw [show 0 * k + j = j by omega, List.set_append_left _ _ (by rw [hk]; exact hj), h x rfl]
  | x :: r, i + 1, j, v, a', hi, hj, h => by
    simp only [List.flatMap_cons, List.set_cons_succ]
    have e : (i + 1) * k + j = k + (i * k + j) := by rw [Nat.add_mul]; omega
    rw [e, List.set_append_right _ _ (by rw [hk]; omega), hk, show k + (i * k + j) - k = i * k + j by omega, flat_set f k hk r i j v a' (by simpa using hi) hj (fun a ha => h a (by simpa using ha))]
theorem flat_setMany {α : Type} (f : α → List Value) (k : Nat) (hk : ∀ a, (f a).length = k) : ∀ (l : List α) (i j : Nat) (vs : List Value) (a' : α), i < l.length → j + vs.length ≤ k → (∀ a, l[i]? = some a → f a' = setMany (f a) j vs) → setMany (l.flatMap f) (i * k + j) vs = (l.set i a').flatMap f := by
  have key : ∀ (vs : List Value) (L : List Value) (p : Nat) (X Y : List Value), X.length + Y.length ≤ L.length → L = X ++ Y ++ L.drop (X.length + Y.length) → ∀ j, j + vs.length ≤ Y.length → setMany L (X.length + j) vs = X ++ setMany Y j vs ++ L.drop (X.length + Y.length) := by
    intro vs
    induction vs with
    | nil => intro L p X Y h1 h2 j hj; simpa [setMany] using h2
    | cons v r ih =>
      intro L p X Y h1 h2 j hj
      simp only [List.length_cons] at hj
      simp only [setMany]
      have e : L.set (X.length + j) v = X ++ Y.set j v ++ L.drop (X.length + Y.length) := by
        conv => lhs; rw [h2]
        rw [List.append_assoc, List.set_append_right _ _ (by omega), show X.length + j - X.length = j by omega, List.set_append_left _ _ (by omega), List.append_assoc]
      have d : (L.set (X.length + j) v).drop (X.length + Y.length) = L.drop (X.length + Y.length) := by rw [List.drop_set_of_lt (by omega)]
      have := ih (L.set (X.length + j) v) p X (Y.set j v) (by simpa using h1) (by rw [List.length_set, d]; exact e) (j + 1) (by simp; omega)
      rw [List.length_set, d] at this
      rw [show X.length + j + 1 = X.length + (j + 1) by omega, this]
  intro l
  induction l with
  | nil => intro i j vs a' h; simp at h
  | cons x r ih =>
    intro i j vs a' hi hj h
    match i with
    | 0 =>
      have := key vs ((x :: r).flatMap f) 0 [] (f x) (by simp) (by simp) j (by rw [hk]; exact hj)
      simp only [List.length_nil, Nat.zero_add, List.nil_append] at this
      rw [show 0 * k + j = j by omega, this, ← h x rfl]
      simp
    | i + 1 =>
      have e : (i + 1) * k + j = k + (i * k + j) := by rw [Nat.add_mul]; omega
      have fl : ∀ m : List α, (m.flatMap f).length = m.length * k := by
        intro m; induction m with
        | nil => simp
        | cons y s ihs => rw [List.flatMap_cons, List.length_append, ihs, hk, List.length_cons, Nat.add_mul]; omega
      have hir : i < r.length := by simpa using hi
      have := key vs ((x :: r).flatMap f) 0 (f x) (r.flatMap f) (by simp) (by simp) (i * k + j) (by
        rw [fl]
        have : (i + 1) * k ≤ r.length * k := Nat.mul_le_mul_right _ (by omega)
        rw [Nat.add_mul] at this; omega)
      rw [hk] at this
      rw [e, this, ih i j vs a' hir hj (fun a ha => h a (by simpa using ha))]
      simp [hk]

theorem buildRun {P : Program} {op : Oper} {r : Operand → Value} {t : TypeId} {parts : Array (Nat × Operand)} (hop : op.op = .build t parts) {z : World} {u : Value} (h : (Instr.build t (parts.map fun q => (q.1, r q.2))).run P z = .ok u z) : (execOp r op).run P z = .ok (.value u) z := by
  unfold execOp
  simp only [hop]
  simp only [Sem.run_bind, h, Result.andThen_ok, Sem.run_pure]
theorem lastOp {P : Program} {md : Region.Mode} {ops : Array Oper} {Q : Exit → Act → World → Prop} {S : World → Prop} (i : Nat) (oi : Oper) {fuel : Nat} {listed : Array Bool} {a : Act} {w : World} (hi : ops[i]? = some oi) (hgd : oi.guard = none) (hr : Region.ready md ops listed = [i]) (hr2 : Region.ready md ops (listed.setIfInBounds i true) = [])
    (h : Oper.wp P oi a w (fun a' w' => S w' ∧ Q .normal a' w') Q) : wpAnyH P md ops Q S (fuel + 1) listed a w := by
  refine ⟨fun h0 => (by rw [hr] at h0; cases h0), fun j hj => ?_⟩
  rw [hr] at hj
  simp only [List.mem_singleton] at hj
  subst hj
  refine wpOp_mono (K := fun a' w' => S w' ∧ Q .normal a' w') (fun a' w' (h' : S w' ∧ Q .normal a' w') => ⟨h'.1, wpAnyH_done hr2 h'.2 _⟩) ?_
  have hw : Region.wanted oi (yielded ops a.tmps) = true := by simp [Region.wanted, hgd]
  unfold wpOp
  simp only [hi, hw, if_true]
  exact .inl h
theorem lastStore {P : Program} {md : Region.Mode} {ops : Array Oper} {Q : Exit → Act → World → Prop} {S : World → Prop} (i : Nat) (oi : Oper) {fuel : Nat} {listed : Array Bool} {a : Act} {w : World} (hi : ops[i]? = some oi) (hgd : oi.guard = none) (hr : Region.ready md ops listed = [i]) (hr2 : Region.ready md ops (listed.setIfInBounds i true) = [])
    (ty : TypeId) (x y : Operand) (ho : oi.op = .store ty x y) (b o : Nat) (cells : Array Value) (hx : a.eval x = .pointer (some ⟨b, o, none⟩)) (hy : a.eval y = .agg cells) (ht : w.there b o cells.size) (hz : (P.info? ty).map (·.size) = some cells.size) (h1 : cells.all (·.oneCell') = true)
    (hdn : oi.dst = none) (h : S (w.setCells b o cells.toList) ∧ Q .normal a (w.setCells b o cells.toList)) : wpAnyH P md ops Q S (fuel + 1) listed a w :=
  lastOp i oi hi hgd hr hr2 (wp_store_mid ty x y ho b o cells hx hy ht hz h1 (by rw [hdn]; exact h))
theorem takeAt {P : Program} {md : Region.Mode} {ops : Array Oper} {Q : Exit → Act → World → Prop} {S : World → Prop} (i d : Nat) (v : Value) {oi : Oper} {fuel : Nat} {listed : Array Bool} {a : Act} {w : World} (hi : ops[i]? = some oi) (hd : oi.dst = some d)
    (hs : Region.noSelect ops = true) (hf : Region.free md ops listed i = true) (hr : (Region.ready md ops listed).contains i = true)
    (hQ : ∀ c a w, Q (.panic c) (a.put (some d) v) w → Q (.panic c) a w) (hy : YieldsIf P ops S oi v a) (hS : S w)
    (h : wpAnyH P md ops Q S fuel (listed.setIfInBounds i true) (a.put (some d) v) w) : wpAnyH P md ops Q S (fuel + 1) listed a w :=
  wpAnyH_take hi hs hf hr (by rw [hd]; exact hQ) hy hS (by rw [hd]; exact h)
end Go.Proofs.Ytebpgfodelggoab
/- Bounds of the codes that are put together. -/
set_option linter.unusedVariables false
namespace Mt

def fit2 (L N : Int) (c : List Ins) : Prop := (c.length : Int) ≤ L ∧ ∀ i ∈ c, fitI N i
theorem fit2_mono {L N L' N' : Int} {c : List Ins} (h : fit2 L N c) (hL : L ≤ L') (hN : N ≤ N') : fit2 L' N' c := ⟨by have := h.1; omega, fun i hi => fitI_mono (h.2 i hi) hN⟩
theorem fit2_fit {L N M : Int} {c : List Ins} (h : fit2 L N c) (hL : L ≤ M) (hN : N ≤ M) : fit M c := ⟨by have := h.1; omega, fun i hi => fitI_mono (h.2 i hi) hN⟩
theorem fit2_one {L N : Int} {i : Ins} (h : fitI N i) (h1 : 1 ≤ L) : fit2 L N [i] := ⟨by simpa using h1, fun j hj => by simp at hj; rw [hj]; exact h⟩
theorem fit2_nil {L N : Int} (h : 0 ≤ L) : fit2 L N [] := ⟨by simpa using h, fun j hj => by simp at hj⟩
theorem fit2_split {L N : Int} (x y : Int) (late : Bool) (hx : -N ≤ x ∧ x ≤ N) (hy : -N ≤ y ∧ y ≤ N) (h1 : 1 ≤ L) : fit2 L N (splitC x y late) := by
  unfold splitC
  cases late
  · exact fit2_one ⟨hx.1, hx.2, hy.1, hy.2⟩ h1
  · exact fit2_one ⟨hy.1, hy.2, hx.1, hx.2⟩ h1
/-- The same bound behind every round. -/
theorem fit2_same {L N : Int} {a b : List Ins} (ha : fit2 (L + 300) (N + 300) a) (hb : fit2 L N b) : fit2 (L + 300) (N + 300) (behind a b) := by
  unfold behind
  by_cases h : 300 < a.length
  · rw [if_pos h]; exact ha
  · rw [if_neg h]
    refine ⟨?_, fun i hi => ?_⟩
    · rw [List.length_append, moved_len]; have := hb.1; omega
    · rcases List.mem_append.1 hi with hi | hi
      · exact ha.2 i hi
      · unfold moved at hi
        obtain ⟨j, hj, rfl⟩ := List.mem_map.1 hi
        exact fitI_moved (hb.2 j hj) (by omega) (by omega)
theorem fit2_behind {L N : Int} {a b : List Ins} (ha : fit2 L N a) (hb : fit2 L N b) : fit2 (L + 300) (N + 300) (behind a b) :=
  fit2_same (fit2_mono ha (by omega) (by omega)) hb
theorem fit2_alone {L N : Int} (s : Int) {c : List Ins} (hc : fit2 L N c) (hs : 0 ≤ s ∧ s ≤ 10) (hN : L + 2 ≤ N) (h1 : 10 ≤ L) : fit2 (L + 600) (N + 600) (alone s c) := by
  have hl := hc.1
  have h0 : (0 : Int) ≤ c.length := by omega
  have g := fit2_behind (fit2_one (L := L) (N := N) (i := ⟨11, s, (c.length : Int) + 2, []⟩) ⟨by simp only; omega, by simp only; omega, by simp only; omega, by simp only; omega⟩ (by omega)) hc
  have g2 := fit2_behind g (fit2_one (L := L + 300) (N := N + 300) (i := ⟨12, 0, 0, []⟩) ⟨by simp only; omega, by simp only; omega, by simp only; omega, by simp only; omega⟩ (by omega))
  exact fit2_mono g2 (by omega) (by omega)
theorem fit2_loop {L N : Int} (d : Int) (late : Bool) {y : List Ins} (hy : fit2 L N y) (hd : 0 ≤ d ∧ d ≤ N) (hN : L + 3 ≤ N) (h1 : 10 ≤ L) : fit2 (L + 900) (N + 900) (loopC y d late) := by
  have hl := hy.1
  have h0 : (0 : Int) ≤ y.length := by omega
  have g1 := fit2_behind (fit2_split (L := L) (N := N) 1 ((y.length : Int) + 3) late (by omega) (by omega) (by omega)) (fit2_one (L := L) (N := N) (i := ⟨4, d, 0, []⟩) ⟨by simp only; omega, by simp only; omega, by simp only; omega, by simp only; omega⟩ (by omega))
  have g2 := fit2_behind g1 (fit2_mono hy (show L ≤ L + 300 by omega) (show N ≤ N + 300 by omega))
  have g3 := fit2_behind g2 (fit2_one (L := L + 300 + 300) (N := N + 300 + 300) (i := ⟨5, -(y.length : Int) - 2, d, []⟩) ⟨by simp only; omega, by simp only; omega, by simp only; omega, by simp only; omega⟩ (by omega))
  exact fit2_mono g3 (by omega) (by omega)
theorem fit2_times {L N : Int} {x : List Ins} (hx : fit2 L N x) : ∀ (n : Nat) (c : List Ins), fit2 (L + 300) (N + 300) c → fit2 (L + 300) (N + 300) (timesFrom x n c)
  | 0, c, h => h
  | n + 1, c, h => fit2_times hx n _ (fit2_same h hx)
theorem mul_bound (n : Nat) (k : Int) (hn : n < 20) (hk : 0 ≤ k) : 0 ≤ ((n : Int) + 1) * (k + 1) ∧ ((n : Int) + 1) * (k + 1) ≤ 20 * (k + 1) := by
  refine ⟨Int.mul_nonneg (by omega) (by omega), ?_⟩
  exact Int.mul_le_mul_of_nonneg_right (by omega) (by omega)
theorem fit2_upTo {L N : Int} {x : List Ins} (late : Bool) (hx : fit2 L N x) (hN : 20 * (L + 1) ≤ N) (h1 : 10 ≤ L) : ∀ (n : Nat) (c : List Ins), n ≤ 20 → fit2 (L + 600) (N + 600) c → fit2 (L + 600) (N + 600) (upToFrom x late n c)
  | 0, c, _, h => h
  | n + 1, c, hn, h => by
    have hl := hx.1
    have m := mul_bound n (x.length : Int) (by omega) (by omega)
    have g := fit2_behind (fit2_split (L := L) (N := N) 1 (((n : Int) + 1) * ((x.length : Int) + 1)) late (by omega) (by omega) (by omega)) hx
    exact fit2_upTo late hx hN h1 n _ (by omega) (fit2_mono (fit2_same (L := L + 300) (N := N + 300) (fit2_mono h (by omega) (by omega)) g) (by omega) (by omega))

theorem fit2_seq {L N : Int} (at' rp : Nat → Nat → List Ins) (l : List Tok) (b : Nat) (h1 : ∀ i j, fit2 L N (at' i j)) (h2 : ∀ i j, fit2 L N (rp i j)) : ∀ (f i : Nat) (c : List Ins), fit2 (L + 300) (N + 300) c → fit2 (L + 300) (N + 300) (seqWith at' rp l b f i c)
  | 0, i, c, h => h
  | f + 1, i, c, h => by
    simp only [seqWith]
    split
    · exact h
    · split
      · exact fit2_seq at' rp l b h1 h2 f _ _ (fit2_same h (h2 _ _))
      · exact fit2_seq at' rp l b h1 h2 f _ _ (fit2_same h (h1 _ _))

/-- A token's numbers are small. -/
def tokOk (t : Tok) : Prop := 0 ≤ t.n ∧ t.n ≤ 100 ∧ -1 ≤ t.m ∧ t.m ≤ 20 ∧ 0 ≤ t.how ∧ t.how ≤ 4 ∧ (t.kind = 8 → t.n ≤ 20)
def toksOk (l : List Tok) : Prop := ∀ t ∈ l, tokOk t
theorem tokOk_at {l : List Tok} (h : toksOk l) (k : Nat) : tokOk (l.getD k tok0) := by
  rw [List.getD_eq_getElem?_getD]
  by_cases hk : k < l.length
  · rw [List.getElem?_eq_getElem hk]; exact h _ (List.getElem_mem hk)
  · rw [List.getElem?_eq_none (by omega)]; simp [tokOk, tok0]

theorem gen_fit (l : List Tok) (hl : toksOk l) : ∀ (f tag a b : Nat) (d : Int), 0 ≤ d → d + f ≤ 1000 → fit2 (2000 * ((f : Int) + 1)) (60000 * ((f : Int) + 1)) (gen l f tag a b d) := by
  intro f
  induction f with
  | zero => intro tag a b d h0 h1; simp only [gen]; exact fit2_nil (by omega)
  | succ f ih =>
    intro tag a b d h0 h1
    have I := fun tag a b => ih tag a b d h0 (by omega)
    have J := fun tag a b => ih tag a b (d + 1) (by omega) (by omega)
    match tag with
    | 0 =>
      simp only [gen]
      split
      · exact fit2_mono (I 1 a _) (by omega) (by omega)
      · have hs := I 1 a (bar l a b)
        have hr := I 0 (bar l a b + 1) b
        generalize gen l f 1 a (bar l a b) d = s at *
        generalize gen l f 0 (bar l a b + 1) b d = r at *
        have ls := hs.1
        have lr := hr.1
        have g1 := fit2_behind (fit2_split (L := 2000 * ((f : Int) + 1)) (N := 60000 * ((f : Int) + 1)) 1 ((s.length : Int) + 2) false (by omega) (by omega) (by omega)) hs
        have g2 := fit2_behind g1 (fit2_one (L := 2000 * ((f : Int) + 1) + 300) (N := 60000 * ((f : Int) + 1) + 300) (i := ⟨3, 1 + (r.length : Int), 0, []⟩) ⟨by simp only; omega, by simp only; omega, by simp only; omega, by simp only; omega⟩ (by omega))
        have g3 := fit2_behind g2 (fit2_mono hr (show _ ≤ 2000 * ((f : Int) + 1) + 300 + 300 by omega) (show _ ≤ 60000 * ((f : Int) + 1) + 300 + 300 by omega))
        exact fit2_mono g3 (by omega) (by omega)
    | 1 =>
      simp only [gen]
      exact fit2_mono (fit2_seq _ _ l b (fun i j => I 2 i j) (fun i j => I 3 i j) (b - a) a [] (fit2_nil (by omega))) (by omega) (by omega)
    | 2 =>
      simp only [gen]
      have hi := I 0 (a + 1) (b - 1)
      have ht := tokOk_at hl a
      generalize gen l f 0 (a + 1) (b - 1) d = s at *
      generalize l.getD a tok0 = t at *
      obtain ⟨t1, t2, t3, t4, t5, t6, t7⟩ := ht
      split
      · exact fit2_one ⟨by simp only; omega, by simp only; omega, by simp only; omega, by simp only; omega⟩ (by omega)
      split
      · exact fit2_one ⟨by simp only; omega, by simp only; omega, by simp only; omega, by simp only; omega⟩ (by omega)
      split
      · exact fit2_one ⟨by simp only; omega, by simp only; omega, by simp only; omega, by simp only; omega⟩ (by omega)
      split
      · exact fit2_one ⟨by simp only; omega, by simp only; omega, by simp only; omega, by simp only; omega⟩ (by omega)
      split
      · exact fit2_mono hi (by omega) (by omega)
      split
      · have g1 := fit2_behind (fit2_one (L := 2000 * ((f : Int) + 1)) (N := 60000 * ((f : Int) + 1)) (i := ⟨6, t.n, 0, []⟩) ⟨by simp only; omega, by simp only; omega, by simp only; omega, by simp only; omega⟩ (by omega)) hi
        have g2 := fit2_behind g1 (fit2_one (L := 2000 * ((f : Int) + 1) + 300) (N := 60000 * ((f : Int) + 1) + 300) (i := ⟨7, t.n, 0, []⟩) ⟨by simp only; omega, by simp only; omega, by simp only; omega, by simp only; omega⟩ (by omega))
        exact fit2_mono g2 (by omega) (by omega)
      · exact fit2_mono (fit2_alone t.how hi (by omega) (by omega) (by omega)) (by omega) (by omega)
    | n + 3 =>
      simp only [gen]
      have hx := I 2 a b
      have hy := J 2 a b
      have ht := tokOk_at hl b
      generalize gen l f 2 a b d = x at *
      generalize gen l f 2 a b (d + 1) = y at *
      generalize l.getD b tok0 = t at *
      obtain ⟨t1, t2, t3, t4, t5, t6, t7⟩ := ht
      have c1 : fit2 (2000 * ((f : Int) + 1) + 900) (60000 * ((f : Int) + 1) + 900) (if 0 < t.n ∨ 0 < t.m then (if t.n < t.m then behind (timesFrom x t.n.toNat []) (upTo x (t.m - t.n).toNat (decide (t.how = 1))) else timesFrom x t.n.toNat []) else []) := by
        have k1 := fit2_times hx t.n.toNat [] (fit2_nil (by omega))
        split
        · split
          · have k2 := fit2_upTo (decide (t.how = 1)) hx (by omega) (by omega) (t.m - t.n).toNat [] (by omega) (fit2_nil (by omega))
            exact fit2_mono (fit2_behind (fit2_mono k1 (show _ ≤ 2000 * ((f : Int) + 1) + 600 by omega) (show _ ≤ 60000 * ((f : Int) + 1) + 600 by omega)) k2) (by omega) (by omega)
          · exact fit2_mono k1 (by omega) (by omega)
        · exact fit2_nil (by omega)
      generalize (if 0 < t.n ∨ 0 < t.m then (if t.n < t.m then behind (timesFrom x t.n.toNat []) (upTo x (t.m - t.n).toNat (decide (t.how = 1))) else timesFrom x t.n.toNat []) else []) = c at *
      have c2 : fit2 (2000 * ((f : Int) + 1) + 1200) (60000 * ((f : Int) + 1) + 1200) (if t.m < 0 then behind c (loopC y d (decide (t.how = 1))) else c) := by
        split
        · exact fit2_mono (fit2_behind c1 (fit2_loop d (decide (t.how = 1)) hy (by omega) (by omega) (by omega))) (by omega) (by omega)
        · exact fit2_mono c1 (by omega) (by omega)
      split
      · exact fit2_mono (fit2_alone 0 c2 (by omega) (by omega) (by omega)) (by omega) (by omega)
      · exact fit2_mono c2 (by omega) (by omega)

end Mt
