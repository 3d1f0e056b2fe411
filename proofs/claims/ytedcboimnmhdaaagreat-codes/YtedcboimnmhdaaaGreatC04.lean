import Derived.Test.YtedcboimnmhdaaaGreatC02
import Derived.Test.YtedcboimnmhdaaaGreatC03
set_option linter.unusedVariables false
set_option linter.unusedSimpArgs false
namespace Go.Proofs.YtedcboimnmhdaaaGreat
open Go.RowKit

theorem owns_below {w w' : World} {base : Nat} {e : TypeId} {s : Nat} {v : Value} {n : Nat} {xs : List Value} (h : w.ownsRow base e s v n xs) (hb : Below w.heap.size w w') : w'.ownsRow base e s v n xs := by
  refine ⟨h.1, ?_⟩
  rcases h.2 with h' | ⟨g, cap, cur, rfl, h0, hg, rest⟩
  · exact .inl h'
  · exact .inr ⟨g, cap, cur, rfl, h0, by rw [hb.block g (Array.getElem?_eq_some_iff.1 hg).1]; exact hg, rest⟩
theorem owns_base {w : World} {base base' : Nat} {e : TypeId} {s : Nat} {v : Value} {n : Nat} {xs : List Value} (h : w.ownsRow base e s v n xs) (hb : base' ≤ base) : w.ownsRow base' e s v n xs := by
  refine ⟨h.1, ?_⟩
  rcases h.2 with h' | ⟨g, cap, cur, rfl, h0, rest⟩
  · exact .inl h'
  · exact .inr ⟨g, cap, cur, rfl, by omega, rest⟩

theorem news_cells (w : World) (xs : List Value) (e' : TypeId) : ∀ j u, xs[j]? = some u → (w.alloc (.cells xs.toArray e')).cell? ((⟨w.heap.size, 0, none⟩ : Addr).add j) = some u := by
  intro j u h
  have e : ((⟨w.heap.size, 0, none⟩ : Addr).add j) = ⟨w.heap.size, j, none⟩ := by
    simp only [Addr.add, Nat.zero_add]
    split
    · rename_i h0; rw [h0]
    · rfl
  rw [e]
  have hb : (w.alloc (.cells xs.toArray e')).heap[w.heap.size]? = some (.cells xs.toArray e' (0, 0)) := heap_alloc_new w _
  rw [(cell_block hb).1 j]
  simpa using h
theorem news_cells' (w : World) (b : Nat) (hb' : b = w.heap.size) (xs : List Value) (e' : TypeId) : ∀ j u, xs[j]? = some u → (w.alloc (.cells xs.toArray e')).cell? ((⟨b, 0, none⟩ : Addr).add j) = some u := by
  subst hb'; exact news_cells w xs e'
theorem grown_setCell (w : World) (a : Addr) (u : Value) : w.grownBy (w.setCell a u) (some a.block) :=
  ⟨rfl, rfl, rfl, by simp [World.setCell], fun k _ hne => Below.heap_setCell _ _ _ _ (fun e => hne (by rw [e]))⟩
theorem cell_after {b : Nat} {w2 w3 : World} {o : Obj} {ob : Option Nat} (hg : (w2.alloc o).grownBy w3 ob) (hlt : b < w2.heap.size) (hne : ∀ q, ob = some q → q < b) (x : Nat) : w3.cell? ⟨b, x, none⟩ = w2.cell? ⟨b, x, none⟩ := by
  have h1 : w3.heap[b]? = (w2.alloc o).heap[b]? := hg.block b (by simp; omega) (fun e => by have := hne b e.symm; omega)
  have h2 : (w2.alloc o).heap[b]? = w2.heap[b]? := heap_old _ _ _ hlt
  exact World.cell?_of_block (w := w2) (a := ⟨b, x, none⟩) (h1.trans h2)

/-- The slice v holds the tokens l. -/
def toks (w : World) (v : Value) (l : List Mt.Tok) : Prop := w.ownsRow 0 97 7 v l.length (l.flatMap tokCells)

theorem flat_at : ∀ (l : List Mt.Tok) (k j : Nat), k < l.length → j < 7 → (l.flatMap tokCells)[k * 7 + j]? = (tokCells (l.getD k Mt.tok0))[j]? := by
  intro l
  induction l with
  | nil => intro k j h; simp at h
  | cons t r ih =>
    intro k j h hj
    rw [List.flatMap_cons]
    have h7 : (tokCells t).length = 7 := rfl
    cases k with
    | zero => rw [List.getElem?_append_left (by omega)]; simp
    | succ k =>
      rw [List.getElem?_append_right (by omega), h7, show (k + 1) * 7 + j - 7 = k * 7 + j by omega, ih k j (by simpa using h) hj]
      simp
theorem flat_len (l : List Mt.Tok) : (l.flatMap tokCells).length = l.length * 7 := by
  induction l with
  | nil => rfl
  | cons t r ih => rw [List.flatMap_cons, List.length_append, ih]; simp [tokCells]; omega

theorem toks_cases {w : World} {v : Value} {l : List Mt.Tok} (h : toks w v l) :
    (l = [] ∧ ∃ ao cap, v = .slice ao 0 cap) ∨
    (0 < l.length ∧ ∃ g cap, v = .slice (some ⟨g, 0, none⟩) l.length cap ∧ l.length ≤ cap ∧ g < w.heap.size ∧ ∀ k j, k < l.length → j < 7 → w.cell? ⟨g, k * 7 + j, none⟩ = (tokCells (l.getD k Mt.tok0))[j]?) := by
  by_cases h0 : l = []
  · left
    subst h0
    refine ⟨rfl, ?_⟩
    rcases h.2 with ⟨rfl, _⟩ | ⟨g, cap, cur, rfl, _⟩
    · exact ⟨_, _, rfl⟩
    · exact ⟨_, _, rfl⟩
  · right
    have hp : 0 < l.length := List.length_pos_iff.2 h0
    refine ⟨hp, ?_⟩
    rcases h.2 with ⟨rfl, hn⟩ | ⟨g, cap, cur, rfl, hb, hg, h1, h2, h3, h4⟩
    · omega
    · refine ⟨g, cap, rfl, h1, (Array.getElem?_eq_some_iff.1 hg).1, fun k j hk hj => ?_⟩
      have hc := World.ownsRow.cellAt (g := g) (cap := cap) h (k * 7 + j) (by omega)
      rw [hc, flat_at l k j hk hj]

theorem toks_below {w w' : World} {v : Value} {l : List Mt.Tok} (h : toks w v l) (hb : Below w.heap.size w w') : toks w' v l := by
  refine ⟨h.1, ?_⟩
  rcases h.2 with h' | ⟨g, cap, cur, rfl, h0, hg, rest⟩
  · exact .inl h'
  · exact .inr ⟨g, cap, cur, rfl, h0, by rw [hb.block g (Array.getElem?_eq_some_iff.1 hg).1]; exact hg, rest⟩

theorem delta_cases (t : Mt.Tok) : ((t.kind == 6) = true ∧ (t.kind == 7) = false ∧ Mt.delta t = 1) ∨ ((t.kind == 6) = false ∧ (t.kind == 7) = true ∧ Mt.delta t = -1) ∨ ((t.kind == 6) = false ∧ (t.kind == 7) = false ∧ Mt.delta t = 0) := by
  unfold Mt.delta
  simp only [beq_iff_eq, beq_eq_false_iff_ne]
  by_cases h : t.kind = 6
  · simp [h]
  · by_cases h2 : t.kind = 7
    · simp [h2]
    · simp [h, h2]

set_option maxHeartbeats 1000000 in
theorem opened_any (l : List Mt.Tok) (v : Value) (w : World) (h : toks w v l) (hl : l.length ≤ 64) :
    Calls Tryz.prog 49 #[v] w fun e w' => e = .returned (.int .i64 (Mt.opened l)) ∧ w = w' := by
  rcases toks_cases h with ⟨rfl, ao, cap, rfl⟩ | ⟨hp, g, cap, rfl, hcap, hg, hc⟩
  · clear h
    go_enter Tryz.func49, Tryz.ntmps49
    go_wp2_with fail
    refine wp_loop_rounds 1 ?_
    rw [rounds_succ]
    go_wp2
    go_ret
    exact ⟨rfl, rfl⟩
  · clear h
    have HC : Hid (∀ k j, k < l.length → j < 7 → w.cell? ⟨g, k * 7 + j, none⟩ = (tokCells (l.getD k Mt.tok0))[j]?) := hc
    clear hc
    go_enter Tryz.func49, Tryz.ntmps49
    go_wp2_with fail
    go_loop [3, 4] (fun n i => ∃ k : Nat, k ≤ l.length ∧ i = .int .i64 k ∧ n = .int .i64 (Mt.opened (l.take k))) (fun _ i => l.length - (intOf i).toNat)
    case atStart => exact ⟨0, Nat.zero_le _, rfl, rfl⟩
    case round =>
      obtain ⟨k, hk, rfl, rfl⟩ := hrel
      have ⟨b1, b2⟩ := Mt.opened_bd_take l k
      by_cases hlt : k < l.length
      · have hc0 : w.cell? ⟨g, k * 7, none⟩ = some (.int .i64 (l.getD k Mt.tok0).kind) := HC.out k 0 hlt (by omega)
        have hn : Hid (Mt.opened (l.take (k + 1)) = Mt.opened (l.take k) + Mt.delta (l.getD k Mt.tok0)) := Mt.opened_next l k hlt
        generalize hT : l.getD k Mt.tok0 = T at *
        clear hT
        rcases delta_cases T with ⟨e1, e2, e3⟩ | ⟨e1, e2, e3⟩ | ⟨e1, e2, e3⟩
        all_goals
          have hn' : Hid (Mt.opened (l.take (k + 1)) = Mt.opened (l.take k) + Mt.delta T) := hn
          have e3' : Hid (Mt.delta T = _) := e3
          clear e3 hn
          go_wp2
          go_round
          case rel => exact ⟨k + 1, by omega, by go_num, by first | (rw [hn'.out, e3'.out]; done) | (rw [hn'.out, e3'.out]; go_num)⟩
          case measure => simp [intOf]; omega
      · have : k = l.length := by omega
        subst this
        go_wp2
        go_ret
        exact ⟨ret_int (by first | rfl | rw [List.take_length]), rfl⟩
end Go.Proofs.YtedcboimnmhdaaaGreat
/- Where a token ends; the reading of tokens ends. -/
set_option linter.unusedVariables false
namespace Mt

theorem number_to (p : ByteArray) (i : Int) (h0 : 0 ≤ i) : (number p i).2 = 0 ∨ (0 < (number p i).2 ∧ i + (number p i).2 ≤ p.size) := by
  unfold number
  split
  · simp
  · split
    · have := atB_ge p i (by omega); right; simp only; omega
    · have := atB_ge p (i + 1) (by omega); right; simp only; omega
theorem count_to (p : ByteArray) (i : Int) (h0 : 0 ≤ i) (h : (count p i).2.2.2 = true) : i < (count p i).2.2.1 ∧ (count p i).2.2.1 ≤ p.size := by
  have b1 := number_bd p (i + 1)
  have b2 := number_bd p (i + 1 + (number p (i + 1)).2 + 1)
  unfold count at h ⊢
  split at h
  · simp at h
  · rename_i h1
    split at h
    · rename_i h2
      rw [if_neg h1, if_pos h2]
      have := atB_ge p (i + 1 + (number p (i + 1)).2) (by omega)
      simp only; omega
    · rename_i h2
      split at h
      · simp at h
      · rename_i h3
        split at h
        · rename_i h4
          rw [if_neg h1, if_neg h2, if_neg h3, if_pos h4]
          have := atB_ge p (i + 1 + (number p (i + 1)).2 + 1) (by omega)
          simp only; omega
        · rename_i h4
          split at h
          · simp at h
          · rename_i h5
            rw [if_neg h1, if_neg h2, if_neg h3, if_neg h4, if_neg h5]
            have := atB_ge p (i + 1 + (number p (i + 1)).2 + 1 + (number p (i + 1 + (number p (i + 1)).2 + 1)).2) (by omega)
            simp only; omega
theorem mood_to (p : ByteArray) (t : Int) (h0 : 0 ≤ t) (h : t ≤ p.size) : t ≤ (mood p t).2 ∧ (mood p t).2 ≤ p.size := by
  unfold mood
  split
  · have := atB_ge p t (by omega); simp only; omega
  · split
    · have := atB_ge p t (by omega); simp only; omega
    · simp only; omega
theorem repeat_to (p : ByteArray) (i : Int) (h0 : 0 ≤ i) (h1 : i < p.size) (h : (repeatT p i).2 = true) : i < (repeatT p i).1.to ∧ (repeatT p i).1.to ≤ p.size := by
  have m1 := mood_to p (i + 1) (by omega) (by omega)
  unfold repeatT at h ⊢
  split
  · simp only; omega
  · split
    · simp only; omega
    · split
      · rename_i a b c
        rw [if_neg a, if_neg b, if_pos c] at h
        split at h
        · rename_i d
          have k := count_to p i h0 d
          have m2 := mood_to p (count p i).2.2.1 (by omega) (by omega)
          rw [if_pos d]
          simp only; omega
        · simp at h
      · simp only; omega
theorem opening_to (p : ByteArray) (i : Int) (h0 : 0 ≤ i) (h1 : i < p.size) (h : (opening p i).2 = true) : i < (opening p i).1.to ∧ (opening p i).1.to ≤ p.size := by
  rcases opening_cases p i with ⟨a1, e⟩ | ⟨a1, ⟨a2, e⟩ | ⟨a2, a3, e⟩ | ⟨a2, a3, a4, e⟩ | ⟨a2, a3, a4, a5, e⟩ | ⟨a2, a3, a4, a5, e⟩⟩
  · rw [e]; simp only; omega
  · rw [e]; have := atB_ge p (i + 2) (by rw [eq_of_beq a2]; omega); simp only; omega
  · rw [e]; have := atB_ge p (i + 2) (by rw [eq_of_beq a3]; omega); simp only; omega
  · rw [e]; have := atB_ge p (i + 2) (by rw [eq_of_beq a4]; omega); simp only; omega
  · rw [e]; have := atB_ge p (i + 2) (by rw [eq_of_beq a5]; omega); simp only; omega
  · rw [e] at h; simp at h
theorem escape_to (p : ByteArray) (i : Int) (h0 : 0 ≤ i) (h1 : i < p.size) (h : (escape p i).2 = true) : i < (escape p i).1.to ∧ (escape p i).1.to ≤ p.size := by
  rcases escape_cases p i with ⟨a1, e⟩ | ⟨a0, a1, ⟨a2, e⟩ | ⟨a2, a3, e⟩ | ⟨a2, a3, a4, a5, a6, a7, e⟩ | ⟨a2, a3, a4, e⟩⟩
  · rw [e] at h; simp at h
  all_goals
    rw [e]; have := atB_ge p (i + 1) a0; simp only; omega
theorem class_to (p : ByteArray) (i : Int) (h0 : 0 ≤ i) (h1 : i < p.size) (h : (classT p i).2 = true) : i < (classT p i).1.to ∧ (classT p i).1.to ≤ p.size := by
  have ha : i + 1 ≤ classA p i := by unfold classA; split <;> omega
  have hb := classFrom_bd p ((p.size : Int) - classA p i + 1).toNat (classA p i) (by omega) (by omega)
  unfold classT at h ⊢
  split at h
  · simp at h
  · rename_i g
    rw [if_neg g]
    simp only; omega
theorem nextT_to (p : ByteArray) (i : Int) (h0 : 0 ≤ i) (h1 : i < p.size) (h : (nextT p i).2 = 0) : i < (nextT p i).1.to ∧ (nextT p i).1.to ≤ p.size := by
  unfold nextT at h ⊢
  split
  · simp only; omega
  split
  · simp only; omega
  split
  · simp only; omega
  split
  · simp only; omega
  split
  · rename_i a b c d e
    rw [if_neg a, if_neg b, if_neg c, if_neg d, if_pos e] at h
    exact escape_to p i h0 h1 (by cases x : (escape p i).2 <;> simp [x] at h ⊢)
  split
  · rename_i a b c d e f
    rw [if_neg a, if_neg b, if_neg c, if_neg d, if_neg e, if_pos f] at h
    exact class_to p i h0 h1 (by cases x : (classT p i).2 <;> simp [x] at h ⊢)
  split
  · rename_i a b c d e f g
    rw [if_neg a, if_neg b, if_neg c, if_neg d, if_neg e, if_neg f, if_pos g] at h
    exact opening_to p i h0 h1 (by cases x : (opening p i).2 <;> simp [x] at h ⊢)
  split
  · rename_i a b c d e f g k
    rw [if_neg a, if_neg b, if_neg c, if_neg d, if_neg e, if_neg f, if_neg g, if_pos k] at h
    exact repeat_to p i h0 h1 (by cases x : (repeatT p i).2 <;> simp [x] at h ⊢)
  split
  · simp only; omega
  · simp only; omega

/-- Reading on from i behind l. -/
def readOn (p : ByteArray) (l : List Tok) (i : Int) : List Tok × Int × Int := readFrom p ((p.size : Int) - i + 1).toNat l i
theorem readFrom_fuel (p : ByteArray) : ∀ (f g : Nat) (l : List Tok) (i : Int), 0 ≤ i → (p.size : Int) - i < f → (p.size : Int) - i < g → i ≤ p.size → readFrom p f l i = readFrom p g l i := by
  intro f
  induction f with
  | zero =>
    intro g l i h0 hf hg hi
    omega
  | succ f ih =>
    intro g l i h0 hf hg hi
    cases g with
    | zero => omega
    | succ g =>
      simp only [readFrom]
      by_cases h1 : (p.size : Int) ≤ i
      · rw [if_pos h1, if_pos h1]
      · rw [if_neg h1, if_neg h1]
        by_cases h2 : (nextT p i).2 ≠ 0
        · rw [if_pos h2, if_pos h2]
        · rw [if_neg h2, if_neg h2]
          have := nextT_to p i h0 (by omega) (by omega)
          split
          · rfl
          · exact ih g _ _ (by omega) (by omega) (by omega) (by omega)
theorem readOn_step (p : ByteArray) (l : List Tok) (i : Int) (h0 : 0 ≤ i) (hi : i ≤ p.size) : readOn p l i =
    if (p.size : Int) ≤ i then (l, 0, i)
    else if (nextT p i).2 ≠ 0 then ([], (nextT p i).2, i)
    else if may l (nextT p i).1 ≠ 0 then ([], may l (nextT p i).1, i)
    else readOn p (l ++ [joined l (nextT p i).1]) (nextT p i).1.to := by
  unfold readOn
  rw [show ((p.size : Int) - i + 1).toNat = ((p.size : Int) - i).toNat + 1 by omega]
  simp only [readFrom]
  by_cases h1 : (p.size : Int) ≤ i
  · rw [if_pos h1, if_pos h1]
  · rw [if_neg h1, if_neg h1]
    by_cases h2 : (nextT p i).2 ≠ 0
    · rw [if_pos h2, if_pos h2]
    · rw [if_neg h2, if_neg h2]
      have := nextT_to p i h0 (by omega) (by omega)
      split
      · rfl
      · exact readFrom_fuel p _ _ _ _ (by omega) (by omega) (by omega) (by omega)
theorem readOn_start (p : ByteArray) (h : p.size ≤ 64) : readFrom p 65 [] 0 = readOn p [] 0 := readFrom_fuel p _ _ _ _ (by omega) (by omega) (by omega) (by omega)

end Mt
