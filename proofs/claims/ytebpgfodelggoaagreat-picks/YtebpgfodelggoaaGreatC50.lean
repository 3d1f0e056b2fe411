import Derived.Test.YtebpgfodelggoaaGreatC46
import Derived.Test.YtebpgfodelggoaaGreatC49
import Derived.Test.YtebpgfodelggoaaGreatC47
import Derived.Test.YtebpgfodelggoaaGreatC15
/- Rows of numbers and of truths that a call makes and fills; code.Loops, code.Weight. -/
set_option linter.unusedVariables false
set_option linter.unusedSimpArgs false
namespace Go.Proofs.YtebpgfodelggoaaGreat
open Go.RowKit

def rInts (w : World) (base : Nat) (v : Value) (b : List Int) : Prop := w.ownsRow base 3 1 v b.length (b.map (Value.int .i64))
def rBools (w : World) (base : Nat) (v : Value) (b : List Bool) : Prop := w.ownsRow base 4 1 v b.length (b.map Value.bool)
theorem Tryz.infoI : (Tryz.prog.info? 3).map (fun i => (i.zero, i.size, i.bytes)) = some (some (.int .i64 0), 1, 8) := by kernel_rfl
theorem Tryz.infoB : (Tryz.prog.info? 4).map (fun i => (i.zero, i.size, i.bytes)) = some (some (.bool false), 1, 1) := by kernel_rfl
theorem rInts.below {w w' : World} {base : Nat} {v : Value} {l : List Int} (h : rInts w base v l) (hb : Below w.heap.size w w') : rInts w' base v l := owns_below h hb
theorem rBools.below {w w' : World} {base : Nat} {v : Value} {l : List Bool} (h : rBools w base v l) (hb : Below w.heap.size w w') : rBools w' base v l := owns_below h hb
theorem rInts.made {w : World} {base : Nat} {v : Value} {n : Nat} (h : w.ownsRow base 3 1 v n (madeCells (Value.int .i64 0).cells (n * 1)).toList) : rInts w base v (List.replicate n 0) := by
  unfold rInts
  rw [List.length_replicate, List.map_replicate]
  have e : (madeCells (Value.int .i64 0).cells (n * 1)).toList = List.replicate n (Value.int .i64 0) := by
    rw [Nat.mul_one]; exact toList_madeCells_one _ _
  rw [e] at h; exact h
theorem rBools.made {w : World} {base : Nat} {v : Value} {n : Nat} (h : w.ownsRow base 4 1 v n (madeCells (Value.bool false).cells (n * 1)).toList) : rBools w base v (List.replicate n false) := by
  unfold rBools
  rw [List.length_replicate, List.map_replicate]
  have e : (madeCells (Value.bool false).cells (n * 1)).toList = List.replicate n (Value.bool false) := by
    rw [Nat.mul_one]; exact toList_madeCells_one _ _
  rw [e] at h; exact h
section
variable {w : World} {base g n cap : Nat}
theorem rInts.at {l : List Int} (h : rInts w base (.slice (some ⟨g, 0, none⟩) n cap) l) (i : Nat) (hi : i < l.length) (hn : n = l.length) : w.cell? ⟨g, i, none⟩ = some (.int .i64 (l.getD i 0)) ∧ w.frozen? ⟨g, i, none⟩ = false := by
  subst hn
  refine ⟨?_, World.ownsRow.frozenAt h i⟩
  rw [World.ownsRow.cellAt h i (by omega), List.getD_eq_getElem?_getD, List.getElem?_map, List.getElem?_eq_getElem hi]; rfl
theorem rBools.at {l : List Bool} (h : rBools w base (.slice (some ⟨g, 0, none⟩) n cap) l) (i : Nat) (hi : i < l.length) (hn : n = l.length) : w.cell? ⟨g, i, none⟩ = some (.bool (l.getD i false)) ∧ w.frozen? ⟨g, i, none⟩ = false := by
  subst hn
  refine ⟨?_, World.ownsRow.frozenAt h i⟩
  rw [World.ownsRow.cellAt h i (by omega), List.getD_eq_getElem?_getD, List.getElem?_map, List.getElem?_eq_getElem hi]; rfl
theorem rInts.set {l : List Int} (h : rInts w base (.slice (some ⟨g, 0, none⟩) n cap) l) (hn : n = l.length) (i : Nat) (v : Int) : rInts (w.setCell ⟨g, i, none⟩ (.int .i64 v)) base (.slice (some ⟨g, 0, none⟩) n cap) (l.set i v) := by
  subst hn
  unfold rInts
  rw [List.length_set, List.map_set]; exact (World.ownsRow.stored h i (.int .i64 v)).1
theorem rBools.set {l : List Bool} (h : rBools w base (.slice (some ⟨g, 0, none⟩) n cap) l) (hn : n = l.length) (i : Nat) (v : Bool) : rBools (w.setCell ⟨g, i, none⟩ (.bool v)) base (.slice (some ⟨g, 0, none⟩) n cap) (l.set i v) := by
  subst hn
  unfold rBools
  rw [List.length_set, List.map_set]; exact (World.ownsRow.stored h i (.bool v)).1
end
/-- A list that is filled so far. -/
def fill {α : Type} (f : Nat → α) (z : α) (k n : Nat) : List α := (List.range n).map fun i => if i < k then f i else z
theorem fill_len {α : Type} (f : Nat → α) (z : α) (k n : Nat) : (fill f z k n).length = n := by simp [fill]
theorem fill_zero {α : Type} (f : Nat → α) (z : α) (n : Nat) : fill f z 0 n = List.replicate n z := by
  unfold fill
  apply List.ext_getElem
  · simp
  · intro i h1 h2; simp
theorem fill_all {α : Type} (f : Nat → α) (z : α) (n : Nat) : fill f z n n = (List.range n).map f := by
  unfold fill
  apply List.map_congr_left
  intro i hi
  rw [if_pos (List.mem_range.1 hi)]
theorem fill_set {α : Type} (f : Nat → α) (z : α) (k n : Nat) : (fill f z k n).set k (f k) = fill f z (k + 1) n := by
  unfold fill
  apply List.ext_getElem
  · simp
  · intro i h1 h2
    rw [List.getElem_set]
    simp only [List.getElem_map, List.getElem_range]
    by_cases h : k = i
    · subst h; simp
    · rw [if_neg h]
      by_cases h3 : i < k
      · rw [if_pos h3, if_pos (by omega)]
      · rw [if_neg h3, if_neg (by omega)]
def loopList (c : List Mt.Ins) : List Int := (List.range c.length).map fun p => (Mt.loopsAt c p : Int)
theorem loopList_len (c : List Mt.Ins) : (loopList c).length = c.length := by simp [loopList]
theorem loopList_at (c : List Mt.Ins) (p : Nat) (h : p < c.length) : (loopList c).getD p 0 = (Mt.loopsAt c p : Int) := by
  unfold loopList
  rw [List.getD_eq_getElem?_getD, List.getElem?_map, List.getElem?_range h]; rfl

set_option maxRecDepth 100000 in
set_option maxHeartbeats 4000000 in
theorem Loops_any (c : List Mt.Ins) (hcl : ∀ k, (c.take k).countP Mt.isMark = (c.take k).countP Mt.isAgain + Mt.loopsAt c k) (hl : c.length ≤ 300) (g cap : Nat) (w : World) (h : ownIns w 0 (.slice (some ⟨g, 0, none⟩) c.length cap) c) :
    Calls Tryz.prog 67 #[.slice (some ⟨g, 0, none⟩) c.length cap] w fun e w' => e = .returned (.slice (some ⟨w.heap.size, 0, none⟩) c.length c.length) ∧ rInts w' w.heap.size (.slice (some ⟨w.heap.size, 0, none⟩) c.length c.length) (loopList c) ∧ Below w.heap.size w w' := by
  obtain ⟨i0, hi, hz0, hz1, hz2⟩ := info_parts Tryz.infoI
  have HC : Hid (∀ k j, k < c.length → j < 4 → w.cell? ⟨g, k * 4 + j, none⟩ = (insCells (c.getD k Mt.ins0))[j]?) := fun k j hk hj => by
    have h' := h
    unfold ownIns at h'
    rw [World.ownsRow.cellAt h' (k * 4 + j) (by omega), ins_flat_at c k j hk hj]
  have hg : g < w.heap.size := (World.ownsRow.lt h g rfl).2
  have HCL : Hid (∀ k, (c.take k).countP Mt.isMark = (c.take k).countP Mt.isAgain + Mt.loopsAt c k) := hcl
  clear h hcl
  go_enter Tryz.func67, Tryz.ntmps67
  go_wp2_with (first | (at_make; refine wpList_make_full _ rfl (.tmp 8) (.tmp 8) 41 rfl w.heap.size 3 i0 (.int .i64 0) 1 Tryz.underlying41 hi hz0 hz1 .i64 .i64 _ _ c.length rfl rfl rfl rfl (by rw [hz2]; omega) (by unfold maxLen; omega) (Nat.le_refl _) ?_; intro w1 hmk hgr))
  have hB1 : Below w.heap.size w w1 := (Below.refl _ _).grown hgr (Nat.le_refl _) (fun q hq => by simp at hq)
  have HM : Hid (rInts w1 w.heap.size (.slice (some ⟨w.heap.size, 0, none⟩) c.length c.length) (fill (fun p => (Mt.loopsAt c p : Int)) 0 0 c.length)) := by rw [fill_zero]; exact rInts.made hmk
  clear hmk hgr
  go_loopw [4, 12] (fun lo i wr => ∃ k : Nat, k ≤ c.length ∧ i = .int .i64 k ∧ lo = .int .i64 (Mt.loopsAt c k : Nat) ∧ rInts wr w.heap.size (.slice (some ⟨w.heap.size, 0, none⟩) c.length c.length) (fill (fun p => (Mt.loopsAt c p : Int)) 0 k c.length) ∧ Below w.heap.size w wr) (fun _ i _ => c.length - (intOf i).toNat)
  case atStart =>
    refine ⟨0, Nat.zero_le _, rfl, ?_, HM.out, hB1⟩
    have := HCL.out 0
    simp at this
    rw [← this]; rfl
  case round =>
    obtain ⟨k, hk, rfl, rfl, hown, hbr⟩ := hrel
    have hsz := hbr.size
    by_cases hlt : k < c.length
    · have hR : wr.rangeAt g (k * 4) (insCells (c.getD k Mt.ins0)) := fun j u hj => by
        by_cases h4 : j < 4
        · rw [(hbr.cell (p := ⟨g, k * 4 + j, none⟩) hg), HC.out k j hlt h4]; exact hj
        · rw [List.getElem?_eq_none (by rw [insC_len]; omega)] at hj; simp at hj
      have n1 := HCL.out k
      have n2 := HCL.out (k + 1)
      rw [Mt.count_next _ c k hlt, Mt.count_next _ c k hlt] at n2
      have bl := Mt.loopsAt_le c k
      have hk' : (k : Int) < (c.length : Int) := by omega
      generalize c.getD k Mt.ins0 = I at *
      have HI : Hid (((I.op == 4) = true ∧ Mt.loopsAt c (k + 1) = Mt.loopsAt c k + 1) ∨ ((I.op == 4) = false ∧ (I.op == 5) = true ∧ Mt.loopsAt c (k + 1) + 1 = Mt.loopsAt c k) ∨ ((I.op == 4) = false ∧ (I.op == 5) = false ∧ Mt.loopsAt c (k + 1) = Mt.loopsAt c k)) := by
        show _ ∨ _
        unfold Mt.isMark Mt.isAgain at *
        simp only [beq_iff_eq, beq_eq_false_iff_ne, decide_eq_true_eq] at *
        by_cases e4 : I.op = 4
        · rw [if_pos e4, if_neg (by omega)] at n2; exact Or.inl ⟨e4, by omega⟩
        · rw [if_neg e4] at n2
          by_cases e5 : I.op = 5
          · rw [if_pos e5] at n2; exact Or.inr (Or.inl ⟨e4, e5, by omega⟩)
          · rw [if_neg e5] at n2; exact Or.inr (Or.inr ⟨e4, e5, by omega⟩)
      clear n1 n2
      have HST : Hid (∀ w3 : World, (∀ q, q ≠ wr.heap.size → w3.heap[q]? = (wr.alloc (.cells (insA Mt.ins0) 112)).heap[q]?) → (∀ L, L ≤ wr.heap.size → Below L (wr.alloc (.cells (insA Mt.ins0) 112)) w3) → Below w.heap.size w w3 ∧ rInts w3 w.heap.size (.slice (some ⟨w.heap.size, 0, none⟩) c.length c.length) (fill (fun p => (Mt.loopsAt c p : Int)) 0 k c.length)) := fun w3 h2 h3 =>
        ⟨(hbr.alloc hsz _).trans (h3 _ hsz), hown.below (((Below.refl _ _).alloc (Nat.le_refl _) _).trans (h3 _ (Nat.le_refl _)))⟩
      have hwl : w.heap.size < wr.heap.size := (World.ownsRow.lt hown w.heap.size rfl).2
      clear hown hbr
      generalize hLk : Mt.loopsAt c k = lk at *
      rcases HI.out with ⟨e4, hn⟩ | ⟨e4, e5, hn⟩ | ⟨e4, e5, hn⟩
      all_goals
        have HN : Hid (_ = _) := hn
        clear hn
        go_upto_region 6 with (first | (refine wpList_load_mid (by rfl) 112 (.tmp 15) (by rfl) g (k * 4) (by rfl) (insCells I) _ hR Tryz.underlying112 rfl (by rw [Tryz.sizeIn]; rfl) ?_) | (refine store_blk 112 4 Tryz.sizeIn (by rfl) (.tmp 6) (.tmp 16) (by rfl) wr.heap.size (insA I) (by rfl) (by rfl) (by exact heap_b1 _ _) (by rfl) (by rfl) (insA_all I) ?_; intro w3 r1 r2 r3 r4))
        obtain ⟨B3, O3⟩ := HST.out w3 r2 r4
        obtain ⟨x1, x2⟩ := O3.at k (by rw [fill_len]; exact hlt) (by rw [fill_len])
        have O4 := O3.set (by rw [fill_len]) k (lk : Int)
        rw [← hLk] at O4
        rw [fill_set (fun p => (Mt.loopsAt c p : Int)) 0 k c.length] at O4
        rw [hLk] at O4
        have B4 := B3.setCell (p := ⟨w.heap.size, k, none⟩) (Nat.le_refl _) (.int .i64 (lk : Int))
        have t0 : (w3.setCell ⟨w.heap.size, k, none⟩ (.int .i64 (lk : Int))).cell? ⟨wr.heap.size, 0, none⟩ = some (.int .i64 I.op) := by
          rw [World.cell?_of_block (a := ⟨wr.heap.size, 0, none⟩) (Below.heap_setCell w3 ⟨w.heap.size, k, none⟩ _ wr.heap.size (by show wr.heap.size ≠ w.heap.size; omega))]
          exact (cell_block r1).1 0
        have HO4 : Hid (rInts (w3.setCell ⟨w.heap.size, k, none⟩ (.int .i64 (lk : Int))) w.heap.size (.slice (some ⟨w.heap.size, 0, none⟩) c.length c.length) (fill (fun p => (Mt.loopsAt c p : Int)) 0 (k + 1) c.length) ∧ Below w.heap.size w (w3.setCell ⟨w.heap.size, k, none⟩ (.int .i64 (lk : Int)))) := ⟨O4, B4⟩
        clear r1 r2 r3 r4 B3 O3 O4 B4 hR
        generalize (fill (fun p => (Mt.loopsAt c p : Int)) 0 k c.length).getD k 0 = zz at *
        go_upto_region 7 with fail
        generalize w3.setCell ⟨w.heap.size, k, none⟩ (.int .i64 (lk : Int)) = w4 at *
        clear x1 x2
        go_wp2_with fail
        go_roundw
        case rel => exact ⟨k + 1, by omega, by go_num, by have hn := HN.out; first | (rw [hn]; go_num) | (rw [← hn]; go_num) | (rw [hn]), HO4.out.1, HO4.out.2⟩
        case measure => simp [intOf]; omega
    · have hk2 : k = c.length := by omega
      subst hk2
      rw [fill_all] at hown
      have HBR : Hid (Below w.heap.size w wr) := hbr
      have HOW : Hid (rInts wr w.heap.size (.slice (some ⟨w.heap.size, 0, none⟩) c.length c.length) (loopList c)) := hown
      clear hbr hown
      go_wp2_with fail
      go_ret
      exact ⟨rfl, HOW.out, HBR.out⟩
end Go.Proofs.YtebpgfodelggoaaGreat
/- WHICH INSTRUCTIONS ARE CHOSEN, as the program goes: what stands in a run of its own is passed by. -/
set_option linter.unusedVariables false
namespace Mt

theorem subs_end : ∀ (r : Re) (p d : Int) (x : Ins), x ∈ r.code p d → x.op = 11 → x.y ≤ p + r.len
  | .eps, p, d, x, h, ho => by simp [Re.code] at h
  | .one s, p, d, x, h, ho => by simp [Re.code] at h; subst h; simp at ho
  | .back s, p, d, x, h, ho => by simp [Re.code] at h; subst h; simp at ho
  | .head, p, d, x, h, ho => by simp [Re.code] at h; subst h; simp at ho
  | .tail, p, d, x, h, ho => by simp [Re.code] at h; subst h; simp at ho
  | .cat a b, p, d, x, h, ho => by
    simp only [Re.code, List.mem_append, Re.len] at *
    rcases h with h | h
    · have := subs_end a _ _ x h ho; omega
    · have := subs_end b _ _ x h ho; omega
  | .alt a b, p, d, x, h, ho => by
    simp only [Re.code, List.mem_append, List.mem_cons, Re.len] at *
    rcases h with rfl | h | rfl | h
    · simp at ho
    · have := subs_end a _ _ x h ho; omega
    · simp at ho
    · have := subs_end b _ _ x h ho; omega
  | .cap k a, p, d, x, h, ho => by
    simp only [Re.code, List.mem_append, List.mem_cons, List.not_mem_nil, or_false, Re.len] at *
    rcases h with rfl | h | rfl
    · simp at ho
    · have := subs_end a _ _ x h ho; omega
    · simp at ho
  | .sub s a, p, d, x, h, ho => by
    simp only [Re.code, List.mem_append, List.mem_cons, List.not_mem_nil, or_false, Re.len] at *
    rcases h with rfl | h | rfl
    · dsimp only; omega
    · have := subs_end a _ _ x h ho; omega
    · simp at ho
  | .opt late a, p, d, x, h, ho => by
    simp only [Re.code, List.mem_cons, Re.len] at *
    rcases h with rfl | h
    · cases late <;> simp [spl] at ho
    · have := subs_end a _ _ x h ho; omega
  | .loop late a, p, d, x, h, ho => by
    simp only [Re.code, List.mem_append, List.mem_cons, List.not_mem_nil, or_false, Re.len] at *
    rcases h with rfl | rfl | h | rfl
    · cases late <;> simp [spl] at ho
    · simp at ho
    · have := subs_end a _ _ x h ho; omega
    · simp at ho

/-- Runs of their own lie in each other or apart. -/
def Nest (p : Int) (l : List Ins) : Prop := ∀ (i j : Nat) (x y : Ins), i < j → l[i]? = some x → l[j]? = some y → x.op = 11 → y.op = 11 → p + j < x.y → y.y ≤ x.y
theorem nest_app {p : Int} {a b : List Ins} (ha : Nest p a) (hb : Nest (p + a.length) b) (he : ∀ x ∈ a, x.op = 11 → x.y ≤ p + a.length) : Nest p (a ++ b) := by
  intro i j x y hij hx hy ox oy hl
  rcases get_app hx with ⟨h1, h2⟩ | ⟨h1, h2⟩
  · rcases get_app hy with ⟨g1, g2⟩ | ⟨g1, g2⟩
    · exact ha i j x y hij h2 g2 ox oy hl
    · have := he x (List.mem_of_getElem? h2) ox; omega
  · rcases get_app hy with ⟨g1, g2⟩ | ⟨g1, g2⟩
    · omega
    · exact hb _ _ x y (by omega) h2 g2 ox oy (by omega)
theorem nest_cons {p : Int} {c : Ins} {b : List Ins} (hb : Nest (p + 1) b) (he : c.op = 11 → ∀ y ∈ b, y.op = 11 → y.y ≤ c.y) : Nest p (c :: b) := by
  intro i j x y hij hx hy ox oy hl
  rcases get_cons hy with ⟨h1, h2⟩ | ⟨j', rfl, h2⟩
  · omega
  rcases get_cons hx with ⟨g1, rfl⟩ | ⟨i', rfl, g2⟩
  · exact he ox y (List.mem_of_getElem? h2) oy
  · exact hb i' j' x y (by omega) g2 h2 ox oy (by omega)
theorem nest_none {p : Int} {c : Ins} (h : c.op ≠ 11) : Nest p [c] := nest_cons (fun i j x y _ hx => by simp at hx) (fun e => absurd e h)
theorem code_nest : ∀ (r : Re) (p d : Int), Nest p (r.code p d)
  | .eps, p, d => fun i j x y _ hx => by simp [Re.code] at hx
  | .one s, p, d => nest_none (by simp)
  | .back s, p, d => nest_none (by simp)
  | .head, p, d => nest_none (by simp)
  | .tail, p, d => nest_none (by simp)
  | .cat a b, p, d => nest_app (code_nest a p d) (by rw [Re.code_len]; exact code_nest b _ d) (by rw [Re.code_len]; exact fun x hx ho => subs_end a p d x hx ho)
  | .alt a b, p, d => nest_cons (nest_app (code_nest a _ d) (nest_cons (by rw [Re.code_len, show p + 1 + (a.len : Int) + 1 = p + a.len + 2 by omega]; exact code_nest b _ d) (fun e => by simp at e)) (by rw [Re.code_len]; exact fun x hx ho => subs_end a _ d x hx ho)) (fun e => by simp at e)
  | .cap k a, p, d => nest_cons (nest_app (code_nest a _ d) (nest_none (by simp)) (by rw [Re.code_len]; exact fun x hx ho => subs_end a _ d x hx ho)) (fun e => by simp at e)
  | .sub s a, p, d => nest_cons (nest_app (code_nest a _ d) (nest_none (by simp)) (by rw [Re.code_len]; exact fun x hx ho => subs_end a _ d x hx ho)) (fun _ y hy oy => by
      rcases List.mem_append.1 hy with hy | hy
      · have := subs_end a _ d y hy oy; dsimp only; omega
      · simp at hy; subst hy; simp at oy)
  | .opt late a, p, d => nest_cons (code_nest a _ d) (fun e => by cases late <;> simp [spl] at e)
  | .loop late a, p, d => nest_cons (nest_cons (by rw [show p + 1 + 1 = p + 2 by omega]; exact nest_app (code_nest a _ _) (nest_none (by simp)) (by rw [Re.code_len]; exact fun x hx ho => subs_end a _ _ x hx ho)) (fun e => by simp at e)) (fun e => by cases late <;> simp [spl] at e)

/-- The number of the instruction behind the latest run of its own. -/
def bh (c : List Ins) : Nat → Int
  | 0 => 0
  | i + 1 => if (i : Int) < bh c i then bh c i else if (c.getD i ins0).op = 11 then (c.getD i ins0).y else bh c i
theorem bh_from (c : List Ins) : ∀ i, bh c i = 0 ∨ ∃ j, j < i ∧ (c.getD j ins0).op = 11 ∧ bh c i = (c.getD j ins0).y
  | 0 => .inl rfl
  | i + 1 => by
    have ih := bh_from c i
    unfold bh
    split
    · rcases ih with h | ⟨j, h1, h2⟩
      · exact .inl h
      · exact .inr ⟨j, by omega, h2⟩
    split
    · rename_i h; exact .inr ⟨i, by omega, h, rfl⟩
    · rcases ih with h | ⟨j, h1, h2⟩
      · exact .inl h
      · exact .inr ⟨j, by omega, h2⟩
theorem bh_to (c : List Ins) (hN : Nest 0 c) : ∀ i, i ≤ c.length → ∀ j, j < i → (c.getD j ins0).op = 11 → (i : Int) < (c.getD j ins0).y → (c.getD j ins0).y ≤ bh c i
  | 0, _, j, h, _, _ => by omega
  | i + 1, hi, j, hj, ho, hy => by
    by_cases hji : j < i
    · have := bh_to c hN i (by omega) j hji ho (by omega)
      rw [bh, if_pos (by omega)]; exact this
    · have e : j = i := by omega
      subst e
      rw [bh]
      split
      · rename_i hb
        rcases bh_from c j with h | ⟨k, h1, h2, h3⟩
        · omega
        · rw [h3] at hb ⊢
          refine hN k j _ _ h1 (by rw [List.getD_eq_getElem?_getD, List.getElem?_eq_getElem (show k < c.length by omega)]; rfl) (by rw [List.getD_eq_getElem?_getD, List.getElem?_eq_getElem (show j < c.length by omega)]; rfl) h2 ho (by omega)
      · first | exact Int.le_refl _ | (rw [if_pos ho]; exact Int.le_refl _)
theorem bh_inSub (c : List Ins) (hN : Nest 0 c) (i : Nat) (hi : i < c.length) : decide ((i : Int) < bh c i) = inSub c i := by
  unfold inSub
  rw [Bool.eq_iff_iff]
  simp only [decide_eq_true_eq, List.any_eq_true, isOver]
  constructor
  · intro h
    rcases bh_from c i with h0 | ⟨j, h1, h2, h3⟩
    · omega
    · refine ⟨c.getD j ins0, ?_, h2, by omega⟩
      rw [List.getD_eq_getElem?_getD, List.getElem?_eq_getElem (show j < c.length by omega)]
      simp only [Option.getD_some]
      rw [List.mem_take_iff_getElem]
      exact ⟨j, by omega, rfl⟩
  · rintro ⟨x, hx, ho, hy⟩
    rw [List.mem_take_iff_getElem] at hx
    obtain ⟨j, hj, rfl⟩ := hx
    have e : c.getD j ins0 = c[j] := by rw [List.getD_eq_getElem?_getD, List.getElem?_eq_getElem (show j < c.length by omega)]; rfl
    have := bh_to c hN i (by omega) j (by omega) (by rw [e]; exact ho) (by rw [e]; exact hy)
    rw [e] at this; omega
theorem pattern_nest (p : ByteArray) (h : (checkR p).1 = 0) : Nest 0 (codeR p).1 := by
  obtain ⟨f, _, _, _, _, _, hc, _⟩ := pattern_tree p h
  rw [hc]
  refine nest_app (code_nest f.re 0 0) (nest_none (by simp)) ?_
  rw [Re.code_len]; exact fun x hx ho => subs_end f.re 0 0 x hx ho
end Mt
