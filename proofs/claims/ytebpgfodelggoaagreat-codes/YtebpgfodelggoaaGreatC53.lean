import Derived.Test.YtebpgfodelggoaaGreatC48
import Derived.Test.YtebpgfodelggoaaGreatC52
import Derived.Test.YtebpgfodelggoaaGreatC50
import Derived.Test.YtebpgfodelggoaaGreatC15
import Derived.Test.YtebpgfodelggoaaGreatC14
import Derived.Test.YtebpgfodelggoaaGreatC18
/- Rows of numbers and of truths that a call makes and fills; code.Loops, code.Weight. -/
set_option linter.unusedVariables false
set_option linter.unusedSimpArgs false
namespace Go.Proofs.YtebpgfodelggoaaGreat
open Go.RowKit

def rInts (w : World) (base : Nat) (v : Value) (b : List Int) : Prop := w.ownsRow base 3 1 v b.length (b.map (Value.int .i64))
def rBools (w : World) (base : Nat) (v : Value) (b : List Bool) : Prop := w.ownsRow base 4 1 v b.length (b.map Value.bool)
theorem Tryz.infoI : (Tryz.prog.info? 3).map (fun i => (i.zero, i.size, i.bytes)) = some (some (.int .i64 0), 1, 8) := by kernel_rfl
theorem Tryz.infoB : (Tryz.prog.info? 4).map (fun i => (i.zero, i.size, i.bytes)) = some (some (.bool false), 1, 1) := by kernel_rfl
theorem rInts.below {w w' : World} {base : Nat} {v : Value} {l : List Int} (h : rInts w base v l) (hb : Below w.heap.size w w') : rInts w' base v l := owns_below h hb
theorem rBools.below {w w' : World} {base : Nat} {v : Value} {l : List Bool} (h : rBools w base v l) (hb : Below w.heap.size w w') : rBools w' base v l := owns_below h hb
theorem rInts.made {w : World} {base : Nat} {v : Value} {n : Nat} (h : w.ownsRow base 3 1 v n (madeCells (Value.int .i64 0).cells (n * 1)).toList) : rInts w base v (List.replicate n 0) := by
  unfold rInts
  rw [List.length_replicate, List.map_replicate]
  have e : (madeCells (Value.int .i64 0).cells (n * 1)).toList = List.replicate n (Value.int .i64 0) := by
    rw [Nat.mul_one]; exact toList_madeCells_one _ _
  rw [e] at h; exact h
theorem rBools.made {w : World} {base : Nat} {v : Value} {n : Nat} (h : w.ownsRow base 4 1 v n (madeCells (Value.bool false).cells (n * 1)).toList) : rBools w base v (List.replicate n false) := by
  unfold rBools
  rw [List.length_replicate, List.map_replicate]
  have e : (madeCells (Value.bool false).cells (n * 1)).toList = List.replicate n (Value.bool false) := by
    rw [Nat.mul_one]; exact toList_madeCells_one _ _
  rw [e] at h; exact h
section
variable {w : World} {base g n cap : Nat}
theorem rInts.at {l : List Int} (h : rInts w base (.slice (some ⟨g, 0, none⟩) n cap) l) (i : Nat) (hi : i < l.length) (hn : n = l.length) : w.cell? ⟨g, i, none⟩ = some (.int .i64 (l.getD i 0)) ∧ w.frozen? ⟨g, i, none⟩ = false := by
  subst hn
  refine ⟨?_, World.ownsRow.frozenAt h i⟩
  rw [World.ownsRow.cellAt h i (by omega), List.getD_eq_getElem?_getD, List.getElem?_map, List.getElem?_eq_getElem hi]; rfl
theorem rBools.at {l : List Bool} (h : rBools w base (.slice (some ⟨g, 0, none⟩) n cap) l) (i : Nat) (hi : i < l.length) (hn : n = l.length) : w.cell? ⟨g, i, none⟩ = some (.bool (l.getD i false)) ∧ w.frozen? ⟨g, i, none⟩ = false := by
  subst hn
  refine ⟨?_, World.ownsRow.frozenAt h i⟩
  rw [World.ownsRow.cellAt h i (by omega), List.getD_eq_getElem?_getD, List.getElem?_map, List.getElem?_eq_getElem hi]; rfl
theorem rInts.set {l : List Int} (h : rInts w base (.slice (some ⟨g, 0, none⟩) n cap) l) (hn : n = l.length) (i : Nat) (v : Int) : rInts (w.setCell ⟨g, i, none⟩ (.int .i64 v)) base (.slice (some ⟨g, 0, none⟩) n cap) (l.set i v) := by
  subst hn
  unfold rInts
  rw [List.length_set, List.map_set]; exact (World.ownsRow.stored h i (.int .i64 v)).1
theorem rBools.set {l : List Bool} (h : rBools w base (.slice (some ⟨g, 0, none⟩) n cap) l) (hn : n = l.length) (i : Nat) (v : Bool) : rBools (w.setCell ⟨g, i, none⟩ (.bool v)) base (.slice (some ⟨g, 0, none⟩) n cap) (l.set i v) := by
  subst hn
  unfold rBools
  rw [List.length_set, List.map_set]; exact (World.ownsRow.stored h i (.bool v)).1
end
/-- A list that is filled so far. -/
def fill {α : Type} (f : Nat → α) (z : α) (k n : Nat) : List α := (List.range n).map fun i => if i < k then f i else z
theorem fill_len {α : Type} (f : Nat → α) (z : α) (k n : Nat) : (fill f z k n).length = n := by simp [fill]
theorem fill_zero {α : Type} (f : Nat → α) (z : α) (n : Nat) : fill f z 0 n = List.replicate n z := by
  unfold fill
  apply List.ext_getElem
  · simp
  · intro i h1 h2; simp
theorem fill_all {α : Type} (f : Nat → α) (z : α) (n : Nat) : fill f z n n = (List.range n).map f := by
  unfold fill
  apply List.map_congr_left
  intro i hi
  rw [if_pos (List.mem_range.1 hi)]
theorem fill_set {α : Type} (f : Nat → α) (z : α) (k n : Nat) : (fill f z k n).set k (f k) = fill f z (k + 1) n := by
  unfold fill
  apply List.ext_getElem
  · simp
  · intro i h1 h2
    rw [List.getElem_set]
    simp only [List.getElem_map, List.getElem_range]
    by_cases h : k = i
    · subst h; simp
    · rw [if_neg h]
      by_cases h3 : i < k
      · rw [if_pos h3, if_pos (by omega)]
      · rw [if_neg h3, if_neg (by omega)]
def loopList (c : List Mt.Ins) : List Int := (List.range c.length).map fun p => (Mt.loopsAt c p : Int)
theorem loopList_len (c : List Mt.Ins) : (loopList c).length = c.length := by simp [loopList]
theorem loopList_at (c : List Mt.Ins) (p : Nat) (h : p < c.length) : (loopList c).getD p 0 = (Mt.loopsAt c p : Int) := by
  unfold loopList
  rw [List.getD_eq_getElem?_getD, List.getElem?_map, List.getElem?_range h]; rfl

set_option maxRecDepth 100000 in
set_option maxHeartbeats 4000000 in
theorem Loops_any (c : List Mt.Ins) (hcl : ∀ k, (c.take k).countP Mt.isMark = (c.take k).countP Mt.isAgain + Mt.loopsAt c k) (hl : c.length ≤ 300) (g cap : Nat) (w : World) (h : ownIns w 0 (.slice (some ⟨g, 0, none⟩) c.length cap) c) :
    Calls Tryz.prog 67 #[.slice (some ⟨g, 0, none⟩) c.length cap] w fun e w' => e = .returned (.slice (some ⟨w.heap.size, 0, none⟩) c.length c.length) ∧ rInts w' w.heap.size (.slice (some ⟨w.heap.size, 0, none⟩) c.length c.length) (loopList c) ∧ Below w.heap.size w w' := by
  obtain ⟨i0, hi, hz0, hz1, hz2⟩ := info_parts Tryz.infoI
  have HC : Hid (∀ k j, k < c.length → j < 4 → w.cell? ⟨g, k * 4 + j, none⟩ = (insCells (c.getD k Mt.ins0))[j]?) := fun k j hk hj => by
    have h' := h
    unfold ownIns at h'
    rw [World.ownsRow.cellAt h' (k * 4 + j) (by omega), ins_flat_at c k j hk hj]
  have hg : g < w.heap.size := (World.ownsRow.lt h g rfl).2
  have HCL : Hid (∀ k, (c.take k).countP Mt.isMark = (c.take k).countP Mt.isAgain + Mt.loopsAt c k) := hcl
  clear h hcl
  go_enter Tryz.func67, Tryz.ntmps67
  go_wp2_with (first | (at_make; refine wpList_make_full _ rfl (.tmp 8) (.tmp 8) 41 rfl w.heap.size 3 i0 (.int .i64 0) 1 Tryz.underlying41 hi hz0 hz1 .i64 .i64 _ _ c.length rfl rfl rfl rfl (by rw [hz2]; omega) (by unfold maxLen; omega) (Nat.le_refl _) ?_; intro w1 hmk hgr))
  have hB1 : Below w.heap.size w w1 := (Below.refl _ _).grown hgr (Nat.le_refl _) (fun q hq => by simp at hq)
  have HM : Hid (rInts w1 w.heap.size (.slice (some ⟨w.heap.size, 0, none⟩) c.length c.length) (fill (fun p => (Mt.loopsAt c p : Int)) 0 0 c.length)) := by rw [fill_zero]; exact rInts.made hmk
  clear hmk hgr
  go_loopw [4, 12] (fun lo i wr => ∃ k : Nat, k ≤ c.length ∧ i = .int .i64 k ∧ lo = .int .i64 (Mt.loopsAt c k : Nat) ∧ rInts wr w.heap.size (.slice (some ⟨w.heap.size, 0, none⟩) c.length c.length) (fill (fun p => (Mt.loopsAt c p : Int)) 0 k c.length) ∧ Below w.heap.size w wr) (fun _ i _ => c.length - (intOf i).toNat)
  case atStart =>
    refine ⟨0, Nat.zero_le _, rfl, ?_, HM.out, hB1⟩
    have := HCL.out 0
    simp at this
    rw [← this]; rfl
  case round =>
    obtain ⟨k, hk, rfl, rfl, hown, hbr⟩ := hrel
    have hsz := hbr.size
    by_cases hlt : k < c.length
    · have hR : wr.rangeAt g (k * 4) (insCells (c.getD k Mt.ins0)) := fun j u hj => by
        by_cases h4 : j < 4
        · rw [(hbr.cell (p := ⟨g, k * 4 + j, none⟩) hg), HC.out k j hlt h4]; exact hj
        · rw [List.getElem?_eq_none (by rw [insC_len]; omega)] at hj; simp at hj
      have n1 := HCL.out k
      have n2 := HCL.out (k + 1)
      rw [Mt.count_next _ c k hlt, Mt.count_next _ c k hlt] at n2
      have bl := Mt.loopsAt_le c k
      have hk' : (k : Int) < (c.length : Int) := by omega
      generalize c.getD k Mt.ins0 = I at *
      have HI : Hid (((I.op == 4) = true ∧ Mt.loopsAt c (k + 1) = Mt.loopsAt c k + 1) ∨ ((I.op == 4) = false ∧ (I.op == 5) = true ∧ Mt.loopsAt c (k + 1) + 1 = Mt.loopsAt c k) ∨ ((I.op == 4) = false ∧ (I.op == 5) = false ∧ Mt.loopsAt c (k + 1) = Mt.loopsAt c k)) := by
        show _ ∨ _
        unfold Mt.isMark Mt.isAgain at *
        simp only [beq_iff_eq, beq_eq_false_iff_ne, decide_eq_true_eq] at *
        by_cases e4 : I.op = 4
        · rw [if_pos e4, if_neg (by omega)] at n2; exact Or.inl ⟨e4, by omega⟩
        · rw [if_neg e4] at n2
          by_cases e5 : I.op = 5
          · rw [if_pos e5] at n2; exact Or.inr (Or.inl ⟨e4, e5, by omega⟩)
          · rw [if_neg e5] at n2; exact Or.inr (Or.inr ⟨e4, e5, by omega⟩)
      clear n1 n2
      have HST : Hid (∀ w3 : World, (∀ q, q ≠ wr.heap.size → w3.heap[q]? = (wr.alloc (.cells (insA Mt.ins0) 112)).heap[q]?) → (∀ L, L ≤ wr.heap.size → Below L (wr.alloc (.cells (insA Mt.ins0) 112)) w3) → Below w.heap.size w w3 ∧ rInts w3 w.heap.size (.slice (some ⟨w.heap.size, 0, none⟩) c.length c.length) (fill (fun p => (Mt.loopsAt c p : Int)) 0 k c.length)) := fun w3 h2 h3 =>
        ⟨(hbr.alloc hsz _).trans (h3 _ hsz), hown.below (((Below.refl _ _).alloc (Nat.le_refl _) _).trans (h3 _ (Nat.le_refl _)))⟩
      have hwl : w.heap.size < wr.heap.size := (World.ownsRow.lt hown w.heap.size rfl).2
      clear hown hbr
      generalize hLk : Mt.loopsAt c k = lk at *
      rcases HI.out with ⟨e4, hn⟩ | ⟨e4, e5, hn⟩ | ⟨e4, e5, hn⟩
      all_goals
        have HN : Hid (_ = _) := hn
        clear hn
        go_upto_region 6 with (first | (refine wpList_load_mid (by rfl) 112 (.tmp 15) (by rfl) g (k * 4) (by rfl) (insCells I) _ hR Tryz.underlying112 rfl (by rw [Tryz.sizeIn]; rfl) ?_) | (refine store_blk 112 4 Tryz.sizeIn (by rfl) (.tmp 6) (.tmp 16) (by rfl) wr.heap.size (insA I) (by rfl) (by rfl) (by exact heap_b1 _ _) (by rfl) (by rfl) (insA_all I) ?_; intro w3 r1 r2 r3 r4))
        obtain ⟨B3, O3⟩ := HST.out w3 r2 r4
        obtain ⟨x1, x2⟩ := O3.at k (by rw [fill_len]; exact hlt) (by rw [fill_len])
        have O4 := O3.set (by rw [fill_len]) k (lk : Int)
        rw [← hLk] at O4
        rw [fill_set (fun p => (Mt.loopsAt c p : Int)) 0 k c.length] at O4
        rw [hLk] at O4
        have B4 := B3.setCell (p := ⟨w.heap.size, k, none⟩) (Nat.le_refl _) (.int .i64 (lk : Int))
        have t0 : (w3.setCell ⟨w.heap.size, k, none⟩ (.int .i64 (lk : Int))).cell? ⟨wr.heap.size, 0, none⟩ = some (.int .i64 I.op) := by
          rw [World.cell?_of_block (a := ⟨wr.heap.size, 0, none⟩) (Below.heap_setCell w3 ⟨w.heap.size, k, none⟩ _ wr.heap.size (by show wr.heap.size ≠ w.heap.size; omega))]
          exact (cell_block r1).1 0
        have HO4 : Hid (rInts (w3.setCell ⟨w.heap.size, k, none⟩ (.int .i64 (lk : Int))) w.heap.size (.slice (some ⟨w.heap.size, 0, none⟩) c.length c.length) (fill (fun p => (Mt.loopsAt c p : Int)) 0 (k + 1) c.length) ∧ Below w.heap.size w (w3.setCell ⟨w.heap.size, k, none⟩ (.int .i64 (lk : Int)))) := ⟨O4, B4⟩
        clear r1 r2 r3 r4 B3 O3 O4 B4 hR
        generalize (fill (fun p => (Mt.loopsAt c p : Int)) 0 k c.length).getD k 0 = zz at *
        go_upto_region 7 with fail
        generalize w3.setCell ⟨w.heap.size, k, none⟩ (.int .i64 (lk : Int)) = w4 at *
        clear x1 x2
        go_wp2_with fail
        go_roundw
        case rel => exact ⟨k + 1, by omega, by go_num, by have hn := HN.out; first | (rw [hn]; go_num) | (rw [← hn]; go_num) | (rw [hn]), HO4.out.1, HO4.out.2⟩
        case measure => simp [intOf]; omega
    · have hk2 : k = c.length := by omega
      subst hk2
      rw [fill_all] at hown
      have HBR : Hid (Below w.heap.size w wr) := hbr
      have HOW : Hid (rInts wr w.heap.size (.slice (some ⟨w.heap.size, 0, none⟩) c.length c.length) (loopList c)) := hown
      clear hbr hown
      go_wp2_with fail
      go_ret
      exact ⟨rfl, HOW.out, HBR.out⟩
end Go.Proofs.YtebpgfodelggoaaGreat
/- code.Weight, matcher.Weight. -/
set_option linter.unusedVariables false
set_option linter.unusedSimpArgs false
namespace Go.Proofs.YtebpgfodelggoaaGreat
open Go.RowKit

set_option maxRecDepth 100000 in
set_option maxHeartbeats 4000000 in
theorem codeWeight_any (c : List Mt.Ins) (hcl : ∀ k, (c.take k).countP Mt.isMark = (c.take k).countP Mt.isAgain + Mt.loopsAt c k) (hl : c.length ≤ 300) (hpos : 0 < c.length) (v : Value) (w : World) (h : ownIns w 0 v c) :
    Calls Tryz.prog 57 #[v] w fun e w' => e = .returned (.int .i64 (Mt.weightC c : Nat)) ∧ Below w.heap.size w w' := by
  obtain ⟨g, cap, rfl, _, hg⟩ := World.ownsRow.form h hpos
  have HL : Hid (Calls Tryz.prog 67 #[.slice (some ⟨g, 0, none⟩) c.length cap] w _) := Loops_any c hcl hl g cap w h
  clear h
  go_enter Tryz.func57, Tryz.ntmps57
  go_wp2_with fail
  refine HL.out.mono ?_
  rintro e w1 ⟨rfl, hown, hb1⟩
  have HO : Hid (rInts w1 w.heap.size (.slice (some ⟨w.heap.size, 0, none⟩) c.length c.length) (loopList c)) := hown
  have HB1 : Hid (Below w.heap.size w w1) := hb1
  clear hown hb1 HL
  go_wp2_with fail
  go_loopw [3, 9] (fun wt i wr => ∃ k : Nat, k ≤ c.length ∧ i = .int .i64 k ∧ wt = .int .i64 (Mt.weightTo c k : Nat) ∧ wr = w1) (fun _ i _ => c.length - (intOf i).toNat)
  case atStart => exact ⟨0, Nat.zero_le _, rfl, rfl, rfl⟩
  case round =>
    obtain ⟨k, hk, rfl, rfl, rfl⟩ := hrel
    by_cases hlt : k < c.length
    · obtain ⟨x1, x2⟩ := HO.out.at k (by rw [loopList_len]; exact hlt) (by rw [loopList_len])
      rw [loopList_at c k hlt] at x1
      have HW : Hid (Mt.weightTo c (k + 1) = Mt.weightTo c k + 1 + Mt.loopsAt c k) := Mt.weightTo_next c k
      have bl := Mt.loopsAt_le c k
      have bw := Mt.weightTo_le c k
      have bw2 : k * (c.length + 1) ≤ 300 * 301 := Nat.mul_le_mul (by omega) (by omega)
      have hk' : (k : Int) < (c.length : Int) := by omega
      generalize hLk : Mt.loopsAt c k = lk at *
      generalize hWk : Mt.weightTo c k = wk at *
      go_wp2_with fail
      go_roundw
      case rel => exact ⟨k + 1, by omega, by go_num, by rw [HW.out]; go_num, by trivial⟩
      case measure => simp [intOf]; omega
    · have hk2 : k = c.length := by omega
      subst hk2
      go_wp2_with fail
      go_ret
      exact ⟨rfl, HB1.out⟩

theorem codeR_loops (p : ByteArray) (h : (Mt.codeR p).2 = 0) (k : Nat) : ((Mt.codeR p).1.take k).countP Mt.isMark = ((Mt.codeR p).1.take k).countP Mt.isAgain + Mt.loopsAt (Mt.codeR p).1 k := by
  have h0 : (Mt.checkR p).1 = 0 := by
    unfold Mt.codeR at h
    split at h
    · rename_i x; exact absurd h x
    · rename_i x; simpa using x
  obtain ⟨f, _, _, _, _, _, hc, _⟩ := Mt.pattern_tree p h0
  exact Mt.code_loops f.re _ hc k

set_option maxRecDepth 100000 in
set_option maxHeartbeats 2000000 in
theorem Weight_any (p : ByteArray) (w : World) (hm : p.size ≤ maxLen) : Calls Tryz.prog 30 #[.string p] w fun e w' => e = .returned (.tuple #[.int .i64 (Mt.weightR p).1, .int .i64 (Mt.weightR p).2]) ∧ Below w.heap.size w w' := by
  have HC : Hid (Calls Tryz.prog 35 #[.string p] w fun e w' => ∃ v, e = .returned (.tuple #[v, .int .i64 (Mt.codeR p).2]) ∧ ownIns w' w.heap.size v (Mt.codeR p).1 ∧ Below w.heap.size w w') := Code_any p w hm
  have hl := (Mt.codeR_fit p).2
  unfold Mt.weightR
  cases he : ((Mt.codeR p).2 != 0)
  · have h0 : (Mt.codeR p).2 = 0 := by simpa using he
    rw [if_neg (by simpa using he)]
    have hpos : 0 < (Mt.codeR p).1.length := by
      have hc0 : (Mt.checkR p).1 = 0 := by
        unfold Mt.codeR at h0
        split at h0
        · rename_i x; exact absurd h0 x
        · rename_i x; simpa using x
      obtain ⟨A, hK⟩ := Mt.pattern_known p hc0
      exact hK.pos
    have HW : Hid (∀ (v : Value) (z : World), ownIns z 0 v (Mt.codeR p).1 → Calls Tryz.prog 57 #[v] z fun e w' => e = .returned (.int .i64 (Mt.weightC (Mt.codeR p).1 : Nat)) ∧ Below z.heap.size z w') := fun v z hz => codeWeight_any _ (codeR_loops p h0) hl hpos v z hz
    clear h0 hpos
    generalize Mt.codeR p = K at *
    go_enter Tryz.func30, Tryz.ntmps30
    go_wp2_with fail
    refine HC.out.mono ?_
    rintro e w1 ⟨v, rfl, ho, hb⟩
    have HO : Hid (ownIns w1 0 v K.1) := ho.base (Nat.zero_le _)
    have HB : Hid (Below w.heap.size w w1) := hb
    clear ho hb HC
    go_wp2_with fail
    refine (HW.out v w1 HO.out).mono ?_
    rintro e w2 ⟨rfl, hb2⟩
    have HB2 : Hid (Below w.heap.size w w2) := HB.out.trans (hb2.mono HB.out.size)
    clear hb2
    go_wp2_with fail
    go_ret2
    exact ⟨rfl, HB2.out⟩
  · rw [if_pos (by simpa using he)]
    generalize Mt.codeR p = K at *
    go_enter Tryz.func30, Tryz.ntmps30
    go_wp2_with fail
    refine HC.out.mono ?_
    rintro e w1 ⟨v, rfl, ho, hb⟩
    have HB : Hid (Below w.heap.size w w1) := hb
    clear ho hb HC
    go_wp2_with fail
    go_ret2
    exact ⟨rfl, HB.out⟩
end Go.Proofs.YtebpgfodelggoaaGreat
/- The law Codes: P4 and P5. -/
set_option linter.unusedVariables false
namespace Go.Proofs.YtebpgfodelggoaaGreat
open Go.ChangeShapes Go.WideShapes Go.ChangeAt Go.RowKit

theorem code_keeps : CodeKeeps := fun p z hp => Code_any p z hp
theorem weight_keeps : WeightKeeps := fun p z hp => Weight_any p z hp

set_option maxRecDepth 100000 in
set_option maxHeartbeats 1000000 in
theorem codes_walk (l : List Stp) (v : Value) (w : World) (h : Script w v l) (hn : l.length ≤ maxLen) (hs : ∀ o ∈ l, o.p.size ≤ maxLen ∧ o.t.size ≤ maxLen) :
    Calls Tryz.prog 4 #[v] w fun e w' => e = .returned (.bool true) ∧ Below w.heap.size w w' := by
  have HC : Hid (Calls Tryz.prog 9 #[v, .int .i64 2, .int .i64 3] w _) := upTo_true 2 3 l v w h (by unfold maxLen at hn; omega) (fun o ho k1 k2 z => by
    by_cases e : o.kind = 2
    · exact plays_code code_keeps o z (hs o ho).1 (by rw [e]; rfl) (by rw [e]; rfl)
    · have e3 : o.kind = 3 := by omega
      exact plays_weight weight_keeps o z (hs o ho).1 (by rw [e3]; rfl) (by rw [e3]; rfl) (by rw [e3]; rfl))
  go_enter Tryz.func4, Tryz.ntmps4
  go_wp2_with fail
  refine HC.out.mono ?_
  rintro e w1 ⟨rfl, b1⟩
  have HB : Hid (Below w.heap.size w w1) := b1
  clear b1
  go_wp2_with fail
  go_ret
  exact ⟨rfl, HB.out⟩

set_option maxRecDepth 100000 in
/-- What the walk gives, for every script. -/
theorem codes_contract (H : Type) (enc : TypeId × Value → H) (W : World) (base : Nat) (args : Array Value) (ds gs : List (DataW H)) (before : List MemPlace)
    (hval : ∀ (j : Nat) t v, Tryz.f4.params[j]? = some t → args[j]? = some v → Value.okWide Tryz.prog W .any base t v)
    (hW : DataW.Whole enc Tryz.prog Tryz.f4.params.toList Rows.codesSpec.vars false W args.toList ds gs before) :
    Calls Tryz.prog 4 args W fun e W' => ∃ v, e = .returned v ∧ Rows.codesSpec.post enc Tryz.prog Tryz.f4 false true false false W args v W' := by
  have hW' := hW
  have hlt := hW.lt
  obtain ⟨p, q, hA0, hV, rfl, hfz, hnd⟩ := hW
  have hA : DataW.TrodAll enc Tryz.prog W 0 (fun _ => true) true Tryz.f4.params.toList args.toList ds p := hA0
  rw [Tryz.params4] at hA hval
  obtain ⟨v0, d0, rfl, rfl, h0⟩ := trodAll_one hA
  obtain ⟨rfl, rfl⟩ := trodVars_none hV
  obtain ⟨a0, len, cap, rfl⟩ := okWide_slice Tryz.underlying22 (hval 0 22 v0 rfl rfl)
  have h0' := h0
  obtain ⟨fuel, hf⟩ := h0
  obtain ⟨l, hS, hn, hs⟩ := script_open hf
  clear hA0
  simp only [List.append_nil] at hW' hlt
  refine (codes_walk l _ W hS hn hs).mono fun e W' ⟨he, hb⟩ => ?_
  subst he
  refine ⟨_, rfl, post_below (pa := p) (pv := []) hW' (fun _ _ _ => trodAll_cons_mk (shut_bool Tryz.underlying4 _) trodAll_mk0) (fun sp hsp => ?_) (fun _ _ => rfl) (by simp) hb (ok_one (by kernel_rfl) rfl (okWide_bool_mk Tryz.underlying4 _))⟩
  have := WideElems.Trod_stays (W' := W') (sp' := sp) Tryz.laid Tryz.recOps Tryz.rowOps h0' (fun x hx => hb.same (hlt x hx)) hsp
  exact ⟨p, [], this, rfl, by simp⟩

set_option maxRecDepth 100000 in
theorem codes_lifted (os : Os) (started : os.Started) (H : Type) (enc : TypeId × Value → H) :
    ReturnsInHanded {} Tryz.checked os 4 .any (Rows.codesSpec.pre6 enc Tryz.prog Tryz.f4 Rows.codesRow.domain false) (Rows.codesSpec.post enc Tryz.prog Tryz.f4 false true false false) := by
  refine returnsInHanded_of_change (C := Tryz.checked) Tryz.ownK started (by kernel_rfl) Tryz.func4
    (ChangeSpec.witness6 (enc := enc) (C := Tryz.checked) false ⟨#[], #[.slice none 0 0], []⟩ 8 (by kernel_rfl) (by kernel_rfl) (by kernel_rfl) (by kernel_rfl)) ?_
  intro W base args ds gs before hval hW _ _
  exact codes_contract H enc W base args ds gs before hval hW

theorem codes_holds : Rows.CodesSaid :=
  OpenClaim.holds_of_wide 4 Tryz.f4 rfl rfl rfl rfl rfl rfl rfl ⟨rfl, rfl, rfl, rfl, rfl⟩ rfl rfl rfl rfl rfl (by kernel_rfl) Tryz.func4 (by kernel_rfl)
    (of_decide_eq_true (by kernel_rfl)) (by unfold Func.isWrapper; first | (rw [if_pos (by decide +kernel)]; kernel_rfl) | (rw [if_neg (by decide +kernel)]; exact ⟨rfl, rfl⟩))
    (fun os started H enc _ => codes_lifted os started H enc)
end Go.Proofs.YtebpgfodelggoaaGreat
