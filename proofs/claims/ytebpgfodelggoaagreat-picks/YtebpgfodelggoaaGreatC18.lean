import Derived.Test.YtebpgfodelggoaaGreatC17
import Derived.Test.YtebpgfodelggoaaGreatC01
import Derived.Test.YtebpgfodelggoaaGreatC02
/- The steps Code and Weight of a script. -/
set_option linter.unusedVariables false
set_option linter.unusedSimpArgs false
namespace Go.Proofs.YtebpgfodelggoaaGreat
open Go.RowKit

/-- What is asked of the program's Weight. -/
def WeightKeeps : Prop := ∀ (p : ByteArray) (z : World), p.size ≤ maxLen → Calls Tryz.prog 30 #[.string p] z fun e w' => e = .returned (.tuple #[.int .i64 (Mt.weightR p).1, .int .i64 (Mt.weightR p).2]) ∧ Below z.heap.size z w'

set_option maxRecDepth 100000 in
set_option maxHeartbeats 4000000 in
theorem plays_code (KP : CodeKeeps) (o : Stp) (w : World) (hp : o.p.size ≤ maxLen) (k1 : (o.kind == 1) = false) (k2 : (o.kind == 2) = true) :
    Calls Tryz.prog 16 #[opV o] w fun e w' => e = .returned (.bool true) ∧ Below w.heap.size w w' := by
  have K1 : Hid (∀ z : World, Calls Tryz.prog 29 #[opV o] z fun e w' => e = .returned (.bool true) ∧ Below z.heap.size z w') := fun z => coded_true KP o z hp
  unfold opV opA at *
  go_enter Tryz.func16, Tryz.ntmps16
  go_wp2_with fail
  refine (K1.out _).mono ?_
  rintro e w1 ⟨rfl, hb1⟩
  have hB1 : Below w.heap.size w w1 := ((Below.refl _ _).alloc (Nat.le_refl _) _).trans (hb1.mono (by simp))
  clear hb1
  go_wp2_with fail
  go_ret
  exact ⟨rfl, hB1⟩

set_option maxRecDepth 100000 in
set_option maxHeartbeats 4000000 in
theorem plays_weight (KP : WeightKeeps) (o : Stp) (w : World) (hp : o.p.size ≤ maxLen) (k1 : (o.kind == 1) = false) (k2 : (o.kind == 2) = false) (k3 : (o.kind == 3) = true) :
    Calls Tryz.prog 16 #[opV o] w fun e w' => e = .returned (.bool true) ∧ Below w.heap.size w w' := by
  have K1 : Hid (∀ z : World, Calls Tryz.prog 30 #[.string o.p] z fun e w' => e = .returned (.tuple #[.int .i64 (Mt.weightR o.p).1, .int .i64 (Mt.weightR o.p).2]) ∧ Below z.heap.size z w') := fun z => KP o.p z hp
  have K2 : Hid (∀ z : World, Calls Tryz.prog 31 #[.string o.p] z fun e w' => e = .returned (.tuple #[.int .i64 (Mt.weightR o.p).1, .int .i64 (Mt.weightR o.p).2]) ∧ Below z.heap.size z w') := fun z => refWeight_any o.p z hp
  generalize Mt.weightR o.p = C at *
  unfold opV opA
  go_enter Tryz.func16, Tryz.ntmps16
  go_wp2_with fail
  refine (K1.out _).mono ?_
  rintro e w1 ⟨rfl, hb1⟩
  have hs1 := hb1.size
  have y1 : w1.cell? ⟨w.heap.size, 1, none⟩ = some (.string o.p) := (cell_block ((hb1.block _ (by simp)).trans (heap_alloc_new _ _))).1 1
  have l1 : w.heap.size < w1.heap.size := by simp at hs1; omega
  have hB1 : Below w.heap.size w w1 := ((Below.refl _ _).alloc (Nat.le_refl _) _).trans (hb1.mono (by simp))
  clear hb1 hs1
  go_wp2_with fail
  refine (K2.out _).mono ?_
  rintro e w2 ⟨rfl, hb2⟩
  have hB2 : Below w.heap.size w w2 := hB1.trans (hb2.mono (by omega))
  clear hb2
  go_wp2_with fail
  go_ret
  exact ⟨ret_bool (by simp), hB2⟩
end Go.Proofs.YtebpgfodelggoaaGreat
set_option linter.unusedVariables false
set_option linter.unusedSimpArgs false
namespace Go.Proofs.YtebpgfodelggoaaGreat
open Go.RowKit

theorem ints_row' {w : World} {g cap : Nat} {c : List Int} (h : ownInts w 0 (.slice (some ⟨g, 0, none⟩) c.length cap) c) : c.length ≤ cap ∧ g < w.heap.size ∧ (∀ j, j < c.length → w.cell? ⟨g, j, none⟩ = some (.int .i64 (c.getD j 0))) := by
  rcases h.2 with ⟨hv, _⟩ | ⟨g', cap', cur, hv, hb, hg, h1, h2, h3, h4⟩
  · simp at hv
  · simp only [Value.slice.injEq, Option.some.injEq, Addr.mk.injEq, and_true, true_and] at hv
    obtain ⟨rfl, rfl⟩ := hv
    refine ⟨h1, (Array.getElem?_eq_some_iff.1 hg).1, fun j hj => ?_⟩
    have hc := World.ownsRow.cellAt h j (by omega)
    rw [hc, List.getElem?_map, List.getD_eq_getElem?_getD, List.getElem?_eq_getElem hj]; rfl
theorem ints_cases {w : World} {base : Nat} {v : Value} {l : List Int} (h : ownInts w base v l) :
    (l = [] ∧ ∃ ao cap, v = .slice ao 0 cap) ∨ (0 < l.length ∧ ∃ g cap, v = .slice (some ⟨g, 0, none⟩) l.length cap ∧ l.length ≤ cap ∧ g < w.heap.size ∧ ∀ k, k < l.length → w.cell? ⟨g, k, none⟩ = some (.int .i64 (l.getD k 0))) := by
  by_cases h0 : l = []
  · left
    subst h0
    refine ⟨rfl, ?_⟩
    rcases h.2 with ⟨rfl, _⟩ | ⟨g, cap, cur, rfl, _⟩
    · exact ⟨_, _, rfl⟩
    · exact ⟨_, _, rfl⟩
  · right
    have hp : 0 < l.length := List.length_pos_iff.2 h0
    refine ⟨hp, ?_⟩
    have hh := owns_base h (Nat.zero_le _)
    rcases h.2 with ⟨rfl, hn⟩ | ⟨g, cap, cur, rfl, hb, hg, h1, h2, h3, h4⟩
    · omega
    · have := ints_row' hh
      exact ⟨g, cap, rfl, this.1, this.2.1, this.2.2⟩

set_option maxRecDepth 100000 in
set_option maxHeartbeats 4000000 in
theorem sameInts_same (c : List Int) (va vb : Value) (w : World) (ha : ownInts w 0 va c) (hb : ownInts w 0 vb c) (hl : c.length ≤ 300) :
    Calls Tryz.prog 60 #[va, vb] w fun e w' => e = .returned (.bool true) ∧ ∃ n, w' = w.drewN n := by
  rcases ints_cases ha with ⟨rfl, ao, capa, rfl⟩ | ⟨hpos, ga, capa, rfl, hca, hga, hA⟩
  · rcases ints_cases hb with ⟨_, bo, capb, rfl⟩ | ⟨hpos, _⟩
    · clear ha hb
      go_enter Tryz.func60, Tryz.ntmps60
      go_wp2_with fail
      refine wp_loop_rounds 1 ?_
      rw [rounds_succ]
      go_wp2_with fail
      go_ret
      exact ⟨rfl, 0, rfl⟩
    · simp at hpos
  · rcases ints_cases hb with ⟨rfl, _⟩ | ⟨_, gb, capb, rfl, hcb, hgb, hB⟩
    · simp at hpos
    · have HA : Hid (∀ k, k < c.length → w.cell? ⟨ga, k, none⟩ = some (.int .i64 (c.getD k 0))) := hA
      have HB : Hid (∀ k, k < c.length → w.cell? ⟨gb, k, none⟩ = some (.int .i64 (c.getD k 0))) := hB
      clear ha hb hA hB
      go_enter Tryz.func60, Tryz.ntmps60
      go_wp2_with fail
      go_loopw [5] (fun i wr => ∃ k d : Nat, k ≤ c.length ∧ i = .int .i64 k ∧ wr = w.drewN d) (fun i _ => c.length - (intOf i).toNat)
      case atStart => exact ⟨0, 0, Nat.zero_le _, rfl, rfl⟩
      case round =>
        obtain ⟨k, d, hk, rfl, rfl⟩ := hrel
        by_cases hlt : k < c.length
        · have a0 := HA.out k hlt
          have b0 := HB.out k hlt
          generalize c.getD k 0 = I at *
          have i0 : (0 : Int) ≤ (k : Int) := by omega
          have i1 : (k : Int) < (c.length : Int) := by omega
          go_wp2_with fail
          go_quiet (fail)
          go_wp2_with fail
          go_roundw
          case rel => exact ⟨k + 1, _, by omega, by go_num, rfl⟩
          case measure => simp [intOf]; omega
        · go_wp2_with fail
          go_ret
          exact ⟨rfl, _, rfl⟩

end Go.Proofs.YtebpgfodelggoaaGreat
set_option linter.unusedVariables false
set_option linter.unusedSimpArgs false
namespace Go.Proofs.YtebpgfodelggoaaGreat
open Go.RowKit

/-- What is asked of the program's other calls. -/
def ChosenKeeps : Prop := ∀ (p : ByteArray) (policy mask : Int) (z : World), p.size ≤ maxLen → Calls Tryz.prog 58 #[.string p, .int .i64 policy, .int .i64 mask] z fun e w' => ∃ v, e = .returned (.tuple #[v, .int .i64 (Mt.chosenR p policy mask).2]) ∧ ownInts w' z.heap.size v (Mt.chosenR p policy mask).1 ∧ Below z.heap.size z w'

theorem chosenR_len (p : ByteArray) (policy mask : Int) : (Mt.chosenR p policy mask).1.length ≤ 300 := by
  have h1 := (Mt.codeR_fit p).2
  unfold Mt.chosenR
  split
  · simp
  split
  · simp
  · exact Nat.le_trans (Mt.numsTo_len _ _) h1
theorem row_any1 {w : World} {base g cap : Nat} {n : Nat} {xs : List Value} (h : w.ownsRow base 3 1 (.slice (some ⟨g, 0, none⟩) n cap) n xs) (k : Nat) (hk : k < n) : (∃ u, w.cell? ⟨g, k, none⟩ = some u) ∧ w.frozen? ⟨g, k, none⟩ = false ∧ g < w.heap.size ∧ base ≤ g := by
  have hlt := World.ownsRow.lt h g rfl
  have hl := h.1
  refine ⟨?_, World.ownsRow.frozenAt h k, hlt.2, hlt.1⟩
  have := World.ownsRow.cellAt h k (by omega)
  rw [this]
  exact ⟨_, List.getElem?_eq_getElem (by omega)⟩

set_option maxRecDepth 100000 in
set_option maxHeartbeats 4000000 in
theorem picks_true (KP : ChosenKeeps) (o : Stp) (w : World) (hp : o.p.size ≤ maxLen) :
    Calls Tryz.prog 32 #[opV o] w fun e w' => e = .returned (.bool true) ∧ Below w.heap.size w w' := by
  have KC : Hid (∀ z : World, Calls Tryz.prog 58 #[.string o.p, .int .i64 o.policy, .int .i64 o.mask] z fun e w' => ∃ v, e = .returned (.tuple #[v, .int .i64 (Mt.chosenR o.p o.policy o.mask).2]) ∧ ownInts w' z.heap.size v (Mt.chosenR o.p o.policy o.mask).1 ∧ Below z.heap.size z w') := fun z => KP o.p o.policy o.mask z hp
  have KR : Hid (∀ z : World, Calls Tryz.prog 59 #[.string o.p, .int .i64 o.policy, .int .i64 o.mask] z fun e w' => ∃ v, e = .returned (.tuple #[v, .int .i64 (Mt.chosenR o.p o.policy o.mask).2]) ∧ ownInts w' z.heap.size v (Mt.chosenR o.p o.policy o.mask).1 ∧ Below z.heap.size z w') := fun z => refChosen_any o.p o.policy o.mask z hp
  have hl := chosenR_len o.p o.policy o.mask
  generalize Mt.chosenR o.p o.policy o.mask = C at *
  unfold opV opA
  go_enter Tryz.func32, Tryz.ntmps32
  go_wp2_with fail
  refine (KC.out _).mono ?_
  rintro e w1 ⟨v1, rfl, q1, hb1⟩
  have hs1 := hb1.size
  have yy := (cell_block ((hb1.block _ (by simp)).trans (heap_alloc_new _ _))).1
  have y1 : w1.cell? ⟨w.heap.size, 1, none⟩ = some (.string o.p) := yy 1
  have y4 : w1.cell? ⟨w.heap.size, 4, none⟩ = some (.int .i64 o.policy) := yy 4
  have y5 : w1.cell? ⟨w.heap.size, 5, none⟩ = some (.int .i64 o.mask) := yy 5
  clear yy
  have l1 : w.heap.size < w1.heap.size := by simp at hs1; omega
  have hB1 : Below w.heap.size w w1 := ((Below.refl _ _).alloc (Nat.le_refl _) _).trans (hb1.mono (by simp))
  have Q1 : Hid (ownInts w1 (w.heap.size + 1) v1 C.1) := by
    have : (w.alloc (.cells #[.int .i64 o.kind, .string o.p, .string o.t, .int .i64 o.frm, .int .i64 o.policy, .int .i64 o.mask, .int .i64 o.room, .int .i64 o.budget] 26)).heap.size = w.heap.size + 1 := by simp
    show ownInts _ _ _ _
    rw [← this]; exact q1
  clear q1 hb1 hs1
  go_wp2_with fail
  refine (KR.out _).mono ?_
  rintro e w2 ⟨v2, rfl, q2, hb2⟩
  have hs2 := hb2.size
  have Q2 : Hid (ownInts w2 (w.heap.size + 1) v1 C.1) := owns_below Q1.out hb2
  have QR : Hid (ownInts w2 0 v2 C.1) := owns_base q2 (Nat.zero_le _)
  have hB2 : Below w.heap.size w w2 := hB1.trans (hb2.mono (by omega))
  clear q2 hb2 hB1 y1 y4 y5 Q1
  go_wp2_with fail
  refine (sameInts_same C.1 v1 v2 w2 (owns_base Q2.out (Nat.zero_le _)) QR.out hl).mono ?_
  rintro e w3 ⟨rfl, n3, rfl⟩
  have Q3 : Hid (ownInts (w2.drewN n3) (w.heap.size + 1) v1 C.1) := owns_below Q2.out (below_drewN (Below.refl _ _) n3)
  have hB3 : Below w.heap.size w (w2.drewN n3) := below_drewN hB2 n3
  generalize w2.drewN n3 = w3 at *
  clear Q2 QR hB2
  rcases ints_cases Q3.out with ⟨e0, ao, capa, rfl⟩ | ⟨hpos, g, cap, rfl, hca, hg, _⟩
  · go_wp2_with fail
    refine wp_loop_rounds 1 ?_
    rw [rounds_succ]
    go_wp2_with fail
    go_ret
    exact ⟨ret_bool (by simp), hB3⟩
  · go_wp2_with fail
    go_loopw [8] (fun i wr => ∃ (k : Nat) (xs : List Value), k ≤ C.1.length ∧ i = .int .i64 k ∧ wr.ownsRow (w.heap.size + 1) 3 1 (.slice (some ⟨g, 0, none⟩) C.1.length cap) C.1.length xs ∧ Below w.heap.size w wr) (fun i _ => C.1.length - (intOf i).toNat)
    case atStart => exact ⟨0, _, Nat.zero_le _, rfl, Q3.out, hB3⟩
    case round =>
      obtain ⟨k, xs, hk, rfl, hown, hbr⟩ := hrel
      by_cases hlt : k < C.1.length
      · obtain ⟨⟨u0, a0⟩, z0, lg, lb⟩ := row_any1 hown k hlt
        have h1 := (World.ownsRow.stored hown k (.int .i64 (-7))).1
        have HO : Hid _ := h1
        have HBB : Hid (Below w.heap.size w wr) := hbr
        have i0 : (0 : Int) ≤ (k : Int) := by omega
        have i1 : (k : Int) < (C.1.length : Int) := by omega
        clear h1 hown hbr
        go_wp2_with fail
        go_roundw
        case rel => exact ⟨k + 1, _, by omega, by go_num, HO.out, HBB.out.setCell (p := ⟨g, k, none⟩) (by show w.heap.size ≤ g; omega) _⟩
        case measure => simp [intOf]; omega
      · go_wp2_with fail
        go_ret
        exact ⟨ret_bool (by simp), hbr⟩

set_option maxRecDepth 100000 in
set_option maxHeartbeats 4000000 in
theorem plays_chosen (KP : ChosenKeeps) (o : Stp) (w : World) (hp : o.p.size ≤ maxLen) (k1 : (o.kind == 1) = false) (k2 : (o.kind == 2) = false) (k3 : (o.kind == 3) = false) (k4 : (o.kind == 4) = true) :
    Calls Tryz.prog 16 #[opV o] w fun e w' => e = .returned (.bool true) ∧ Below w.heap.size w w' := by
  have K1 : Hid (∀ z : World, Calls Tryz.prog 32 #[opV o] z fun e w' => e = .returned (.bool true) ∧ Below z.heap.size z w') := fun z => picks_true KP o z hp
  unfold opV opA at *
  go_enter Tryz.func16, Tryz.ntmps16
  go_wp2_with fail
  refine (K1.out _).mono ?_
  rintro e w1 ⟨rfl, hb1⟩
  have hB1 : Below w.heap.size w w1 := ((Below.refl _ _).alloc (Nat.le_refl _) _).trans (hb1.mono (by simp))
  clear hb1
  go_wp2_with fail
  go_ret
  exact ⟨rfl, hB1⟩
end Go.Proofs.YtebpgfodelggoaaGreat
/- THE PROGRAM'S TOKENS, plainly: sets of bytes, and what token.Read answers, out of the reference's tokens. -/
set_option linter.unusedVariables false
namespace Mt

/-- A set of bytes. -/
abbrev BSet := Nat → Bool
def none0 : BSet := fun _ => false
def addR (S : BSet) (a b : Int) : BSet := fun c => S c || (decide (a ≤ (c : Int)) && decide ((c : Int) ≤ b))
/-- The range is added as far as k. -/
def addTo (S : BSet) (a b : Int) (k : Nat) : BSet := fun c => if c < k then addR S a b c else S c
theorem addTo_zero (S : BSet) (a b : Int) : addTo S a b 0 = S := by funext c; simp [addTo]
theorem addTo_hit (S : BSet) (a b : Int) (k : Nat) (h : a ≤ (k : Int) ∧ (k : Int) ≤ b) : addTo S a b (k + 1) = fun c => if c = k then true else addTo S a b k c := by
  funext c
  simp only [addTo, addR]
  by_cases e : c = k
  · subst e; simp [h]
  · rw [if_neg e]
    by_cases l : c < k
    · rw [if_pos (by omega), if_pos l]
    · rw [if_neg (by omega), if_neg l]
theorem addTo_miss (S : BSet) (a b : Int) (k : Nat) (h : ¬ (a ≤ (k : Int) ∧ (k : Int) ≤ b)) : addTo S a b (k + 1) = addTo S a b k := by
  funext c
  simp only [addTo, addR]
  by_cases e : c = k
  · subst e
    rw [if_pos (by omega), if_neg (by omega)]
    have : (decide (a ≤ (c : Int)) && decide ((c : Int) ≤ b)) = false := by
      rw [← Bool.decide_and]; simpa using h
    rw [this]; simp
  · by_cases l : c < k
    · rw [if_pos (by omega), if_pos l]
    · rw [if_neg (by omega), if_neg l]
/-- Two sets are one below 256. -/
def sameB (S T : BSet) : Prop := ∀ c, c < 256 → S c = T c
theorem addTo_end (S : BSet) (a b : Int) : sameB (addTo S a b 256) (addR S a b) := fun c h => by simp [addTo, h]

def notTo (S : BSet) (k : Nat) : BSet := fun c => if c < k then !S c else S c
theorem notTo_next (S : BSet) (k : Nat) : notTo S (k + 1) = fun c => if c = k then !(S k) else notTo S k c := by
  funext c
  simp only [notTo]
  by_cases e : c = k
  · subst e; simp
  · rw [if_neg e]
    by_cases l : c < k
    · rw [if_pos (by omega), if_pos l]
    · rw [if_neg (by omega), if_neg l]

/-- The bytes of a set below n, rising. -/
def setTo (S : BSet) (n : Nat) : List UInt8 := ((List.range n).filter S).map UInt8.ofNat
theorem setTo_hit {S : BSet} {n : Nat} (h : S n = true) : setTo S (n + 1) = setTo S n ++ [UInt8.ofNat n] := by
  unfold setTo
  rw [List.range_succ, List.filter_append, List.map_append]
  congr 1
  rw [List.filter_cons, if_pos h]; rfl
theorem setTo_miss {S : BSet} {n : Nat} (h : S n = false) : setTo S (n + 1) = setTo S n := by
  unfold setTo
  rw [List.range_succ, List.filter_append, List.map_append, List.filter_cons, if_neg (by simp [h])]; simp
theorem setTo_len (S : BSet) (n : Nat) : (setTo S n).length ≤ n := by
  unfold setTo; rw [List.length_map]; exact Nat.le_trans (List.length_filter_le _ _) (by simp)
theorem setTo_same {S T : BSet} (h : sameB S T) : setTo S 256 = setTo T 256 := by
  unfold setTo
  congr 1
  apply List.filter_congr
  intro c hc
  exact h c (by simpa using hc)
theorem setTo_all (p : ByteArray) (a b : Int) (no : Bool) : setTo (fun c => inClass p a b (c : Int) != no) 256 = all p a b no := rfl
theorem filter_one (c : Nat) : ∀ n, (List.range n).filter (fun k : Nat => decide (k = c)) = if c < n then [c] else []
  | 0 => by simp
  | n + 1 => by
    rw [List.range_succ, List.filter_append, filter_one c n]
    by_cases e : n = c
    · subst e; simp
    · by_cases l : c < n
      · rw [if_pos l, if_pos (by omega)]; simp [e]
      · rw [if_neg l, if_neg (by omega)]; simp [e]
/-- One byte alone. -/
theorem set_one (c : Int) (h0 : 0 ≤ c) (h1 : c ≤ 255) : setTo (addR none0 c c) 256 = [UInt8.ofNat c.toNat] := by
  have : setTo (addR none0 c c) 256 = setTo (fun k => decide (k = c.toNat)) 256 := by
    refine setTo_same (fun k hk => ?_)
    simp only [addR, none0, Bool.false_or]
    rw [← Bool.decide_and]
    congr 1
    exact propext ⟨fun h => by omega, fun h => by omega⟩
  rw [this]
  unfold setTo
  rw [filter_one, if_pos (by omega)]; rfl
theorem inClass_empty (p : ByteArray) (i c : Int) : inClass p i i c = false := by rw [inClass_step, if_pos (Int.le_refl _)]
theorem set_any (p : ByteArray) (i : Int) : setTo (addR none0 0 255) 256 = all p i i true := by
  rw [← setTo_all]
  refine setTo_same (fun k hk => ?_)
  rw [inClass_empty]
  simp [addR, none0]; omega

/-- What a set letter stands for. -/
def addL (S : BSet) (w : Bool) : BSet := if w then addR (addR (addR (addR S 48 57) 65 90) 95 95) 97 122 else addR S 48 57
theorem addL_short (S : BSet) (w : Bool) (c : Nat) : addL S w c = (S c || shortB w (c : Int)) := by
  unfold addL shortB digB letB
  cases w
  · simp [addR]
  · simp only [addR, if_true, Bool.true_and]
    by_cases h1 : 48 ≤ (c : Int) ∧ (c : Int) ≤ 57 <;> by_cases h2 : 65 ≤ (c : Int) ∧ (c : Int) ≤ 90 <;> by_cases h3 : 97 ≤ (c : Int) ∧ (c : Int) ≤ 122 <;> by_cases h4 : (c : Int) = 95
    all_goals
      simp only [← Bool.decide_and]
      have h5 : (95 ≤ (c : Int) ∧ (c : Int) ≤ 95) ↔ (c : Int) = 95 := by omega
      simp only [h5, h1, h2, h3, h4]
      simp

/-- A set with the bytes of the item at i. -/
def addI (p : ByteArray) (i : Int) (S : BSet) : BSet :=
  if (item p i).2.2.2 then addL S (decide ((item p i).2.1 = 119)) else addR S (item p i).1 (item p i).2.1
theorem addI_in (p : ByteArray) (i b : Int) (S : BSet) (c : Nat) (h : i < b) (h0 : (item p i).2.2.1 ≠ 0) : (S c || inClass p i b (c : Int)) = (addI p i S c || inClass p (i + (item p i).2.2.1) b (c : Int)) := by
  rw [inClass_step, if_neg (by omega), if_neg h0]
  unfold addI
  cases hw : (item p i).2.2.2
  · simp only [Bool.false_eq_true, if_false]
    by_cases h1 : (item p i).1 ≤ (c : Int) ∧ (c : Int) ≤ (item p i).2.1
    · rw [if_pos h1]; simp [addR, h1]
    · rw [if_neg h1]
      have : (decide ((item p i).1 ≤ (c : Int)) && decide ((c : Int) ≤ (item p i).2.1)) = false := by rw [← Bool.decide_and]; simpa using h1
      simp only [addR, this, Bool.or_false]
  · simp only [if_true]
    rw [addL_short]
    cases hs : shortB (decide ((item p i).2.1 = 119)) (c : Int) <;> simp

/-- A token of the program. -/
structure PT where
  kind : Int
  en : Int
  group : Int
  number : Int
  least : Int
  most : Int
  mood : Int
  set : List UInt8
def pt0 : PT := ⟨0, 0, 0, 0, 0, 0, 0, []⟩
def kindP (k : Int) : Int := if k = 1 then 5 else if k = 2 then 6 else if k = 3 then 7 else if k = 4 then 8 else if k = 5 then 1 else if k = 6 then 2 else if k = 7 then 3 else if k = 8 then 4 else 0
def grpP (h : Int) : Int := if h = 4 then 1 else if h = 3 then 2 else h + 3
/-- The program's token that a token of the reference stands for. -/
def ptok (t : Tok) : PT :=
  ⟨kindP t.kind, t.to, if t.kind = 6 then grpP t.how else 0, if t.kind = 2 then t.n else 0, if t.kind = 8 then t.n else 0, if t.kind = 8 then t.m else 0, if t.kind = 8 then t.how + 1 else 0, t.set⟩
/-- What token.Read answers. -/
def readP (p : ByteArray) (i : Int) : PT × Int := if (nextT p i).2 = 0 then (ptok (nextT p i).1, 0) else (pt0, (nextT p i).2)
end Mt
set_option linter.unusedVariables false
set_option linter.unusedSimpArgs false
namespace Go.Proofs.YtebpgfodelggoaaGreat
open Go.RowKit

theorem results_tmp3 {fn : Func} {t u v : Tmp} (h : fn.results = #[.tmp t, .tmp u, .tmp v]) (tmps : Array Value) (P : Program) (w : World) :
    (results fn tmps).run P w = .ok (.tuple #[tmps.getD t undef, tmps.getD u undef, tmps.getD v undef]) w := by
  simp [results, h]

set_option maxHeartbeats 400000 in
theorem byteAt_any (p : ByteArray) (i : Int) (w : World) (hp : p.size ≤ 64) :
    Calls Tryz.prog 132 #[.string p, .int .i64 i] w fun e w' => e = .returned (.int .i64 (Mt.atB p i)) ∧ w = w' := by
  by_cases h0 : i < 0
  · rw [Mt.atB_out p i (by omega)]
    go_enter Tryz.func132, Tryz.ntmps132
    go_wp2
    go_ret
    exact ⟨rfl, rfl⟩
  · by_cases h1 : (p.size : Int) ≤ i
    · rw [Mt.atB_out p i (by omega)]
      go_enter Tryz.func132, Tryz.ntmps132
      go_wp2
      go_ret
      exact ⟨rfl, rfl⟩
    · obtain ⟨k, rfl⟩ := Int.eq_ofNat_of_zero_le (show 0 ≤ i by omega)
      have hk : k < p.size := by omega
      rw [← atB_nat p k hk]
      go_enter Tryz.func132, Tryz.ntmps132
      go_wp2
      go_ret
      exact ⟨rfl, rfl⟩

set_option maxHeartbeats 400000 in
theorem isDigit_any (c : Int) (w : World) :
    Calls Tryz.prog 164 #[.int .i64 c] w fun e w' => e = .returned (.bool (Mt.digB c)) ∧ w = w' := by
  by_cases a : 48 ≤ c
  · by_cases b : c ≤ 57
    · rw [digB_t ⟨a, b⟩]
      go_enter Tryz.func164, Tryz.ntmps164
      go_wp2
      go_ret
      exact ⟨rfl, rfl⟩
    · rw [digB_f (by omega)]
      go_enter Tryz.func164, Tryz.ntmps164
      go_wp2
      go_ret
      exact ⟨rfl, rfl⟩
  · rw [digB_f (by omega)]
    go_enter Tryz.func164, Tryz.ntmps164
    go_wp2
    go_ret
    exact ⟨rfl, rfl⟩

set_option maxHeartbeats 400000 in
theorem isLetter_any (c : Int) (w : World) :
    Calls Tryz.prog 166 #[.int .i64 c] w fun e w' => e = .returned (.bool (Mt.letB c)) ∧ w = w' := by
  rcases (show (c < 65 ∧ Mt.letB c = false) ∨ ((65 ≤ c ∧ c ≤ 90) ∧ Mt.letB c = true) ∨ ((90 < c ∧ c < 97) ∧ Mt.letB c = false) ∨ ((97 ≤ c ∧ c ≤ 122) ∧ Mt.letB c = true) ∨ (122 < c ∧ Mt.letB c = false) by
      simp only [Mt.letB, decide_eq_true_eq, decide_eq_false_iff_not]; omega) with ⟨h, e⟩ | ⟨⟨h, h'⟩, e⟩ | ⟨⟨h, h'⟩, e⟩ | ⟨⟨h, h'⟩, e⟩ | ⟨h, e⟩
  all_goals
    rw [e]; clear e
    go_enter Tryz.func166, Tryz.ntmps166
    go_wp2
    go_ret
    first | exact ⟨rfl, rfl⟩ | exact ⟨ret_bool (by simp; omega), rfl⟩

set_option maxHeartbeats 400000 in
theorem isSetLetter_any (c : Int) (w : World) :
    Calls Tryz.prog 156 #[.int .i64 c] w fun e w' => e = .returned (.bool (c == 100 || c == 119)) ∧ w = w' := by
  cases a : (c == 100) <;> cases b : (c == 119)
  all_goals
    go_enter Tryz.func156, Tryz.ntmps156
    go_wp2
    go_ret
    first | exact ⟨rfl, rfl⟩ | exact ⟨ret_bool (by simp_all), rfl⟩

/-- May a backslash stand before the byte? -/
def escB (c : Int) : Bool := c != -1 && !Mt.letB c && !Mt.digB c
set_option maxHeartbeats 400000 in
theorem canBeEscaped_any (c : Int) (w : World) :
    Calls Tryz.prog 158 #[.int .i64 c] w fun e w' => e = .returned (.bool (escB c)) ∧ w = w' := by
  unfold escB
  cases a : (c != -1) <;> cases b : Mt.letB c <;> cases d : Mt.digB c
  all_goals
    go_enter Tryz.func158, Tryz.ntmps158
    go_wp2_with (first | (go_at_call 166; refine (isLetter_any _ _).mono ?_; rintro e w' ⟨rfl, rfl⟩) | (go_at_call 164; refine (isDigit_any _ _).mono ?_; rintro e w' ⟨rfl, rfl⟩))
    all_goals
      go_ret
      first | exact ⟨rfl, rfl⟩ | exact ⟨ret_bool (by simp_all), rfl⟩

end Go.Proofs.YtebpgfodelggoaaGreat
