import Derived.Test.YtebpgfodelggoaaC50
import Derived.Test.YtebpgfodelggoaaC46
/- Repeats written in two ways have the same code: the mathematics of the law Sugar. -/
set_option linter.unusedVariables false
set_option linter.unusedSimpArgs false
namespace Mt
theorem codeOf_err (a : Re) : (codeOf a).2 = 0 ∨ (codeOf a).2 = 12 := by unfold codeOf; split <;> simp
theorem codeOf_last (a : Re) (h : (codeOf a).2 = 0) : (codeOf a).1 = a.code 0 0 ++ [⟨13, 0, 0, []⟩] := by
  unfold codeOf at h ⊢
  split
  · rename_i x; rw [if_pos x] at h; simp at h
  · rfl
/-- The pairs of twins. -/
def twinL (x : List UInt8) : List (List UInt8 × List UInt8) :=
  [(x, yB x),
   (yB x ++ [123, 49, 125], yB x),
   (yB x ++ [123, 48, 125], []),
   (yB x ++ [123, 48, 44, 49, 125], yB x ++ [63]),
   (yB x ++ [123, 48, 44, 125], yB x ++ [42]),
   (yB x ++ [123, 49, 44, 125, 63], yB x ++ [43, 63]),
   (yB x ++ [123, 50, 125], yB x ++ yB x),
   (yB x ++ [43], yB x ++ (yB x ++ [42])),
   (yB x ++ [43, 63], yB x ++ (yB x ++ [42, 63])),
   (yB x ++ [123, 50, 44, 51, 125], yB x ++ (yB x ++ (yB x ++ [63]))),
   (yB x ++ [123, 48, 44, 50, 125, 63], 40 :: 63 :: 58 :: (yB x ++ (yB x ++ (63 :: 63 :: 41 :: [63, 63])))),
   (yB x ++ [42, 43], 40 :: 63 :: 62 :: (yB x ++ ([42] ++ [41]))),
   (yB x ++ [63, 43], 40 :: 63 :: 62 :: (yB x ++ ([63] ++ [41]))),
   (yB x ++ [123, 49, 44, 125, 43], 40 :: 63 :: 62 :: (yB x ++ (yB x ++ ([42] ++ [41]))))]
/-- What two twins have in common. -/
def Same2 (a b : List UInt8) : Prop := codeR (bp a) = codeR (bp b) ∧ ((codeR (bp a)).2 = 0 ∨ (codeR (bp a)).2 = 12) ∧ ((codeR (bp a)).2 = 0 → ∃ c, (codeR (bp a)).1 = c ++ [⟨13, 0, 0, []⟩])
theorem same2 {a b : List UInt8} {A B : Re} (ha : codeR (bp a) = codeOf A) (hb : codeR (bp b) = codeOf B) (h : A.code 0 0 = B.code 0 0) : Same2 a b := by
  refine ⟨by rw [ha, hb, codeOf_same h], by rw [ha]; exact codeOf_err A, fun h0 => ?_⟩
  rw [ha] at h0 ⊢
  exact ⟨_, codeOf_last A h0⟩
theorem twins_same {x : List UInt8} {f : Fs} (g : Good' x f) : ∀ q ∈ twinL x, Same2 q.1 q.2 := by
  have r_1 := tw_1 g [123, 49, 125] 1 1 0 (by simp) (by simp) (fun p j h c => rep_1 h c)
  have r_0 := tw_1 g [123, 48, 125] 0 0 0 (by simp) (by simp) (fun p j h c => rep_0 h c)
  have r_01 := tw_1 g [123, 48, 44, 49, 125] 0 1 0 (by simp) (by simp) (fun p j h c => rep_01 h c)
  have r_o := tw_1 g [63] 0 1 0 (by simp) (by simp) (fun p j h c => rep_opt h c)
  have r_0e := tw_1 g [123, 48, 44, 125] 0 (-1) 0 (by simp) (by simp) (fun p j h c => rep_0e h c)
  have r_s := tw_1 g [42] 0 (-1) 0 (by simp) (by simp) (fun p j h c => rep_star h c)
  have r_1el := tw_1 g [123, 49, 44, 125, 63] 1 (-1) 1 (by simp) (by simp) (fun p j h c => rep_1el h)
  have r_pl := tw_1 g [43, 63] 1 (-1) 1 (by simp) (by simp) (fun p j h c => rep_plusl h)
  have r_2 := tw_1 g [123, 50, 125] 2 2 0 (by simp) (by simp) (fun p j h c => rep_2 h c)
  have r_p := tw_1 g [43] 1 (-1) 0 (by simp) (by simp) (fun p j h c => rep_plus h c)
  have r_23 := tw_1 g [123, 50, 44, 51, 125] 2 3 0 (by simp) (by simp) (fun p j h c => rep_23 h c)
  have r_02l := tw_1 g [123, 48, 44, 50, 125, 63] 0 2 1 (by simp) (by simp) (fun p j h c => rep_02l h)
  have r_sp := tw_1 g [42, 43] 0 (-1) 2 (by simp) (by simp) (fun p j h c => rep_starp h)
  have r_op := tw_1 g [63, 43] 0 1 2 (by simp) (by simp) (fun p j h c => rep_optp h)
  have r_1ep := tw_1 g [123, 49, 44, 125, 43] 1 (-1) 2 (by simp) (by simp) (fun p j h c => rep_1ep h)
  have y2s := tw_2 g [42] 0 (-1) 0 (by simp) (by simp) (fun p j h c => rep_star h c)
  have y2sl := tw_2 g [42, 63] 0 (-1) 1 (by simp) (by simp) (fun p j h c => rep_starl h)
  have y3o := tw_3 g [63] 0 1 0 (by simp) (by simp) (fun p j h c => rep_opt h c)
  have i1s := tw_in1 g [42] 0 (-1) 0 (by simp) (by simp) (fun p j h c => rep_star h c)
  have i1o := tw_in1 g [63] 0 1 0 (by simp) (by simp) (fun p j h c => rep_opt h c)
  have i2s := tw_in2 g [42] 0 (-1) 0 (by simp) (by simp) (fun p j h c => rep_star h c)
  intro q hq
  simp only [twinL, List.mem_cons, List.not_mem_nil, or_false] at hq
  rcases hq with rfl | rfl | rfl | rfl | rfl | rfl | rfl | rfl | rfl | rfl | rfl | rfl | rfl | rfl
  · exact same2 (tw_x g) (tw_y g) (by simp [Re.code])
  · exact same2 r_1 (tw_y g) (by simp [Re.code, repA, rp3, timesA, optA, Re.len])
  · exact same2 r_0 tw_nil (by simp [Re.code, repA, rp3, timesA, optA, Re.len])
  · exact same2 r_01 r_o rfl
  · exact same2 r_0e r_s rfl
  · exact same2 r_1el r_pl rfl
  · exact same2 r_2 (tw_yy g) (by simp [Re.code, repA, rp3, timesA, optA, Re.len])
  · exact same2 r_p y2s (by simp [Re.code, repA, rp3, timesA, optA, Re.len])
  · exact same2 r_pl y2sl (by simp [Re.code, repA, rp3, timesA, optA, Re.len])
  · exact same2 r_23 y3o (by simp [Re.code, repA, rp3, timesA, optA, Re.len, Int.add_assoc])
  · exact same2 r_02l (tw_opt2 g) (by simp [Re.code, repA, rp3, timesA, optA, Re.len, Int.add_assoc])
  · exact same2 r_sp i1s (by simp [Re.code, repA, rp3, timesA, optA, Re.len])
  · exact same2 r_op i1o (by simp [Re.code, repA, rp3, timesA, optA, Re.len])
  · exact same2 r_1ep i2s (by simp [Re.code, repA, rp3, timesA, optA, Re.len, Int.add_assoc])
/-- Of every pattern that opens no capturing group. -/
theorem sugar_math (x : List UInt8) (hx : x.length ≤ 12) (hc : NoCap (bp x)) (h : (checkR (bp x)).1 = 0) : ∀ q ∈ twinL x, Same2 q.1 q.2 := by
  obtain ⟨f, h1, h2, h3, h4, h5, h6, h7⟩ := tokens_lex (bp x) hc h
  exact twins_same ⟨hc, hx, h1, h3, h4, h5⟩
end Mt
/- matcherkeep: some, mayCapture. (Plain seats alone.) -/
set_option linter.unusedVariables false
set_option linter.unusedSimpArgs false
namespace Go.Proofs.Ytebpgfodelggoaa
open Go.RowKit

def someB (p : ByteArray) (n : Nat) : ByteArray := if n < p.size then p.extract 0 n else p
theorem someB_size (p : ByteArray) (n : Nat) : (someB p n).size ≤ n ∧ (someB p n).size ≤ p.size := by
  unfold someB
  split
  · simp [ByteArray.size_extract]; omega
  · omega
set_option maxRecDepth 100000 in
set_option maxHeartbeats 1000000 in
theorem some_any (p : ByteArray) (n : Nat) (w : World) (hm : p.size ≤ maxLen) (hn : n ≤ 1000) : Calls Try.prog 7 #[.string p, .int .i64 (n : Int)] w fun e w' => e = .returned (.string (someB p n)) ∧ w = w' := by
  unfold maxLen at hm
  unfold someB
  by_cases h : n < p.size
  · have d1 : decide ((n : Int) < (p.size : Int)) = true := by simpa using h
    rw [if_pos h]
    go_enter Try.func7, Try.ntmps7
    go_wp2_with fail
    go_ret
    exact ⟨rfl, rfl⟩
  · have d1 : decide ((n : Int) < (p.size : Int)) = false := by simpa using h
    rw [if_neg h]
    go_enter Try.func7, Try.ntmps7
    go_wp2_with fail
    go_ret
    exact ⟨rfl, rfl⟩

theorem atB_get (p : ByteArray) (k : Nat) (h : k < p.size) : ((p[k]'h).toNat : Int) = Mt.atB p k := by
  rw [Mt.atB_in p k (by omega) (by omega), Int.toNat_natCast, List.getD_eq_getElem?_getD, List.getElem?_eq_getElem (by simpa using h)]
  rfl
theorem nocap_of {p : ByteArray} (h : ∀ j : Nat, j < p.size → Mt.atB p j = 40 → Mt.atB p (j + 1) = 63) : Mt.NoCap p := by
  intro i hi
  have hb := Mt.atB_ge p i (by omega)
  obtain ⟨k, rfl⟩ := Int.eq_ofNat_of_zero_le hb.1
  exact h k (by omega) hi
def CapSays (p : ByteArray) (e : Ending) : Prop := ∃ b, e = .returned (.bool b) ∧ (b = false → Mt.NoCap p)
set_option maxRecDepth 100000 in
set_option maxHeartbeats 1000000 in
theorem mayCapture_any (p : ByteArray) (w : World) (hm : p.size ≤ 1000) : Calls Try.prog 10 #[.string p] w fun e w' => CapSays p e ∧ w = w' := by
  go_enter Try.func10, Try.ntmps10
  go_wp2_with fail
  go_loop [3] (fun i => ∃ k : Nat, k ≤ p.size ∧ i = .int .i64 k ∧ ∀ j : Nat, j < k → Mt.atB p j = 40 → Mt.atB p (j + 1) = 63) (fun i => p.size - (intOf i).toNat)
  case atStart => exact ⟨0, Nat.zero_le _, rfl, fun j hj => by omega⟩
  case round =>
    obtain ⟨k, hk, rfl, hr⟩ := hrel
    have HR : Hid (∀ j : Nat, j < k → Mt.atB p j = 40 → Mt.atB p (j + 1) = 63) := hr
    clear hr
    by_cases hlt : k < p.size
    · have hk' : (k : Int) < (p.size : Int) := by omega
      have g0 := atB_get p k hlt
      by_cases e0 : Mt.atB p k = 40
      · rw [e0] at g0
        have b0 : (((p[k]'hlt).toNat : Int) == 40) = true := by simpa using g0
        by_cases h1 : k + 1 < p.size
        · have d1 : decide ((p.size : Int) ≤ (k : Int) + 1) = false := by simp; omega
          have h1' : (k : Int) + 1 < (p.size : Int) := by omega
          have g1 := atB_get p (k + 1) h1
          have e1 : Mt.atB p ((k + 1 : Nat) : Int) = Mt.atB p ((k : Int) + 1) := rfl
          rw [e1] at g1
          cases hb : (Mt.atB p ((k : Int) + 1) != 63)
          · have HN : Hid (∀ j : Nat, j < k + 1 → Mt.atB p j = 40 → Mt.atB p (j + 1) = 63) := fun j hj hh => by
              by_cases ej : j = k
              · subst ej; simpa using hb
              · exact HR.out j (by omega) hh
            clear e0 e1
            go_wp2_with fail
            go_round
            case rel => exact ⟨k + 1, by omega, by go_num, HN.out⟩
            case measure => simp [intOf]; omega
          · clear e0 e1
            go_wp2_with fail
            go_ret
            exact ⟨⟨_, rfl, fun h => by simp at h⟩, rfl⟩
        · have d1 : decide ((p.size : Int) ≤ (k : Int) + 1) = true := by simp; omega
          clear e0
          go_wp2_with fail
          go_ret
          exact ⟨⟨_, rfl, fun h => by simp at h⟩, rfl⟩
      · have b0 : (((p[k]'hlt).toNat : Int) == 40) = false := by rw [g0]; simpa using e0
        have HN : Hid (∀ j : Nat, j < k + 1 → Mt.atB p j = 40 → Mt.atB p (j + 1) = 63) := fun j hj hh => by
          by_cases ej : j = k
          · subst ej; exact absurd hh e0
          · exact HR.out j (by omega) hh
        clear e0 g0
        go_wp2_with fail
        go_round
        case rel => exact ⟨k + 1, by omega, by go_num, HN.out⟩
        case measure => simp [intOf]; omega
    · have ek : k = p.size := by omega
      subst ek
      have HN : Hid (Mt.NoCap p) := nocap_of HR.out
      go_wp2_with fail
      go_ret
      exact ⟨⟨_, rfl, fun _ => HN.out⟩, rfl⟩
end Go.Proofs.Ytebpgfodelggoaa
/- matcherkeep: sameCode, checked. (Plain seats alone.) -/
set_option linter.unusedVariables false
set_option linter.unusedSimpArgs false
namespace Go.Proofs.Ytebpgfodelggoaa
open Go.RowKit

theorem ins_two {w : World} {base : Nat} {v : Value} {l : List Mt.Ins} (h : ownIns w base v l) :
    (l = [] ∧ ∃ ao cap, v = .slice ao 0 cap) ∨
    (0 < l.length ∧ ∃ g cap, v = .slice (some ⟨g, 0, none⟩) l.length cap ∧ l.length ≤ cap ∧ g < w.heap.size ∧ base ≤ g ∧ ∀ k j, k < l.length → j < 4 → w.cell? ⟨g, k * 4 + j, none⟩ = (insCells (l.getD k Mt.ins0))[j]?) := by
  by_cases h0 : l = []
  · left
    subst h0
    refine ⟨rfl, ?_⟩
    rcases h.2 with ⟨rfl, _⟩ | ⟨g, cap, cur, rfl, _⟩
    · exact ⟨_, _, rfl⟩
    · exact ⟨_, _, rfl⟩
  · right
    have hp : 0 < l.length := List.length_pos_iff.2 h0
    refine ⟨hp, ?_⟩
    rcases h.2 with ⟨rfl, hn⟩ | ⟨g, cap, cur, rfl, hb, hg, h1, h2, h3, h4⟩
    · omega
    · refine ⟨g, cap, rfl, h1, (Array.getElem?_eq_some_iff.1 hg).1, hb, fun k j hk hj => ?_⟩
      have hc := World.ownsRow.cellAt (g := g) (cap := cap) h (k * 4 + j) (by omega)
      rw [hc, ins_flat_at l k j hk hj]

set_option maxRecDepth 100000 in
set_option maxHeartbeats 4000000 in
theorem keepSame_same (c : List Mt.Ins) (va vb : Value) (w : World) (ha : ownIns w 0 va c) (hb : ownIns w 0 vb c) (hl : c.length ≤ 300) :
    Calls Try.prog 13 #[va, vb] w fun e w' => e = .returned (.bool true) ∧ ∃ n, w' = w.drewN n := by
  rcases ins_two ha with ⟨rfl, ao, capa, rfl⟩ | ⟨hpos, ga, capa, rfl, hca, hga, _, hA⟩
  · rcases ins_two hb with ⟨_, bo, capb, rfl⟩ | ⟨hpos, _⟩
    · clear ha hb
      go_enter Try.func13, Try.ntmps13
      go_wp2_with fail
      refine wp_loop_rounds 1 ?_
      rw [rounds_succ]
      go_wp2_with fail
      go_ret
      exact ⟨rfl, 0, rfl⟩
    · simp at hpos
  · rcases ins_two hb with ⟨rfl, _⟩ | ⟨_, gb, capb, rfl, hcb, hgb, _, hB⟩
    · simp at hpos
    · have HA : Hid (∀ k j, k < c.length → j < 4 → w.cell? ⟨ga, k * 4 + j, none⟩ = (insCells (c.getD k Mt.ins0))[j]?) := hA
      have HB : Hid (∀ k j, k < c.length → j < 4 → w.cell? ⟨gb, k * 4 + j, none⟩ = (insCells (c.getD k Mt.ins0))[j]?) := hB
      clear ha hb hA hB
      go_enter Try.func13, Try.ntmps13
      go_wp2_with fail
      go_loopw [5] (fun i wr => ∃ k d : Nat, k ≤ c.length ∧ i = .int .i64 k ∧ wr = w.drewN d) (fun i _ => c.length - (intOf i).toNat)
      case atStart => exact ⟨0, 0, Nat.zero_le _, rfl, rfl⟩
      case round =>
        obtain ⟨k, d, hk, rfl, rfl⟩ := hrel
        by_cases hlt : k < c.length
        · have a0 : w.cell? ⟨ga, k * 4, none⟩ = some (.int .i64 (c.getD k Mt.ins0).op) := HA.out k 0 hlt (by omega)
          have a1 : w.cell? ⟨ga, k * 4 + 1, none⟩ = some (.int .i64 (c.getD k Mt.ins0).x) := HA.out k 1 hlt (by omega)
          have a2 : w.cell? ⟨ga, k * 4 + 2, none⟩ = some (.int .i64 (c.getD k Mt.ins0).y) := HA.out k 2 hlt (by omega)
          have a3 : w.cell? ⟨ga, k * 4 + 3, none⟩ = some (.string ⟨(c.getD k Mt.ins0).set.toArray⟩) := HA.out k 3 hlt (by omega)
          have b0 : w.cell? ⟨gb, k * 4, none⟩ = some (.int .i64 (c.getD k Mt.ins0).op) := HB.out k 0 hlt (by omega)
          have b1 : w.cell? ⟨gb, k * 4 + 1, none⟩ = some (.int .i64 (c.getD k Mt.ins0).x) := HB.out k 1 hlt (by omega)
          have b2 : w.cell? ⟨gb, k * 4 + 2, none⟩ = some (.int .i64 (c.getD k Mt.ins0).y) := HB.out k 2 hlt (by omega)
          have b3 : w.cell? ⟨gb, k * 4 + 3, none⟩ = some (.string ⟨(c.getD k Mt.ins0).set.toArray⟩) := HB.out k 3 hlt (by omega)
          generalize c.getD k Mt.ins0 = I at *
          have i0 : (0 : Int) ≤ (k : Int) := by omega
          have i1 : (k : Int) < (c.length : Int) := by omega
          go_wp2_with fail
          go_quiet (fail)
          go_wp2_with fail
          go_roundw
          case rel => exact ⟨k + 1, _, by omega, by go_num, rfl⟩
          case measure => simp [intOf]; omega
        · go_wp2_with fail
          go_ret
          exact ⟨rfl, _, rfl⟩

theorem checkR_code (p : ByteArray) : (Mt.codeR p).2 = (Mt.checkR p).1 ∧ ((Mt.checkR p).1 ≠ 0 → (Mt.codeR p).1 = []) ∧ ((Mt.checkR p).1 = 0 → ∃ c, (Mt.codeR p).1 = c ++ [⟨13, 0, 0, []⟩]) := by
  refine ⟨?_, fun h => by unfold Mt.codeR; rw [if_pos h], fun h => ?_⟩
  · unfold Mt.codeR
    split
    · rfl
    · rename_i x; simp at x; simp [x]
  · obtain ⟨f, _, _, _, _, _, hc, _⟩ := Mt.pattern_tree p h
    exact ⟨_, hc⟩

set_option maxRecDepth 100000 in
set_option maxHeartbeats 4000000 in
theorem checked_any (p : ByteArray) (w : World) (hm : p.size ≤ maxLen) : Calls Try.prog 8 #[.string p] w fun e w' => e = .returned (.tuple #[.int .i64 (Mt.checkR p).1, .bool true]) ∧ Below w.heap.size w w' := by
  have K1 : Hid (Calls Try.prog 28 #[.string p] w fun e w' => e = .returned (.tuple #[.int .i64 (Mt.checkR p).1, .int .i64 (Mt.checkR p).2]) ∧ Below w.heap.size w w') := Check_any p w hm
  have K2 : Hid (∀ z : World, Calls Try.prog 12 #[.string p] z fun e w' => ∃ v, e = .returned (.tuple #[v, .int .i64 (Mt.codeR p).2]) ∧ ownIns w' z.heap.size v (Mt.codeR p).1 ∧ Below z.heap.size z w') := fun z => Code_any p z hm
  obtain ⟨h1, h2, h3⟩ := checkR_code p
  have hl := (Mt.codeR_fit p).2
  have HE : Hid ((Mt.codeR p).2 = (Mt.checkR p).1) := h1
  have H2 : Hid ((Mt.checkR p).1 ≠ 0 → (Mt.codeR p).1 = []) := h2
  have H3 : Hid ((Mt.checkR p).1 = 0 → ∃ c, (Mt.codeR p).1 = c ++ [⟨13, 0, 0, []⟩]) := h3
  rw [HE.out] at K2
  clear h1 h2 h3 HE
  generalize (Mt.codeR p).1 = C at *
  generalize (Mt.checkR p).2 = P at *
  generalize (Mt.checkR p).1 = E at *
  go_enter Try.func8, Try.ntmps8
  go_wp2_with fail
  refine K1.out.mono ?_
  rintro e w1 ⟨rfl, hb1⟩
  have HB1 : Hid (Below w.heap.size w w1) := hb1
  clear hb1
  go_wp2_with fail
  refine (K2.out w1).mono ?_
  rintro e w2 ⟨v, rfl, ho, hb2⟩
  have HB2 : Hid (Below w.heap.size w w2) := HB1.out.trans (hb2.mono HB1.out.size)
  clear hb2
  by_cases hE : E = 0
  · obtain ⟨c, hc⟩ := H3.out hE
    rcases ins_two ho with ⟨e0, _⟩ | ⟨hpos, g, cap, rfl, hcap, hg, hgb, hcell⟩
    · rw [hc] at e0; simp at e0
    have hn : C.length = c.length + 1 := by rw [hc]; simp
    have c0 := hcell c.length 0 (by omega) (by omega)
    have e13 : C.getD c.length Mt.ins0 = ⟨13, 0, 0, []⟩ := by rw [hc, List.getD_eq_getElem?_getD, List.getElem?_append_right (Nat.le_refl _)]; simp
    rw [e13] at c0
    change w2.cell? ⟨g, c.length * 4, none⟩ = some (.int .i64 13) at c0
    have m0 : (E != 0) = false := by simpa using hE
    have m1 : (E != E) = false := by simp
    rw [hn] at hl hcap hpos ⊢
    clear ho hcell hc e13 H2 H3 K1 K2
    have hL : c.length + 1 ≤ 300 := hl
    generalize c.length = n at *
    subst hE
    have g1 : decide ((0 : Int) < (n : Int) + 1) = true := by rw [decide_eq_true_eq]; omega
    have g2 : decide (0 < n + 1) = true := by simp
    have i1 : (n : Int) < (n : Int) + 1 := by omega
    have i0 : (0 : Int) ≤ (n : Int) := by omega
    have i2 : (n : Int) + 1 - 1 = n := by omega
    go_wp2_with fail
    go_quiet (fail)
    go_wp2_with fail
    go_ret2
    exact ⟨rfl, below_drewN HB2.out _⟩
  · have hC := H2.out hE
    have m0 : (E != 0) = true := by simpa using hE
    have m1 : (E != E) = false := by simp
    subst hC
    rcases ins_two ho with ⟨_, ao, cap, rfl⟩ | ⟨hpos, _⟩
    · clear ho H2 H3 K1 K2
      go_wp2_with fail
      go_ret2
      exact ⟨rfl, HB2.out⟩
    · simp at hpos
end Go.Proofs.Ytebpgfodelggoaa
