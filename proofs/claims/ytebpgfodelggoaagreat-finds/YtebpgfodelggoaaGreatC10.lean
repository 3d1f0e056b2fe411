import Derived.Test.YtebpgfodelggoaaGreatC09
import Derived.Test.YtebpgfodelggoaaGreatC08
import Derived.Deep.QuietTactic
import Derived.BigQuiet
set_option linter.unusedVariables false
set_option linter.unusedSimpArgs false
namespace Go.Proofs.YtebpgfodelggoaaGreat
open Go.RowKit

theorem maySelect_cases (policy mask : Int) :
    (decide (0 ≤ policy) = false ∧ Mt.maySelect policy mask = false) ∨
    (decide (0 ≤ policy) = true ∧ decide (policy ≤ 4) = false ∧ Mt.maySelect policy mask = false) ∨
    (decide (0 ≤ policy) = true ∧ decide (policy ≤ 4) = true ∧ decide (0 ≤ mask) = false ∧ Mt.maySelect policy mask = false) ∨
    (decide (0 ≤ policy) = true ∧ decide (policy ≤ 4) = true ∧ decide (0 ≤ mask) = true ∧ decide (mask ≤ 4294967295) = false ∧ Mt.maySelect policy mask = false) ∨
    (decide (0 ≤ policy) = true ∧ decide (policy ≤ 4) = true ∧ decide (0 ≤ mask) = true ∧ decide (mask ≤ 4294967295) = true ∧ Mt.maySelect policy mask = true) := by
  unfold Mt.maySelect
  simp only [decide_eq_true_eq, decide_eq_false_iff_not]
  omega

set_option maxHeartbeats 1000000 in
theorem maySelect_any (policy mask : Int) (w : World) :
    Calls Tryz.prog 44 #[.int .i64 policy, .int .i64 mask] w fun e w' => e = .returned (.bool (Mt.maySelect policy mask)) ∧ w = w' := by
  rcases maySelect_cases policy mask with ⟨a1, e⟩ | ⟨a1, a2, e⟩ | ⟨a1, a2, a3, e⟩ | ⟨a1, a2, a3, a4, e⟩ | ⟨a1, a2, a3, a4, e⟩
  all_goals
    rw [e]; clear e
    go_enter Tryz.func44, Tryz.ntmps44
    go_wp2_with fail
    go_ret
    exact ⟨rfl, rfl⟩

/-- The slice v holds the numbers. -/
def ownInts (w : World) (base : Nat) (v : Value) (b : List Int) : Prop := w.ownsRow base 3 1 v b.length (b.map (Value.int .i64))
theorem ownInts.below {w w' : World} {base : Nat} {v : Value} {l : List Int} (h : ownInts w base v l) (hb : Below w.heap.size w w') : ownInts w' base v l := owns_below h hb
theorem Tryz.info3 : (Tryz.prog.info? 3).map (fun i => (i.zero, i.size, i.bytes)) = some (some (.int .i64 0), 1, 8) := by kernel_rfl

theorem bools_val {w : World} {base : Nat} {v : Value} {c : List Bool} (h : ownBools w base v c) : ∃ ao cap, v = .slice ao c.length cap := by
  rcases h.2 with ⟨rfl, hn⟩ | ⟨g, cap, cur, rfl, _⟩
  · exact ⟨none, 0, by rw [hn]⟩
  · exact ⟨_, _, rfl⟩
theorem bools_at {w : World} {base : Nat} {v : Value} {c : List Bool} (h : ownBools w base v c) {k : Nat} (hk : k < c.length) : ∃ g cap, v = .slice (some ⟨g, 0, none⟩) c.length cap ∧ c.length ≤ cap ∧ g < w.heap.size ∧ base ≤ g ∧ ∀ j, j < c.length → w.cell? ⟨g, j, none⟩ = some (.bool (c.getD j false)) := by
  rcases h.2 with ⟨rfl, hn⟩ | ⟨g, cap, cur, rfl, hb, hg, h1, h2, h3, h4⟩
  · omega
  · refine ⟨g, cap, rfl, h1, (Array.getElem?_eq_some_iff.1 hg).1, hb, fun j hj => ?_⟩
    have hc := World.ownsRow.cellAt (g := g) (cap := cap) h j (by omega)
    rw [hc, List.getElem?_map, List.getD_eq_getElem?_getD, List.getElem?_eq_getElem hj]; rfl

set_option maxRecDepth 100000 in
set_option maxHeartbeats 2000000 in
theorem refChosen_any (p : ByteArray) (policy mask : Int) (w : World) (hm : p.size ≤ maxLen) :
    Calls Tryz.prog 59 #[.string p, .int .i64 policy, .int .i64 mask] w fun e w' => ∃ v, e = .returned (.tuple #[v, .int .i64 (Mt.chosenR p policy mask).2]) ∧ ownInts w' w.heap.size v (Mt.chosenR p policy mask).1 ∧ Below w.heap.size w w' := by
  have KC : Hid (Calls Tryz.prog 19 #[.string p] w fun e w' => ∃ v, e = .returned (.tuple #[v, .int .i64 (Mt.codeR p).2]) ∧ ownIns w' 0 v (Mt.codeR p).1 ∧ Below w.heap.size w w') := refCode_any p w hm
  obtain ⟨i0, hi, hz0, hz1, hz2⟩ := info_parts Tryz.info3
  have ff := Mt.codeR_fit p
  have HD : Hid (Mt.chosenR p policy mask = if (Mt.codeR p).2 ≠ 0 then ([], (Mt.codeR p).2) else if Mt.maySelect policy mask = false then ([], 13) else (Mt.numsTo (Mt.chosen (Mt.codeR p).1 policy mask) (Mt.codeR p).1.length, 0)) := rfl
  generalize Mt.codeR p = K at *
  generalize Mt.chosenR p policy mask = R at *
  have hl := ff.2
  clear ff
  cases he : (K.2 != 0)
  · have HD1 : Hid (R = if Mt.maySelect policy mask = false then ([], 13) else (Mt.numsTo (Mt.chosen K.1 policy mask) K.1.length, 0)) := by show _ = _; rw [HD.out, if_neg (by simpa using he)]
    clear HD
    have KS : Hid (∀ b, Mt.maySelect policy mask = b → ∀ z, Calls Tryz.prog 44 #[.int .i64 policy, .int .i64 mask] z fun e w' => e = .returned (.bool b) ∧ z = w') := fun b hb z => by rw [← hb]; exact maySelect_any policy mask z
    cases hs : Mt.maySelect policy mask
    · have HSS : Hid (Mt.maySelect policy mask = false) := hs
      have HR : Hid (R = ([], 13)) := by show _ = _; rw [HD1.out, if_pos hs]
      clear hs HD1
      go_enter Tryz.func59, Tryz.ntmps59
      go_wp2_with fail
      refine KC.out.mono ?_
      rintro e w1 ⟨v1, rfl, q1, hb1⟩
      clear q1
      go_wp2_with fail
      refine (KS.out _ HSS.out _).mono ?_
      rintro e w' ⟨rfl, rfl⟩
      go_wp2_with fail
      go_ret2
      exact ⟨_, by rw [HR.out]; rfl, by rw [HR.out]; exact World.ownsRow_nil _ _ _ _, hb1⟩
    · have HSS : Hid (Mt.maySelect policy mask = true) := hs
      have HR : Hid (R = (Mt.numsTo (Mt.chosen K.1 policy mask) K.1.length, 0)) := by show _ = _; rw [HD1.out, hs]; rfl
      have hms : 0 ≤ mask ∧ mask ≤ 4294967295 := by unfold Mt.maySelect at hs; simp at hs; omega
      have hm0 := hms.1
      have hm1 := hms.2
      clear hs HD1 hms
      go_enter Tryz.func59, Tryz.ntmps59
      go_wp2_with fail
      refine KC.out.mono ?_
      rintro e w1 ⟨v1, rfl, q1, hb1⟩
      have Q1 : Hid (ownIns w1 0 v1 K.1) := q1
      have hs1 := hb1.size
      clear q1
      go_wp2_with fail
      refine (KS.out _ HSS.out _).mono ?_
      rintro e w' ⟨rfl, rfl⟩
      go_wp2_with fail
      refine (chosen_any K.1 policy mask 0 v1 _ Q1.out hl hm0 hm1).mono ?_
      rintro e w2 ⟨v2, rfl, q2, hb2⟩
      have hB2 : Below w.heap.size w w2 := hb1.trans (hb2.mono hs1)
      have Q2 : Hid (ownBools w2 w1.heap.size v2 (Mt.chosen K.1 policy mask)) := q2
      have hcl := Mt.chosen_len K.1 policy mask
      generalize hBB : Mt.chosen K.1 policy mask = B at *
      have HRB : Hid (R = (Mt.numsTo B B.length, 0)) := by show _ = _; rw [HR.out, hcl]
      have hbl : B.length ≤ 300 := by omega
      clear hcl hBB HR
      obtain ⟨ao, cap, rfl⟩ := bools_val q2
      have hs2 := hB2.size
      clear q2 hb2 hb1 Q1
      go_wp2_with fail
      go_loopw [12, 13] (fun u i wr => ∃ k : Nat, k ≤ B.length ∧ i = .int .i64 k ∧ ownInts wr w2.heap.size u (Mt.numsTo B k) ∧ Below w2.heap.size w2 wr) (fun _ i _ => B.length - (intOf i).toNat)
      case atStart => exact ⟨0, Nat.zero_le _, rfl, World.ownsRow_nil _ _ _ _, Below.refl _ _⟩
      case round =>
        obtain ⟨k, hk, rfl, hown, hbel2⟩ := hrel
        have HO : Hid (ownInts wr w2.heap.size u12 (Mt.numsTo B k)) := hown
        have hsz2 := hbel2.size
        have hnl := Mt.numsTo_len B k
        clear hown
        by_cases hlt : k < B.length
        · have HN : Hid (Mt.numsTo B (k + 1) = Mt.numsTo B k ++ if B.getD k false then [(k : Int)] else []) := Mt.numsTo_next B k
          obtain ⟨g, cap', hv, hcap, hg, hgb, hc⟩ := bools_at Q2.out hlt
          simp only [Value.slice.injEq, true_and] at hv
          obtain ⟨rfl, rfl⟩ := hv
          have hc0 : wr.cell? ⟨g, k, none⟩ = some (.bool (B.getD k false)) := (hbel2.cell (p := ⟨g, k, none⟩) hg).trans (hc k hlt)
          clear hc
          generalize B.getD k false = bit at *
          cases bit
          · have HST : Hid (ownInts wr w2.heap.size u12 (Mt.numsTo B (k + 1))) := by
              show ownInts _ _ _ _
              rw [HN.out]; simpa using HO.out
            clear HN HO
            go_wp2_with fail
            go_roundw
            case rel => exact ⟨k + 1, by omega, by go_num, HST.out, hbel2⟩
            case measure => simp [intOf]; omega
          · go_wp2_with (first | (at_builtin; refine wpList_append_own _ rfl _ _ 41 rfl w2.heap.size 3 i0 _ 1 8 Tryz.underlying41 hi hz0 hz1 hz2 rfl (by decide) _ _ _ rfl (World.ownsRow.alloc HO.out _) ⟨wr.heap.size, 0, none⟩ 1 1 [.int .i64 (k : Int)] rfl rfl (news_cells _ _ _) (by simp [Value.oneCell']) ?_ ?_ ?_ ?_; rotate_right))
            · intro v' w3 hown' hgrow _
              have HST : Hid (ownInts w3 w2.heap.size v' (Mt.numsTo B (k + 1))) := by
                show ownInts _ _ _ _
                rw [HN.out]
                unfold ownInts
                simpa using hown'
              have R3 : Below w2.heap.size w2 w3 := (hbel2.alloc hsz2 _).grown hgrow (by simp; omega) (fun q hq' => (World.ownsRow.lt HO.out q hq').1)
              clear hown' hgrow HO HN
              go_wp2_with fail
              go_roundw
              case rel => exact ⟨k + 1, by omega, by go_num, HST.out, R3⟩
              case measure => simp [intOf]; omega
            · unfold maxLen; omega
            · omega
            · first | omega | (simp; omega)
        · have hk2 : k = B.length := by omega
          subst hk2
          go_wp2_with fail
          go_ret2
          exact ⟨_, by rw [HRB.out]; rfl, by rw [HRB.out]; exact owns_base HO.out hs2, hB2.trans (hbel2.mono hs2)⟩
  · have HR : Hid (R = ([], K.2)) := by show _ = _; rw [HD.out, if_pos (by simpa using he)]
    clear HD
    go_enter Tryz.func59, Tryz.ntmps59
    go_wp2_with fail
    refine KC.out.mono ?_
    rintro e w1 ⟨v1, rfl, q1, hb1⟩
    clear q1
    go_wp2_with fail
    go_ret2
    exact ⟨_, by rw [HR.out]; rfl, by rw [HR.out]; exact World.ownsRow_nil _ _ _ _, hb1⟩
end Go.Proofs.YtebpgfodelggoaaGreat
/- matcherlaw's comparisons, of things that are the same. -/
set_option linter.unusedVariables false
set_option linter.unusedSimpArgs false
namespace Go.Proofs.YtebpgfodelggoaaGreat
open Go.RowKit

set_option maxRecDepth 100000 in
set_option maxHeartbeats 4000000 in
theorem sameCode_same (c : List Mt.Ins) (va vb : Value) (w : World) (ha : ownIns w 0 va c) (hb : ownIns w 0 vb c) (hl : c.length ≤ 300) :
    Calls Tryz.prog 56 #[va, vb] w fun e w' => e = .returned (.bool true) ∧ ∃ n, w' = w.drewN n := by
  rcases ins_cases ha with ⟨rfl, ao, capa, rfl⟩ | ⟨hpos, ga, capa, rfl, hca, hga, _, hA⟩
  · rcases ins_cases hb with ⟨_, bo, capb, rfl⟩ | ⟨hpos, _⟩
    · clear ha hb
      go_enter Tryz.func56, Tryz.ntmps56
      go_wp2_with fail
      refine wp_loop_rounds 1 ?_
      rw [rounds_succ]
      go_wp2_with fail
      go_ret
      exact ⟨rfl, 0, rfl⟩
    · simp at hpos
  · rcases ins_cases hb with ⟨rfl, _⟩ | ⟨_, gb, capb, rfl, hcb, hgb, _, hB⟩
    · simp at hpos
    · have HA : Hid (∀ k j, k < c.length → j < 4 → w.cell? ⟨ga, k * 4 + j, none⟩ = (insCells (c.getD k Mt.ins0))[j]?) := hA
      have HB : Hid (∀ k j, k < c.length → j < 4 → w.cell? ⟨gb, k * 4 + j, none⟩ = (insCells (c.getD k Mt.ins0))[j]?) := hB
      clear ha hb hA hB
      go_enter Tryz.func56, Tryz.ntmps56
      go_wp2_with fail
      go_loopw [5] (fun i wr => ∃ k d : Nat, k ≤ c.length ∧ i = .int .i64 k ∧ wr = w.drewN d) (fun i _ => c.length - (intOf i).toNat)
      case atStart => exact ⟨0, 0, Nat.zero_le _, rfl, rfl⟩
      case round =>
        obtain ⟨k, d, hk, rfl, rfl⟩ := hrel
        by_cases hlt : k < c.length
        · have a0 : w.cell? ⟨ga, k * 4, none⟩ = some (.int .i64 (c.getD k Mt.ins0).op) := HA.out k 0 hlt (by omega)
          have a1 : w.cell? ⟨ga, k * 4 + 1, none⟩ = some (.int .i64 (c.getD k Mt.ins0).x) := HA.out k 1 hlt (by omega)
          have a2 : w.cell? ⟨ga, k * 4 + 2, none⟩ = some (.int .i64 (c.getD k Mt.ins0).y) := HA.out k 2 hlt (by omega)
          have a3 : w.cell? ⟨ga, k * 4 + 3, none⟩ = some (.string ⟨(c.getD k Mt.ins0).set.toArray⟩) := HA.out k 3 hlt (by omega)
          have b0 : w.cell? ⟨gb, k * 4, none⟩ = some (.int .i64 (c.getD k Mt.ins0).op) := HB.out k 0 hlt (by omega)
          have b1 : w.cell? ⟨gb, k * 4 + 1, none⟩ = some (.int .i64 (c.getD k Mt.ins0).x) := HB.out k 1 hlt (by omega)
          have b2 : w.cell? ⟨gb, k * 4 + 2, none⟩ = some (.int .i64 (c.getD k Mt.ins0).y) := HB.out k 2 hlt (by omega)
          have b3 : w.cell? ⟨gb, k * 4 + 3, none⟩ = some (.string ⟨(c.getD k Mt.ins0).set.toArray⟩) := HB.out k 3 hlt (by omega)
          generalize c.getD k Mt.ins0 = I at *
          have i0 : (0 : Int) ≤ (k : Int) := by omega
          have i1 : (k : Int) < (c.length : Int) := by omega
          go_wp2_with fail
          go_quiet (fail)
          go_wp2_with fail
          go_roundw
          case rel => exact ⟨k + 1, _, by omega, by go_num, rfl⟩
          case measure => simp [intOf]; omega
        · go_wp2_with fail
          go_ret
          exact ⟨rfl, _, rfl⟩
end Go.Proofs.YtebpgfodelggoaaGreat
/- matcherlaw's steps: each is as the document says, if the program's call keeps its contract. -/
set_option linter.unusedVariables false
set_option linter.unusedSimpArgs false
namespace Go.Proofs.YtebpgfodelggoaaGreat
open Go.RowKit

/-- What is asked of the program's Code. -/
def CodeKeeps : Prop := ∀ (p : ByteArray) (z : World), p.size ≤ maxLen → Calls Tryz.prog 35 #[.string p] z fun e w' => ∃ v, e = .returned (.tuple #[v, .int .i64 (Mt.codeR p).2]) ∧ ownIns w' z.heap.size v (Mt.codeR p).1 ∧ Below z.heap.size z w'

theorem row_any {w : World} {base g cap : Nat} {n : Nat} {xs : List Value} (h : w.ownsRow base 112 4 (.slice (some ⟨g, 0, none⟩) n cap) n xs) (k : Nat) (hk : k < n * 4) : (∃ u, w.cell? ⟨g, k, none⟩ = some u) ∧ w.frozen? ⟨g, k, none⟩ = false ∧ g < w.heap.size ∧ base ≤ g := by
  have hlt := World.ownsRow.lt h g rfl
  have hl := h.1
  refine ⟨?_, World.ownsRow.frozenAt h k, hlt.2, hlt.1⟩
  rcases h.2 with ⟨e, _⟩ | ⟨g', cap', cur, hv, hb, hg, h1, h2, h3, h4⟩
  · simp at e
  · have := World.ownsRow.cellAt h k (by omega)
    rw [this]
    exact ⟨_, List.getElem?_eq_getElem (by omega)⟩

set_option maxRecDepth 100000 in
set_option maxHeartbeats 4000000 in
theorem coded_true (KP : CodeKeeps) (o : Stp) (w : World) (hp : o.p.size ≤ maxLen) :
    Calls Tryz.prog 29 #[opV o] w fun e w' => e = .returned (.bool true) ∧ Below w.heap.size w w' := by
  have KC : Hid (∀ z : World, Calls Tryz.prog 35 #[.string o.p] z fun e w' => ∃ v, e = .returned (.tuple #[v, .int .i64 (Mt.codeR o.p).2]) ∧ ownIns w' z.heap.size v (Mt.codeR o.p).1 ∧ Below z.heap.size z w') := fun z => KP o.p z hp
  have KR : Hid (∀ z : World, Calls Tryz.prog 19 #[.string o.p] z fun e w' => ∃ v, e = .returned (.tuple #[v, .int .i64 (Mt.codeR o.p).2]) ∧ ownIns w' 0 v (Mt.codeR o.p).1 ∧ Below z.heap.size z w') := fun z => refCode_any o.p z hp
  have hl := (Mt.codeR_fit o.p).2
  generalize Mt.codeR o.p = C at *
  unfold opV opA
  go_enter Tryz.func29, Tryz.ntmps29
  go_wp2_with fail
  refine (KC.out _).mono ?_
  rintro e w1 ⟨v1, rfl, q1, hb1⟩
  have hs1 := hb1.size
  have y1 : w1.cell? ⟨w.heap.size, 1, none⟩ = some (.string o.p) := (cell_block ((hb1.block _ (by simp)).trans (heap_alloc_new _ _))).1 1
  have l1 : w.heap.size < w1.heap.size := by simp at hs1; omega
  have hB1 : Below w.heap.size w w1 := ((Below.refl _ _).alloc (Nat.le_refl _) _).trans (hb1.mono (by simp))
  have Q1 : Hid (ownIns w1 (w.heap.size + 1) v1 C.1) := by
    have : (w.alloc (.cells #[.int .i64 o.kind, .string o.p, .string o.t, .int .i64 o.frm, .int .i64 o.policy, .int .i64 o.mask, .int .i64 o.room, .int .i64 o.budget] 26)).heap.size = w.heap.size + 1 := by simp
    show ownIns _ _ _ _
    rw [← this]; exact q1
  clear q1 hb1 hs1
  go_wp2_with fail
  refine (KR.out _).mono ?_
  rintro e w2 ⟨v2, rfl, q2, hb2⟩
  have hs2 := hb2.size
  have Q2 : Hid (ownIns w2 (w.heap.size + 1) v1 C.1) := Q1.out.below hb2
  have QR : Hid (ownIns w2 0 v2 C.1) := q2
  have hB2 : Below w.heap.size w w2 := hB1.trans (hb2.mono (by omega))
  clear q2 hb2 hB1 y1 Q1
  go_wp2_with fail
  refine (sameCode_same C.1 v1 v2 w2 (Q2.out.base (Nat.zero_le _)) QR.out hl).mono ?_
  rintro e w3 ⟨rfl, n3, rfl⟩
  have Q3 : Hid (ownIns (w2.drewN n3) (w.heap.size + 1) v1 C.1) := Q2.out.below (below_drewN (Below.refl _ _) n3)
  have hB3 : Below w.heap.size w (w2.drewN n3) := below_drewN hB2 n3
  generalize w2.drewN n3 = w3 at *
  clear Q2 QR hB2
  rcases ins_cases Q3.out with ⟨e0, ao, capa, rfl⟩ | ⟨hpos, g, cap, rfl, hca, hg, hgb, _⟩
  · go_wp2_with fail
    refine wp_loop_rounds 1 ?_
    rw [rounds_succ]
    go_wp2_with fail
    go_ret
    exact ⟨ret_bool (by simp), hB3⟩
  · go_wp2_with fail
    go_loopw [8] (fun i wr => ∃ (k : Nat) (xs : List Value), k ≤ C.1.length ∧ i = .int .i64 k ∧ wr.ownsRow (w.heap.size + 1) 112 4 (.slice (some ⟨g, 0, none⟩) C.1.length cap) C.1.length xs ∧ Below w.heap.size w wr) (fun i _ => C.1.length - (intOf i).toNat)
    case atStart => exact ⟨0, _, Nat.zero_le _, rfl, Q3.out, hB3⟩
    case round =>
      obtain ⟨k, xs, hk, rfl, hown, hbr⟩ := hrel
      by_cases hlt : k < C.1.length
      · obtain ⟨⟨u0, a0⟩, z0, lg, lb⟩ := row_any hown (k * 4) (by omega)
        obtain ⟨⟨u1, a1⟩, z1, _, _⟩ := row_any hown (k * 4 + 1) (by omega)
        obtain ⟨⟨u2, a2⟩, z2, _, _⟩ := row_any hown (k * 4 + 2) (by omega)
        obtain ⟨⟨u3, a3⟩, z3, _, _⟩ := row_any hown (k * 4 + 3) (by omega)
        have h1 := (World.ownsRow.stored hown (k * 4) (.int .i64 0)).1
        have h2 := (World.ownsRow.stored h1 (k * 4 + 1) (.int .i64 0)).1
        have h3 := (World.ownsRow.stored h2 (k * 4 + 2) (.int .i64 0)).1
        have h4 := (World.ownsRow.stored h3 (k * 4 + 3) (.string ⟨#[]⟩)).1
        have HO : Hid _ := h4
        have HBB : Hid (Below w.heap.size w wr) := hbr
        have i0 : (0 : Int) ≤ (k : Int) := by omega
        have i1 : (k : Int) < (C.1.length : Int) := by omega
        clear h1 h2 h3 h4 hown hbr
        go_wp2_with fail
        go_roundw
        case rel => exact ⟨k + 1, _, by omega, by go_num, HO.out, (((HBB.out.setCell (p := ⟨g, k * 4, none⟩) (by show w.heap.size ≤ g; omega) _).setCell (p := ⟨g, k * 4 + 1, none⟩) (by show w.heap.size ≤ g; omega) _).setCell (p := ⟨g, k * 4 + 2, none⟩) (by show w.heap.size ≤ g; omega) _).setCell (p := ⟨g, k * 4 + 3, none⟩) (by show w.heap.size ≤ g; omega) _⟩
        case measure => simp [intOf]; omega
      · go_wp2_with fail
        go_ret
        exact ⟨ret_bool (by simp), hbr⟩
end Go.Proofs.YtebpgfodelggoaaGreat
/- The steps Code and Weight of a script. -/
set_option linter.unusedVariables false
set_option linter.unusedSimpArgs false
namespace Go.Proofs.YtebpgfodelggoaaGreat
open Go.RowKit

/-- What is asked of the program's Weight. -/
def WeightKeeps : Prop := ∀ (p : ByteArray) (z : World), p.size ≤ maxLen → Calls Tryz.prog 30 #[.string p] z fun e w' => e = .returned (.tuple #[.int .i64 (Mt.weightR p).1, .int .i64 (Mt.weightR p).2]) ∧ Below z.heap.size z w'

set_option maxRecDepth 100000 in
set_option maxHeartbeats 4000000 in
theorem plays_code (KP : CodeKeeps) (o : Stp) (w : World) (hp : o.p.size ≤ maxLen) (k1 : (o.kind == 1) = false) (k2 : (o.kind == 2) = true) :
    Calls Tryz.prog 16 #[opV o] w fun e w' => e = .returned (.bool true) ∧ Below w.heap.size w w' := by
  have K1 : Hid (∀ z : World, Calls Tryz.prog 29 #[opV o] z fun e w' => e = .returned (.bool true) ∧ Below z.heap.size z w') := fun z => coded_true KP o z hp
  unfold opV opA at *
  go_enter Tryz.func16, Tryz.ntmps16
  go_wp2_with fail
  refine (K1.out _).mono ?_
  rintro e w1 ⟨rfl, hb1⟩
  have hB1 : Below w.heap.size w w1 := ((Below.refl _ _).alloc (Nat.le_refl _) _).trans (hb1.mono (by simp))
  clear hb1
  go_wp2_with fail
  go_ret
  exact ⟨rfl, hB1⟩

set_option maxRecDepth 100000 in
set_option maxHeartbeats 4000000 in
theorem plays_weight (KP : WeightKeeps) (o : Stp) (w : World) (hp : o.p.size ≤ maxLen) (k1 : (o.kind == 1) = false) (k2 : (o.kind == 2) = false) (k3 : (o.kind == 3) = true) :
    Calls Tryz.prog 16 #[opV o] w fun e w' => e = .returned (.bool true) ∧ Below w.heap.size w w' := by
  have K1 : Hid (∀ z : World, Calls Tryz.prog 30 #[.string o.p] z fun e w' => e = .returned (.tuple #[.int .i64 (Mt.weightR o.p).1, .int .i64 (Mt.weightR o.p).2]) ∧ Below z.heap.size z w') := fun z => KP o.p z hp
  have K2 : Hid (∀ z : World, Calls Tryz.prog 31 #[.string o.p] z fun e w' => e = .returned (.tuple #[.int .i64 (Mt.weightR o.p).1, .int .i64 (Mt.weightR o.p).2]) ∧ Below z.heap.size z w') := fun z => refWeight_any o.p z hp
  generalize Mt.weightR o.p = C at *
  unfold opV opA
  go_enter Tryz.func16, Tryz.ntmps16
  go_wp2_with fail
  refine (K1.out _).mono ?_
  rintro e w1 ⟨rfl, hb1⟩
  have hs1 := hb1.size
  have y1 : w1.cell? ⟨w.heap.size, 1, none⟩ = some (.string o.p) := (cell_block ((hb1.block _ (by simp)).trans (heap_alloc_new _ _))).1 1
  have l1 : w.heap.size < w1.heap.size := by simp at hs1; omega
  have hB1 : Below w.heap.size w w1 := ((Below.refl _ _).alloc (Nat.le_refl _) _).trans (hb1.mono (by simp))
  clear hb1 hs1
  go_wp2_with fail
  refine (K2.out _).mono ?_
  rintro e w2 ⟨rfl, hb2⟩
  have hB2 : Below w.heap.size w w2 := hB1.trans (hb2.mono (by omega))
  clear hb2
  go_wp2_with fail
  go_ret
  exact ⟨ret_bool (by simp), hB2⟩
end Go.Proofs.YtebpgfodelggoaaGreat
set_option linter.unusedVariables false
set_option linter.unusedSimpArgs false
namespace Go.Proofs.YtebpgfodelggoaaGreat
open Go.RowKit

theorem ints_row' {w : World} {g cap : Nat} {c : List Int} (h : ownInts w 0 (.slice (some ⟨g, 0, none⟩) c.length cap) c) : c.length ≤ cap ∧ g < w.heap.size ∧ (∀ j, j < c.length → w.cell? ⟨g, j, none⟩ = some (.int .i64 (c.getD j 0))) := by
  rcases h.2 with ⟨hv, _⟩ | ⟨g', cap', cur, hv, hb, hg, h1, h2, h3, h4⟩
  · simp at hv
  · simp only [Value.slice.injEq, Option.some.injEq, Addr.mk.injEq, and_true, true_and] at hv
    obtain ⟨rfl, rfl⟩ := hv
    refine ⟨h1, (Array.getElem?_eq_some_iff.1 hg).1, fun j hj => ?_⟩
    have hc := World.ownsRow.cellAt h j (by omega)
    rw [hc, List.getElem?_map, List.getD_eq_getElem?_getD, List.getElem?_eq_getElem hj]; rfl
theorem ints_cases {w : World} {base : Nat} {v : Value} {l : List Int} (h : ownInts w base v l) :
    (l = [] ∧ ∃ ao cap, v = .slice ao 0 cap) ∨ (0 < l.length ∧ ∃ g cap, v = .slice (some ⟨g, 0, none⟩) l.length cap ∧ l.length ≤ cap ∧ g < w.heap.size ∧ ∀ k, k < l.length → w.cell? ⟨g, k, none⟩ = some (.int .i64 (l.getD k 0))) := by
  by_cases h0 : l = []
  · left
    subst h0
    refine ⟨rfl, ?_⟩
    rcases h.2 with ⟨rfl, _⟩ | ⟨g, cap, cur, rfl, _⟩
    · exact ⟨_, _, rfl⟩
    · exact ⟨_, _, rfl⟩
  · right
    have hp : 0 < l.length := List.length_pos_iff.2 h0
    refine ⟨hp, ?_⟩
    have hh := owns_base h (Nat.zero_le _)
    rcases h.2 with ⟨rfl, hn⟩ | ⟨g, cap, cur, rfl, hb, hg, h1, h2, h3, h4⟩
    · omega
    · have := ints_row' hh
      exact ⟨g, cap, rfl, this.1, this.2.1, this.2.2⟩

set_option maxRecDepth 100000 in
set_option maxHeartbeats 4000000 in
theorem sameInts_same (c : List Int) (va vb : Value) (w : World) (ha : ownInts w 0 va c) (hb : ownInts w 0 vb c) (hl : c.length ≤ 300) :
    Calls Tryz.prog 60 #[va, vb] w fun e w' => e = .returned (.bool true) ∧ ∃ n, w' = w.drewN n := by
  rcases ints_cases ha with ⟨rfl, ao, capa, rfl⟩ | ⟨hpos, ga, capa, rfl, hca, hga, hA⟩
  · rcases ints_cases hb with ⟨_, bo, capb, rfl⟩ | ⟨hpos, _⟩
    · clear ha hb
      go_enter Tryz.func60, Tryz.ntmps60
      go_wp2_with fail
      refine wp_loop_rounds 1 ?_
      rw [rounds_succ]
      go_wp2_with fail
      go_ret
      exact ⟨rfl, 0, rfl⟩
    · simp at hpos
  · rcases ints_cases hb with ⟨rfl, _⟩ | ⟨_, gb, capb, rfl, hcb, hgb, hB⟩
    · simp at hpos
    · have HA : Hid (∀ k, k < c.length → w.cell? ⟨ga, k, none⟩ = some (.int .i64 (c.getD k 0))) := hA
      have HB : Hid (∀ k, k < c.length → w.cell? ⟨gb, k, none⟩ = some (.int .i64 (c.getD k 0))) := hB
      clear ha hb hA hB
      go_enter Tryz.func60, Tryz.ntmps60
      go_wp2_with fail
      go_loopw [5] (fun i wr => ∃ k d : Nat, k ≤ c.length ∧ i = .int .i64 k ∧ wr = w.drewN d) (fun i _ => c.length - (intOf i).toNat)
      case atStart => exact ⟨0, 0, Nat.zero_le _, rfl, rfl⟩
      case round =>
        obtain ⟨k, d, hk, rfl, rfl⟩ := hrel
        by_cases hlt : k < c.length
        · have a0 := HA.out k hlt
          have b0 := HB.out k hlt
          generalize c.getD k 0 = I at *
          have i0 : (0 : Int) ≤ (k : Int) := by omega
          have i1 : (k : Int) < (c.length : Int) := by omega
          go_wp2_with fail
          go_quiet (fail)
          go_wp2_with fail
          go_roundw
          case rel => exact ⟨k + 1, _, by omega, by go_num, rfl⟩
          case measure => simp [intOf]; omega
        · go_wp2_with fail
          go_ret
          exact ⟨rfl, _, rfl⟩

end Go.Proofs.YtebpgfodelggoaaGreat
set_option linter.unusedVariables false
set_option linter.unusedSimpArgs false
namespace Go.Proofs.YtebpgfodelggoaaGreat
open Go.RowKit

/-- What is asked of the program's other calls. -/
def ChosenKeeps : Prop := ∀ (p : ByteArray) (policy mask : Int) (z : World), p.size ≤ maxLen → Calls Tryz.prog 58 #[.string p, .int .i64 policy, .int .i64 mask] z fun e w' => ∃ v, e = .returned (.tuple #[v, .int .i64 (Mt.chosenR p policy mask).2]) ∧ ownInts w' z.heap.size v (Mt.chosenR p policy mask).1 ∧ Below z.heap.size z w'

theorem chosenR_len (p : ByteArray) (policy mask : Int) : (Mt.chosenR p policy mask).1.length ≤ 300 := by
  have h1 := (Mt.codeR_fit p).2
  unfold Mt.chosenR
  split
  · simp
  split
  · simp
  · exact Nat.le_trans (Mt.numsTo_len _ _) h1
theorem row_any1 {w : World} {base g cap : Nat} {n : Nat} {xs : List Value} (h : w.ownsRow base 3 1 (.slice (some ⟨g, 0, none⟩) n cap) n xs) (k : Nat) (hk : k < n) : (∃ u, w.cell? ⟨g, k, none⟩ = some u) ∧ w.frozen? ⟨g, k, none⟩ = false ∧ g < w.heap.size ∧ base ≤ g := by
  have hlt := World.ownsRow.lt h g rfl
  have hl := h.1
  refine ⟨?_, World.ownsRow.frozenAt h k, hlt.2, hlt.1⟩
  have := World.ownsRow.cellAt h k (by omega)
  rw [this]
  exact ⟨_, List.getElem?_eq_getElem (by omega)⟩

set_option maxRecDepth 100000 in
set_option maxHeartbeats 4000000 in
theorem picks_true (KP : ChosenKeeps) (o : Stp) (w : World) (hp : o.p.size ≤ maxLen) :
    Calls Tryz.prog 32 #[opV o] w fun e w' => e = .returned (.bool true) ∧ Below w.heap.size w w' := by
  have KC : Hid (∀ z : World, Calls Tryz.prog 58 #[.string o.p, .int .i64 o.policy, .int .i64 o.mask] z fun e w' => ∃ v, e = .returned (.tuple #[v, .int .i64 (Mt.chosenR o.p o.policy o.mask).2]) ∧ ownInts w' z.heap.size v (Mt.chosenR o.p o.policy o.mask).1 ∧ Below z.heap.size z w') := fun z => KP o.p o.policy o.mask z hp
  have KR : Hid (∀ z : World, Calls Tryz.prog 59 #[.string o.p, .int .i64 o.policy, .int .i64 o.mask] z fun e w' => ∃ v, e = .returned (.tuple #[v, .int .i64 (Mt.chosenR o.p o.policy o.mask).2]) ∧ ownInts w' z.heap.size v (Mt.chosenR o.p o.policy o.mask).1 ∧ Below z.heap.size z w') := fun z => refChosen_any o.p o.policy o.mask z hp
  have hl := chosenR_len o.p o.policy o.mask
  generalize Mt.chosenR o.p o.policy o.mask = C at *
  unfold opV opA
  go_enter Tryz.func32, Tryz.ntmps32
  go_wp2_with fail
  refine (KC.out _).mono ?_
  rintro e w1 ⟨v1, rfl, q1, hb1⟩
  have hs1 := hb1.size
  have yy := (cell_block ((hb1.block _ (by simp)).trans (heap_alloc_new _ _))).1
  have y1 : w1.cell? ⟨w.heap.size, 1, none⟩ = some (.string o.p) := yy 1
  have y4 : w1.cell? ⟨w.heap.size, 4, none⟩ = some (.int .i64 o.policy) := yy 4
  have y5 : w1.cell? ⟨w.heap.size, 5, none⟩ = some (.int .i64 o.mask) := yy 5
  clear yy
  have l1 : w.heap.size < w1.heap.size := by simp at hs1; omega
  have hB1 : Below w.heap.size w w1 := ((Below.refl _ _).alloc (Nat.le_refl _) _).trans (hb1.mono (by simp))
  have Q1 : Hid (ownInts w1 (w.heap.size + 1) v1 C.1) := by
    have : (w.alloc (.cells #[.int .i64 o.kind, .string o.p, .string o.t, .int .i64 o.frm, .int .i64 o.policy, .int .i64 o.mask, .int .i64 o.room, .int .i64 o.budget] 26)).heap.size = w.heap.size + 1 := by simp
    show ownInts _ _ _ _
    rw [← this]; exact q1
  clear q1 hb1 hs1
  go_wp2_with fail
  refine (KR.out _).mono ?_
  rintro e w2 ⟨v2, rfl, q2, hb2⟩
  have hs2 := hb2.size
  have Q2 : Hid (ownInts w2 (w.heap.size + 1) v1 C.1) := owns_below Q1.out hb2
  have QR : Hid (ownInts w2 0 v2 C.1) := owns_base q2 (Nat.zero_le _)
  have hB2 : Below w.heap.size w w2 := hB1.trans (hb2.mono (by omega))
  clear q2 hb2 hB1 y1 y4 y5 Q1
  go_wp2_with fail
  refine (sameInts_same C.1 v1 v2 w2 (owns_base Q2.out (Nat.zero_le _)) QR.out hl).mono ?_
  rintro e w3 ⟨rfl, n3, rfl⟩
  have Q3 : Hid (ownInts (w2.drewN n3) (w.heap.size + 1) v1 C.1) := owns_below Q2.out (below_drewN (Below.refl _ _) n3)
  have hB3 : Below w.heap.size w (w2.drewN n3) := below_drewN hB2 n3
  generalize w2.drewN n3 = w3 at *
  clear Q2 QR hB2
  rcases ints_cases Q3.out with ⟨e0, ao, capa, rfl⟩ | ⟨hpos, g, cap, rfl, hca, hg, _⟩
  · go_wp2_with fail
    refine wp_loop_rounds 1 ?_
    rw [rounds_succ]
    go_wp2_with fail
    go_ret
    exact ⟨ret_bool (by simp), hB3⟩
  · go_wp2_with fail
    go_loopw [8] (fun i wr => ∃ (k : Nat) (xs : List Value), k ≤ C.1.length ∧ i = .int .i64 k ∧ wr.ownsRow (w.heap.size + 1) 3 1 (.slice (some ⟨g, 0, none⟩) C.1.length cap) C.1.length xs ∧ Below w.heap.size w wr) (fun i _ => C.1.length - (intOf i).toNat)
    case atStart => exact ⟨0, _, Nat.zero_le _, rfl, Q3.out, hB3⟩
    case round =>
      obtain ⟨k, xs, hk, rfl, hown, hbr⟩ := hrel
      by_cases hlt : k < C.1.length
      · obtain ⟨⟨u0, a0⟩, z0, lg, lb⟩ := row_any1 hown k hlt
        have h1 := (World.ownsRow.stored hown k (.int .i64 (-7))).1
        have HO : Hid _ := h1
        have HBB : Hid (Below w.heap.size w wr) := hbr
        have i0 : (0 : Int) ≤ (k : Int) := by omega
        have i1 : (k : Int) < (C.1.length : Int) := by omega
        clear h1 hown hbr
        go_wp2_with fail
        go_roundw
        case rel => exact ⟨k + 1, _, by omega, by go_num, HO.out, HBB.out.setCell (p := ⟨g, k, none⟩) (by show w.heap.size ≤ g; omega) _⟩
        case measure => simp [intOf]; omega
      · go_wp2_with fail
        go_ret
        exact ⟨ret_bool (by simp), hbr⟩

set_option maxRecDepth 100000 in
set_option maxHeartbeats 4000000 in
theorem plays_chosen (KP : ChosenKeeps) (o : Stp) (w : World) (hp : o.p.size ≤ maxLen) (k1 : (o.kind == 1) = false) (k2 : (o.kind == 2) = false) (k3 : (o.kind == 3) = false) (k4 : (o.kind == 4) = true) :
    Calls Tryz.prog 16 #[opV o] w fun e w' => e = .returned (.bool true) ∧ Below w.heap.size w w' := by
  have K1 : Hid (∀ z : World, Calls Tryz.prog 32 #[opV o] z fun e w' => e = .returned (.bool true) ∧ Below z.heap.size z w') := fun z => picks_true KP o z hp
  unfold opV opA at *
  go_enter Tryz.func16, Tryz.ntmps16
  go_wp2_with fail
  refine (K1.out _).mono ?_
  rintro e w1 ⟨rfl, hb1⟩
  have hB1 : Below w.heap.size w w1 := ((Below.refl _ _).alloc (Nat.le_refl _) _).trans (hb1.mono (by simp))
  clear hb1
  go_wp2_with fail
  go_ret
  exact ⟨rfl, hB1⟩
end Go.Proofs.YtebpgfodelggoaaGreat
/- THE PLAIN MATHEMATICS OF matcherref/walk.go: a state is a list of 44 numbers: pc, pos, 20 places, 10 noted, 12 marks. -/
set_option linter.unusedVariables false
namespace Mt

abbrev Sta := List Int
def gt (s : Sta) (i : Nat) : Int := s.getD i 0

def hasTo (p : ByteArray) (c : Int) (k : Nat) : Bool := (p.data.toList.take k).any fun b => (b.toNat : Int) == c
def hasB (p : ByteArray) (c : Int) : Bool := p.data.toList.any fun b => (b.toNat : Int) == c
theorem hasTo_next (p : ByteArray) (c : Int) (k : Nat) (h : k < p.size) : hasTo p c (k + 1) = (hasTo p c k || ((p[k]'h).toNat : Int) == c) := by
  unfold hasTo
  have h' : k < p.data.toList.length := by simpa using h
  rw [List.take_succ_eq_append_getElem h', List.any_append]
  simp only [List.any_cons, List.any_nil, Bool.or_false]
  rfl
theorem hasTo_all (p : ByteArray) (c : Int) : hasTo p c p.size = hasB p c := by
  unfold hasTo hasB
  rw [List.take_of_length_le (by simp)]
theorem hasB_hit (p : ByteArray) (c : Int) (k : Nat) (h : k < p.size) (hc : (((p[k]'h).toNat : Int) == c) = true) : hasB p c = true := by
  unfold hasB
  rw [List.any_eq_true]
  refine ⟨p[k]'h, ?_, hc⟩
  have h' : k < p.data.toList.length := by simpa using h
  exact List.getElem_mem h'

/-- How many of the first n marks are equal to the position. -/
def levelTo (s : Sta) (k : Nat) : Nat := (List.range k).countP fun j => gt s (32 + j) == gt s 1
theorem levelTo_next (s : Sta) (k : Nat) : levelTo s (k + 1) = levelTo s k + if gt s (32 + k) == gt s 1 then 1 else 0 := by
  unfold levelTo; rw [List.range_succ, List.countP_append]; simp [List.countP_cons]
theorem levelTo_le (s : Sta) (k : Nat) : levelTo s k ≤ k := by
  unfold levelTo; refine Nat.le_trans List.countP_le_length ?_; simp

/-- The level of a state at an instruction that stands in a loops. -/
def lev (s : Sta) (a : Nat) : Nat := levelTo s (min a 12)
theorem lev_le (s : Sta) (a : Nat) : lev s a ≤ 12 ∧ lev s a ≤ a := by
  have := levelTo_le s (min a 12)
  unfold lev; omega
/-- The table's place of a state. -/
def keyOf (s : Sta) (pc pos T a : Nat) : Nat := (pc * (T + 1) + pos) * 12 + lev s a
def deadKn (kn : List Bool) (room : Int) (i : Nat) : List Bool := if kn.getD i false = true then kn else if 0 < room then kn.set i true else kn
def deadRoom (kn : List Bool) (room : Int) (i : Nat) : Int := if kn.getD i false = true then room else if 0 < room then room - 1 else room

end Mt
set_option linter.unusedVariables false
set_option linter.unusedSimpArgs false
namespace Go.Proofs.YtebpgfodelggoaaGreat
open Go.RowKit

set_option maxHeartbeats 1000000 in
theorem has_any (p : ByteArray) (c : Int) (w : World) (hp : p.size ≤ 1000) (hc0 : 0 ≤ c) (hc1 : c ≤ 255) :
    Calls Tryz.prog 105 #[.string p, .int .u8 c] w fun e w' => e = .returned (.bool (Mt.hasB p c)) ∧ w = w' := by
  go_enter Tryz.func105, Tryz.ntmps105
  go_wp2_with fail
  go_loop [5] (fun i => ∃ k : Nat, k ≤ p.size ∧ i = .int .i64 k ∧ Mt.hasTo p c k = false) (fun i => p.size - (intOf i).toNat)
  case atStart => exact ⟨0, Nat.zero_le _, rfl, rfl⟩
  case round =>
    obtain ⟨k, hk, rfl, hr⟩ := hrel
    have HR : Hid (Mt.hasTo p c k = false) := hr
    clear hr
    by_cases hlt : k < p.size
    · cases hq : (((p[k]'hlt).toNat : Int) == c)
      · have HN : Hid (Mt.hasTo p c (k + 1) = false) := by show _ = _; rw [Mt.hasTo_next p c k hlt, HR.out, hq]; rfl
        go_wp2_with fail
        go_round
        case rel => exact ⟨k + 1, by omega, by go_num, HN.out⟩
        case measure => simp [intOf]; omega
      · have HE : Hid (Mt.hasB p c = true) := Mt.hasB_hit p c k hlt hq
        go_wp2_with fail
        go_ret
        exact ⟨ret_bool (by rw [HE.out]), rfl⟩
    · have HE : Hid (Mt.hasB p c = false) := by
        have := HR.out
        rwa [show k = p.size by omega, Mt.hasTo_all] at this
      go_wp2_with fail
      go_ret
      exact ⟨ret_bool (by rw [HE.out]), rfl⟩

/-- A state as a value. -/
def stV (s : List Int) : Value := .agg (s.map (Value.int .i64)).toArray
/-- What turns: the blocks wb (the walk's struct) and gk (its table); new blocks come; all else is as it was. -/
structure Keep (wb gk : Nat) (w w' : World) : Prop where
  os : w'.os = w.os
  tape : w'.tape = w.tape
  output : w'.output = w.output
  size : w.heap.size ≤ w'.heap.size
  block : ∀ k, k < w.heap.size → k ≠ wb → k ≠ gk → w'.heap[k]? = w.heap[k]?

theorem Keep.refl (wb gk : Nat) (w : World) : Keep wb gk w w := ⟨rfl, rfl, rfl, Nat.le_refl _, fun _ _ _ _ => rfl⟩
theorem Keep.trans {wb gk : Nat} {a b c : World} (h : Keep wb gk a b) (k : Keep wb gk b c) : Keep wb gk a c :=
  ⟨k.os.trans h.os, k.tape.trans h.tape, k.output.trans h.output, Nat.le_trans h.size k.size, fun i hi h1 h2 => (k.block i (Nat.lt_of_lt_of_le hi h.size) h1 h2).trans (h.block i hi h1 h2)⟩
theorem Keep.below {wb gk : Nat} {a b : World} (h : Below a.heap.size a b) : Keep wb gk a b := ⟨h.os, h.tape, h.output, h.size, fun i hi _ _ => h.block i hi⟩
theorem Keep.alloc {wb gk : Nat} {a w : World} (h : Keep wb gk a w) (o : Obj) : Keep wb gk a (w.alloc o) :=
  h.trans (Keep.below ((Below.refl _ _).alloc (Nat.le_refl _) o))
theorem Keep.drew {wb gk : Nat} {a w : World} (h : Keep wb gk a w) : Keep wb gk a w.drew := h.trans (Keep.below (Below.refl _ _).drew)
theorem Keep.set {wb gk : Nat} {a w : World} (h : Keep wb gk a w) {p : Addr} (hp : p.block = wb ∨ p.block = gk ∨ a.heap.size ≤ p.block) (u : Value) : Keep wb gk a (w.setCell p u) :=
  ⟨h.os, h.tape, h.output, by have := h.size; simpa [World.setCell] using this, fun i hi h1 h2 => by
    rw [Below.heap_setCell _ _ _ _ (by omega)]; exact h.block i hi h1 h2⟩

/-- The search's struct, and what it leads to. -/
structure WalkAt (w : World) (wb gc gi ga gk : Nat) (cc ci ca ck : Nat) (c : List Mt.Ins) (text : ByteArray) (inn : List Bool) (ar : List Int) (budget : Int) (kn : List Bool) (room used : Int) (over : Bool) : Prop where
  cell : w.heap[wb]? = some (.cells #[.slice (some ⟨gc, 0, none⟩) c.length cc, .string text, .slice (some ⟨gi, 0, none⟩) c.length ci, .slice (some ⟨ga, 0, none⟩) c.length ca, .slice (some ⟨gk, 0, none⟩) kn.length ck, .int .i64 room, .int .i64 budget, .int .i64 used, .bool over] 55 (0, 0))
  code : ownIns w 0 (.slice (some ⟨gc, 0, none⟩) c.length cc) c
  ins : ownBools w 0 (.slice (some ⟨gi, 0, none⟩) inn.length ci) inn
  around : ownInts w 0 (.slice (some ⟨ga, 0, none⟩) ar.length ca) ar
  known : ownBools w 0 (.slice (some ⟨gk, 0, none⟩) kn.length ck) kn
  li : inn.length = c.length
  la : ar.length = c.length
  apart : gc ≠ wb ∧ gi ≠ wb ∧ ga ≠ wb ∧ gk ≠ wb ∧ gc ≠ gk ∧ gi ≠ gk ∧ ga ≠ gk

end Go.Proofs.YtebpgfodelggoaaGreat
set_option linter.unusedVariables false
set_option linter.unusedSimpArgs false
namespace Go.Proofs.YtebpgfodelggoaaGreat
open Go.RowKit

theorem bools_row {w : World} {g cap : Nat} {c : List Bool} (h : ownBools w 0 (.slice (some ⟨g, 0, none⟩) c.length cap) c) : c.length ≤ cap ∧ g < w.heap.size ∧ (∀ j, j < c.length → w.cell? ⟨g, j, none⟩ = some (.bool (c.getD j false))) ∧ (∀ j, w.frozen? ⟨g, j, none⟩ = false) := by
  rcases h.2 with ⟨hv, _⟩ | ⟨g', cap', cur, hv, hb, hg, h1, h2, h3, h4⟩
  · simp at hv
  · simp only [Value.slice.injEq, Option.some.injEq, Addr.mk.injEq, and_true, true_and] at hv
    obtain ⟨rfl, rfl⟩ := hv
    refine ⟨h1, (Array.getElem?_eq_some_iff.1 hg).1, fun j hj => ?_, fun j => World.ownsRow.frozenAt h j⟩
    have hc := World.ownsRow.cellAt h j (by omega)
    rw [hc, List.getElem?_map, List.getD_eq_getElem?_getD, List.getElem?_eq_getElem hj]; rfl
theorem ints_row {w : World} {g cap : Nat} {c : List Int} (h : ownInts w 0 (.slice (some ⟨g, 0, none⟩) c.length cap) c) : c.length ≤ cap ∧ g < w.heap.size ∧ (∀ j, j < c.length → w.cell? ⟨g, j, none⟩ = some (.int .i64 (c.getD j 0))) := by
  rcases h.2 with ⟨hv, _⟩ | ⟨g', cap', cur, hv, hb, hg, h1, h2, h3, h4⟩
  · simp at hv
  · simp only [Value.slice.injEq, Option.some.injEq, Addr.mk.injEq, and_true, true_and] at hv
    obtain ⟨rfl, rfl⟩ := hv
    refine ⟨h1, (Array.getElem?_eq_some_iff.1 hg).1, fun j hj => ?_⟩
    have hc := World.ownsRow.cellAt h j (by omega)
    rw [hc, List.getElem?_map, List.getD_eq_getElem?_getD, List.getElem?_eq_getElem hj]; rfl

set_option maxRecDepth 100000 in
set_option maxHeartbeats 1000000 in
theorem dead_out {w : World} {wb gc gi ga gk cc ci ca ck : Nat} {c : List Mt.Ins} {text : ByteArray} {inn : List Bool} {ar : List Int} {budget : Int} {kn : List Bool} {room used : Int} {over : Bool}
    (h : WalkAt w wb gc gi ga gk cc ci ca ck c text inn ar budget kn room used over) (s : List Int) (pc : Nat) (h0 : s[0]? = some (pc : Int)) (hpc : pc < c.length) (hl : c.length ≤ 300) (hin : inn.getD pc false = false) :
    Calls Tryz.prog 75 #[.pointer (some ⟨wb, 0, none⟩), stV s] w fun e w' => e = .returned (.bool false) ∧ Keep wb gk w w' ∧ Below w.heap.size w w' := by
  have hcb := cell_block h.cell
  have hwb : wb < w.heap.size := (Array.getElem?_eq_some_iff.1 h.cell).1
  have c2 : w.cell? ⟨wb, 2, none⟩ = some (.slice (some ⟨gi, 0, none⟩) c.length ci) := hcb.1 2
  have bi := bools_row h.ins
  have cgi : w.cell? ⟨gi, pc, none⟩ = some (.bool false) := by rw [bi.2.2.1 pc (by rw [h.li]; omega), hin]
  have hgi := bi.2.1
  have hci : c.length ≤ ci := by have := bi.1; rw [h.li] at this; exact this
  clear hcb bi h
  unfold stV
  go_enter Tryz.func75, Tryz.ntmps75
  go_wp2_with fail
  go_quiet (fail)
  go_wp2_with fail
  go_ret
  have hB := below_drewN ((Below.refl w.heap.size w).alloc (Nat.le_refl _) (.cells (s.map (Value.int .i64)).toArray 93))
  exact ⟨rfl, Keep.below (hB _), hB _⟩
end Go.Proofs.YtebpgfodelggoaaGreat
