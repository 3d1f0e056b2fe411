import Derived.Test.YtebpgfodelggoabDXp
import Derived.Test.YtebpgfodelggoabC52
import Derived.Test.YtebpgfodelggoabC48
import Derived.Test.YtebpgfodelggoabC53
import Derived.Test.YtebpgfodelggoabC09
/- matcherkeep: chain. (Plain seats alone.) -/
set_option linter.unusedVariables false
set_option linter.unusedSimpArgs false
namespace Go.Proofs.Ytebpgfodelggoab
open Go.RowKit

/-- What stands at the head of a round of chain. -/
def ChainAt (w1 : World) (c : List Mt.Ins) (text : ByteArray) (policy mask room : Int) (R : List Mt.Fnd × Int × Bool) (v u f i : Value) (wr : World) : Prop :=
  ∃ (F frm k : Nat) (used : Int) (l : List Mt.Fnd), i = .int .i64 k ∧ f = .int .i64 frm ∧ u = .int .i64 used ∧ k ≤ frm ∧ frm ≤ text.size + 1 ∧ text.size + 2 ≤ frm + F ∧ l.length ≤ frm ∧ (0 ≤ used ∧ used ≤ 10000 * frm) ∧ (∀ g ∈ l, g.at'.length = 20) ∧ ownFps wr w1.heap.size v l ∧ Below w1.heap.size w1 wr
    ∧ R = Mt.chainR c text policy mask room F frm used l
/-- What chain answers. -/
def ChainOk (T : Nat) (R : List Mt.Fnd × Int × Bool) : Prop := (∀ g ∈ R.1, g.at'.length = 20) ∧ R.1.length ≤ T + 1 ∧ 0 ≤ R.2.1 ∧ R.2.1 ≤ 1000000

set_option maxRecDepth 100000 in
set_option maxHeartbeats 16000000 in
theorem chain_any (p text : ByteArray) (P M Ro : Int) (hm : p.size ≤ maxLen) (ht60 : text.size ≤ 60) (h0 : (Mt.checkR p).1 = 0) (ho : Mt.Opt P M Ro 10000) (R : List Mt.Fnd × Int × Bool) (hR : R = Mt.chainR (Mt.codeR p).1 text P M Ro (text.size + 2) 0 0 []) (V : Array Value) (hV : V = #[.int .i64 P, .int .i64 M, .int .i64 Ro, .int .i64 10000]) (w : World) :
    Calls Try.prog 27 #[.string p, .string text, .agg V] w fun e w' => ∃ v, e = .returned (.tuple #[v, .int .i64 R.2.1, .bool R.2.2]) ∧ ownFps w' w.heap.size v R.1 ∧ ChainOk text.size R ∧ Below w.heap.size w w' := by
  obtain ⟨A, hK⟩ := Mt.pattern_known p h0
  have hr : 0 ≤ Ro ∧ Ro ≤ 5000 := by have := ho.2.2.1; omega
  have KF : Hid (∀ (frm : Nat) (z : World), frm ≤ text.size → Calls Try.prog 11 #[.string p, .string text, .int .i64 (frm : Int), .agg V] z fun e w' => e = .returned (.tuple #[.agg (fpA (if (Mt.searchAll (Mt.codeR p).1 text P M Ro 10000 frm).2 then Mt.fnd0 else (Mt.searchAll (Mt.codeR p).1 text P M Ro 10000 frm).1)), .int .i64 (if (Mt.searchAll (Mt.codeR p).1 text P M Ro 10000 frm).2 then 14 else 0)]) ∧ Below z.heap.size z w') := fun frm z hf => by
    have := Find_any p text frm P M Ro 10000 z hm (by unfold maxLen; omega)
    rw [Mt.findR_ok p text frm P M Ro 10000 h0 ht60 hf ho] at this
    rw [hV]
    cases e : (Mt.searchAll (Mt.codeR p).1 text P M Ro 10000 frm).2
    · rw [e] at this; exact this
    · rw [e] at this; exact this
  have HIn : Hid (∀ (frm : Nat), frm ≤ text.size → (Mt.searchAll (Mt.codeR p).1 text P M Ro 10000 frm).2 = false → Mt.Inside text.size frm (Mt.searchAll (Mt.codeR p).1 text P M Ro 10000 frm).1) := fun frm hf he => Mt.searchAll_inside hK.ok hK.pos text P M Ro 10000 frm hf hr (by omega) he
  have KI : Hid (∀ (frm : Nat) (f : Mt.Fnd) (z : World), frm ≤ text.size → Mt.Inside text.size frm f → Calls Try.prog 22 #[.agg (fpA f), .int .i64 (frm : Int), .int .i64 (text.size : Int)] z fun e w' => e = .returned (.bool true) ∧ Below z.heap.size z w') := fun frm f z hf h => inside_true f text.size frm h ht60 hf z
  have KZ : Hid (∀ (frm : Nat) (z : World), Calls Try.prog 22 #[.agg (fpA Mt.fnd0), .int .i64 (frm : Int), .int .i64 (text.size : Int)] z fun e w' => e = .returned (.bool false) ∧ Below z.heap.size z w') := fun frm z => inside_zero text.size frm z
  have hVs : V.size = 4 := by rw [hV]; rfl
  have HR : Hid (R = Mt.chainR (Mt.codeR p).1 text P M Ro (text.size + 2) 0 0 []) := hR
  have s0 := fpA_size Mt.fnd0 rfl
  have a0 := fpA_all Mt.fnd0
  clear hV hR h0 ho hK hm hr A
  generalize (Mt.codeR p).1 = C at *
  obtain ⟨i0, hi, hz0, hz1, hz2⟩ := info_parts Try.infoFp
  have HIF : Hid (Try.prog.info? 31 = some i0 ∧ i0.zero = some (.agg (fpA Mt.fnd0)) ∧ i0.size = 22 ∧ i0.bytes = 176) := ⟨hi, hz0, hz1, hz2⟩
  clear hi hz0 hz1 hz2
  obtain ⟨w1, hw1⟩ : ∃ w1, w1 = w.alloc (.cells V 23) := ⟨_, rfl⟩
  have T1 : Hid (w1.heap[w.heap.size]? = some (.cells V 23 (0, 0))) := by rw [hw1]; exact heap_b1 _ _
  have HB1 : Hid (Below w.heap.size w w1) := by rw [hw1]; exact (Below.refl _ _).alloc (Nat.le_refl _) _
  have HZ1 : Hid (w1.heap.size = w.heap.size + 1) := by rw [hw1]; show _ = _; simp
  go_enter Try.func27, Try.ntmps27
  go_upto_region 1 with fail
  show Code.wp _ _ _ _ (w.alloc (.cells V 23))
  rw [← hw1]
  clear hw1
  generalize hn : w.heap.size = n at *
  go_wp2_with fail
  go_loopw [9, 10, 11, 12] (fun v u f i wr => ChainAt w1 C text P M Ro R v u f i wr) (fun _ _ f _ _ => text.size + 2 - (intOf f).toNat)
  case atStart => exact ⟨text.size + 2, 0, 0, 0, [], rfl, rfl, rfl, by omega, by omega, by omega, by simp, ⟨by omega, by omega⟩, fun g hg => by simp at hg, World.ownsRow_nil _ _ _ _, Below.refl _ _, HR.out⟩
  case round =>
    clear HR
    obtain ⟨F, frm, k, used, l, rfl, rfl, rfl, hkf, hfr, hF, hll, hus, hl20, hown, hbr, hRa⟩ := hrel
    have HOW : Hid (ownFps wr w1.heap.size u9 l) := hown
    have HBR : Hid (Below w1.heap.size w1 wr) := hbr
    have HRA : Hid (R = Mt.chainR C text P M Ro F frm used l) := hRa
    have HL20 : Hid (∀ g ∈ l, g.at'.length = 20) := hl20
    have TR : Hid (wr.heap[n]? = some (.cells V 23 (0, 0))) := blkHold T1.out hbr (by have := HZ1.out; omega)
    have ln : n < wr.heap.size := (Array.getElem?_eq_some_iff.1 TR.out).1
    have HBW : Hid (Below n w wr) := HB1.out.trans (hbr.mono (by have := HZ1.out; omega))
    have hus0 := hus.1
    have hus1 : used ≤ 610000 := by have := hus.2; omega
    have HUS : Hid (used ≤ 10000 * frm) := hus.2
    clear hown hbr hRa hus hl20
    obtain ⟨F, rfl⟩ : ∃ F', F = F' + 1 := ⟨F - 1, by omega⟩
    by_cases hlt : text.size < frm
    · have HRR : Hid (R = (l, used, true)) := by show _ = _; rw [HRA.out, Mt.chainR, if_pos hlt]
      have d1 : decide ((frm : Int) ≤ (text.size : Int)) = false := by rw [decide_eq_false_iff_not]; omega
      have d2 : decide (frm ≤ text.size) = false := by rw [decide_eq_false_iff_not]; omega
      have HOK : Hid (ChainOk text.size R) := by show ChainOk _ _; rw [HRR.out]; exact ⟨HL20.out, by show l.length ≤ _; omega, hus0, by show used ≤ _; omega⟩
      clear HRA hlt
      by_cases hkT : k ≤ text.size
      · have d3 : decide ((k : Int) ≤ (text.size : Int)) = true := by rw [decide_eq_true_eq]; omega
        have d4 : decide (k ≤ text.size) = true := by rw [decide_eq_true_eq]; omega
        go_wp2_with fail
        go_ret3
        refine ⟨_, by rw [HRR.out]; rfl, by rw [HRR.out]; exact owns_base HOW.out (by have := HZ1.out; omega), HOK.out, by first | exact HBW.out | (rw [hn]; exact HBW.out)⟩
      · have d3 : decide ((k : Int) ≤ (text.size : Int)) = false := by rw [decide_eq_false_iff_not]; omega
        have d4 : decide (k ≤ text.size) = false := by rw [decide_eq_false_iff_not]; omega
        go_wp2_with fail
        go_ret3
        refine ⟨_, by rw [HRR.out]; rfl, by rw [HRR.out]; exact owns_base HOW.out (by have := HZ1.out; omega), HOK.out, by first | exact HBW.out | (rw [hn]; exact HBW.out)⟩
    · have hfT : frm ≤ text.size := by omega
      have d1 : decide ((frm : Int) ≤ (text.size : Int)) = true := by rw [decide_eq_true_eq]; omega
      have d2 : decide (frm ≤ text.size) = true := by rw [decide_eq_true_eq]; omega
      have d3 : decide ((k : Int) ≤ (text.size : Int)) = true := by rw [decide_eq_true_eq]; omega
      have d4 : decide (k ≤ text.size) = true := by rw [decide_eq_true_eq]; omega
      have hRR := HRA.out
      rw [Mt.chainR, if_neg hlt] at hRR
      have hS5 := HIn.out frm hfT
      have hS6 := fun z => KF.out frm z hfT
      generalize Mt.searchAll C text P M Ro 10000 frm = S at *
      have HRR : Hid (R = _) := hRR
      have HI : Hid (S.2 = false → Mt.Inside text.size frm S.1) := hS5
      clear hRR hS5 HRA hlt
      cases ov : S.2
      · have hin := HI.out ov
        have HLn : Hid (S.1.at'.length = 20) := hin.len
        rw [ov] at hS6
        have HS6 : Hid (∀ z : World, Calls Try.prog 11 #[.string p, .string text, .int .i64 (frm : Int), .agg V] z fun e w' => e = .returned (.tuple #[.agg (fpA S.1), .int .i64 0]) ∧ Below z.heap.size z w') := hS6
        have KI2 : Hid (∀ z : World, Calls Try.prog 22 #[.agg (fpA S.1), .int .i64 (frm : Int), .int .i64 (text.size : Int)] z fun e w' => e = .returned (.bool true) ∧ Below z.heap.size z w') := fun z => KI.out frm S.1 z hfT hin
        have zs := fpA_size S.1 HLn.out
        have za := fpA_all S.1
        clear hS6
        go_wp2_with (refine load_blk 23 4 Try.underlying23 rfl Try.sizeOp4 (by rfl) (.tmp 5) (by rfl) n (by rfl) TR.out hVs ?_)
        refine (HS6.out _).mono ?_
        rintro e w3 ⟨rfl, hb3⟩
        have HB3 : Hid (Below wr.heap.size wr w3) := hb3
        clear hb3
        go_upto_region 8 with (refine store_blk 31 22 Try.sizeFd (by rfl) (.tmp 13) (.tmp 34) (by rfl) w3.heap.size (fpA S.1) (by rfl) (by rfl) (by exact heap_b1 _ _) (by rfl) zs za ?_; intro w4 r1 r2 r3 r4)
        have B4 : Below wr.heap.size wr w4 := HB3.out.trans ((((Below.refl _ _).alloc (Nat.le_refl _) _).trans (r4 _ (Nat.le_refl _))).mono HB3.out.size)
        have HB4 : Hid (Below wr.heap.size wr w4) := B4
        have V4 : Hid (w4.heap[w3.heap.size]? = some (.cells (fpA S.1) 31 (0, 0))) := r1
        have HS34 : Hid (wr.heap.size ≤ w3.heap.size) := HB3.out.size
        clear r1 r2 r3 r4 B4 HB3
        generalize hm3 : w3.heap.size = m at *
        go_wp2_with (refine load_blk 31 22 Try.underlying31 rfl Try.sizeFd (by rfl) (.tmp 13) (by rfl) m (by rfl) V4.out zs ?_)
        refine (KI2.out _).mono ?_
        rintro e w5 ⟨rfl, hb5⟩
        have V5 : Hid (w5.heap[m]? = some (.cells (fpA S.1) 31 (0, 0))) := (hb5.block m (Array.getElem?_eq_some_iff.1 V4.out).1).trans V4.out
        have HB5 : Hid (Below wr.heap.size wr w5) := HB4.out.trans (hb5.mono HB4.out.size)
        have e0 : w5.cell? ⟨m, 0, none⟩ = some (.bool S.1.ok) := ((cell_block V5.out).1 _).trans (fpA_ok _)
        have e21 : w5.cell? ⟨m, 21, none⟩ = some (.int .i64 S.1.steps) := ((cell_block V5.out).1 _).trans (fpA_steps _ HLn.out)
        have e1 : w5.cell? ⟨m, 1, none⟩ = some (.int .i64 (S.1.at'.getD 0 0)) := ((cell_block V5.out).1 _).trans (fpA_get _ HLn.out 0 (by omega))
        have e2 : w5.cell? ⟨m, 2, none⟩ = some (.int .i64 (S.1.at'.getD 1 0)) := ((cell_block V5.out).1 _).trans (fpA_get _ HLn.out 1 (by omega))
        have l5 : m < w5.heap.size := (Array.getElem?_eq_some_iff.1 V5.out).1
        clear hb5 V4 HB4
        have hst0 := hin.steps1
        have hst1 := hin.steps2
        cases ok : S.1.ok
        · have HRH : Hid (R = (l, used + S.1.steps, true)) := by show _ = _; rw [HRR.out, ov, ok]; rfl
          rw [ok] at e0
          have HB6 : Hid (Below n w w5) := HBW.out.trans (HB5.out.mono (by omega))
          have O5 : Hid (ownFps w5 w1.heap.size u9 l) := owns_below HOW.out HB5.out
          have HOK : Hid (ChainOk text.size R) := by show ChainOk _ _; rw [HRH.out]; exact ⟨HL20.out, by show l.length ≤ _; omega, by show 0 ≤ used + S.1.steps; omega, by show used + S.1.steps ≤ _; omega⟩
          clear HRR hin e1 e2
          generalize S.1.steps = st at *
          go_wp2_with fail
          go_ret3
          exact ⟨_, by rw [HRH.out]; rfl, by rw [HRH.out]; exact owns_base O5.out (by have := HZ1.out; omega), HOK.out, by first | exact HB6.out | (rw [hn]; exact HB6.out)⟩
        · have HRH : Hid (R = Mt.chainR C text P M Ro F (Mt.nextFrom S.1) (used + S.1.steps) (l ++ [S.1])) := by show _ = _; rw [HRR.out, ov, ok]; rfl
          rw [ok] at e0
          obtain ⟨y1, y2⟩ := hin.yes ok
          obtain ⟨x, y, hx, hy, hxf, hxy, hyT⟩ : ∃ x y : Nat, S.1.at'.getD 0 0 = (x : Int) ∧ S.1.at'.getD 1 0 = (y : Int) ∧ frm ≤ x ∧ x ≤ y ∧ y ≤ text.size := by
            rcases hin.place 0 (by omega) with ⟨q1, _⟩ | ⟨_, q1, q2, q3⟩
            · have q1 : S.1.at'.getD 0 0 = -1 := q1
              omega
            · have q1 : 0 ≤ S.1.at'.getD 0 0 := q1
              have q2 : S.1.at'.getD 0 0 ≤ S.1.at'.getD 1 0 := q2
              have q3 : S.1.at'.getD 1 0 ≤ (text.size : Int) := q3
              exact ⟨(S.1.at'.getD 0 0).toNat, (S.1.at'.getD 1 0).toNat, by omega, by omega, by omega, by omega, by omega⟩
          rw [hx] at e1
          rw [hy] at e2
          have hN : Mt.nextFrom S.1 = if x = y then y + 1 else y := by
            unfold Mt.nextFrom
            rw [hx, hy]
            by_cases e : x = y
            · rw [if_pos (by omega), if_pos e]; simp
            · rw [if_neg (by omega), if_neg e]; simp
          rw [hN] at HRH
          have O5 : Hid (w5.ownsRow w1.heap.size 31 22 u9 l.length (l.flatMap fpL)) := owns_below HOW.out HB5.out
          have HO7 : Hid (∀ k, u9.ownBlock = some k → w1.heap.size ≤ k ∧ k < wr.heap.size) := fun k hk => World.ownsRow.lt HOW.out k hk
          have HFL : Hid ((fpL S.1).length = 1 * 22) := by show _ = _; rw [fpL_len _ HLn.out]
          have hw5 : w1.heap.size ≤ w5.heap.size := by have := HBR.out.size; have := HB5.out.size; omega
          have HLN : Hid (∀ g ∈ l ++ [S.1], g.at'.length = 20) := fun g hg => by
            rcases List.mem_append.1 hg with hg | hg
            · exact HL20.out g hg
            · rw [List.mem_singleton.1 hg]; exact HLn.out
          clear HRR hin hx hy hN y1 y2
          generalize hst' : S.1.steps = st at *
          go_wp2_with (first | (refine load_blk 31 22 Try.underlying31 rfl Try.sizeFd (by rfl) (.tmp 13) (by rfl) m (by rfl) V5.out zs ?_) | (refine wpList_build_fp (by rfl) (.tmp 59) (by rfl) S.1 HLn.out (by rfl) ?_) | (at_builtin; refine wpList_append_lies _ rfl _ _ 60 rfl w1.heap.size 31 i0 _ 22 176 Try.underlying60 HIF.out.1 HIF.out.2.1 HIF.out.2.2.1 HIF.out.2.2.2 rfl (by decide) _ l.length _ rfl (World.ownsRow.alloc O5.out _) ⟨w5.heap.size, 0, none⟩ 1 1 (fpL S.1) rfl HFL.out (news_cells _ _ _) (fpL_one _) (by decide) (by unfold maxLen; omega) (by omega) (by simp; omega) (w5.heap.size + 1) (by simp) ?_))
          intro q' cap' w6 hown6 hgrow hqq hqlt
          have O6 : Hid (ownFps w6 w1.heap.size (.slice (some ⟨q', 0, none⟩) (l.length + 1) cap') (l ++ [S.1])) := own_fps_snoc hown6
          have B6 : Hid (Below w1.heap.size w1 w6) := ((HBR.out.trans (HB5.out.mono HBR.out.size)).alloc (by omega) _).grown hgrow (by simp; omega) (fun k hk => (HO7.out k hk).1)
          have hcell : ∀ j, w6.cell? ⟨m, j, none⟩ = w5.cell? ⟨m, j, none⟩ := fun j => by
            have q1 : w6.heap[m]? = w5.heap[m]? := (hgrow.block m (by simp; omega) (fun e => by have := (HO7.out m e.symm).2; have := HS34.out; omega)).trans (heap_old _ _ _ l5)
            exact cellAt' ⟨m, j, none⟩ q1
          have g1 := (hcell 1).trans e1
          have g2 := (hcell 2).trans e2
          have l6 : m < w6.heap.size := by have := hgrow.size; simp at this; omega
          clear hown6 hgrow hqq hqlt e0 e1 e2 e21 hcell
          by_cases exy : x = y
          · have m1 : ((x : Int) == (y : Int)) = true := by rw [exy]; simp
            rw [if_pos exy] at HRH
            have hxy2 := exy
            have HXY : Hid (x = y) := exy
            clear exy hxy2
            go_wp2_with fail
            go_roundw
            case rel => exact ⟨F, y + 1, k + 1, used + st, l ++ [S.1], by go_num, by go_num, rfl, by have := HXY.out; omega, by omega, by have := HXY.out; omega, by rw [List.length_append]; have := HXY.out; simp; omega, ⟨by omega, by have := HUS.out; have := HXY.out; omega⟩, HLN.out, O6.out, B6.out, HRH.out⟩
            case measure => have := HXY.out; simp [intOf]; omega
          · have m1 : ((x : Int) == (y : Int)) = false := by rw [beq_eq_false_iff_ne]; omega
            rw [if_neg exy] at HRH
            have HXY : Hid (x < y) := by show _ < _; omega
            clear exy
            go_wp2_with fail
            go_roundw
            case rel => exact ⟨F, y, k + 1, used + st, l ++ [S.1], by go_num, rfl, rfl, by have := HXY.out; omega, by omega, by have := HXY.out; omega, by rw [List.length_append]; have := HXY.out; simp; omega, ⟨by omega, by have := HUS.out; have := HXY.out; omega⟩, HLN.out, O6.out, B6.out, HRH.out⟩
            case measure => have := HXY.out; simp [intOf]; omega
      · have HRH : Hid (R = (l, used, false)) := by show _ = _; rw [HRR.out, ov]; rfl
        rw [ov] at hS6
        have HS6 : Hid (∀ z : World, Calls Try.prog 11 #[.string p, .string text, .int .i64 (frm : Int), .agg V] z fun e w' => e = .returned (.tuple #[.agg (fpA Mt.fnd0), .int .i64 14]) ∧ Below z.heap.size z w') := hS6
        have HOK : Hid (ChainOk text.size R) := by show ChainOk _ _; rw [HRH.out]; exact ⟨HL20.out, by show l.length ≤ _; omega, hus0, by show used ≤ _; omega⟩
        clear hS6 HRR HI
        go_wp2_with (refine load_blk 23 4 Try.underlying23 rfl Try.sizeOp4 (by rfl) (.tmp 5) (by rfl) n (by rfl) TR.out hVs ?_)
        refine (HS6.out _).mono ?_
        rintro e w3 ⟨rfl, hb3⟩
        have HB3 : Hid (Below wr.heap.size wr w3) := hb3
        clear hb3
        go_upto_region 8 with (refine store_blk 31 22 Try.sizeFd (by rfl) (.tmp 13) (.tmp 34) (by rfl) w3.heap.size (fpA Mt.fnd0) (by rfl) (by rfl) (by exact heap_b1 _ _) (by rfl) s0 a0 ?_; intro w4 r1 r2 r3 r4)
        have B4 : Below wr.heap.size wr w4 := HB3.out.trans ((((Below.refl _ _).alloc (Nat.le_refl _) _).trans (r4 _ (Nat.le_refl _))).mono HB3.out.size)
        have HB4 : Hid (Below wr.heap.size wr w4) := B4
        have V4 : Hid (w4.heap[w3.heap.size]? = some (.cells (fpA Mt.fnd0) 31 (0, 0))) := r1
        clear r1 r2 r3 r4 B4 HB3
        generalize hm3 : w3.heap.size = m at *
        go_wp2_with (refine load_blk 31 22 Try.underlying31 rfl Try.sizeFd (by rfl) (.tmp 13) (by rfl) m (by rfl) V4.out s0 ?_)
        refine (KZ.out frm _).mono ?_
        rintro e w5 ⟨rfl, hb5⟩
        have HB5 : Hid (Below wr.heap.size wr w5) := HB4.out.trans (hb5.mono HB4.out.size)
        have HB6 : Hid (Below n w w5) := HBW.out.trans (HB5.out.mono (by omega))
        have O5 : Hid (ownFps w5 w1.heap.size u9 l) := owns_below HOW.out HB5.out
        clear hb5
        go_wp2_with fail
        go_ret3
        exact ⟨_, by rw [HRH.out]; rfl, by rw [HRH.out]; exact owns_base O5.out (by have := HZ1.out; omega), HOK.out, by first | exact HB6.out | (rw [hn]; exact HB6.out)⟩
end Go.Proofs.Ytebpgfodelggoab
/- matcher.FindAll. -/
set_option linter.unusedVariables false
set_option linter.unusedSimpArgs false
namespace Go.Proofs.Ytebpgfodelggoab
open Go.RowKit

set_option maxRecDepth 100000 in
set_option maxHeartbeats 8000000 in
theorem FindAll_any (p t : ByteArray) (policy mask room budget : Int) (w : World) (hm : p.size ≤ maxLen) (hmt : t.size ≤ maxLen) :
    Calls Try.prog 26 #[.string p, .string t, .agg #[.int .i64 policy, .int .i64 mask, .int .i64 room, .int .i64 budget]] w fun e w' => ∃ v, e = .returned (.tuple #[v, .int .i64 (Mt.findAllR p t policy mask room budget).2.1, .int .i64 (Mt.findAllR p t policy mask room budget).2.2]) ∧ ownFps w' w.heap.size v (Mt.findAllR p t policy mask room budget).1 ∧ Below w.heap.size w w' := by
  obtain ⟨W1, hW1⟩ : ∃ W1, W1 = w.alloc (.cells #[.int .i64 policy, .int .i64 mask, .int .i64 room, .int .i64 budget] 23) := ⟨_, rfl⟩
  have T1 : Hid (W1.heap[w.heap.size]? = some (.cells #[.int .i64 policy, .int .i64 mask, .int .i64 room, .int .i64 budget] 23 (0, 0))) := by rw [hW1]; exact heap_b1 _ _
  have HB1 : Hid (Below w.heap.size w W1) := by rw [hW1]; exact (Below.refl _ _).alloc (Nat.le_refl _) _
  have HC : Hid (Calls Try.prog 30 #[.string p, .string t, .agg #[.int .i64 policy, .int .i64 mask, .int .i64 room, .int .i64 budget]] W1 fun e w' => ∃ v er, e = .returned (.tuple #[.agg v, .int .i64 er]) ∧ PrepIs p t policy mask room budget W1.heap.size v er w' ∧ Below W1.heap.size W1 w') := prepare_any p t policy mask room budget W1 hm hmt
  have HMF' : Hid (_ ∧ _) := may_find t.size 0 policy mask room budget
  obtain ⟨RR, hRR⟩ : ∃ RR, RR = Mt.findAllR p t policy mask room budget := ⟨_, rfl⟩
  rw [← hRR]
  have HRR : Hid (RR = Mt.findAllR p t policy mask room budget) := hRR
  clear hRR
  go_enter Try.func26, Try.ntmps26
  go_upto_region 1 with fail
  show Code.wp _ _ _ _ (w.alloc (.cells #[.int .i64 policy, .int .i64 mask, .int .i64 room, .int .i64 budget] 23))
  rw [← hW1]
  clear hW1
  generalize hnn : w.heap.size = n at *
  go_wp2_with (refine load_blk 23 4 Try.underlying23 rfl Try.sizeOpt (by rfl) (.tmp 5) (by rfl) n (by rfl) T1.out (by rfl) ?_)
  refine HC.out.mono ?_
  rintro e w3 ⟨v, er, rfl, hPr, hb3⟩
  have HPR : Hid (PrepIs p t policy mask room budget W1.heap.size v er w3) := hPr
  have hvs : v.size = 4 := hPr.1
  have hva : v.all (·.oneCell') = true := hPr.2.1
  have T3 : Hid (w3.heap[n]? = some (.cells #[.int .i64 policy, .int .i64 mask, .int .i64 room, .int .i64 budget] 23 (0, 0))) := (hb3.block n (Array.getElem?_eq_some_iff.1 T1.out).1).trans T1.out
  have HB3 : Hid (Below n w w3) := HB1.out.trans (hb3.mono (Nat.le_of_lt (Array.getElem?_eq_some_iff.1 T1.out).1))
  clear hPr hb3 HC
  go_upto_region 2 with (refine store_blk 72 4 Try.sizeTk (by rfl) (.tmp 9) (.tmp 16) (by rfl) w3.heap.size v (by rfl) (by rfl) (by exact heap_b1 _ _) (by rfl) hvs hva ?_; intro w5 r1 r2 r3 r4)
  have B5 : Below w3.heap.size w3 w5 := ((Below.refl _ _).alloc (Nat.le_refl _) _).trans (r4 _ (Nat.le_refl _))
  have T5 := (B5.block n (Array.getElem?_eq_some_iff.1 T3.out).1).trans T3.out
  have HB5 : Hid (Below n w w5) := HB3.out.trans (B5.mono (Nat.le_of_lt (Array.getElem?_eq_some_iff.1 T3.out).1))
  have o3 : w5.cell? ⟨n, 3, none⟩ = some (.int .i64 budget) := (cell_block T5).1 3
  have l5 : n < w5.heap.size := (Array.getElem?_eq_some_iff.1 T5).1
  have V5 : Hid (w5.heap[w3.heap.size]? = some (.cells v 72 (0, 0))) := r1
  have HKP : Hid (Below w3.heap.size w3 w5) := B5
  clear r1 r2 r3 r4 B5 T5 HB1 HB3
  generalize hm3 : w3.heap.size = m3 at *
  rcases HPR.out.2.2 with ⟨hk, rfl⟩ | ⟨hk, hmp, rfl⟩ | ⟨hk, hmp, rfl, g, cap, q, nq, cq, hv, hci, hri, hnq⟩
  · have HE : Hid (RR = ([], 0, (Mt.codeR p).2)) := by show _ = _; rw [HRR.out]; unfold Mt.findAllR; rw [if_pos hk]
    have hne : ((Mt.codeR p).2 != 0) = true := by simpa using hk
    clear hk
    generalize (Mt.codeR p).2 = er at *
    go_wp2_with fail
    go_ret3
    rw [HE.out]
    exact ⟨_, rfl, World.ownsRow_nil _ _ _ _, by first | exact HB5.out | (rw [hnn]; exact HB5.out)⟩
  · have HE : Hid (RR = ([], 0, mayPrep t.size policy mask room budget)) := by
      show _ = _; rw [HRR.out]; unfold Mt.findAllR; rw [if_neg (by omega), HMF'.out.1 hmp, if_pos hmp]
    have hne : (mayPrep t.size policy mask room budget != 0) = true := by simpa using hmp
    clear hk hmp
    generalize mayPrep t.size policy mask room budget = er at *
    go_wp2_with fail
    go_ret3
    rw [HE.out]
    exact ⟨_, rfl, World.ownsRow_nil _ _ _ _, by first | exact HB5.out | (rw [hnn]; exact HB5.out)⟩
  · have h0 := (HMF'.out.2 hmp).1 ⟨by omega, by omega⟩
    obtain ⟨ht60, hrm, hbd⟩ := prep_in hmp
    obtain ⟨A, hK⟩ := Mt.pattern_known p (codeR_check p hk)
    have hTC := env_tab p t policy mask hk A hK ht60
    obtain ⟨S, hS⟩ : ∃ S, S = Mt.allFrom (Mt.codeR p).1 t policy mask room budget (t.size + 2) 0 0 [] := ⟨_, rfl⟩
    have HE : Hid (RR = S) := by show _ = _; rw [HRR.out]; unfold Mt.findAllR; rw [if_neg (by omega), h0, if_neg (by omega), ← hS]
    have hB35 := HKP.out
    have HSR : Hid (Calls Try.prog 41 #[.agg v, .int .i64 budget] w5 fun e w' => ∃ u, e = .returned (.tuple #[u, .int .i64 S.2.1, .int .i64 S.2.2]) ∧ ownFps w' w5.heap.size u S.1 ∧ Below w5.heap.size w5 w') := by
      rw [hv]
      exact SearchAll_any (Mt.envOf (Mt.codeR p).1 t policy mask) A hTC hK (fun q hq => env_ar _ t policy mask q hq) policy mask rfl g cap q nq cq room budget hrm hbd ht60 w5 ((hci.below (by rw [hm3]; exact hB35)).base (Nat.zero_le _)) (owns_base (hri.below (by rw [hm3]; exact hB35)) (Nat.zero_le _)) hnq S hS
    have hz0 : ((0 : Int) != 0) = false := rfl
    clear hv hci hri hnq hTC hK hS h0 hmp hk hB35
    go_wp2_with (refine load_blk 72 4 Try.underlying72 rfl Try.sizeTk (by rfl) (.tmp 9) (by rfl) m3 (by rfl) V5.out hvs ?_)
    refine HSR.out.mono ?_
    rintro e w7 ⟨u, rfl, ho7, hb7⟩
    have HO7 : Hid (ownFps w7 n u S.1) := owns_base ho7 (by omega)
    have HB7 : Hid (Below n w w7) := HB5.out.trans (hb7.mono (by omega))
    clear hb7 ho7 o3
    go_wp2_with fail
    go_ret3
    rw [HE.out]
    exact ⟨_, rfl, by first | exact HO7.out | (rw [hnn]; exact HO7.out), by first | exact HB7.out | (rw [hnn]; exact HB7.out)⟩
end Go.Proofs.Ytebpgfodelggoab
/- matcherkeep: Chained. (Plain seats alone.) -/
set_option linter.unusedVariables false
set_option linter.unusedSimpArgs false
namespace Go.Proofs.Ytebpgfodelggoab
open Go.RowKit

theorem fps_nil {w : World} {base : Nat} {v : Value} (h : ownFps w base v []) : ∃ ao cap, v = .slice ao 0 cap := by
  rcases fps_cases h (fun f hf => by simp at hf) with ⟨_, h⟩ | ⟨h, _⟩
  · exact h
  · simp at h
theorem fps_set {w : World} {n o : Nat} {v u : Value} {l : List Mt.Fnd} (h : ownFps w (n + 1) v l) : ownFps (w.setCell ⟨n, o, none⟩ u) (n + 1) v l := by
  unfold ownFps at h ⊢
  refine ⟨h.1, ?_⟩
  rcases h.2 with h' | ⟨g, cap, cur, rfl, h0, hg, rest⟩
  · exact .inl h'
  · exact .inr ⟨g, cap, cur, rfl, h0, (Below.heap_setCell _ _ _ _ (by show g ≠ n; omega)).trans hg, rest⟩
set_option maxRecDepth 100000 in
set_option maxHeartbeats 16000000 in
theorem Chained_any (p t : ByteArray) (P M R B : Int) (w : World) (hm : p.size ≤ maxLen) (hmt : t.size ≤ maxLen) (hP : I64 P) (hM : I64 M) (hR : I64 R) (hB : I64 B) :
    Calls Try.prog 7 #[.string p, .string t, .agg #[.int .i64 P, .int .i64 M, .int .i64 R, .int .i64 B]] w fun e w' => e = .returned (.bool true) ∧ Below w.heap.size w w' := by
  have hs := someB_size t 60
  have K0 : Hid (∀ z : World, Calls Try.prog 8 #[.string t, .int .i64 60] z fun e w' => e = .returned (.string (someB t 60)) ∧ z = w') := fun z => some_any t 60 z hmt (by omega)
  generalize hX : someB t 60 = X at *
  have hXm : X.size ≤ maxLen := by unfold maxLen; omega
  have K2 : Hid (∀ z : World, Calls Try.prog 9 #[.int .i64 B, .int .i64 10001] z fun e w' => e = .returned (.int .i64 (pickI B 10001)) ∧ z = w') := fun z => kpick_any B 10001 z hB (by omega) (by omega)
  have K3 : Hid (∀ z : World, Calls Try.prog 10 #[.string p] z fun e w' => e = .returned (.tuple #[.int .i64 (Mt.checkR p).1, .bool true]) ∧ Below z.heap.size z w') := fun z => checked_any p z hm
  have K4 : Hid (∀ z : World, Calls Try.prog 12 #[.int .i64 P, .int .i64 M, .int .i64 R] z fun e w' => e = .returned (.agg #[.int .i64 (pickI P 5), .int .i64 (pickI M 4294967296), .int .i64 (pickI R 5001), .int .i64 10000]) ∧ Below z.heap.size z w') := fun z => kset_any P M R z hP hM hR
  have hopt := pick_opt P M R
  have hbi := pickI_in B 10001 (by omega)
  generalize pickI P 5 = P' at *
  generalize pickI M 4294967296 = M' at *
  generalize pickI R 5001 = R' at *
  generalize pickI B 10001 = b at *
  obtain ⟨SA, hSA⟩ : ∃ SA : Array Value, SA = #[.int .i64 P', .int .i64 M', .int .i64 R', .int .i64 10000] := ⟨_, rfl⟩
  rw [← hSA] at K4
  have hsa : SA.size = 4 := by rw [hSA]; rfl
  have hsl : SA.all (·.oneCell') = true := by rw [hSA]; kernel_rfl
  have HSB : Hid (SA.setIfInBounds 3 (.int .i64 b) = #[.int .i64 P', .int .i64 M', .int .i64 R', .int .i64 b]) := by show _ = _; rw [hSA]; rfl
  have HS3 : Hid (SA[3]? = some (.int .i64 10000)) := by show _ = _; rw [hSA]; rfl
  have KA : Hid (∀ z : World, Calls Try.prog 26 #[.string p, .string X, .agg SA] z fun e w' => ∃ v, e = .returned (.tuple #[v, .int .i64 (Mt.findAllR p X P' M' R' 10000).2.1, .int .i64 (Mt.findAllR p X P' M' R' 10000).2.2]) ∧ ownFps w' z.heap.size v (Mt.findAllR p X P' M' R' 10000).1 ∧ Below z.heap.size z w') := fun z => by rw [hSA]; exact FindAll_any p X P' M' R' 10000 z hm hXm
  have KB : Hid (∀ z : World, Calls Try.prog 26 #[.string p, .string X, .agg #[.int .i64 P', .int .i64 M', .int .i64 R', .int .i64 b]] z fun e w' => ∃ v, e = .returned (.tuple #[v, .int .i64 (Mt.findAllR p X P' M' R' b).2.1, .int .i64 (Mt.findAllR p X P' M' R' b).2.2]) ∧ ownFps w' z.heap.size v (Mt.findAllR p X P' M' R' b).1 ∧ Below z.heap.size z w') := fun z => FindAll_any p X P' M' R' b z hm hXm
  have HER : Hid ((Mt.checkR p).1 ≠ 0 → Mt.findAllR p X P' M' R' 10000 = ([], 0, (Mt.checkR p).1)) := fun h => Mt.findAllR_err p X P' M' R' 10000 h
  obtain ⟨CR, hCR⟩ : ∃ CR, CR = Mt.chainR (Mt.codeR p).1 X P' M' R' (X.size + 2) 0 0 [] := ⟨_, rfl⟩
  have KC : Hid ((Mt.checkR p).1 = 0 → ∀ z : World, Calls Try.prog 27 #[.string p, .string X, .agg SA] z fun e w' => ∃ v, e = .returned (.tuple #[v, .int .i64 CR.2.1, .bool CR.2.2]) ∧ ownFps w' z.heap.size v CR.1 ∧ ChainOk X.size CR ∧ Below z.heap.size z w') := fun h z => chain_any p X P' M' R' hm hs.1 h hopt CR hCR SA hSA z
  have HOK : Hid ((Mt.checkR p).1 = 0 → ∀ c, 0 ≤ c ∧ c ≤ 10000 → Mt.findAllR p X P' M' R' c = if CR.2.2 = true ∧ CR.2.1 ≤ c then (CR.1, CR.2.1, 0) else ([], 0, 14)) := fun h c hc => by
    obtain ⟨A, hK⟩ := Mt.pattern_known p h
    rw [hCR]
    exact Mt.findAllR_ok p X P' M' R' c h hK.ok hK.pos hs.1 ⟨hopt.1, hopt.2.1, hopt.2.2.1, hc.1, hc.2⟩
  have hX60 := hs.1
  have HBI : Hid (0 ≤ b ∧ b ≤ 10000) := ⟨hbi.1, by omega⟩
  clear hm hmt hP hM hR hB hs hXm hopt hbi hSA hCR
  have KS : Hid (∀ (va vb : Value) (z : World), ChainOk X.size CR → ownFps z 0 va CR.1 → ownFps z 0 vb CR.1 → Calls Try.prog 28 #[va, vb] z fun e w' => e = .returned (.bool true) ∧ Below z.heap.size z w') := fun va vb z hc ha hb => sameAll_true CR.1 hc.1 va vb z ha hb (by have := hc.2.1; omega)
  generalize hG : Mt.findAllR p X P' M' R' 10000 = G at *
  generalize hGb : Mt.findAllR p X P' M' R' b = Gb at *
  have HG : Hid ((Mt.checkR p).1 = 0 → G = if CR.2.2 = true ∧ CR.2.1 ≤ 10000 then (CR.1, CR.2.1, 0) else ([], 0, 14)) := fun h => by rw [← hG]; exact HOK.out h 10000 (by omega)
  have HGb : Hid ((Mt.checkR p).1 = 0 → Gb = if CR.2.2 = true ∧ CR.2.1 ≤ b then (CR.1, CR.2.1, 0) else ([], 0, 14)) := fun h => by rw [← hGb]; exact HOK.out h b HBI.out
  clear hG hGb HOK
  generalize (Mt.checkR p).1 = E at *
  obtain ⟨z, hz⟩ : ∃ z, z = w.alloc (.cells #[.int .i64 P, .int .i64 M, .int .i64 R, .int .i64 B] 23) := ⟨_, rfl⟩
  have T1 : Hid (z.heap[w.heap.size]? = some (.cells #[.int .i64 P, .int .i64 M, .int .i64 R, .int .i64 B] 23 (0, 0))) := by rw [hz]; exact heap_b1 _ _
  have HB0 : Hid (Below w.heap.size w z) := by rw [hz]; exact (Below.refl _ _).alloc (Nat.le_refl _) _
  go_enter Try.func7, Try.ntmps7
  go_upto_region 1 with fail
  show Code.wp _ _ _ _ (w.alloc (.cells #[.int .i64 P, .int .i64 M, .int .i64 R, .int .i64 B] 23))
  rw [← hz]
  clear hz
  generalize hn : w.heap.size = n at *
  have c3 : z.cell? ⟨n, 3, none⟩ = some (.int .i64 B) := (cell_block T1.out).1 3
  have hlz : n < z.heap.size := blkLt T1.out
  go_wp2_with fail
  refine (K0.out _).mono ?_
  rintro e w' ⟨rfl, rfl⟩
  go_wp2_with fail
  refine (K2.out _).mono ?_
  rintro e w' ⟨rfl, rfl⟩
  go_wp2_with fail
  refine (K3.out _).mono ?_
  rintro e w1 ⟨rfl, hb1⟩
  have T2 : Hid _ := blkKeep T1.out hb1
  have c0 : w1.cell? ⟨n, 0, none⟩ = some (.int .i64 P) := (cell_block T2.out).1 0
  have c1 : w1.cell? ⟨n, 1, none⟩ = some (.int .i64 M) := (cell_block T2.out).1 1
  have c2 : w1.cell? ⟨n, 2, none⟩ = some (.int .i64 R) := (cell_block T2.out).1 2
  have hl1 : n < w1.heap.size := blkLt T2.out
  have HB1 : Hid (Below n w w1) := HB0.out.trans (hb1.mono (Nat.le_of_lt hlz))
  clear hb1 c3 hlz T1 HB0
  go_wp2_with fail
  refine (K4.out _).mono ?_
  rintro e w2 ⟨rfl, hb2⟩
  have T3 : Hid _ := blkKeep T2.out hb2
  have HB2 : Hid (Below n w w2) := HB1.out.trans (hb2.mono (Nat.le_of_lt (blkLt T2.out)))
  clear hb2 c0 c1 c2 hl1 T2 HB1
  go_upto_region 5 with (refine store_blk 23 4 Try.sizeOp4 (by rfl) (.tmp 5) (.tmp 34) (by rfl) n SA (by rfl) (by rfl) T3.out (by rfl) hsa hsl ?_; intro w3 s1 s2 s3 s4)
  have T4 : Hid (w3.heap[n]? = some (.cells SA 23 (0, 0))) := s1
  have HB3 : Hid (Below n w w3) := HB2.out.trans (s4 n (Nat.le_refl _))
  clear s1 s2 s3 s4 T3 HB2
  go_wp2_with (refine load_blk 23 4 Try.underlying23 rfl Try.sizeOp4 (by rfl) (.tmp 5) (by rfl) n (by rfl) T4.out hsa ?_)
  refine (KA.out _).mono ?_
  rintro e w4 ⟨va, rfl, oa, hb4⟩
  have T5 : Hid _ := blkKeep T4.out hb4
  have OA4 : Hid (ownFps w4 0 va G.1) := owns_base oa (Nat.zero_le _)
  have HB4 : Hid (Below n w w4) := HB3.out.trans (hb4.mono (Nat.le_of_lt (blkLt T4.out)))
  clear hb4 oa T4 HB3
  go_wp2_with fail
  refine (works_any _).mono ?_
  rintro e w5 ⟨rfl, hb5⟩
  have T6 : Hid _ := blkKeep T5.out hb5
  have OA5 : Hid (ownFps w5 0 va G.1) := owns_below OA4.out hb5
  have HB5 : Hid (Below n w w5) := HB4.out.trans (hb5.mono (Nat.le_of_lt (blkLt T5.out)))
  clear hb5 T5 HB4 OA4
  by_cases hE : E = 0
  · have m0 : (E != 0) = false := by simpa using hE
    have KC2 : Hid (∀ z : World, Calls Try.prog 27 #[.string p, .string X, .agg SA] z fun e w' => ∃ v, e = .returned (.tuple #[v, .int .i64 CR.2.1, .bool CR.2.2]) ∧ ownFps w' z.heap.size v CR.1 ∧ ChainOk X.size CR ∧ Below z.heap.size z w') := KC.out hE
    have hG := HG.out hE
    have hGb := HGb.out hE
    have HG2 : Hid (G = _) := hG
    have HGb2 : Hid (Gb = _) := hGb
    clear hE KC HG HGb HER hG hGb
    go_wp2_with (refine load_blk 23 4 Try.underlying23 rfl Try.sizeOp4 (by rfl) (.tmp 5) (by rfl) n (by rfl) T6.out hsa ?_)
    refine (KC2.out _).mono ?_
    rintro e w6 ⟨vc, rfl, oc, hok, hb6⟩
    have T7 : Hid _ := blkKeep T6.out hb6
    have OA6 : Hid (ownFps w6 0 va G.1) := owns_below OA5.out hb6
    have OC6 : Hid (ownFps w6 (n + 1) vc CR.1) := owns_base oc (blkLt T6.out)
    have HOK : Hid (ChainOk X.size CR) := hok
    have HB6 : Hid (Below n w w6) := HB5.out.trans (hb6.mono (Nat.le_of_lt (blkLt T6.out)))
    clear hb6 oc T6 HB5 OA5 hok KC2
    by_cases hgood : CR.2.2 = true ∧ CR.2.1 ≤ 10000
    · have hG := HG2.out
      rw [if_pos hgood] at hG
      obtain ⟨g1, g2⟩ := hgood
      have d1 : decide (10000 < CR.2.1) = false := by rw [decide_eq_false_iff_not]; omega
      rw [hG] at OA6 ⊢
      rw [g1]
      clear hG HG2
      dsimp only at OA6 ⊢
      generalize hk : CR.2.1 = k at *
      go_wp2_with fail
      refine (KS.out va vc _ HOK.out OA6.out (owns_base OC6.out (Nat.zero_le _))).mono ?_
      rintro e w7 ⟨rfl, hb7⟩
      have T8 : Hid _ := blkKeep T7.out hb7
      have OC7 : Hid (ownFps w7 (n + 1) vc CR.1) := owns_below OC6.out hb7
      have HB7 : Hid (Below n w w7) := HB6.out.trans (hb7.mono (Nat.le_of_lt (blkLt T7.out)))
      clear hb7 T7 HB6 OA6 OC6
      have kk : (k != k) = false := by simp
      have c3 : w7.cell? ⟨n, 3, none⟩ = some (.int .i64 10000) := ((cell_block T8.out).1 3).trans HS3.out
      have f3 : w7.frozen? ⟨n, 3, none⟩ = false := (cell_block T8.out).2 3
      go_upto_region 18 with fail
      obtain ⟨w8, hz8⟩ : ∃ w8, w8 = w7.setCell ⟨n, 3, none⟩ (.int .i64 b) := ⟨_, rfl⟩
      have T9 : Hid (w8.heap[n]? = some (.cells #[.int .i64 P', .int .i64 M', .int .i64 R', .int .i64 b] 23 (0, 0))) := by show _ = _; rw [hz8, ← HSB.out]; exact Go.heap_setCell_same w7 n 3 _ _ _ T8.out
      have HB8 : Hid (Below n w w8) := by show Below _ _ _; rw [hz8]; exact HB7.out.trans ((below_setCells n [.int .i64 b] 3 w7 n (Nat.le_refl _)).1)
      have OC8 : Hid (ownFps w8 (n + 1) vc CR.1) := by show ownFps _ _ _ _; rw [hz8]; exact fps_set OC7.out
      rw [← hz8]
      clear hz8 T8 HB7 OC7 c3 f3
      go_wp2_with (refine load_blk 23 4 Try.underlying23 rfl Try.sizeOp4 (by rfl) (.tmp 5) (by rfl) n (by rfl) T9.out (by rfl) ?_)
      refine (KB.out _).mono ?_
      rintro e w9 ⟨vd, rfl, od, hb9⟩
      have OC9 : Hid (ownFps w9 (n + 1) vc CR.1) := owns_below OC8.out hb9
      have OD9 : Hid (ownFps w9 0 vd Gb.1) := owns_base od (Nat.zero_le _)
      have HB9 : Hid (Below n w w9) := HB8.out.trans (hb9.mono (Nat.le_of_lt (blkLt T9.out)))
      have HN9 : Hid (n < w9.heap.size) := Nat.lt_of_lt_of_le (blkLt T9.out) hb9.size
      clear hb9 od T9 HB8 OC8
      have hGb := HGb2.out
      by_cases hkb : k ≤ b
      · rw [if_pos ⟨g1, hkb⟩] at hGb
        rw [hGb] at OD9 ⊢
        have d2 : decide (b < k) = false := by rw [decide_eq_false_iff_not]; omega
        clear hGb HGb2 hkb
        dsimp only at OD9 ⊢
        have kk2 : (k == k) = true := by simp
        go_wp2_with fail
        refine (KS.out vd vc _ HOK.out OD9.out (owns_base OC9.out (Nat.zero_le _))).mono ?_
        rintro e w10 ⟨rfl, hb10⟩
        have HB10 : Hid (Below n w w10) := HB9.out.trans (hb10.mono (Nat.le_of_lt HN9.out))
        clear hb10
        go_wp2_with fail
        go_ret
        exact ⟨rfl, by rw [hn]; exact HB10.out⟩
      · rw [if_neg (fun h => hkb h.2)] at hGb
        rw [hGb] at OD9 ⊢
        have d2 : decide (b < k) = true := by rw [decide_eq_true_eq]; omega
        clear hGb HGb2 hkb
        dsimp only at OD9 ⊢
        obtain ⟨ao, cap, rfl⟩ := fps_nil OD9.out
        go_wp2_with fail
        go_ret
        exact ⟨rfl, by rw [hn]; exact HB9.out⟩
    · have hG := HG2.out
      rw [if_neg hgood] at hG
      rw [hG] at OA6 ⊢
      clear hG HG2
      dsimp only at OA6 ⊢
      obtain ⟨ao, cap, rfl⟩ := fps_nil OA6.out
      cases hin : CR.2.2
      · clear hgood
        go_wp2_with fail
        go_ret
        exact ⟨rfl, by rw [hn]; exact HB6.out⟩
      · have d1 : decide (10000 < CR.2.1) = true := by rw [decide_eq_true_eq]; have : ¬ CR.2.1 ≤ 10000 := fun h => hgood ⟨hin, h⟩; omega
        clear hgood
        generalize CR.2.1 = k at *
        go_wp2_with fail
        go_ret
        exact ⟨rfl, by rw [hn]; exact HB6.out⟩
  · have m0 : (E != 0) = true := by simpa using hE
    have m1 : (E == E) = true := by simp
    have hG := HER.out hE
    clear hE HER HG HGb KC
    rw [hG] at OA5 ⊢
    clear hG
    dsimp only at OA5 ⊢
    obtain ⟨ao, cap, rfl⟩ := fps_nil OA5.out
    go_wp2_with fail
    go_ret
    exact ⟨rfl, by rw [hn]; exact HB5.out⟩
end Go.Proofs.Ytebpgfodelggoab
/- The law Chained: P11. (Plain seats alone.) -/
set_option linter.unusedVariables false
namespace Go.Proofs.Ytebpgfodelggoab
open Go.ChangeShapes Go.WideShapes Go.ChangeAt Go.RowKit Go.ChangeMaps

set_option maxRecDepth 100000 in
theorem chained_contract (H : Type) (enc : TypeId × Value → H) (W : World) (base : Nat) (args : Array Value) (ds gs : List (DataW H)) (before : List MemPlace)
    (hval : ∀ (j : Nat) t v, Try.f7.params[j]? = some t → args[j]? = some v → Value.okWide Try.prog W .any base t v)
    (hW : DataW.Whole enc Try.prog Try.f7.params.toList Rows.chainedSpec.vars false W args.toList ds gs before) :
    Calls Try.prog 7 args W fun e W' => ∃ v, e = .returned v ∧ Rows.chainedSpec.post enc Try.prog Try.f7 false true false false W args v W' := by
  have hW' := hW
  obtain ⟨p, q, hA0, hV, rfl, hfz, hnd⟩ := hW
  have hA : DataW.TrodAll enc Try.prog W 0 (fun _ => true) true Try.f7.params.toList args.toList ds p := hA0
  rw [Try.params7] at hA hval
  obtain ⟨v0, v1, v2, d0, d1, d2, p0, p1, p2, rfl, rfl, rfl, h0, h1, h2⟩ := trodAll_three hA
  obtain ⟨rfl, rfl⟩ := trodVars_none hV
  obtain ⟨x0, rfl, rfl, rfl, g0⟩ := open_string Try.underlying9 (hval 0 9 v0 rfl rfl) h0
  obtain ⟨x1, rfl, rfl, rfl, g1⟩ := open_string Try.underlying9 (hval 1 9 v1 rfl rfl) h1
  obtain ⟨a2, b2, c2, e2, rfl, rfl, rfl, g2⟩ := opt_open (hval 2 23 v2 rfl rfl) h2
  clear hA0
  simp only [List.append_nil] at hW'
  refine (Chained_any x0 x1 a2 b2 c2 e2 W g0 g1 (wf_i64 g2.1) (wf_i64 g2.2.1) (wf_i64 g2.2.2.1) (wf_i64 g2.2.2.2)).mono fun e W' ⟨he, hb⟩ => ?_
  subst he
  exact ⟨_, rfl, post_below (pa := []) (pv := []) hW' (fun _ _ _ => trodAll_cons_mk (shut_bool Try.underlying4 _) trodAll_mk0) (fun sp hsp => trodAll_cons_mk (shut_string Try.underlying9 g0) (trodAll_cons_mk (shut_string Try.underlying9 g1) (trodAll_cons_mk (opt_shut g2) trodAll_mk0))) (fun _ _ => rfl) rfl hb (ok_one (by kernel_rfl) rfl (okWide_bool_mk Try.underlying4 _))⟩

set_option maxRecDepth 100000 in
theorem chained_lifted (os : Os) (started : os.Started) (H : Type) (enc : TypeId × Value → H) :
    ReturnsInHanded {} Try.checked os 7 .any (Rows.chainedSpec.pre6 enc Try.prog Try.f7 Rows.chainedRow.domain false) (Rows.chainedSpec.post enc Try.prog Try.f7 false true false false) := by
  refine returnsInHanded_of_change (C := Try.checked) Try.ownK started (by kernel_rfl) Try.func7
    (ChangeSpec.witness6 (enc := enc) (C := Try.checked) false ⟨#[], #[.string ⟨#[]⟩, .string ⟨#[]⟩, .agg #[.int .i64 0, .int .i64 0, .int .i64 0, .int .i64 0]], []⟩ 8 (by kernel_rfl) (by kernel_rfl) (by kernel_rfl) (by kernel_rfl)) ?_
  intro W base args ds gs before hval hW _ _
  exact chained_contract H enc W base args ds gs before hval hW

theorem chained_holds : Rows.ChainedSaid :=
  OpenClaim.holds_of_wide 7 Try.f7 rfl rfl rfl rfl rfl rfl rfl ⟨rfl, rfl, rfl, rfl, rfl⟩ rfl rfl rfl rfl rfl (by kernel_rfl) Try.func7 (by kernel_rfl)
    (of_decide_eq_true (by kernel_rfl)) (by unfold Func.isWrapper; first | (rw [if_pos (by decide +kernel)]; kernel_rfl) | (rw [if_neg (by decide +kernel)]; exact ⟨rfl, rfl⟩))
    (fun os started H enc _ => chained_lifted os started H enc)
end Go.Proofs.Ytebpgfodelggoab
