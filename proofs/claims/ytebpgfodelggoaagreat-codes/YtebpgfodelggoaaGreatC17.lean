import Derived.Test.YtebpgfodelggoaaGreatC16
set_option linter.unusedVariables false
set_option linter.unusedSimpArgs false
namespace Go.Proofs.YtebpgfodelggoaaGreat
open Go.RowKit

/-- The slice v holds the bools. -/
def ownBools (w : World) (base : Nat) (v : Value) (b : List Bool) : Prop := w.ownsRow base 4 1 v b.length (b.map Value.bool)
theorem ownBools.below {w w' : World} {base : Nat} {v : Value} {l : List Bool} (h : ownBools w base v l) (hb : Below w.heap.size w w') : ownBools w' base v l := owns_below h hb
theorem Tryz.info4 : (Tryz.prog.info? 4).map (fun i => (i.zero, i.size, i.bytes)) = some (some (.bool false), 1, 1) := by kernel_rfl
theorem made_bools {w : World} {base : Nat} {v : Value} {n : Nat} (h : w.ownsRow base 4 1 v n (madeCells (Value.bool false).cells (n * 1)).toList) : ownBools w base v (List.replicate n false) := by
  unfold ownBools
  rw [List.length_replicate, List.map_replicate]
  have e : (madeCells (Value.bool false).cells (n * 1)).toList = List.replicate n (Value.bool false) := by
    rw [Nat.mul_one]; exact toList_madeCells_one _ _
  rw [e] at h; exact h

/-- What stands in the list when the first k are reckoned. -/
def halfC (c : List Mt.Ins) (policy mask : Int) (k : Nat) : List Bool := (List.range k).map (Mt.chosenAt c policy mask) ++ List.replicate (c.length - k) false
theorem halfC_len (c : List Mt.Ins) (policy mask : Int) (k : Nat) (h : k ≤ c.length) : (halfC c policy mask k).length = c.length := by simp [halfC]; omega
theorem halfC_next (c : List Mt.Ins) (policy mask : Int) (k : Nat) (h : k < c.length) : halfC c policy mask (k + 1) = (halfC c policy mask k).set k (Mt.chosenAt c policy mask k) := by
  unfold halfC
  rw [show c.length - k = (c.length - (k + 1)) + 1 by omega, List.replicate_succ, List.set_append_right _ _ (by simp), List.range_succ]
  simp
theorem halfC_stay (c : List Mt.Ins) (policy mask : Int) (k : Nat) (h : k < c.length) (hc : Mt.chosenAt c policy mask k = false) : halfC c policy mask (k + 1) = halfC c policy mask k := by
  unfold halfC
  rw [show c.length - k = (c.length - (k + 1)) + 1 by omega, List.replicate_succ, List.range_succ, List.map_append, List.append_assoc]
  simp [hc]
theorem back_any {c : List Mt.Ins} {k : Nat} (h : k < c.length) (h8 : (c.getD k Mt.ins0).op = 8) : Mt.hasBack c = true := by
  have := Mt.any_of_take c (fun i => decide (i.op = 8)) k c.length h (Nat.le_refl _) (by simpa using h8)
  rwa [List.take_length] at this

set_option maxRecDepth 100000 in
set_option maxHeartbeats 2000000 in
theorem chosen_any (c : List Mt.Ins) (policy mask : Int) (base : Nat) (v : Value) (w : World) (h : ownIns w base v c) (hl : c.length ≤ 300) (hm0 : 0 ≤ mask) (hm1 : mask ≤ 4294967295) :
    Calls Tryz.prog 45 #[v, .int .i64 policy, .int .i64 mask] w fun e w' => ∃ v', e = .returned v' ∧ ownBools w' w.heap.size v' (Mt.chosen c policy mask) ∧ Below w.heap.size w w' := by
  obtain ⟨i0, hi, hz0, hz1, hz2⟩ := info_parts Tryz.info4
  have HI : Hid (ownIns w base v c) := h
  obtain ⟨ao, cap, rfl⟩ := len_val h
  go_enter Tryz.func45, Tryz.ntmps45
  go_wp2_with (first | (at_make; refine wpList_make_full _ rfl (.tmp 11) (.tmp 11) 53 rfl w.heap.size 4 i0 (.bool false) 1 Tryz.underlying53 hi hz0 hz1 .i64 .i64 _ _ c.length rfl rfl rfl rfl (by rw [hz2]; omega) (by unfold maxLen; omega) (Nat.le_refl _) ?_; intro w1 hmk hgr; clear h))
  have hB1 : Below w.heap.size w w1 := (Below.refl _ _).grown hgr (Nat.le_refl _) (fun q hq => by simp at hq)
  have HM : Hid (ownBools w1 w.heap.size (.slice (some ⟨w.heap.size, 0, none⟩) c.length c.length) (List.replicate c.length false)) := made_bools hmk
  clear hmk hgr
  go_loopw [8] (fun i wr => ∃ k : Nat, k ≤ c.length ∧ i = .int .i64 k ∧ ownBools wr w.heap.size (.slice (some ⟨w.heap.size, 0, none⟩) c.length c.length) (halfC c policy mask k) ∧ Below w.heap.size w wr ∧ (c.take k).any (fun i => decide (i.op = 8)) = false) (fun i _ => c.length - (intOf i).toNat)
  case atStart => exact ⟨0, Nat.zero_le _, rfl, HM.out, hB1, rfl⟩
  case round =>
    obtain ⟨k, hk, rfl, hown, hbel, hr⟩ := hrel
    have HR : Hid ((c.take k).any (fun i => decide (i.op = 8)) = false) := hr
    have HO : Hid (ownBools wr w.heap.size (.slice (some ⟨w.heap.size, 0, none⟩) c.length c.length) (halfC c policy mask k)) := hown
    have hsz := hbel.size
    have HIr : Hid (ownIns wr base (.slice ao c.length cap) c) := HI.out.below hbel
    clear hr hown HM
    by_cases hlt : k < c.length
    · rcases ins_cases HIr.out with ⟨hn, _⟩ | ⟨hpos, g, cap', hv, hcap, hg, hgb, hc⟩
      · rw [hn] at hlt; simp at hlt
      · simp only [Value.slice.injEq, true_and] at hv
        obtain ⟨rfl, rfl⟩ := hv
        have hc0 : wr.cell? ⟨g, k * 4, none⟩ = some (.int .i64 (c.getD k Mt.ins0).op) := hc k 0 hlt (by omega)
        have HN : Hid ((c.take (k + 1)).any (fun i => decide (i.op = 8)) = ((c.take k).any (fun i => decide (i.op = 8)) || decide ((c.getD k Mt.ins0).op = 8))) := Mt.any_take c _ k hlt
        have HB : Hid ((c.getD k Mt.ins0).op = 8 → Mt.hasBack c = true) := fun x => back_any hlt x
        generalize hopv : (c.getD k Mt.ins0).op = o at *
        clear hopv hc
        cases h8 : (o == 8)
        · have HR2 : Hid ((c.take (k + 1)).any (fun i => decide (i.op = 8)) = false) := by
            have h8' : ¬ o = 8 := by simpa using h8
            show _ = _; rw [HN.out, HR.out]; simpa using h8'
          clear HN HB HR
          have HS : Hid (∀ b, Mt.inSub c k = b → Calls Tryz.prog 73 #[.slice (some ⟨g, 0, none⟩) c.length cap, .int .i64 k] wr fun e w' => e = .returned (.bool b) ∧ wr = w') := fun b hb => by rw [← hb]; exact inSub_any c k base _ wr HIr.out hlt hl
          cases hs : Mt.inSub c k
          · have HCA : Hid (Mt.chosenAt c policy mask k = Mt.picked c k policy mask) := by show _ = _; unfold Mt.chosenAt; rw [hs]; rfl
            have HSS : Hid (Mt.inSub c k = false) := hs
            clear hs
            have HPK : Hid (Calls Tryz.prog 74 #[.slice (some ⟨g, 0, none⟩) c.length cap, .int .i64 k, .int .i64 policy, .int .i64 mask] wr fun e w' => e = .returned (.bool (Mt.picked c k policy mask)) ∧ Below wr.heap.size wr w') := picked_any c k policy mask base _ wr HIr.out hlt hl hm0 hm1
            have HNX : Hid (halfC c policy mask (k + 1) = (halfC c policy mask k).set k (Mt.picked c k policy mask)) := by show _ = _; rw [halfC_next c policy mask k hlt, HCA.out]
            clear HCA
            go_wp2_with fail
            refine (HS.out _ HSS.out).mono ?_
            rintro e w' ⟨rfl, rfl⟩
            go_wp2_with fail
            refine HPK.out.mono ?_
            rintro e w2 ⟨rfl, hb2⟩
            have hB2 : Below w.heap.size w w2 := hbel.trans (hb2.mono hsz)
            have HO2 : Hid (ownBools w2 w.heap.size (.slice (some ⟨w.heap.size, 0, none⟩) c.length c.length) (halfC c policy mask k)) := HO.out.below hb2
            have hl2 := halfC_len c policy mask k hk
            have q1 : w2.cell? ⟨w.heap.size, k, none⟩ = some (.bool ((halfC c policy mask k).getD k false)) := by
              have hx := HO2.out
              unfold ownBools at hx
              rw [hl2] at hx
              have := World.ownsRow.cellAt hx k (by omega)
              rw [this, List.getElem?_map, List.getD_eq_getElem?_getD, List.getElem?_eq_getElem (by omega)]; rfl
            have q2 : w2.frozen? ⟨w.heap.size, k, none⟩ = false := by
              have hx := HO2.out
              unfold ownBools at hx
              rw [hl2] at hx
              exact World.ownsRow.frozenAt hx k
            have HST : Hid (ownBools (w2.setCell ⟨w.heap.size, k, none⟩ (.bool (Mt.picked c k policy mask))) w.heap.size (.slice (some ⟨w.heap.size, 0, none⟩) c.length c.length) (halfC c policy mask (k + 1))) := by
              have hx := HO2.out
              unfold ownBools at hx
              rw [hl2] at hx
              have hy := (World.ownsRow.stored hx k (.bool (Mt.picked c k policy mask))).1
              show ownBools _ _ _ _
              unfold ownBools
              rw [HNX.out, List.length_set, hl2, List.map_set]
              exact hy
            clear hb2 HO HO2 HIr hl2 HNX HPK HS
            generalize (halfC c policy mask k).getD k false = old at *
            go_wp2_with fail
            go_roundw
            case rel => exact ⟨k + 1, by omega, by go_num, HST.out, hB2.setCell (Nat.le_refl _) _, HR2.out⟩
            case measure => simp [intOf]; omega
          · have HCA : Hid (Mt.chosenAt c policy mask k = false) := by show _ = _; unfold Mt.chosenAt; rw [hs]; rfl
            have HSS : Hid (Mt.inSub c k = true) := hs
            clear hs
            have HST : Hid (ownBools wr w.heap.size (.slice (some ⟨w.heap.size, 0, none⟩) c.length c.length) (halfC c policy mask (k + 1))) := by
              show ownBools _ _ _ _
              rw [halfC_stay c policy mask k hlt HCA.out]; exact HO.out
            clear HCA HO HIr
            go_wp2_with fail
            refine (HS.out _ HSS.out).mono ?_
            rintro e w' ⟨rfl, rfl⟩
            go_wp2_with fail
            go_roundw
            case rel => exact ⟨k + 1, by omega, by go_num, HST.out, hbel, HR2.out⟩
            case measure => simp [intOf]; omega
        · have HE : Hid (Mt.chosen c policy mask = List.replicate c.length false) := by
            show _ = _; unfold Mt.chosen; rw [if_pos (HB.out (by simpa using h8))]
          clear HN HB HR HO HIr
          go_wp2_with (first | (at_make; refine wpList_make_full _ rfl (.tmp 26) (.tmp 26) 53 rfl w.heap.size 4 i0 (.bool false) 1 Tryz.underlying53 hi hz0 hz1 .i64 .i64 _ _ c.length rfl rfl rfl rfl (by rw [hz2]; omega) (by unfold maxLen; omega) hsz ?_; intro w2 hmk hgr))
          have hB2 : Below w.heap.size w w2 := hbel.grown hgr hsz (fun q hq => by simp at hq)
          have HM : Hid (ownBools w2 w.heap.size (.slice (some ⟨wr.heap.size, 0, none⟩) c.length c.length) (List.replicate c.length false)) := made_bools hmk
          clear hmk hgr
          go_wp2_with fail
          go_ret
          exact ⟨_, rfl, by rw [HE.out]; exact HM.out, hB2⟩
    · have hk2 : k = c.length := by omega
      subst hk2
      have HE : Hid (Mt.chosen c policy mask = halfC c policy mask c.length) := by
        have h0 : Mt.hasBack c = false := by have := HR.out; rwa [List.take_length] at this
        show _ = _; unfold Mt.chosen halfC; rw [h0]; simp
      clear HIr HR
      go_wp2_with fail
      go_ret
      exact ⟨_, rfl, by rw [HE.out]; exact HO.out, hbel⟩
end Go.Proofs.YtebpgfodelggoaaGreat
set_option linter.unusedVariables false
set_option linter.unusedSimpArgs false
namespace Go.Proofs.YtebpgfodelggoaaGreat
open Go.RowKit

theorem maySelect_cases (policy mask : Int) :
    (decide (0 ≤ policy) = false ∧ Mt.maySelect policy mask = false) ∨
    (decide (0 ≤ policy) = true ∧ decide (policy ≤ 4) = false ∧ Mt.maySelect policy mask = false) ∨
    (decide (0 ≤ policy) = true ∧ decide (policy ≤ 4) = true ∧ decide (0 ≤ mask) = false ∧ Mt.maySelect policy mask = false) ∨
    (decide (0 ≤ policy) = true ∧ decide (policy ≤ 4) = true ∧ decide (0 ≤ mask) = true ∧ decide (mask ≤ 4294967295) = false ∧ Mt.maySelect policy mask = false) ∨
    (decide (0 ≤ policy) = true ∧ decide (policy ≤ 4) = true ∧ decide (0 ≤ mask) = true ∧ decide (mask ≤ 4294967295) = true ∧ Mt.maySelect policy mask = true) := by
  unfold Mt.maySelect
  simp only [decide_eq_true_eq, decide_eq_false_iff_not]
  omega

set_option maxHeartbeats 1000000 in
theorem maySelect_any (policy mask : Int) (w : World) :
    Calls Tryz.prog 44 #[.int .i64 policy, .int .i64 mask] w fun e w' => e = .returned (.bool (Mt.maySelect policy mask)) ∧ w = w' := by
  rcases maySelect_cases policy mask with ⟨a1, e⟩ | ⟨a1, a2, e⟩ | ⟨a1, a2, a3, e⟩ | ⟨a1, a2, a3, a4, e⟩ | ⟨a1, a2, a3, a4, e⟩
  all_goals
    rw [e]; clear e
    go_enter Tryz.func44, Tryz.ntmps44
    go_wp2_with fail
    go_ret
    exact ⟨rfl, rfl⟩

/-- The slice v holds the numbers. -/
def ownInts (w : World) (base : Nat) (v : Value) (b : List Int) : Prop := w.ownsRow base 3 1 v b.length (b.map (Value.int .i64))
theorem ownInts.below {w w' : World} {base : Nat} {v : Value} {l : List Int} (h : ownInts w base v l) (hb : Below w.heap.size w w') : ownInts w' base v l := owns_below h hb
theorem Tryz.info3 : (Tryz.prog.info? 3).map (fun i => (i.zero, i.size, i.bytes)) = some (some (.int .i64 0), 1, 8) := by kernel_rfl

theorem bools_val {w : World} {base : Nat} {v : Value} {c : List Bool} (h : ownBools w base v c) : ∃ ao cap, v = .slice ao c.length cap := by
  rcases h.2 with ⟨rfl, hn⟩ | ⟨g, cap, cur, rfl, _⟩
  · exact ⟨none, 0, by rw [hn]⟩
  · exact ⟨_, _, rfl⟩
theorem bools_at {w : World} {base : Nat} {v : Value} {c : List Bool} (h : ownBools w base v c) {k : Nat} (hk : k < c.length) : ∃ g cap, v = .slice (some ⟨g, 0, none⟩) c.length cap ∧ c.length ≤ cap ∧ g < w.heap.size ∧ base ≤ g ∧ ∀ j, j < c.length → w.cell? ⟨g, j, none⟩ = some (.bool (c.getD j false)) := by
  rcases h.2 with ⟨rfl, hn⟩ | ⟨g, cap, cur, rfl, hb, hg, h1, h2, h3, h4⟩
  · omega
  · refine ⟨g, cap, rfl, h1, (Array.getElem?_eq_some_iff.1 hg).1, hb, fun j hj => ?_⟩
    have hc := World.ownsRow.cellAt (g := g) (cap := cap) h j (by omega)
    rw [hc, List.getElem?_map, List.getD_eq_getElem?_getD, List.getElem?_eq_getElem hj]; rfl

set_option maxRecDepth 100000 in
set_option maxHeartbeats 2000000 in
theorem refChosen_any (p : ByteArray) (policy mask : Int) (w : World) (hm : p.size ≤ maxLen) :
    Calls Tryz.prog 59 #[.string p, .int .i64 policy, .int .i64 mask] w fun e w' => ∃ v, e = .returned (.tuple #[v, .int .i64 (Mt.chosenR p policy mask).2]) ∧ ownInts w' w.heap.size v (Mt.chosenR p policy mask).1 ∧ Below w.heap.size w w' := by
  have KC : Hid (Calls Tryz.prog 19 #[.string p] w fun e w' => ∃ v, e = .returned (.tuple #[v, .int .i64 (Mt.codeR p).2]) ∧ ownIns w' 0 v (Mt.codeR p).1 ∧ Below w.heap.size w w') := refCode_any p w hm
  obtain ⟨i0, hi, hz0, hz1, hz2⟩ := info_parts Tryz.info3
  have ff := Mt.codeR_fit p
  have HD : Hid (Mt.chosenR p policy mask = if (Mt.codeR p).2 ≠ 0 then ([], (Mt.codeR p).2) else if Mt.maySelect policy mask = false then ([], 13) else (Mt.numsTo (Mt.chosen (Mt.codeR p).1 policy mask) (Mt.codeR p).1.length, 0)) := rfl
  generalize Mt.codeR p = K at *
  generalize Mt.chosenR p policy mask = R at *
  have hl := ff.2
  clear ff
  cases he : (K.2 != 0)
  · have HD1 : Hid (R = if Mt.maySelect policy mask = false then ([], 13) else (Mt.numsTo (Mt.chosen K.1 policy mask) K.1.length, 0)) := by show _ = _; rw [HD.out, if_neg (by simpa using he)]
    clear HD
    have KS : Hid (∀ b, Mt.maySelect policy mask = b → ∀ z, Calls Tryz.prog 44 #[.int .i64 policy, .int .i64 mask] z fun e w' => e = .returned (.bool b) ∧ z = w') := fun b hb z => by rw [← hb]; exact maySelect_any policy mask z
    cases hs : Mt.maySelect policy mask
    · have HSS : Hid (Mt.maySelect policy mask = false) := hs
      have HR : Hid (R = ([], 13)) := by show _ = _; rw [HD1.out, if_pos hs]
      clear hs HD1
      go_enter Tryz.func59, Tryz.ntmps59
      go_wp2_with fail
      refine KC.out.mono ?_
      rintro e w1 ⟨v1, rfl, q1, hb1⟩
      clear q1
      go_wp2_with fail
      refine (KS.out _ HSS.out _).mono ?_
      rintro e w' ⟨rfl, rfl⟩
      go_wp2_with fail
      go_ret2
      exact ⟨_, by rw [HR.out]; rfl, by rw [HR.out]; exact World.ownsRow_nil _ _ _ _, hb1⟩
    · have HSS : Hid (Mt.maySelect policy mask = true) := hs
      have HR : Hid (R = (Mt.numsTo (Mt.chosen K.1 policy mask) K.1.length, 0)) := by show _ = _; rw [HD1.out, hs]; rfl
      have hms : 0 ≤ mask ∧ mask ≤ 4294967295 := by unfold Mt.maySelect at hs; simp at hs; omega
      have hm0 := hms.1
      have hm1 := hms.2
      clear hs HD1 hms
      go_enter Tryz.func59, Tryz.ntmps59
      go_wp2_with fail
      refine KC.out.mono ?_
      rintro e w1 ⟨v1, rfl, q1, hb1⟩
      have Q1 : Hid (ownIns w1 0 v1 K.1) := q1
      have hs1 := hb1.size
      clear q1
      go_wp2_with fail
      refine (KS.out _ HSS.out _).mono ?_
      rintro e w' ⟨rfl, rfl⟩
      go_wp2_with fail
      refine (chosen_any K.1 policy mask 0 v1 _ Q1.out hl hm0 hm1).mono ?_
      rintro e w2 ⟨v2, rfl, q2, hb2⟩
      have hB2 : Below w.heap.size w w2 := hb1.trans (hb2.mono hs1)
      have Q2 : Hid (ownBools w2 w1.heap.size v2 (Mt.chosen K.1 policy mask)) := q2
      have hcl := Mt.chosen_len K.1 policy mask
      generalize hBB : Mt.chosen K.1 policy mask = B at *
      have HRB : Hid (R = (Mt.numsTo B B.length, 0)) := by show _ = _; rw [HR.out, hcl]
      have hbl : B.length ≤ 300 := by omega
      clear hcl hBB HR
      obtain ⟨ao, cap, rfl⟩ := bools_val q2
      have hs2 := hB2.size
      clear q2 hb2 hb1 Q1
      go_wp2_with fail
      go_loopw [12, 13] (fun u i wr => ∃ k : Nat, k ≤ B.length ∧ i = .int .i64 k ∧ ownInts wr w2.heap.size u (Mt.numsTo B k) ∧ Below w2.heap.size w2 wr) (fun _ i _ => B.length - (intOf i).toNat)
      case atStart => exact ⟨0, Nat.zero_le _, rfl, World.ownsRow_nil _ _ _ _, Below.refl _ _⟩
      case round =>
        obtain ⟨k, hk, rfl, hown, hbel2⟩ := hrel
        have HO : Hid (ownInts wr w2.heap.size u12 (Mt.numsTo B k)) := hown
        have hsz2 := hbel2.size
        have hnl := Mt.numsTo_len B k
        clear hown
        by_cases hlt : k < B.length
        · have HN : Hid (Mt.numsTo B (k + 1) = Mt.numsTo B k ++ if B.getD k false then [(k : Int)] else []) := Mt.numsTo_next B k
          obtain ⟨g, cap', hv, hcap, hg, hgb, hc⟩ := bools_at Q2.out hlt
          simp only [Value.slice.injEq, true_and] at hv
          obtain ⟨rfl, rfl⟩ := hv
          have hc0 : wr.cell? ⟨g, k, none⟩ = some (.bool (B.getD k false)) := (hbel2.cell (p := ⟨g, k, none⟩) hg).trans (hc k hlt)
          clear hc
          generalize B.getD k false = bit at *
          cases bit
          · have HST : Hid (ownInts wr w2.heap.size u12 (Mt.numsTo B (k + 1))) := by
              show ownInts _ _ _ _
              rw [HN.out]; simpa using HO.out
            clear HN HO
            go_wp2_with fail
            go_roundw
            case rel => exact ⟨k + 1, by omega, by go_num, HST.out, hbel2⟩
            case measure => simp [intOf]; omega
          · go_wp2_with (first | (at_builtin; refine wpList_append_own _ rfl _ _ 41 rfl w2.heap.size 3 i0 _ 1 8 Tryz.underlying41 hi hz0 hz1 hz2 rfl (by decide) _ _ _ rfl (World.ownsRow.alloc HO.out _) ⟨wr.heap.size, 0, none⟩ 1 1 [.int .i64 (k : Int)] rfl rfl (news_cells _ _ _) (by simp [Value.oneCell']) ?_ ?_ ?_ ?_; rotate_right))
            · intro v' w3 hown' hgrow _
              have HST : Hid (ownInts w3 w2.heap.size v' (Mt.numsTo B (k + 1))) := by
                show ownInts _ _ _ _
                rw [HN.out]
                unfold ownInts
                simpa using hown'
              have R3 : Below w2.heap.size w2 w3 := (hbel2.alloc hsz2 _).grown hgrow (by simp; omega) (fun q hq' => (World.ownsRow.lt HO.out q hq').1)
              clear hown' hgrow HO HN
              go_wp2_with fail
              go_roundw
              case rel => exact ⟨k + 1, by omega, by go_num, HST.out, R3⟩
              case measure => simp [intOf]; omega
            · unfold maxLen; omega
            · omega
            · first | omega | (simp; omega)
        · have hk2 : k = B.length := by omega
          subst hk2
          go_wp2_with fail
          go_ret2
          exact ⟨_, by rw [HRB.out]; rfl, by rw [HRB.out]; exact owns_base HO.out hs2, hB2.trans (hbel2.mono hs2)⟩
  · have HR : Hid (R = ([], K.2)) := by show _ = _; rw [HD.out, if_pos (by simpa using he)]
    clear HD
    go_enter Tryz.func59, Tryz.ntmps59
    go_wp2_with fail
    refine KC.out.mono ?_
    rintro e w1 ⟨v1, rfl, q1, hb1⟩
    clear q1
    go_wp2_with fail
    go_ret2
    exact ⟨_, by rw [HR.out]; rfl, by rw [HR.out]; exact World.ownsRow_nil _ _ _ _, hb1⟩
end Go.Proofs.YtebpgfodelggoaaGreat
