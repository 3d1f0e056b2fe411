import Derived.Test.YtebpgfodelggoabC45
/- code.Chosen: leadsTo, pickJoins. -/
set_option linter.unusedVariables false
set_option linter.unusedSimpArgs false
namespace Go.Proofs.Ytebpgfodelggoab
open Go.RowKit

set_option maxRecDepth 100000 in
set_option maxHeartbeats 8000000 in
theorem leadsTo_any (c : List Mt.Ins) (hok : Mt.codeOk c) (hl : c.length ≤ 300) (g cap : Nat) (w : World) (h : ownIns w 0 (.slice (some ⟨g, 0, none⟩) c.length cap) c) :
    Calls Try.prog 88 #[.slice (some ⟨g, 0, none⟩) c.length cap] w fun e w' => e = .returned (.slice (some ⟨w.heap.size, 0, none⟩) c.length c.length) ∧ rInts w' w.heap.size (.slice (some ⟨w.heap.size, 0, none⟩) c.length c.length) (leadList c c.length) ∧ Below w.heap.size w w' := by
  obtain ⟨i0, hi, hz0, hz1, hz2⟩ := info_parts Try.infoI
  have HI : Hid (ownIns w 0 (.slice (some ⟨g, 0, none⟩) c.length cap) c) := h
  clear h
  go_enter Try.func88, Try.ntmps88
  go_wp2_with (first | (at_make; refine wpList_make_full _ rfl (.tmp 7) (.tmp 7) 51 rfl w.heap.size 3 i0 (.int .i64 0) 1 Try.underlying51 hi hz0 hz1 .i64 .i64 _ _ c.length rfl rfl rfl rfl (by rw [hz2]; omega) (by unfold maxLen; omega) (Nat.le_refl _) ?_; intro w1 hmk hgr))
  have hB1 : Below w.heap.size w w1 := (Below.refl _ _).grown hgr (Nat.le_refl _) (fun q hq => by simp at hq)
  have HM : Hid (rInts w1 w.heap.size (.slice (some ⟨w.heap.size, 0, none⟩) c.length c.length) (leadList c 0)) := by
    have : leadList c 0 = List.replicate c.length 0 := by
      unfold leadList; apply List.ext_getElem
      · simp
      · intro i h1 h2; simp [Mt.leadsTo]
    rw [this]; exact rInts.made hmk
  clear hmk hgr
  go_loopw [11] (fun i wr => ∃ k : Nat, k ≤ c.length ∧ i = .int .i64 k ∧ rInts wr w.heap.size (.slice (some ⟨w.heap.size, 0, none⟩) c.length c.length) (leadList c k) ∧ Below w.heap.size w wr) (fun i _ => c.length - (intOf i).toNat)
  case atStart => exact ⟨0, Nat.zero_le _, rfl, HM.out, hB1⟩
  case round =>
    obtain ⟨k, hk, rfl, hown, hbr⟩ := hrel
    by_cases hlt : k < c.length
    · have hR := code_range HI.out hbr k hlt
      have hiok := hok k hlt
      have hk' : (k : Int) < (c.length : Int) := by omega
      have HBR : Hid (Below w.heap.size w wr) := hbr
      have HOW : Hid (rInts wr w.heap.size (.slice (some ⟨w.heap.size, 0, none⟩) c.length c.length) (leadList c k)) := hown
      have hwl : w.heap.size < wr.heap.size := (World.ownsRow.lt hown w.heap.size rfl).2
      have HLB : Hid (∀ p : Int, Mt.leadsTo c p k ≤ 300) := fun p => Nat.le_trans (Mt.leadsTo_le c p k) (by omega)
      have HLE : Hid (∀ p : Int, Mt.leads c k p = Mt.leadsI (c.getD k Mt.ins0) k p) := fun p => rfl
      have HL1 : Hid (∀ X : Nat, (∀ p : Nat, p < c.length → Mt.leads c k (p : Int) = decide (p = X)) → leadList c (k + 1) = (leadList c k).set X ((Mt.leadsTo c (X : Int) k : Int) + 1)) := fun X => lead_one c k hlt X
      clear hbr hown
      generalize c.getD k Mt.ins0 = I at *
      have HOK : Hid (Mt.insOk c k I) := hiok
      clear hiok
      go_upto_region 5 with (first | (refine wpList_load_mid (by rfl) 70 (.tmp 14) (by rfl) g (k * 4) (by rfl) (insCells I) _ hR Try.underlying70 rfl (by rw [Try.sizeIn]; rfl) ?_) | (refine store_blk 70 4 Try.sizeIn (by rfl) (.tmp 5) (.tmp 15) (by rfl) wr.heap.size (insA I) (by rfl) (by rfl) (by exact heap_b1 _ _) (by rfl) (by rfl) (insA_all I) ?_; intro w3 r1 r2 r3 r4))
      obtain ⟨x0, x1, x2, B3, B4⟩ := box_ins HBR.out r1 r4
      have HB3 : Hid (Below w.heap.size w w3) := B3
      have HO3 : Hid (rInts w3 w.heap.size (.slice (some ⟨w.heap.size, 0, none⟩) c.length c.length) (leadList c k)) := HOW.out.below B4
      have hsz3 : wr.heap.size < w3.heap.size := (Array.getElem?_eq_some_iff.1 r1).1
      have HAT : Hid (∀ X : Nat, X < c.length → w3.cell? ⟨w.heap.size, X, none⟩ = some (.int .i64 (Mt.leadsTo c (X : Int) k : Nat)) ∧ w3.frozen? ⟨w.heap.size, X, none⟩ = false) := fun X hX => by
        have := HO3.out.at X (by rw [leadList_len]; exact hX) (by rw [leadList_len])
        rw [leadList_at c k X hX] at this; exact this
      have HST : Hid (∀ (X : Nat) (v : Int), rInts (w3.setCell ⟨w.heap.size, X, none⟩ (.int .i64 v)) w.heap.size (.slice (some ⟨w.heap.size, 0, none⟩) c.length c.length) ((leadList c k).set X v) ∧ Below w.heap.size w (w3.setCell ⟨w.heap.size, X, none⟩ (.int .i64 v))) := fun X v => ⟨HO3.out.set (by rw [leadList_len]) X v, HB3.out.setCell (p := ⟨w.heap.size, X, none⟩) (Nat.le_refl _) _⟩
      have HI3 : Hid (∀ z : World, (∀ q, q ≠ w.heap.size → z.heap[q]? = w3.heap[q]?) → z.cell? ⟨wr.heap.size, 1, none⟩ = some (.int .i64 I.x) ∧ z.cell? ⟨wr.heap.size, 2, none⟩ = some (.int .i64 I.y)) := fun z hz => by
        have hb := (hz wr.heap.size (by omega)).trans r1
        exact ⟨(cell_block hb).1 1, (cell_block hb).1 2⟩
      clear r1 r2 r3 r4 B3 B4 hR
      have HOP : Hid (((I.op == 2) = true ∧ (I.y != I.x) = true) ∨ ((I.op == 2) = true ∧ (I.y != I.x) = false) ∨ ((I.op == 2) = false ∧ (I.op == 3) = true) ∨ ((I.op == 2) = false ∧ (I.op == 3) = false ∧ (I.op == 5) = true) ∨ ((I.op == 2) = false ∧ (I.op == 3) = false ∧ (I.op == 5) = false ∧ (I.op == 11) = true) ∨ ((I.op == 2) = false ∧ (I.op == 3) = false ∧ (I.op == 5) = false ∧ (I.op == 11) = false ∧ (I.op == 12) = true) ∨ ((I.op == 2) = false ∧ (I.op == 3) = false ∧ (I.op == 5) = false ∧ (I.op == 11) = false ∧ (I.op == 12) = false ∧ (I.op == 13) = true) ∨ ((I.op == 2) = false ∧ (I.op == 3) = false ∧ (I.op == 5) = false ∧ (I.op == 11) = false ∧ (I.op == 12) = false ∧ (I.op == 13) = false)) := by
        show _ ∨ _
        simp only [beq_iff_eq, beq_eq_false_iff_ne, bne_iff_ne, bne_eq_false_iff_eq]
        omega
      rcases HOP.out with ⟨e2, ey⟩ | ⟨e2, ey⟩ | ⟨e2, e3⟩ | ⟨e2, e3, e5⟩ | ⟨e2, e3, e5, e11⟩ | ⟨e2, e3, e5, e11, e12⟩ | ⟨e2, e3, e5, e11, e12, e13⟩ | ⟨e2, e3, e5, e11, e12, e13⟩
      · have ho : I.op = 2 := by simpa using e2
        have hok2 := HOK.out.1 ho
        have hne : I.y ≠ I.x := by simpa using ey
        obtain ⟨X, hX⟩ : ∃ X : Nat, I.x = (X : Int) := ⟨I.x.toNat, by omega⟩
        have hXl : X < c.length := by omega
        have hXl' : (X : Int) < (c.length : Int) := by omega
        obtain ⟨Y, hY⟩ : ∃ Y : Nat, I.y = (Y : Int) := ⟨I.y.toNat, by omega⟩
        have hYl : Y < c.length := by omega
        have hYl' : (Y : Int) < (c.length : Int) := by omega
        have HE : Hid (leadList c (k + 1) = ((leadList c k).set X ((Mt.leadsTo c (X : Int) k : Int) + 1)).set Y ((Mt.leadsTo c (Y : Int) k : Int) + 1)) := lead_two c k hlt X Y (by omega) (fun p hp => by
          rw [HLE.out]; unfold Mt.leadsI
          rw [if_pos ho, hX, hY, Bool.eq_iff_iff]; simp only [Bool.or_eq_true, beq_iff_eq, decide_eq_true_eq]; omega)
        obtain ⟨z1, z2⟩ := HAT.out X hXl
        obtain ⟨v1, v2⟩ := HAT.out Y hYl
        have hb := HLB.out (X : Int)
        have hb2 := HLB.out (Y : Int)
        obtain ⟨j1, j2⟩ := HI3.out (w3.setCell ⟨w.heap.size, X, none⟩ (.int .i64 ((Mt.leadsTo c (X : Int) k : Int) + 1))) (fun q hq => Below.heap_setCell _ _ _ _ hq)
        have hYX : Y ≠ X := by omega
        have v3 : (w3.setCell ⟨w.heap.size, X, none⟩ (.int .i64 ((Mt.leadsTo c (X : Int) k : Int) + 1))).cell? ⟨w.heap.size, Y, none⟩ = some (.int .i64 (Mt.leadsTo c (Y : Int) k : Nat)) := by
          have := (HST.out X ((Mt.leadsTo c (X : Int) k : Int) + 1)).1.at Y (by rw [List.length_set, leadList_len]; exact hYl) (by rw [List.length_set, leadList_len])
          rw [this.1, List.getD_eq_getElem?_getD, List.getElem?_set_ne (by omega), ← List.getD_eq_getElem?_getD, leadList_at c k Y hYl]
        have v4 : (w3.setCell ⟨w.heap.size, X, none⟩ (.int .i64 ((Mt.leadsTo c (X : Int) k : Int) + 1))).frozen? ⟨w.heap.size, Y, none⟩ = false :=
          ((HST.out X ((Mt.leadsTo c (X : Int) k : Int) + 1)).1.at Y (by rw [List.length_set, leadList_len]; exact hYl) (by rw [List.length_set, leadList_len])).2
        rw [hX] at j1 x1
        rw [hY] at j2
        rw [hX, hY] at ey
        have HF := (HST.out X ((Mt.leadsTo c (X : Int) k : Int) + 1)).1.set (by rw [List.length_set, leadList_len]) Y ((Mt.leadsTo c (Y : Int) k : Int) + 1)
        rw [← HE.out] at HF
        have HFB := (HST.out X ((Mt.leadsTo c (X : Int) k : Int) + 1)).2.setCell (p := ⟨w.heap.size, Y, none⟩) (Nat.le_refl _) (.int .i64 ((Mt.leadsTo c (Y : Int) k : Int) + 1))
        have HFH : Hid (_ ∧ _) := And.intro HF HFB
        clear HF HFB hok2 hX hY ho hne v1 v2
        generalize Mt.leadsTo c (X : Int) k = LX at *
        generalize Mt.leadsTo c (Y : Int) k = LY at *
        go_upto_region 9 with fail
        generalize w3.setCell ⟨w.heap.size, X, none⟩ (.int .i64 ((LX : Int) + 1)) = w4 at *
        clear x0 x1 x2 z1 z2
        go_wp2_with fail
        go_roundw
        case rel => exact ⟨k + 1, by omega, by go_num, HFH.out.1, HFH.out.2⟩
        case measure => simp [intOf]; omega
      · have ho : I.op = 2 := by simpa using e2
        have hok2 := HOK.out.1 ho
        have hne : I.y = I.x := by simpa using ey
        obtain ⟨X, hX⟩ : ∃ X : Nat, I.x = (X : Int) := ⟨I.x.toNat, by omega⟩
        have hXl : X < c.length := by omega
        have hXl' : (X : Int) < (c.length : Int) := by omega
        have HE : Hid (leadList c (k + 1) = (leadList c k).set X ((Mt.leadsTo c (X : Int) k : Int) + 1)) := HL1.out X (fun p hp => by
          rw [HLE.out]; unfold Mt.leadsI
          rw [if_pos ho, hne, hX, Bool.eq_iff_iff]; simp only [Bool.or_eq_true, beq_iff_eq, decide_eq_true_eq]; omega)
        obtain ⟨z1, z2⟩ := HAT.out X hXl
        have hb := HLB.out (X : Int)
        obtain ⟨j1, j2⟩ := HI3.out (w3.setCell ⟨w.heap.size, X, none⟩ (.int .i64 ((Mt.leadsTo c (X : Int) k : Int) + 1))) (fun q hq => Below.heap_setCell _ _ _ _ hq)
        rw [hne, hX] at j2
        rw [hX] at j1 x1
        have HF := HST.out X ((Mt.leadsTo c (X : Int) k : Int) + 1)
        rw [← HE.out] at HF
        have HFH : Hid (_ ∧ _) := HF
        have hxx : ((X : Int) != (X : Int)) = false := by simp
        clear HF hok2 hX ho hne ey
        generalize Mt.leadsTo c (X : Int) k = LX at *
        go_upto_region 9 with fail
        generalize w3.setCell ⟨w.heap.size, X, none⟩ (.int .i64 ((LX : Int) + 1)) = w4 at *
        clear x0 x1 x2 z1 z2
        go_wp2_with fail
        go_roundw
        case rel => exact ⟨k + 1, by omega, by go_num, HFH.out.1, HFH.out.2⟩
        case measure => simp [intOf]; omega
      · have ho : I.op = 3 := by simpa using e3
        have hok2 := HOK.out.2.1 ho
        obtain ⟨X, hX⟩ : ∃ X : Nat, I.x = (X : Int) := ⟨I.x.toNat, by omega⟩
        have hXl : X < c.length := by omega
        have hXl' : (X : Int) < (c.length : Int) := by omega
        have HE : Hid (leadList c (k + 1) = (leadList c k).set X ((Mt.leadsTo c (X : Int) k : Int) + 1)) := HL1.out X (fun p hp => by
          rw [HLE.out]; unfold Mt.leadsI
          rw [if_neg (by omega), if_pos (by omega)]
          rw [hX, Bool.eq_iff_iff]; simp only [beq_iff_eq, decide_eq_true_eq]; omega)
        obtain ⟨z1, z2⟩ := HAT.out X hXl
        have hb := HLB.out (X : Int)
        rw [hX] at x1
        have HF := HST.out X ((Mt.leadsTo c (X : Int) k : Int) + 1)
        have HFH : Hid (rInts (w3.setCell ⟨w.heap.size, X, none⟩ (.int .i64 ((Mt.leadsTo c (X : Int) k : Int) + 1))) w.heap.size (.slice (some ⟨w.heap.size, 0, none⟩) c.length c.length) (leadList c (k + 1)) ∧ Below w.heap.size w (w3.setCell ⟨w.heap.size, X, none⟩ (.int .i64 ((Mt.leadsTo c (X : Int) k : Int) + 1)))) := by rw [HE.out]; exact HF
        clear HF hok2 hX ho
        generalize Mt.leadsTo c (X : Int) k = LX at *
        go_wp2_with fail
        go_roundw
        case rel => exact ⟨k + 1, by omega, by go_num, HFH.out.1, HFH.out.2⟩
        case measure => simp [intOf]; omega
      · have ho : I.op = 5 := by simpa using e5
        have hok2 := HOK.out.2.2.2.1 ho
        obtain ⟨X, hX⟩ : ∃ X : Nat, I.x = (X : Int) := ⟨I.x.toNat, by omega⟩
        have hXl : X < c.length := by omega
        have hXl' : (X : Int) < (c.length : Int) := by omega
        have HE : Hid (leadList c (k + 1) = (leadList c k).set X ((Mt.leadsTo c (X : Int) k : Int) + 1)) := HL1.out X (fun p hp => by
          rw [HLE.out]; unfold Mt.leadsI
          rw [if_neg (by omega), if_pos (by omega)]
          rw [hX, Bool.eq_iff_iff]; simp only [beq_iff_eq, decide_eq_true_eq]; omega)
        obtain ⟨z1, z2⟩ := HAT.out X hXl
        have hb := HLB.out (X : Int)
        rw [hX] at x1
        have HF := HST.out X ((Mt.leadsTo c (X : Int) k : Int) + 1)
        have HFH : Hid (rInts (w3.setCell ⟨w.heap.size, X, none⟩ (.int .i64 ((Mt.leadsTo c (X : Int) k : Int) + 1))) w.heap.size (.slice (some ⟨w.heap.size, 0, none⟩) c.length c.length) (leadList c (k + 1)) ∧ Below w.heap.size w (w3.setCell ⟨w.heap.size, X, none⟩ (.int .i64 ((Mt.leadsTo c (X : Int) k : Int) + 1)))) := by rw [HE.out]; exact HF
        clear HF hok2 hX ho
        generalize Mt.leadsTo c (X : Int) k = LX at *
        go_wp2_with fail
        go_roundw
        case rel => exact ⟨k + 1, by omega, by go_num, HFH.out.1, HFH.out.2⟩
        case measure => simp [intOf]; omega
      · have ho : I.op = 11 := by simpa using e11
        have hok2 := HOK.out.2.2.2.2.2.1 ho
        obtain ⟨X, hX⟩ : ∃ X : Nat, I.y = (X : Int) := ⟨I.y.toNat, by omega⟩
        have hXl : X < c.length := by omega
        have hXl' : (X : Int) < (c.length : Int) := by omega
        have HE : Hid (leadList c (k + 1) = (leadList c k).set X ((Mt.leadsTo c (X : Int) k : Int) + 1)) := HL1.out X (fun p hp => by
          rw [HLE.out]; unfold Mt.leadsI
          rw [if_neg (by omega), if_neg (by omega), if_pos (by omega)]
          rw [hX, Bool.eq_iff_iff]; simp only [beq_iff_eq, decide_eq_true_eq]; omega)
        obtain ⟨z1, z2⟩ := HAT.out X hXl
        have hb := HLB.out (X : Int)
        rw [hX] at x2
        have HF := HST.out X ((Mt.leadsTo c (X : Int) k : Int) + 1)
        have HFH : Hid (rInts (w3.setCell ⟨w.heap.size, X, none⟩ (.int .i64 ((Mt.leadsTo c (X : Int) k : Int) + 1))) w.heap.size (.slice (some ⟨w.heap.size, 0, none⟩) c.length c.length) (leadList c (k + 1)) ∧ Below w.heap.size w (w3.setCell ⟨w.heap.size, X, none⟩ (.int .i64 ((Mt.leadsTo c (X : Int) k : Int) + 1)))) := by rw [HE.out]; exact HF
        clear HF hok2 hX ho
        generalize Mt.leadsTo c (X : Int) k = LX at *
        go_wp2_with fail
        go_roundw
        case rel => exact ⟨k + 1, by omega, by go_num, HFH.out.1, HFH.out.2⟩
        case measure => simp [intOf]; omega
      · have ho : I.op = 12 := by simpa using e12
        have HE : Hid (leadList c (k + 1) = leadList c k) := lead_none c k hlt (fun p hp => by
          rw [HLE.out]; unfold Mt.leadsI
          rw [if_neg (by omega), if_neg (by omega), if_neg (by omega), if_pos (by omega)])
        clear ho
        go_wp2_with fail
        go_roundw
        case rel => exact ⟨k + 1, by omega, by go_num, by rw [HE.out]; exact HO3.out, HB3.out⟩
        case measure => simp [intOf]; omega
      · have ho : I.op = 13 := by simpa using e13
        have HE : Hid (leadList c (k + 1) = leadList c k) := lead_none c k hlt (fun p hp => by
          rw [HLE.out]; unfold Mt.leadsI
          rw [if_neg (by omega), if_neg (by omega), if_neg (by omega), if_pos (by omega)])
        clear ho
        go_wp2_with fail
        go_roundw
        case rel => exact ⟨k + 1, by omega, by go_num, by rw [HE.out]; exact HO3.out, HB3.out⟩
        case measure => simp [intOf]; omega
      · have hn : I.op ≠ 2 ∧ I.op ≠ 3 ∧ I.op ≠ 5 ∧ I.op ≠ 11 ∧ I.op ≠ 12 ∧ I.op ≠ 13 := by simp only [beq_eq_false_iff_ne] at *; omega
        have hk1 : k + 1 < c.length := HOK.out.2.2.2.2.2.2.1 hn.2.2.2.2.2
        have HE : Hid (leadList c (k + 1) = (leadList c k).set (k + 1) ((Mt.leadsTo c ((k + 1 : Nat) : Int) k : Int) + 1)) := HL1.out (k + 1) (fun p hp => by
          rw [HLE.out]; unfold Mt.leadsI
          rw [if_neg hn.1, if_neg (by omega), if_neg hn.2.2.2.1, if_neg (by omega), Bool.eq_iff_iff]; simp only [beq_iff_eq, decide_eq_true_eq]; omega)
        obtain ⟨z1, z2⟩ := HAT.out (k + 1) hk1
        have hb := HLB.out ((k + 1 : Nat) : Int)
        have hk1' : (k : Int) + 1 < (c.length : Int) := by omega
        have HF := HST.out (k + 1) ((Mt.leadsTo c ((k + 1 : Nat) : Int) k : Int) + 1)
        rw [← HE.out] at HF
        have HFH : Hid (_ ∧ _) := HF
        clear HF hn
        generalize Mt.leadsTo c ((k + 1 : Nat) : Int) k = LX at *
        go_wp2_with fail
        go_roundw
        case rel => exact ⟨k + 1, by omega, by go_num, HFH.out.1, HFH.out.2⟩
        case measure => simp [intOf]; omega
    · have hk2 : k = c.length := by omega
      subst hk2
      have HBR : Hid (Below w.heap.size w wr) := hbr
      have HOW : Hid (rInts wr w.heap.size (.slice (some ⟨w.heap.size, 0, none⟩) c.length c.length) (leadList c c.length)) := hown
      clear hbr hown
      go_wp2_with fail
      go_ret
      exact ⟨rfl, HOW.out, HBR.out⟩
end Go.Proofs.Ytebpgfodelggoab
