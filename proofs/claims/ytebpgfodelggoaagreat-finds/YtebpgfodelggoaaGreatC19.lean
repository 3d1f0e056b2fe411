import Derived.Test.YtebpgfodelggoaaGreatC10
import Derived.Deep.QuietTactic
import Derived.BigQuiet
import Derived.Test.YtebpgfodelggoaaGreatC11
import Derived.Test.YtebpgfodelggoaaGreatC12
import Derived.Test.YtebpgfodelggoaaGreatC18
set_option linter.unusedVariables false
set_option linter.unusedSimpArgs false
namespace Go.Proofs.YtebpgfodelggoaaGreat
open Go.RowKit

/-- The error of a search's arguments beside the pattern (0: none). -/
def mayFindR (T : Nat) (frm policy mask room budget : Int) : Int :=
  if 60 < T then 1
  else if Mt.maySelect policy mask = true ∧ 0 ≤ frm ∧ frm ≤ T ∧ 0 ≤ room ∧ room ≤ 5000 ∧ 0 ≤ budget ∧ budget ≤ 10000 then 0 else 13

theorem mayFind_cases (T : Nat) (frm policy mask room budget : Int) (hT : ¬ 60 < T) :
    (Mt.maySelect policy mask = false ∧ mayFindR T frm policy mask room budget = 13) ∨
    (Mt.maySelect policy mask = true ∧ decide (frm < 0) = true ∧ mayFindR T frm policy mask room budget = 13) ∨
    (Mt.maySelect policy mask = true ∧ decide (frm < 0) = false ∧ decide ((T : Int) < frm) = true ∧ mayFindR T frm policy mask room budget = 13) ∨
    (Mt.maySelect policy mask = true ∧ decide (frm < 0) = false ∧ decide ((T : Int) < frm) = false ∧ decide (room < 0) = true ∧ mayFindR T frm policy mask room budget = 13) ∨
    (Mt.maySelect policy mask = true ∧ decide (frm < 0) = false ∧ decide ((T : Int) < frm) = false ∧ decide (room < 0) = false ∧ decide (5000 < room) = true ∧ mayFindR T frm policy mask room budget = 13) ∨
    (Mt.maySelect policy mask = true ∧ decide (frm < 0) = false ∧ decide ((T : Int) < frm) = false ∧ decide (room < 0) = false ∧ decide (5000 < room) = false ∧ decide (budget < 0) = true ∧ mayFindR T frm policy mask room budget = 13) ∨
    (Mt.maySelect policy mask = true ∧ decide (frm < 0) = false ∧ decide ((T : Int) < frm) = false ∧ decide (room < 0) = false ∧ decide (5000 < room) = false ∧ decide (budget < 0) = false ∧ decide (10000 < budget) = true ∧ mayFindR T frm policy mask room budget = 13) ∨
    (Mt.maySelect policy mask = true ∧ decide (frm < 0) = false ∧ decide ((T : Int) < frm) = false ∧ decide (room < 0) = false ∧ decide (5000 < room) = false ∧ decide (budget < 0) = false ∧ decide (10000 < budget) = false ∧ mayFindR T frm policy mask room budget = 0) := by
  unfold mayFindR
  rw [if_neg hT]
  simp only [decide_eq_true_eq, decide_eq_false_iff_not]
  cases Mt.maySelect policy mask
  · left; simp
  · right
    by_cases h : (true = true ∧ 0 ≤ frm ∧ frm ≤ (T : Int) ∧ 0 ≤ room ∧ room ≤ 5000 ∧ 0 ≤ budget ∧ budget ≤ 10000)
    · rw [if_pos h]; simp at h ⊢; omega
    · rw [if_neg h]; simp at h ⊢; omega

set_option maxRecDepth 100000 in
set_option maxHeartbeats 1000000 in
theorem mayFind_any (text : ByteArray) (frm policy mask room budget : Int) (w : World) (hm : text.size ≤ maxLen) :
    Calls Tryz.prog 20 #[.string text, .int .i64 frm, .agg #[.int .i64 policy, .int .i64 mask, .int .i64 room, .int .i64 budget]] w fun e w' => e = .returned (.int .i64 (mayFindR text.size frm policy mask room budget)) ∧ Below w.heap.size w w' := by
  have KS : Hid (∀ b, Mt.maySelect policy mask = b → ∀ z, Calls Tryz.prog 44 #[.int .i64 policy, .int .i64 mask] z fun e w' => e = .returned (.bool b) ∧ z = w') := fun b hb z => by rw [← hb]; exact maySelect_any policy mask z
  unfold maxLen at hm
  by_cases hT : 60 < text.size
  · have e : mayFindR text.size frm policy mask room budget = 1 := by unfold mayFindR; rw [if_pos hT]
    rw [e]; clear e
    go_enter Tryz.func20, Tryz.ntmps20
    go_wp2_with fail
    go_ret
    exact ⟨rfl, by go_grown⟩
  · rcases mayFind_cases text.size frm policy mask room budget hT with ⟨a1, e⟩ | ⟨a1, a2, e⟩ | ⟨a1, a2, a3, e⟩ | ⟨a1, a2, a3, a4, e⟩ | ⟨a1, a2, a3, a4, a5, e⟩ | ⟨a1, a2, a3, a4, a5, a6, e⟩ | ⟨a1, a2, a3, a4, a5, a6, a7, e⟩ | ⟨a1, a2, a3, a4, a5, a6, a7, e⟩
    all_goals
      rw [e]; clear e
      have A1 : Hid (Mt.maySelect policy mask = _) := a1
      clear a1
      go_enter Tryz.func20, Tryz.ntmps20
      go_wp2_with fail
      refine (KS.out _ A1.out _).mono ?_
      rintro e w' ⟨rfl, rfl⟩
      go_wp2_with fail
      first | go_quiet (fail) | skip
      go_wp2_with fail
      go_ret
      exact ⟨rfl, by first | go_grown | exact below_drewN ((Below.refl _ _).alloc (Nat.le_refl _) _) _⟩
end Go.Proofs.YtebpgfodelggoaaGreat
set_option linter.unusedVariables false
set_option linter.unusedSimpArgs false
namespace Go.Proofs.YtebpgfodelggoaaGreat
open Go.RowKit

def loopNums (c : List Mt.Ins) (k : Nat) : List Int := (List.range k).map fun p => (Mt.loopsAt c p : Int)
theorem loopNums_next (c : List Mt.Ins) (k : Nat) : loopNums c (k + 1) = loopNums c k ++ [(Mt.loopsAt c k : Int)] := by
  unfold loopNums; rw [List.range_succ, List.map_append]; rfl
theorem loopNums_len (c : List Mt.Ins) (k : Nat) : (loopNums c k).length = k := by simp [loopNums]

theorem mul3_bd (L T : Nat) (h1 : L ≤ 300) (h2 : T ≤ 60) : L * (T + 1) * 12 ≤ 219600 ∧ (0 : Int) ≤ (L : Int) * ((T : Int) + 1) ∧ (L : Int) * ((T : Int) + 1) ≤ 18300 := by
  have a : L * (T + 1) ≤ 300 * 61 := Nat.mul_le_mul h1 (by omega)
  refine ⟨by omega, Int.mul_nonneg (by omega) (by omega), ?_⟩
  have := Int.mul_le_mul (show (L : Int) ≤ 300 by omega) (show (T : Int) + 1 ≤ 61 by omega) (by omega) (by omega)
  omega

set_option maxRecDepth 100000 in
set_option maxHeartbeats 4000000 in
theorem begin_any (c : List Mt.Ins) (text : ByteArray) (policy mask room b0 budget : Int) (gc cc : Nat) (w : World) (h : ownIns w 0 (.slice (some ⟨gc, 0, none⟩) c.length cc) c) (hl0 : 0 < c.length) (hl : c.length ≤ 300) (hf : Mt.fit 100000000 c) (ht : text.size ≤ 60) (hm0 : 0 ≤ mask) (hm1 : mask ≤ 4294967295) :
    Calls Tryz.prog 21 #[.slice (some ⟨gc, 0, none⟩) c.length cc, .string text, .agg #[.int .i64 policy, .int .i64 mask, .int .i64 room, .int .i64 b0], .int .i64 budget] w fun e w' =>
      ∃ wb gi ga gk ci ca ck, e = .returned (.pointer (some ⟨wb, 0, none⟩)) ∧ WalkAt w' wb gc gi ga gk cc ci ca ck c text (Mt.chosen c policy mask) (loopNums c c.length) budget (List.replicate (c.length * (text.size + 1) * 12) false) room 0 false ∧ Below w.heap.size w w' ∧ w.heap.size ≤ wb ∧ w.heap.size ≤ gk := by
  have H : Hid (ownIns w 0 (.slice (some ⟨gc, 0, none⟩) c.length cc) c) := h
  have hgc : gc < w.heap.size := (World.ownsRow.lt h gc rfl).2
  have HF : Hid (Mt.fit 100000000 c) := hf
  obtain ⟨i0, hi, hz0, hz1, hz2⟩ := info_parts Tryz.info3
  obtain ⟨j0, hj, hy0, hy1, hy2⟩ := info_parts Tryz.info4
  have hb3 := mul3_bd c.length text.size hl ht
  clear h hf
  go_enter Tryz.func21, Tryz.ntmps21
  go_wp2_with fail
  refine (chosen_any c policy mask 0 _ _ (H.out.below (by go_grown)) hl hm0 hm1).mono ?_
  rintro e w1 ⟨vi, rfl, qi, hb1⟩
  have hs1 := hb1.size
  have hblk : w1.heap[w.heap.size + 1]? = some (.cells #[.slice (some ⟨gc, 0, none⟩) c.length cc, .string text, .slice none 0 0, .slice none 0 0, .slice none 0 0, .int .i64 room, .int .i64 budget, .int .i64 0, .bool false] 55 (0, 0)) := by
    rw [hb1.block _ (by simp)]; exact heap_22 _ _ _
  have hB1 : Below w.heap.size w w1 := (((Below.refl _ _).alloc (Nat.le_refl _) _).alloc (by simp) _).trans (hb1.mono (by simp; omega))
  have hcl := Mt.chosen_len c policy mask
  obtain ⟨gi, ci, hvi, hgi1, hgi2⟩ : ∃ gi ci, vi = .slice (some ⟨gi, 0, none⟩) c.length ci ∧ w.heap.size + 2 ≤ gi ∧ gi < w1.heap.size := by
    rcases qi.2 with ⟨_, hn⟩ | ⟨g, cap, cur, rfl, hbs, hg, _⟩
    · omega
    · exact ⟨g, cap, by rw [hcl], by simpa using hbs, (Array.getElem?_eq_some_iff.1 hg).1⟩
  subst hvi
  have QI : Hid (ownBools w1 0 (.slice (some ⟨gi, 0, none⟩) (Mt.chosen c policy mask).length ci) (Mt.chosen c policy mask)) := by
    show ownBools _ _ _ _
    have := owns_base qi (Nat.zero_le _)
    rw [hcl]; exact this
  have HI1 : Hid (ownIns w1 0 (.slice (some ⟨gc, 0, none⟩) c.length cc) c) := H.out.below hB1
  have hcb := cell_block hblk
  have z1 := hcb.1
  have z2 := hcb.2
  have hs1' : w.heap.size + 2 ≤ w1.heap.size := by have := hs1; simp at this; omega
  have hlt1 : w.heap.size + 1 < w1.heap.size := by omega
  have HBL : Hid (w1.heap[w.heap.size + 1]? = some (.cells #[.slice (some ⟨gc, 0, none⟩) c.length cc, .string text, .slice none 0 0, .slice none 0 0, .slice none 0 0, .int .i64 room, .int .i64 budget, .int .i64 0, .bool false] 55 (0, 0))) := hblk
  have HCL : Hid ((Mt.chosen c policy mask).length = c.length) := hcl
  have hb31 := hb3.1
  have hb32 := hb3.2.1
  have hb33 := hb3.2.2
  clear qi hb1 hs1 hblk hcb hcl hb3 H
  go_wp2_with fail
  obtain ⟨w2, hW2⟩ : ∃ w2, w2 = w1.setCell ⟨w.heap.size + 1, 2, none⟩ (.slice (some ⟨gi, 0, none⟩) c.length ci) := ⟨_, rfl⟩
  rw [← hW2]
  have hO : ∀ k, k ≠ w.heap.size + 1 → w2.heap[k]? = w1.heap[k]? := fun k hk => by rw [hW2]; exact Below.heap_setCell _ _ _ _ hk
  have HBL2 : Hid (w2.heap[w.heap.size + 1]? = some (.cells #[.slice (some ⟨gc, 0, none⟩) c.length cc, .string text, .slice (some ⟨gi, 0, none⟩) c.length ci, .slice none 0 0, .slice none 0 0, .int .i64 room, .int .i64 budget, .int .i64 0, .bool false] 55 (0, 0))) := by
    show _ = _; rw [hW2]; exact Go.heap_setCell_same w1 _ 2 _ _ _ HBL.out
  have QI2 : Hid (ownBools w2 0 (.slice (some ⟨gi, 0, none⟩) (Mt.chosen c policy mask).length ci) (Mt.chosen c policy mask)) := row_same QI.out (hO gi (by omega))
  have HI2 : Hid (ownIns w2 0 (.slice (some ⟨gc, 0, none⟩) c.length cc) c) := row_same HI1.out (hO gc (by omega))
  have hB2 : Below w.heap.size w w2 := by rw [hW2]; exact hB1.setCell (p := ⟨w.heap.size + 1, 2, none⟩) (by simp) _
  have hs2 : w2.heap.size = w1.heap.size := by rw [hW2]; simp [World.setCell]
  have hs2' : w.heap.size + 2 ≤ w2.heap.size := by omega
  have hgi3 : gi < w2.heap.size := by omega
  clear hO hW2 QI HI1 HBL z1 z2 hB1 hs1' hs2 hgi2 hlt1
  go_loopw [10] (fun i wr => ∃ (k : Nat) (va : Value), k ≤ c.length ∧ i = .int .i64 k ∧ wr.heap[w.heap.size + 1]? = some (.cells #[.slice (some ⟨gc, 0, none⟩) c.length cc, .string text, .slice (some ⟨gi, 0, none⟩) c.length ci, va, .slice none 0 0, .int .i64 room, .int .i64 budget, .int .i64 0, .bool false] 55 (0, 0)) ∧ ownInts wr w2.heap.size va (loopNums c k) ∧ w2.heap.size ≤ wr.heap.size ∧ wr.os = w2.os ∧ wr.tape = w2.tape ∧ wr.output = w2.output ∧ (∀ q, q < w2.heap.size → q ≠ w.heap.size + 1 → wr.heap[q]? = w2.heap[q]?)) (fun i _ => c.length - (intOf i).toNat)
  case atStart => exact ⟨0, _, Nat.zero_le _, rfl, HBL2.out, World.ownsRow_nil _ _ _ _, Nat.le_refl _, rfl, rfl, rfl, fun _ _ _ => rfl⟩
  case round =>
    obtain ⟨k, va, hk, rfl, hblk, hown, hsz, o1, o2, o3, hO⟩ := hrel
    have HBK : Hid (wr.heap[w.heap.size + 1]? = some (.cells #[.slice (some ⟨gc, 0, none⟩) c.length cc, .string text, .slice (some ⟨gi, 0, none⟩) c.length ci, va, .slice none 0 0, .int .i64 room, .int .i64 budget, .int .i64 0, .bool false] 55 (0, 0))) := hblk
    have hcb := cell_block hblk
    have z1 := hcb.1
    have z2 := hcb.2
    have hltw : w.heap.size + 1 < wr.heap.size := by omega
    have OS : Hid (wr.os = w2.os ∧ wr.tape = w2.tape ∧ wr.output = w2.output) := ⟨o1, o2, o3⟩
    have HOO : Hid (∀ q, q < w2.heap.size → q ≠ w.heap.size + 1 → wr.heap[q]? = w2.heap[q]?) := hO
    have HOW : Hid (ownInts wr w2.heap.size va (loopNums c k)) := hown
    have HIr : Hid (ownIns wr 0 (.slice (some ⟨gc, 0, none⟩) c.length cc) c) := row_same HI2.out (hO gc (by omega) (by omega))
    have hln := loopNums_len c k
    have HLN : Hid ((loopNums c k).length = k) := hln
    clear hcb hblk o1 o2 o3 hO hown hln
    by_cases hlt : k < c.length
    · have hla := Mt.loopsAt_le c k
      go_wp2_with (first | (go_at_call 46; refine (loops_any c _ 0 _ _ HIr.out HF.out (by omega)).mono ?_; rintro e w' ⟨rfl, rfl⟩) | (at_builtin; refine wpList_append_own _ rfl _ _ 41 rfl w2.heap.size 3 i0 _ 1 8 Tryz.underlying41 hi hz0 hz1 hz2 rfl (by decide) _ _ _ rfl (World.ownsRow.alloc HOW.out _) ⟨wr.heap.size, 0, none⟩ 1 1 [.int .i64 (Mt.loopsAt c k : Int)] rfl rfl (news_cells _ _ _) (by simp [Value.oneCell']) ?_ ?_ ?_ ?_; rotate_right))
      · intro v' w3 hown' hgrow _
        have hlo : ∀ q, va.ownBlock = some q → w2.heap.size ≤ q := fun q hq => (World.ownsRow.lt HOW.out q hq).1
        have h3 : ∀ q, q < wr.heap.size → (∀ p, va.ownBlock = some p → p ≠ q) → w3.heap[q]? = wr.heap[q]? := fun q hq hne => by
          rw [hgrow.block q (by simp; omega) (fun e => hne q e.symm rfl)]; exact heap_old _ _ _ hq
        have HB3 : w3.heap[w.heap.size + 1]? = some (.cells #[.slice (some ⟨gc, 0, none⟩) c.length cc, .string text, .slice (some ⟨gi, 0, none⟩) c.length ci, va, .slice none 0 0, .int .i64 room, .int .i64 budget, .int .i64 0, .bool false] 55 (0, 0)) := by
          rw [h3 _ hltw (fun p hp => by have := hlo p hp; omega)]; exact HBK.out
        have hcb3 := cell_block HB3
        have y1 := hcb3.1
        have y2 := hcb3.2
        have HOW3 : ownInts w3 w2.heap.size v' (loopNums c (k + 1)) := by
          unfold ownInts
          rw [loopNums_next, List.length_append, List.map_append]
          exact hown'
        obtain ⟨g4, c4, hv4⟩ : ∃ g4 c4, v' = .slice (some ⟨g4, 0, none⟩) (loopNums c (k + 1)).length c4 := by
          rcases HOW3.2 with ⟨_, hn⟩ | ⟨g, cap, cur, e, _⟩
          · rw [loopNums_len] at hn; omega
          · exact ⟨g, cap, e⟩
        rw [loopNums_len] at hv4
        subst hv4
        generalize hV : (Value.slice (some ⟨g4, 0, none⟩) (k + 1) c4) = v' at hown' HOW3 ⊢
        have HB4 : Hid ((w3.setCell ⟨w.heap.size + 1, 3, none⟩ v').heap[w.heap.size + 1]? = some (.cells #[.slice (some ⟨gc, 0, none⟩) c.length cc, .string text, .slice (some ⟨gi, 0, none⟩) c.length ci, v', .slice none 0 0, .int .i64 room, .int .i64 budget, .int .i64 0, .bool false] 55 (0, 0))) := Go.heap_setCell_same w3 _ 3 _ _ v' HB3
        have HOW4 : Hid (ownInts (w3.setCell ⟨w.heap.size + 1, 3, none⟩ v') w2.heap.size v' (loopNums c (k + 1))) :=
          World.ownsRow.kept HOW3 (grown_setCell w3 ⟨w.heap.size + 1, 3, none⟩ v') (Or.inr (fun e => by have := (World.ownsRow.lt HOW3 _ e).1; simp at this; omega))
        have hs3 : wr.heap.size ≤ w3.heap.size := by have := hgrow.size; simp at this; omega
        have HS4 : Hid (w2.heap.size ≤ (w3.setCell ⟨w.heap.size + 1, 3, none⟩ v').heap.size ∧ (w3.setCell ⟨w.heap.size + 1, 3, none⟩ v').os = w2.os ∧ (w3.setCell ⟨w.heap.size + 1, 3, none⟩ v').tape = w2.tape ∧ (w3.setCell ⟨w.heap.size + 1, 3, none⟩ v').output = w2.output ∧ (∀ q, q < w2.heap.size → q ≠ w.heap.size + 1 → (w3.setCell ⟨w.heap.size + 1, 3, none⟩ v').heap[q]? = w2.heap[q]?)) := by
          refine ⟨by have : (w3.setCell ⟨w.heap.size + 1, 3, none⟩ v').heap.size = w3.heap.size := by simp [World.setCell]
                     omega, hgrow.os.trans OS.out.1, hgrow.tape.trans OS.out.2.1, hgrow.output.trans OS.out.2.2, fun q hq hne => ?_⟩
          rw [Below.heap_setCell _ _ _ _ hne, h3 q (by omega) (fun p hp => by have := hlo p hp; omega)]
          exact HOO.out q hq hne
        have hlt3 : w.heap.size + 1 < w3.heap.size := by omega
        clear hown' hgrow hlo h3 HB3 hcb3 HOW3 HOW HIr HOO OS HBK z1 z2
        subst hV
        go_wp2_with fail
        go_roundw
        case rel => exact ⟨k + 1, _, by omega, by go_num, HB4.out, HOW4.out, HS4.out.1, HS4.out.2.1, HS4.out.2.2.1, HS4.out.2.2.2.1, HS4.out.2.2.2.2⟩
        case measure => simp [intOf]; omega
      · unfold maxLen; have := HLN.out; omega
      · have := HLN.out; omega
      · simp; omega
    · have hk2 : k = c.length := by omega
      subst hk2
      obtain ⟨ga, ca, hva, hga1, hga2⟩ : ∃ ga ca, va = .slice (some ⟨ga, 0, none⟩) c.length ca ∧ w2.heap.size ≤ ga ∧ ga < wr.heap.size := by
        rcases HOW.out.2 with ⟨_, hn⟩ | ⟨g, cap, cur, rfl, hbs, hg, _⟩
        · have := HLN.out; omega
        · exact ⟨g, cap, by rw [HLN.out], hbs, (Array.getElem?_eq_some_iff.1 hg).1⟩
      subst hva
      go_wp2_with (first | (at_make; refine wpList_make_full _ rfl (.tmp 54) (.tmp 54) 53 rfl wr.heap.size 4 j0 (.bool false) 1 Tryz.underlying53 hj hy0 hy1 .i64 .i64 _ _ (c.length * (text.size + 1) * 12) rfl rfl (by simp) (by simp) (by rw [hy2]; omega) (by unfold maxLen; omega) (Nat.le_refl _) ?_; intro w3 hmk hgr; have hO3 : ∀ q, q < wr.heap.size → w3.heap[q]? = wr.heap[q]? := fun q hq => hgr.block q hq (by simp); have HO3 : Hid (∀ q, q < wr.heap.size → w3.heap[q]? = wr.heap[q]?) := hO3; have HB3 : Hid (w3.heap[w.heap.size + 1]? = wr.heap[w.heap.size + 1]?) := hO3 _ hltw; have hcb3 := cell_block (HB3.out.trans HBK.out); have y1 := hcb3.1; have y2 := hcb3.2; have hmk' := made_bools hmk; have HMK : Hid (ownBools w3 wr.heap.size (.slice (some ⟨wr.heap.size, 0, none⟩) (c.length * (text.size + 1) * 12) (c.length * (text.size + 1) * 12)) (List.replicate (c.length * (text.size + 1) * 12) false)) := hmk'; have hs3 : wr.heap.size ≤ w3.heap.size := hgr.size; have OG : Hid (w3.os = w2.os ∧ w3.tape = w2.tape ∧ w3.output = w2.output) := ⟨hgr.os.trans OS.out.1, hgr.tape.trans OS.out.2.1, hgr.output.trans OS.out.2.2⟩; have hlt3 : w.heap.size + 1 < w3.heap.size := (by omega); clear hmk hmk' hgr hO3 hcb3 z1 z2) | fail)
      go_returns
      have hne : ∀ q, q ≠ w.heap.size + 1 → q < wr.heap.size → (w3.setCell ⟨w.heap.size + 1, 4, none⟩ (.slice (some ⟨wr.heap.size, 0, none⟩) (c.length * (text.size + 1) * 12) (c.length * (text.size + 1) * 12))).heap[q]? = wr.heap[q]? := fun q h1 h2 => by
        rw [Below.heap_setCell _ _ _ _ h1]; exact HO3.out q h2
      refine ⟨w.heap.size + 1, gi, ga, wr.heap.size, ci, ca, c.length * (text.size + 1) * 12, rfl, ⟨?_, ?_, ?_, ?_, ?_, HCL.out, HLN.out, by omega⟩, ?_, by omega, by omega⟩
      · rw [List.length_replicate]; exact Go.heap_setCell_same w3 _ 4 _ _ _ (HB3.out.trans HBK.out)
      · exact row_same HIr.out (hne gc (by omega) (by omega))
      · exact row_same QI2.out ((hne gi (by omega) (by omega)).trans (HOO.out gi (by omega) (by omega)))
      · have := owns_base HOW.out (Nat.zero_le _)
        unfold ownInts
        rw [HLN.out] at this ⊢
        exact row_same this (hne ga (by omega) (by omega))
      · have := owns_base HMK.out (Nat.zero_le _)
        unfold ownBools
        rw [List.length_replicate] at this ⊢
        exact row_same this (Below.heap_setCell _ _ _ _ (by show wr.heap.size ≠ w.heap.size + 1; omega))
      · refine ⟨OG.out.1.trans hB2.os, OG.out.2.1.trans hB2.tape, OG.out.2.2.trans hB2.output, ?_, ?_⟩
        · have : (w3.setCell ⟨w.heap.size + 1, 4, none⟩ (.slice (some ⟨wr.heap.size, 0, none⟩) (c.length * (text.size + 1) * 12) (c.length * (text.size + 1) * 12))).heap.size = w3.heap.size := by simp [World.setCell]
          omega
        · intro q hq
          rw [hne q (by omega) (by omega), HOO.out q (by omega) (by omega)]
          exact hB2.block q hq
end Go.Proofs.YtebpgfodelggoaaGreat
set_option linter.unusedVariables false
set_option linter.unusedSimpArgs false
namespace Go.Proofs.YtebpgfodelggoaaGreat
open Go.RowKit

/-- look, with whatever number of steps left. -/
theorem look_all (wb gc gi ga gk cc ci ca ck : Nat) (c : List Mt.Ins) (text : ByteArray) (inn : List Bool) (ar : List Int) (budget : Int) (hE : EnvOk c text ar) (hb0 : 0 ≤ budget) (hb1 : budget ≤ 10000) :
    ∀ (N n : Nat), n ≤ N → (n : Int) ≤ budget → LookOk wb gc gi ga gk cc ci ca ck c text inn ar budget n
  | 0, n, h, hn => look_any wb gc gi ga gk cc ci ca ck c text inn ar budget hE hb0 hb1 n hn (fun m hm => by omega)
  | N + 1, n, h, hn => look_any wb gc gi ga gk cc ci ca ck c text inn ar budget hE hb0 hb1 n hn (fun m hm => look_all wb gc gi ga gk cc ci ca ck c text inn ar budget hE hb0 hb1 N m (by omega) (by omega))

theorem env_ok (p : ByteArray) (text : ByteArray) (h : (Mt.codeR p).2 = 0) (ht : text.size ≤ 60) : EnvOk (Mt.codeR p).1 text (loopNums (Mt.codeR p).1 (Mt.codeR p).1.length) ∧ 0 < (Mt.codeR p).1.length := by
  have hk : (Mt.checkR p).1 = 0 := by
    unfold Mt.codeR at h
    by_cases h0 : (Mt.checkR p).1 = 0
    · exact h0
    · rw [if_pos h0] at h; exact h
  obtain ⟨f, hw, e, hf, hd, hl, hc, _⟩ := Mt.pattern_tree p hk
  rw [hc]
  have hlen : (f.re.code 0 0 ++ [(⟨13, 0, 0, []⟩ : Mt.Ins)]).length = f.re.len + 1 := by rw [List.length_append, Mt.Re.code_len]; rfl
  have hg : ∀ q, q < (f.re.code 0 0 ++ [(⟨13, 0, 0, []⟩ : Mt.Ins)]).length → (loopNums (f.re.code 0 0 ++ [(⟨13, 0, 0, []⟩ : Mt.Ins)]) (f.re.code 0 0 ++ [(⟨13, 0, 0, []⟩ : Mt.Ins)]).length).getD q 0 = (Mt.loopsAt (f.re.code 0 0 ++ [(⟨13, 0, 0, []⟩ : Mt.Ins)]) q : Int) := by
    intro q hq
    unfold loopNums
    rw [List.getD_eq_getElem?_getD, List.getElem?_map, List.getElem?_range hq]; rfl
  refine ⟨⟨by omega, ht, Mt.code_codeOk _ hf hd, fun q hq => ?_, fun q hq => ?_⟩, by omega⟩
  · rw [hg q hq]
    have := Mt.loopsAt_le (f.re.code 0 0 ++ [(⟨13, 0, 0, []⟩ : Mt.Ins)]) q
    omega
  · rw [hg q (by omega)]
    have hq2 : q = (f.re.code 0 0).length := by rw [Mt.Re.code_len]; omega
    rw [hq2, Mt.loopsAt_last _ _ (by simp)]
    simp

theorem wpList_load_fd {ops : Array Oper} {rest : List Oper} {op : Oper} {a : Act} {w : World} {Q : Exit → Act → World → Prop} (hgd : op.guard = none) (x : Operand) (ho : op.op = .load 29 x)
    (b : Nat) (hx : a.eval x = .pointer (some ⟨b, 0, none⟩)) {t : TypeId} {A : Array Value} (hA : w.heap[b]? = some (.cells A t (0, 0))) (hs : A.size = 22)
    (h : wpList Tryz.prog ops Q rest (a.put op.dst (.agg A)) w) : wpList Tryz.prog ops Q (op :: rest) a w :=
  wpList_load_mid hgd _ x ho b 0 hx A.toList _ (rangeAt_block hA) Tryz.underlying29 rfl (by rw [Tryz.size57]; simp [hs]) h
theorem ret_fd2 {fn : Func} {p u : Tmp} (hr : fn.results = #[.cell p 29, .tmp u]) {tmps : Array Value} {w : World} {b : Nat} {t : TypeId} {A : Array Value} (hp : tmps.getD p undef = .pointer (some ⟨b, 0, none⟩)) (hA : w.heap[b]? = some (.cells A t (0, 0))) (hs : A.size = 22) :
    (results fn tmps).run Tryz.prog w = .ok (.tuple #[.agg A, tmps.getD u undef]) w := by
  rw [results_cell_tmp hr, hp]
  have := run_loadVar_mid (P := Tryz.prog) w b 0 29 A.toList _ (rangeAt_block hA) Tryz.underlying29 rfl (by rw [Tryz.size57]; simp [hs])
  simp [asAddr, Result.andThen, this]
theorem search_len (E : Mt.Env) (hc : Mt.codeOk E.c) (hc0 : 0 < E.c.length) (budget : Int) : ∀ (f p n : Nat) (kn : List Bool) (room : Int), p + f ≤ E.t.size + 1 → (0 ≤ room ∧ room ≤ 5000) → (Mt.search E budget f p n kn room).1.at'.length = 20
  | 0, p, n, kn, room, _, _ => rfl
  | f + 1, p, n, kn, room, hp, hr => by
    have hg := Mt.look_good E hc n n (Mt.startSt p) kn room (Nat.le_refl _) (Mt.startSt_good _ _ p hc0 (by omega)) hr
    rw [Mt.search]
    split
    · rfl
    split
    · exact Mt.foundAt_len _ _ hg.2.2.2.1
    · exact search_len E hc hc0 budget f (p + 1) _ _ _ (by omega) hg.2.2.1
end Go.Proofs.YtebpgfodelggoaaGreat
