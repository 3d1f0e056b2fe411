import Derived.Test.YtebpgfodelggoaaC38
/- put: an instruction behind the code. -/
set_option linter.unusedVariables false
set_option linter.unusedSimpArgs false
namespace Go.Proofs.Ytebpgfodelggoaa
open Go.RowKit

set_option maxRecDepth 100000 in
set_option maxHeartbeats 4000000 in
theorem put_prog {L : Nat} {w : World} {g : Nat} {b : Mt.PB} {so ao : Option Addr} {sc ac : Nat} {co : Option Addr} {cc : Nat} {c : List Mt.Ins} {d : Int} (x : Mt.Ins) (h : LAt L w g b so ao sc ac co cc c d) (hn : c.length ≤ 1000000) :
    Calls Try.prog 39 #[.pointer (some ⟨g, 0, none⟩), .agg (insA x)] w fun e w' => e = .returned (.int .i64 c.length) ∧ ∃ q cap, LAt L w' g b so ao sc ac (some ⟨q, 0, none⟩) cap (c ++ [x]) d ∧ LStep g co (some ⟨q, 0, none⟩) w w' := by
  obtain ⟨i0, hi, hz0, hz1, hz2⟩ := info_parts Try.infoIn
  have HB : Hid (LAt L w g b so ao sc ac co cc c d) := h
  obtain ⟨c0, c1, c2, c3, hf⟩ := h.cells
  have f2 := hf 2
  have hg : g < w.heap.size := h.lt.1
  have hL : L ≤ w.heap.size := by have := h.lo; omega
  have HO : Hid (w.ownsRow L 35 4 (.slice co c.length cc) c.length (c.flatMap insCells)) := h.code
  clear h hf
  go_enter Try.func39, Try.ntmps39
  go_upto_region 2 with fail
  go_cut [] (fun wx => ∃ q cap, LAt L wx g b so ao sc ac (some ⟨q, 0, none⟩) cap (c ++ [x]) d ∧ LStep g co (some ⟨q, 0, none⟩) w wx)
  case first =>
    have hcr : ∀ z : World, z.heap[w.heap.size]? = some (.cells (insA x) 35 (0, 0)) → z.rangeAt w.heap.size 0 (insA x).toList := fun z hz => rangeAt_blk hz
    have S0 : (w.alloc (.cells (insA x) 35)).heap[w.heap.size]? = some (.cells (insA x) 35 (0, 0)) := heap_alloc_new _ _
    have C2 : (w.alloc (.cells (insA x) 35)).cell? ⟨g, 2, none⟩ = some (.slice co c.length cc) := by rw [World.cell?_of_block (a := ⟨g, 2, none⟩) (heap_old w _ g hg)]; exact c2
    refine wp_region_held_drew (S := fun z : World => z.heap[w.heap.size]? = some (.cells (insA x) 35 (0, 0))) (by kernel_rfl) S0 (fun hH => ?_)
    refine takeAt 0 11 (.pointer (some ⟨g, 0, none⟩)) rfl rfl (by kernel_rfl) (by kernel_rfl) (by kernel_rfl) (fun _ _ _ h => h) (Or.inl ⟨by rfl, fun z hz => by clear hH hz hcr S0; go_simp⟩) (by assumption) ?_
    simp only [Act.put, List.setIfInBounds_toArray, List.set_cons_zero, List.set_cons_succ]
    refine takeAt 1 12 (.pointer (some ⟨g, 0, none⟩)) rfl rfl (by kernel_rfl) (by kernel_rfl) (by kernel_rfl) (fun _ _ _ h => h) (Or.inl ⟨by rfl, fun z hz => by clear hH hz hcr S0; go_simp⟩) (by assumption) ?_
    simp only [Act.put, List.setIfInBounds_toArray, List.set_cons_zero, List.set_cons_succ]
    refine takeAt 2 13 (.pointer (some ⟨g, 0, none⟩)) rfl rfl (by kernel_rfl) (by kernel_rfl) (by kernel_rfl) (fun _ _ _ h => h) (Or.inl ⟨by rfl, fun z hz => by clear hH hz hcr S0; go_simp⟩) (by assumption) ?_
    simp only [Act.put, List.setIfInBounds_toArray, List.set_cons_zero, List.set_cons_succ]
    refine takeAt 3 14 (.pointer (some ⟨g, 2, none⟩)) rfl rfl (by kernel_rfl) (by kernel_rfl) (by kernel_rfl) (fun _ _ _ h => h) (Or.inl ⟨by rfl, fun z hz => by clear hH hz hcr S0; go_simp⟩) (by assumption) ?_
    simp only [Act.put, List.setIfInBounds_toArray, List.set_cons_zero, List.set_cons_succ]
    refine takeAt 5 16 (.agg (insA x)) rfl rfl (by kernel_rfl) (by kernel_rfl) (by kernel_rfl) (fun _ _ _ h => h) (yieldsIf_load_mid (by rfl) _ _ rfl _ _ rfl _ _ hcr Try.underlying35 rfl (by rw [Try.sizeIn]; rfl)) (by assumption) ?_
    simp only [Act.put, List.setIfInBounds_toArray, List.set_cons_zero, List.set_cons_succ]
    have S1 : ((w.alloc (.cells (insA x) 35)).drew.alloc (.cells (insA x) 35)).heap[w.heap.size]? = some (.cells (insA x) 35 (0, 0)) :=
      (heap_old _ _ _ (by simp)).trans S0
    have hsz : (w.alloc (.cells (insA x) 35)).drew.heap.size = w.heap.size + 1 := by simp
    have hnw : ((w.alloc (.cells (insA x) 35)).drew.alloc (.cells (insA x) 35)).heap[w.heap.size + 1]? = some (.cells (insA x) 35 (0, 0)) := by
      rw [← hsz]; exact heap_alloc_new _ _
    refine wpAnyH_ready (rs := [4, 6]) (by kernel_rfl) (by simp) ?_
    refine AllReadyH.cons rfl (fun K hK => ?_) (AllReadyH.cons rfl (fun K hK => ?_) AllReadyH.nil)
    all_goals
      first
      | (
          refine step_build1 rfl 30 35 (.tmp 16) rfl (insA x) i0 _ (.agg (insA x)) Try.underlying30 hi hz0 (by rw [hz1]; decide) (by rw [hz1]; decide) (by rfl) (fill_ins _ hz1) ?_
          refine hK.out _ _ S1 (fun hH2 => ?_)
          clear hK K
          simp only [Act.put, List.setIfInBounds_toArray, List.set_cons_zero, List.set_cons_succ]
          refine wpAnyH_ready (rs := [4]) (by kernel_rfl) (by simp) ?_
          refine AllReadyH.cons rfl (fun K hK => ?_) AllReadyH.nil
          try clear hH
          try clear hcr
          go_simp
          refine hK.out _ _ S1 (fun hH4 => ?_)
          clear hK K
          )
      | (
          try clear hH
          try clear hcr
          go_simp
          refine hK.out _ _ S0 (fun hH4 => ?_)
          clear hK K
          refine wpAnyH_ready (rs := [6]) (by kernel_rfl) (by simp) ?_
          refine AllReadyH.cons rfl (fun K hK => ?_) AllReadyH.nil
          refine step_build1 rfl 30 35 (.tmp 16) rfl (insA x) i0 _ (.agg (insA x)) Try.underlying30 hi hz0 (by rw [hz1]; decide) (by rw [hz1]; decide) (by rfl) (fill_ins _ hz1) ?_
          refine hK.out _ _ S1 (fun hH2 => ?_)
          clear hK K
          simp only [Act.put, List.setIfInBounds_toArray, List.set_cons_zero, List.set_cons_succ, hsz]
          )
    all_goals
      refine wpAnyH_ready (rs := [7]) (by kernel_rfl) (by simp) ?_
      refine AllReadyH.cons rfl (fun K hK => ?_) AllReadyH.nil
      refine step_append_lies _ rfl (.tmp 15) (.tmp 17) 30 rfl L 35 i0 _ 4 40 Try.underlying30 hi hz0 hz1 hz2 rfl (by decide) (.slice co c.length cc) c.length (c.flatMap insCells) (by rfl) (World.ownsRow.alloc (w := (w.alloc (.cells (insA x) 35)).drew) (HO.out.alloc _) _) ⟨w.heap.size + 1, 0, none⟩ 1 1 (insCells x) (by rfl) (by rfl) (World.news_of_block (cs := (insA x)) hnw) (by intro u hu; simp [insCells] at hu; rcases hu with h | h | h | h <;> subst h <;> rfl) (by decide) (by unfold maxLen; omega) (by omega) (by simp; omega) (w.heap.size + 2) (by simp) ?_
      intro q cap w1 hown hgrow hq hqlt
      obtain ⟨A1, A2, A3⟩ := ins_after HB.out hgrow
      refine hK.out _ _ A1 (fun hH3 => ?_)
      clear hK K
      have d1 := (A2 2).trans c2
      have e1 := (A3 2).trans f2
      have HM : Hid (LAt L (w1.setCell ⟨g, 2, none⟩ (.slice (some ⟨q, 0, none⟩) (c.length + 1) cap)) g b so ao sc ac (some ⟨q, 0, none⟩) cap (c ++ [x]) d ∧ LStep g co (some ⟨q, 0, none⟩) w (w1.setCell ⟨g, 2, none⟩ (.slice (some ⟨q, 0, none⟩) (c.length + 1) cap))) :=
        put_mem HB.out (w0 := (w.alloc (.cells (insA x) 35)).drew.alloc (.cells (insA x) 35)) ((((Below.refl _ _).alloc (Nat.le_refl _) _).drew).alloc (by simp) _) (by simp; omega) (by rw [ownBlock_blk] at hgrow; exact hgrow) (by rw [ownBlock_blk] at hq; simpa using hq) hown
      have SZ : w.heap.size < w1.heap.size := (Array.getElem?_eq_some_iff.1 A1).1
      have S4 : (w1.setCell ⟨g, 2, none⟩ (.slice (some ⟨q, 0, none⟩) (c.length + 1) cap)).heap[w.heap.size]? = some (.cells (insA x) 35 (0, 0)) :=
        (Below.heap_setCell _ _ _ _ (by show w.heap.size ≠ g; omega)).trans A1
      clear A2 A3 hgrow hown hq S0 S1
      simp only [Act.put, List.setIfInBounds_toArray, List.set_cons_zero, List.set_cons_succ]
      refine takeAt 8 19 (.pointer (some ⟨g, 0, none⟩)) rfl rfl (by kernel_rfl) (by kernel_rfl) (by kernel_rfl) (fun _ _ _ h => h) (Or.inl ⟨by rfl, fun z hz => by clear hH3 hz S4; go_simp⟩) (by assumption) ?_
      simp only [Act.put, List.setIfInBounds_toArray, List.set_cons_zero, List.set_cons_succ]
      refine takeAt 9 20 (.pointer (some ⟨g, 2, none⟩)) rfl rfl (by kernel_rfl) (by kernel_rfl) (by kernel_rfl) (fun _ _ _ h => h) (Or.inl ⟨by rfl, fun z hz => by clear hH3 hz S4; go_simp⟩) (by assumption) ?_
      simp only [Act.put, List.setIfInBounds_toArray, List.set_cons_zero, List.set_cons_succ]
      refine wpAnyH_ready (rs := [10]) (by kernel_rfl) (by simp) ?_
      refine AllReadyH.cons rfl (fun K hK => ?_) AllReadyH.nil
      go_simp
      refine hK.out _ _ S4 (fun hH4 => ?_)
      clear hK K
      refine wpAnyH_done (by kernel_rfl) ?_ _
      go_wp2_with fail
      go_meet
      case rel => exact ⟨q, cap, HM.out.1, HM.out.2⟩
  case rest =>
    obtain ⟨q, cap, hP, hSt⟩ := hcut
    have HP : Hid (LAt L wc g b so ao sc ac (some ⟨q, 0, none⟩) cap (c ++ [x]) d) := hP
    have HSt : Hid (LStep g co (some ⟨q, 0, none⟩) w wc) := hSt
    clear hP hSt
    go_wp2_with fail
    go_ret
    exact ⟨rfl, q, cap, HP.out, HSt.out⟩
end Go.Proofs.Ytebpgfodelggoaa
/- endSub, aim: the numbers that are known only later. -/
set_option linter.unusedVariables false
set_option linter.unusedSimpArgs false
namespace Go.Proofs.Ytebpgfodelggoaa
open Go.RowKit

/-- What was laid behind c. -/
def LDone (L : Nat) (g : Nat) (b : Mt.PB) (so ao : Option Addr) (sc ac : Nat) (d : Int) (co : Option Addr) (w : World) (c' : List Mt.Ins) (w' : World) : Prop :=
  ∃ co' cc', LAt L w' g b so ao sc ac co' cc' c' d ∧ LStep g co co' w w'

set_option maxRecDepth 100000 in
set_option maxHeartbeats 2000000 in
theorem endSub_prog {L : Nat} {w : World} {g : Nat} {b : Mt.PB} {so ao : Option Addr} {sc ac : Nat} {co : Option Addr} {cc : Nat} {c : List Mt.Ins} {d : Int} (k : Nat) (h : LAt L w g b so ao sc ac co cc c d) (hn : c.length ≤ 1000000) (hk : k < c.length) :
    Calls Try.prog 94 #[.pointer (some ⟨g, 0, none⟩), .int .i64 (k : Int)] w fun e w' => e = .returned (.tuple #[]) ∧ LDone L g b so ao sc ac d co w (c.set k { c.getD k Mt.ins0 with y := c.length + 1 } ++ [⟨12, 0, 0, []⟩]) w' := by
  have HP : Hid (Calls Try.prog 39 #[.pointer (some ⟨g, 0, none⟩), .agg (insA ⟨12, 0, 0, []⟩)] w _) := put_prog (x := ⟨12, 0, 0, []⟩) h hn
  clear h
  unfold insA at HP
  go_enter Try.func94, Try.ntmps94
  go_wp2_with fail
  refine HP.out.mono ?_
  rintro e w1 ⟨rfl, q, cap, hA, hS⟩
  obtain ⟨c0, c1, c2, c3, hf⟩ := hA.cells
  obtain ⟨q', eq, hqg, hqs, hcap⟩ := hA.form (by simp)
  simp only [Option.some.injEq, Addr.mk.injEq, and_true, true_and] at eq
  subst eq
  have hl : (c ++ [(⟨12, 0, 0, []⟩ : Mt.Ins)]).length = c.length + 1 := by simp
  rw [hl] at c2 hcap
  have cy : w1.cell? ⟨q, k * 4 + 2, none⟩ = some (.int .i64 (c.getD k Mt.ins0).y) := by
    rw [World.ownsRow.cellAt hA.code _ (by rw [hl]; omega), ins_flat_at _ k 2 (by rw [hl]; omega) (by omega), List.getD_eq_getElem?_getD, List.getElem?_append_left hk, ← List.getD_eq_getElem?_getD]; rfl
  have fy : w1.frozen? ⟨q, k * 4 + 2, none⟩ = false := World.ownsRow.frozenAt hA.code _
  have HA : Hid (LAt L w1 g b so ao sc ac (some ⟨q, 0, none⟩) cap (c ++ [⟨12, 0, 0, []⟩]) d) := hA
  have HS : Hid (LStep g co (some ⟨q, 0, none⟩) w w1) := hS
  have hg1 : g < w1.heap.size := hA.lt.1
  clear hA hS hf HP c0 c1 c3
  have hk' : (k : Int) < (c.length : Int) + 1 := by omega
  have HE : Hid ((c ++ [(⟨12, 0, 0, []⟩ : Mt.Ins)]).set k { c.getD k Mt.ins0 with y := c.length + 1 } = c.set k { c.getD k Mt.ins0 with y := c.length + 1 } ++ [⟨12, 0, 0, []⟩]) := by
    show _ = _; rw [List.set_append_left _ _ hk]
  have HD : Hid ((c ++ [(⟨12, 0, 0, []⟩ : Mt.Ins)]).getD k Mt.ins0 = c.getD k Mt.ins0) := by
    show _ = _; rw [List.getD_eq_getElem?_getD, List.getElem?_append_left hk, ← List.getD_eq_getElem?_getD]
  go_wp2_with fail
  go_region
  go_wp2_with fail
  go_returns
  have M := HA.out.codeSet (gc := q) k 2 [.int .i64 (c.length + 1)] { c.getD k Mt.ins0 with y := c.length + 1 } (by rw [hl]; omega) (by simp) (by rw [HD.out]; rfl)
  rw [HE.out] at M
  exact ⟨rfl, _, _, M.drew, (HS.out.set (p := ⟨q, k * 4 + 2, none⟩) (Or.inr rfl) _).drew⟩

theorem code_there {L : Nat} {w : World} {g : Nat} {b : Mt.PB} {so ao : Option Addr} {sc ac : Nat} {q : Nat} {cc : Nat} {c : List Mt.Ins} {d : Int} (h : LAt L w g b so ao sc ac (some ⟨q, 0, none⟩) cc c d) (k : Nat) (hk : k < c.length) : w.there q (k * 4) 4 := there_row h.code _ _ (by omega)

set_option maxRecDepth 100000 in
set_option maxHeartbeats 2000000 in
theorem aim_prog {L : Nat} {w : World} {g : Nat} {b : Mt.PB} {so ao : Option Addr} {sc ac : Nat} {co : Option Addr} {cc : Nat} {c : List Mt.Ins} {d : Int} (k : Nat) (m : Int) (h : LAt L w g b so ao sc ac co cc c d) (hn : c.length ≤ 1000000) (hk : k < c.length) :
    Calls Try.prog 106 #[.pointer (some ⟨g, 0, none⟩), .int .i64 (k : Int), .int .i64 m] w fun e w' => e = .returned (.tuple #[]) ∧ LAt L w' g b so ao sc ac co cc (c.set k (Mt.spl (k + 1) c.length (decide (m = 2)))) d ∧ LStep g co co w w' := by
  obtain ⟨q, eq, hqg, hqs, hcap⟩ := h.form (by omega)
  subst eq
  obtain ⟨c0, c1, c2, c3, hf⟩ := h.cells
  have HA : Hid (LAt L w g b so ao sc ac (some ⟨q, 0, none⟩) cc c d) := h
  have HT := code_there h k hk
  have hk' : (k : Int) < (c.length : Int) := by omega
  clear h hf c0 c1 c3
  have HS : Hid (∀ vs a', insCells a' = setMany (insCells (c.getD k Mt.ins0)) 0 vs → vs.length = 4 → LAt L (w.setCells q (k * 4) vs) g b so ao sc ac (some ⟨q, 0, none⟩) cc (c.set k a') d ∧ LStep g (some ⟨q, 0, none⟩) (some ⟨q, 0, none⟩) w (w.setCells q (k * 4) vs)) := fun vs a' h1 h2 =>
    ⟨HA.out.codeSet k 0 vs a' hk (by omega) h1, (LStep.refl _ _ _).setMany _ _ _ (Or.inr rfl)⟩
  cases hm : (m == 2)
  · have e : decide (m = 2) = false := by simpa using hm
    rw [e]
    go_enter Try.func106, Try.ntmps106
    go_wp2_with (refine wpList_store_mid (by rfl) 35 (.tmp 34) (.tmp 33) (by rfl) q (k * 4) (insA ⟨2, k + 1, c.length, []⟩) (by rfl) (by rfl) HT (by rw [Try.sizeIn]; rfl) (insA_all _) ?_)
    go_returns
    exact ⟨rfl, HS.out (insA ⟨2, k + 1, c.length, []⟩).toList (Mt.spl (k + 1) c.length false) rfl rfl⟩
  · have e : decide (m = 2) = true := by simpa using hm
    rw [e]
    go_enter Try.func106, Try.ntmps106
    go_wp2_with (refine wpList_store_mid (by rfl) 35 (.tmp 25) (.tmp 24) (by rfl) q (k * 4) (insA ⟨2, c.length, k + 1, []⟩) (by rfl) (by rfl) HT (by rw [Try.sizeIn]; rfl) (insA_all _) ?_)
    go_returns
    exact ⟨rfl, HS.out (insA ⟨2, c.length, k + 1, []⟩).toList (Mt.spl (k + 1) c.length true) rfl rfl⟩
end Go.Proofs.Ytebpgfodelggoaa
