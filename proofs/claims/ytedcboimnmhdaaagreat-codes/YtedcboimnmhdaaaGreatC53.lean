import Derived.Test.YtedcboimnmhdaaaGreatC52
import Derived.Test.YtedcboimnmhdaaaGreatC17
import Derived.Test.YtedcboimnmhdaaaGreatC20
/- code.Weight, matcher.Weight. -/
set_option linter.unusedVariables false
set_option linter.unusedSimpArgs false
namespace Go.Proofs.YtedcboimnmhdaaaGreat
open Go.RowKit

set_option maxRecDepth 100000 in
set_option maxHeartbeats 4000000 in
theorem codeWeight_any (c : List Mt.Ins) (hcl : ∀ k, (c.take k).countP Mt.isMark = (c.take k).countP Mt.isAgain + Mt.loopsAt c k) (hl : c.length ≤ 300) (v : Value) (w : World) (h : ownIns w 0 v c) :
    Calls Tryz.prog 54 #[v] w fun e w' => e = .returned (.int .i64 (Mt.weightC c : Nat)) ∧ Below w.heap.size w w' := by
  rcases ins_cases h with ⟨rfl, ao, cap, rfl⟩ | ⟨hpos, g, cap, rfl, hcap, hg, hgb, hc⟩
  · clear h hcl
    go_enter Tryz.func54, Tryz.ntmps54
    go_wp2_with fail
    refine wp_loop_rounds 1 ?_
    rw [rounds_succ]
    go_wp2_with fail
    go_ret
    exact ⟨rfl, Below.refl _ _⟩
  · have HC : Hid (∀ k j, k < c.length → j < 4 → w.cell? ⟨g, k * 4 + j, none⟩ = (insCells (c.getD k Mt.ins0))[j]?) := hc
    have HCL : Hid (∀ k, (c.take k).countP Mt.isMark = (c.take k).countP Mt.isAgain + Mt.loopsAt c k) := hcl
    clear hc h hcl
    go_enter Tryz.func54, Tryz.ntmps54
    go_wp2_with fail
    go_loopw [3, 4, 9] (fun wt lo i wr => ∃ k : Nat, k ≤ c.length ∧ i = .int .i64 k ∧ wt = .int .i64 (Mt.weightTo c k : Nat) ∧ lo = .int .i64 (Mt.loopsAt c k : Nat) ∧ Below w.heap.size w wr) (fun _ _ i _ => c.length - (intOf i).toNat)
    case atStart =>
      refine ⟨0, Nat.zero_le _, rfl, rfl, ?_, Below.refl _ _⟩
      have := HCL.out 0
      simp at this
      rw [← this]; rfl
    case round =>
      obtain ⟨k, hk, rfl, rfl, rfl, hbr⟩ := hrel
      have hsz := hbr.size
      by_cases hlt : k < c.length
      · have hR : wr.rangeAt g (k * 4) (insCells (c.getD k Mt.ins0)) := fun j u hj => by
          by_cases h4 : j < 4
          · rw [(hbr.cell (p := ⟨g, k * 4 + j, none⟩) hg), HC.out k j hlt h4]; exact hj
          · rw [List.getElem?_eq_none (by rw [insC_len]; omega)] at hj; simp at hj
        have n1 := HCL.out k
        have n2 := HCL.out (k + 1)
        rw [Mt.count_next _ c k hlt, Mt.count_next _ c k hlt] at n2
        have HW : Hid (Mt.weightTo c (k + 1) = Mt.weightTo c k + 1 + Mt.loopsAt c k) := Mt.weightTo_next c k
        have bl := Mt.loopsAt_le c k
        have bw := Mt.weightTo_le c k
        have bw2 : k * (c.length + 1) ≤ 300 * 301 := Nat.mul_le_mul (by omega) (by omega)
        have HBR : Hid (Below w.heap.size w wr) := hbr
        have hk' : (k : Int) < (c.length : Int) := by omega
        clear hbr
        generalize c.getD k Mt.ins0 = I at *
        have HI : Hid (((I.op == 4) = true ∧ Mt.loopsAt c (k + 1) = Mt.loopsAt c k + 1) ∨ ((I.op == 4) = false ∧ (I.op == 5) = true ∧ Mt.loopsAt c (k + 1) + 1 = Mt.loopsAt c k) ∨ ((I.op == 4) = false ∧ (I.op == 5) = false ∧ Mt.loopsAt c (k + 1) = Mt.loopsAt c k)) := by
          show _ ∨ _
          unfold Mt.isMark Mt.isAgain at *
          simp only [beq_iff_eq, beq_eq_false_iff_ne, decide_eq_true_eq] at *
          by_cases e4 : I.op = 4
          · rw [if_pos e4, if_neg (by omega)] at n2; exact Or.inl ⟨e4, by omega⟩
          · rw [if_neg e4] at n2
            by_cases e5 : I.op = 5
            · rw [if_pos e5] at n2; exact Or.inr (Or.inl ⟨e4, e5, by omega⟩)
            · rw [if_neg e5] at n2; exact Or.inr (Or.inr ⟨e4, e5, by omega⟩)
        clear n1 n2
        have HST : Hid (∀ w3 : World, (∀ L, L ≤ wr.heap.size → Below L (wr.alloc (.cells (insA Mt.ins0) 106)) w3) → Below w.heap.size w w3) := fun w3 h3 => (HBR.out.alloc hsz _).trans (h3 _ hsz)
        generalize hLk : Mt.loopsAt c k = lk at *
        generalize hWk : Mt.weightTo c k = wk at *
        rcases HI.out with ⟨e4, hn⟩ | ⟨e4, e5, hn⟩ | ⟨e4, e5, hn⟩
        · go_wp2_with (first | (refine wpList_load_mid (by rfl) 106 (.tmp 11) (by rfl) g (k * 4) (by rfl) (insCells I) _ hR Tryz.underlying106 rfl (by rw [Tryz.sizeIn]; rfl) ?_) | (refine store_blk 106 4 Tryz.sizeIn (by rfl) (.tmp 6) (.tmp 12) (by rfl) wr.heap.size (insA I) (by rfl) (by rfl) (by exact heap_b1 _ _) (by rfl) (by rfl) (insA_all I) ?_; intro w3 r1 r2 r3 r4; have t0 : w3.cell? ⟨wr.heap.size, 0, none⟩ = some (.int .i64 I.op) := ((cell_block r1).1 0); have R4 : Hid (Below w.heap.size w w3) := HST.out w3 r4; clear r1 r2 r3 r4))
          go_roundw
          case rel => exact ⟨k + 1, by omega, by go_num, by rw [HW.out]; go_num, by rw [hn]; go_num, R4.out⟩
          case measure => simp [intOf]; omega
        · go_wp2_with (first | (refine wpList_load_mid (by rfl) 106 (.tmp 11) (by rfl) g (k * 4) (by rfl) (insCells I) _ hR Tryz.underlying106 rfl (by rw [Tryz.sizeIn]; rfl) ?_) | (refine store_blk 106 4 Tryz.sizeIn (by rfl) (.tmp 6) (.tmp 12) (by rfl) wr.heap.size (insA I) (by rfl) (by rfl) (by exact heap_b1 _ _) (by rfl) (by rfl) (insA_all I) ?_; intro w3 r1 r2 r3 r4; have t0 : w3.cell? ⟨wr.heap.size, 0, none⟩ = some (.int .i64 I.op) := ((cell_block r1).1 0); have R4 : Hid (Below w.heap.size w w3) := HST.out w3 r4; clear r1 r2 r3 r4))
          go_roundw
          case rel => exact ⟨k + 1, by omega, by go_num, by rw [HW.out]; go_num, by go_num, R4.out⟩
          case measure => simp [intOf]; omega
        · go_wp2_with (first | (refine wpList_load_mid (by rfl) 106 (.tmp 11) (by rfl) g (k * 4) (by rfl) (insCells I) _ hR Tryz.underlying106 rfl (by rw [Tryz.sizeIn]; rfl) ?_) | (refine store_blk 106 4 Tryz.sizeIn (by rfl) (.tmp 6) (.tmp 12) (by rfl) wr.heap.size (insA I) (by rfl) (by rfl) (by exact heap_b1 _ _) (by rfl) (by rfl) (insA_all I) ?_; intro w3 r1 r2 r3 r4; have t0 : w3.cell? ⟨wr.heap.size, 0, none⟩ = some (.int .i64 I.op) := ((cell_block r1).1 0); have R4 : Hid (Below w.heap.size w w3) := HST.out w3 r4; clear r1 r2 r3 r4))
          go_roundw
          case rel => exact ⟨k + 1, by omega, by go_num, by rw [HW.out]; go_num, by rw [hn], R4.out⟩
          case measure => simp [intOf]; omega
      · have hk2 : k = c.length := by omega
        subst hk2
        have HBR : Hid (Below w.heap.size w wr) := hbr
        clear hbr
        go_wp2_with fail
        go_ret
        exact ⟨rfl, HBR.out⟩

theorem codeR_loops (p : ByteArray) (h : (Mt.codeR p).2 = 0) (k : Nat) : ((Mt.codeR p).1.take k).countP Mt.isMark = ((Mt.codeR p).1.take k).countP Mt.isAgain + Mt.loopsAt (Mt.codeR p).1 k := by
  have h0 : (Mt.checkR p).1 = 0 := by
    unfold Mt.codeR at h
    split at h
    · rename_i x; exact absurd h x
    · rename_i x; simpa using x
  obtain ⟨f, _, _, _, _, _, hc, _⟩ := Mt.pattern_tree p h0
  exact Mt.code_loops f.re _ hc k

set_option maxRecDepth 100000 in
set_option maxHeartbeats 2000000 in
theorem Weight_any (p : ByteArray) (w : World) (hm : p.size ≤ maxLen) : Calls Tryz.prog 30 #[.string p] w fun e w' => e = .returned (.tuple #[.int .i64 (Mt.weightR p).1, .int .i64 (Mt.weightR p).2]) ∧ Below w.heap.size w w' := by
  have HC : Hid (Calls Tryz.prog 16 #[.string p] w fun e w' => ∃ v, e = .returned (.tuple #[v, .int .i64 (Mt.codeR p).2]) ∧ ownIns w' w.heap.size v (Mt.codeR p).1 ∧ Below w.heap.size w w') := Code_any p w hm
  have hl := (Mt.codeR_fit p).2
  unfold Mt.weightR
  cases he : ((Mt.codeR p).2 != 0)
  · have h0 : (Mt.codeR p).2 = 0 := by simpa using he
    rw [if_neg (by simpa using he)]
    have HW : Hid (∀ (v : Value) (z : World), ownIns z 0 v (Mt.codeR p).1 → Calls Tryz.prog 54 #[v] z fun e w' => e = .returned (.int .i64 (Mt.weightC (Mt.codeR p).1 : Nat)) ∧ Below z.heap.size z w') := fun v z hz => codeWeight_any _ (codeR_loops p h0) hl v z hz
    clear h0
    generalize Mt.codeR p = K at *
    go_enter Tryz.func30, Tryz.ntmps30
    go_wp2_with fail
    refine HC.out.mono ?_
    rintro e w1 ⟨v, rfl, ho, hb⟩
    have HO : Hid (ownIns w1 0 v K.1) := ho.base (Nat.zero_le _)
    have HB : Hid (Below w.heap.size w w1) := hb
    clear ho hb HC
    go_wp2_with fail
    refine (HW.out v w1 HO.out).mono ?_
    rintro e w2 ⟨rfl, hb2⟩
    have HB2 : Hid (Below w.heap.size w w2) := HB.out.trans (hb2.mono HB.out.size)
    clear hb2
    go_wp2_with fail
    go_ret2
    exact ⟨rfl, HB2.out⟩
  · rw [if_pos (by simpa using he)]
    generalize Mt.codeR p = K at *
    go_enter Tryz.func30, Tryz.ntmps30
    go_wp2_with fail
    refine HC.out.mono ?_
    rintro e w1 ⟨v, rfl, ho, hb⟩
    have HB : Hid (Below w.heap.size w w1) := hb
    clear ho hb HC
    go_wp2_with fail
    go_ret2
    exact ⟨rfl, HB.out⟩
end Go.Proofs.YtedcboimnmhdaaaGreat
/- The law Codes: P4 and P5. -/
set_option linter.unusedVariables false
namespace Go.Proofs.YtedcboimnmhdaaaGreat
open Go.ChangeShapes Go.WideShapes Go.ChangeAt Go.RowKit

theorem code_keeps : CodeKeeps := fun p z hp => Code_any p z hp
theorem weight_keeps : WeightKeeps := fun p z hp => Weight_any p z hp

set_option maxRecDepth 100000 in
set_option maxHeartbeats 1000000 in
theorem codes_walk (l : List Stp) (v : Value) (w : World) (h : Script w v l) (hn : l.length ≤ maxLen) (hs : ∀ o ∈ l, o.p.size ≤ maxLen ∧ o.t.size ≤ maxLen) :
    Calls Tryz.prog 4 #[v] w fun e w' => e = .returned (.bool true) ∧ Below w.heap.size w w' := by
  have HC : Hid (Calls Tryz.prog 8 #[v, .int .i64 2, .int .i64 3] w _) := upTo_true 2 3 l v w h (by unfold maxLen at hn; omega) (fun o ho k1 k2 z => by
    by_cases e : o.kind = 2
    · exact plays_code code_keeps o z (hs o ho).1 (by rw [e]; rfl) (by rw [e]; rfl)
    · have e3 : o.kind = 3 := by omega
      exact plays_weight weight_keeps o z (hs o ho).1 (by rw [e3]; rfl) (by rw [e3]; rfl) (by rw [e3]; rfl))
  go_enter Tryz.func4, Tryz.ntmps4
  go_wp2_with fail
  refine HC.out.mono ?_
  rintro e w1 ⟨rfl, b1⟩
  have HB : Hid (Below w.heap.size w w1) := b1
  clear b1
  go_wp2_with fail
  go_ret
  exact ⟨rfl, HB.out⟩

set_option maxRecDepth 100000 in
/-- What the walk gives, for every script. -/
theorem codes_contract (H : Type) (enc : TypeId × Value → H) (W : World) (base : Nat) (args : Array Value) (ds gs : List (DataW H)) (before : List MemPlace)
    (hval : ∀ (j : Nat) t v, Tryz.f4.params[j]? = some t → args[j]? = some v → Value.okWide Tryz.prog W .any base t v)
    (hW : DataW.Whole enc Tryz.prog Tryz.f4.params.toList Rows.codesSpec.vars false W args.toList ds gs before) :
    Calls Tryz.prog 4 args W fun e W' => ∃ v, e = .returned v ∧ Rows.codesSpec.post enc Tryz.prog Tryz.f4 false true false false W args v W' := by
  have hW' := hW
  have hlt := hW.lt
  obtain ⟨p, q, hA0, hV, rfl, hfz, hnd⟩ := hW
  have hA : DataW.TrodAll enc Tryz.prog W 0 (fun _ => true) true Tryz.f4.params.toList args.toList ds p := hA0
  rw [Tryz.params4] at hA hval
  obtain ⟨v0, d0, rfl, rfl, h0⟩ := trodAll_one hA
  obtain ⟨rfl, rfl⟩ := trodVars_none hV
  obtain ⟨a0, len, cap, rfl⟩ := okWide_slice Tryz.underlying22 (hval 0 22 v0 rfl rfl)
  have h0' := h0
  obtain ⟨fuel, hf⟩ := h0
  obtain ⟨l, hS, hn, hs⟩ := script_open hf
  clear hA0
  simp only [List.append_nil] at hW' hlt
  refine (codes_walk l _ W hS hn hs).mono fun e W' ⟨he, hb⟩ => ?_
  subst he
  refine ⟨_, rfl, post_below (pa := p) (pv := []) hW' (fun _ _ _ => trodAll_cons_mk (shut_bool Tryz.underlying4 _) trodAll_mk0) (fun sp hsp => ?_) (fun _ _ => rfl) (by simp) hb (ok_one (by kernel_rfl) rfl (okWide_bool_mk Tryz.underlying4 _))⟩
  have := WideElems.Trod_stays (W' := W') (sp' := sp) Tryz.laid Tryz.recOps Tryz.rowOps h0' (fun x hx => hb.same (hlt x hx)) hsp
  exact ⟨p, [], this, rfl, by simp⟩

set_option maxRecDepth 100000 in
theorem codes_lifted (os : Os) (started : os.Started) (H : Type) (enc : TypeId × Value → H) :
    ReturnsInHanded {} Tryz.checked os 4 .any (Rows.codesSpec.pre6 enc Tryz.prog Tryz.f4 Rows.codesRow.domain false) (Rows.codesSpec.post enc Tryz.prog Tryz.f4 false true false false) := by
  refine returnsInHanded_of_change (C := Tryz.checked) Tryz.ownK started (by kernel_rfl) Tryz.func4
    (ChangeSpec.witness6 (enc := enc) (C := Tryz.checked) false ⟨#[], #[.slice none 0 0], []⟩ 8 (by kernel_rfl) (by kernel_rfl) (by kernel_rfl) (by kernel_rfl)) ?_
  intro W base args ds gs before hval hW _ _
  exact codes_contract H enc W base args ds gs before hval hW

theorem codes_holds : Rows.CodesSaid :=
  OpenClaim.holds_of_wide 4 Tryz.f4 rfl rfl rfl rfl rfl rfl rfl ⟨rfl, rfl, rfl, rfl, rfl⟩ rfl rfl rfl rfl rfl (by kernel_rfl) Tryz.func4 (by kernel_rfl)
    (of_decide_eq_true (by kernel_rfl)) (by unfold Func.isWrapper; first | (rw [if_pos (by decide +kernel)]; kernel_rfl) | (rw [if_neg (by decide +kernel)]; exact ⟨rfl, rfl⟩))
    (fun os started H enc _ => codes_lifted os started H enc)
end Go.Proofs.YtedcboimnmhdaaaGreat
