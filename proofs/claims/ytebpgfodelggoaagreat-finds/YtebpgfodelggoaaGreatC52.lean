import Derived.Test.YtebpgfodelggoaaGreatC51
/- code.Chosen, matcher.isChoice. -/
set_option linter.unusedVariables false
set_option linter.unusedSimpArgs false
namespace Go.Proofs.YtebpgfodelggoaaGreat
open Go.RowKit

theorem chosen_getD (c : List Mt.Ins) (policy mask : Int) (hb : Mt.hasBack c = false) (k : Nat) (hk : k < c.length) : (Mt.chosen c policy mask).getD k false = if Mt.inSub c k = true then false else Mt.picked c k policy mask := by
  unfold Mt.chosen
  rw [if_neg (by rw [hb]; exact Bool.false_ne_true), List.getD_eq_getElem?_getD, List.getElem?_map, List.getElem?_range hk]
  rfl
theorem nums_back (c : List Mt.Ins) (policy mask : Int) (hb : Mt.hasBack c = true) : Mt.numsTo (Mt.chosen c policy mask) c.length = [] := by
  unfold Mt.chosen Mt.numsTo
  rw [if_pos hb]
  have : ((List.range c.length).filter fun i => (List.replicate c.length false).getD i false) = [] := by
    rw [List.filter_eq_nil_iff]
    intro i hi
    rw [List.getD_eq_getElem?_getD, List.getElem?_replicate]
    split <;> simp
  rw [this]; rfl
theorem pickList_at (c : List Mt.Ins) (policy mask : Int) (k : Nat) (hk : k < c.length) : (pickList c policy mask).getD k false = Mt.picked c k policy mask := by
  unfold pickList
  rw [List.getD_eq_getElem?_getD, List.getElem?_map, List.getElem?_range hk]; rfl
/-- What stands at a round of Chosen. -/
structure ChAt (c : List Mt.Ins) (policy mask : Int) (w : World) (gp k q n cap : Nat) (wr : World) : Prop where
  row : rInts wr w.heap.size (.slice (some ⟨q, 0, none⟩) n cap) (Mt.numsTo (Mt.chosen c policy mask) k)
  len : n = (Mt.numsTo (Mt.chosen c policy mask) k).length
  pk : rBools wr w.heap.size (.slice (some ⟨gp, 0, none⟩) c.length c.length) (pickList c policy mask)
  qp : q ≠ gp
  below : Below w.heap.size w wr
theorem ChAt.next {c : List Mt.Ins} {policy mask : Int} {w wr w' : World} {gp k q n cap : Nat} (h : ChAt c policy mask w gp k q n cap wr) (hb : Below wr.heap.size wr w') (e : Mt.numsTo (Mt.chosen c policy mask) (k + 1) = Mt.numsTo (Mt.chosen c policy mask) k) : ChAt c policy mask w gp (k + 1) q n cap w' :=
  ⟨by rw [e]; exact h.row.below hb, by rw [e]; exact h.len, h.pk.below hb, h.qp, h.below.trans (hb.mono h.below.size)⟩
theorem ChAt.push {c : List Mt.Ins} {policy mask : Int} {w wr w3 w4 : World} {gp k q n cap q' cap' : Nat} {E : Array Value} {te : TypeId} (h : ChAt c policy mask w gp k q n cap wr) (hb : Below wr.heap.size wr w3) (hg : (w3.alloc (.cells E te)).grownBy w4 (some q)) (hq : some q = some q' ∨ q' = w3.heap.size + 1)
    (hown : w4.ownsRow w.heap.size 3 1 (.slice (some ⟨q', 0, none⟩) (n + 1) cap') (n + 1) ((Mt.numsTo (Mt.chosen c policy mask) k).map (Value.int .i64) ++ [.int .i64 (k : Int)])) (e : Mt.numsTo (Mt.chosen c policy mask) (k + 1) = Mt.numsTo (Mt.chosen c policy mask) k ++ [(k : Int)]) : ChAt c policy mask w gp (k + 1) q' (n + 1) cap' w4 := by
  have hgp : gp < wr.heap.size := (World.ownsRow.lt h.pk gp rfl).2
  have hql := World.ownsRow.lt h.row q rfl
  have hs := hb.size
  refine ⟨?_, by rw [e, List.length_append, ← h.len]; rfl, ?_, ?_, ?_⟩
  · unfold rInts
    rw [e, List.length_append, List.map_append, ← h.len]; exact hown
  · have hp := h.pk.below hb
    unfold rBools at hp ⊢
    rw [pickList_len] at hp ⊢
    refine row_keep hp (fun z hz => ?_)
    cases hz
    rw [hg.block gp (by simp; omega) (fun ee => h.qp (by cases ee; rfl)), heap_old _ _ _ (by omega)]
  · rcases hq with hq | hq
    · cases hq; exact h.qp
    · omega
  · refine ⟨hg.os.trans (hb.os.trans h.below.os), hg.tape.trans (hb.tape.trans h.below.tape), hg.output.trans (hb.output.trans h.below.output), ?_, fun i hi => ?_⟩
    · have := hg.size; have := h.below.size; simp at *; omega
    · have := h.below.size
      rw [hg.block i (by simp; omega) (fun ee => by cases ee; omega), heap_old _ _ _ (by omega), hb.block i (by omega), h.below.block i hi]

set_option maxRecDepth 100000 in
set_option maxHeartbeats 8000000 in
theorem codeChosen_any (c : List Mt.Ins) (hok : Mt.codeOk c) (hN : Mt.Nest 0 c) (policy mask : Int) (hp : 0 ≤ policy ∧ policy ≤ 4) (hm0 : 0 ≤ mask) (hm1 : mask ≤ 4294967295) (hl : c.length ≤ 300) (g cap : Nat) (w : World) (h : ownIns w 0 (.slice (some ⟨g, 0, none⟩) c.length cap) c) :
    Calls Tryz.prog 37 #[.slice (some ⟨g, 0, none⟩) c.length cap, .int .i64 policy, .int .i64 mask] w fun e w' => ∃ q n cp, e = .returned (.slice (some ⟨q, 0, none⟩) n cp) ∧ n = (Mt.numsTo (Mt.chosen c policy mask) c.length).length ∧ rInts w' w.heap.size (.slice (some ⟨q, 0, none⟩) n cp) (Mt.numsTo (Mt.chosen c policy mask) c.length) ∧ Below w.heap.size w w' := by
  obtain ⟨i0, hi, hz0, hz1, hz2⟩ := info_parts Tryz.infoI
  obtain ⟨W1, hW1⟩ : ∃ W1, W1 = w.alloc (.cells #[] 3) := ⟨_, rfl⟩
  have B1 : Below w.heap.size w W1 := by rw [hW1]; exact (Below.refl _ _).alloc (Nat.le_refl _) _
  have Z1 : W1.heap.size = w.heap.size + 1 := by rw [hW1]; simp
  have R1 : W1.ownsRow w.heap.size 3 1 (.slice (some ⟨w.heap.size, 0, none⟩) 0 0) 0 [] := by rw [hW1]; exact World.ownsRow_lit w #[] 0 (Nat.le_refl _) (by unfold maxLen; omega) rfl
  have HHB : Hid (Calls Tryz.prog 65 #[.slice (some ⟨g, 0, none⟩) c.length cap] W1 _) := hasBack_any c hl g cap W1 (h.below B1)
  have HI : Hid (ownIns w 0 (.slice (some ⟨g, 0, none⟩) c.length cap) c) := h
  have HCTX : Hid (Mt.codeOk c ∧ Mt.Nest 0 c ∧ (0 ≤ policy ∧ policy ≤ 4) ∧ 0 ≤ mask ∧ mask ≤ 4294967295) := ⟨hok, hN, hp, hm0, hm1⟩
  clear h hok hN
  have HB1 : Hid (Below w.heap.size w W1) := B1
  have HR1 : Hid (W1.ownsRow w.heap.size 3 1 (.slice (some ⟨w.heap.size, 0, none⟩) 0 0) 0 []) := R1
  have HZ1 : Hid (W1.heap.size = w.heap.size + 1) := Z1
  clear B1 R1 Z1
  go_enter Tryz.func37, Tryz.ntmps37
  go_upto_region 2 with fail
  rw [← hW1]
  clear hW1
  cases hbk : Mt.hasBack c
  · rw [hbk] at HHB
    go_wp2_with fail
    refine HHB.out.mono ?_
    rintro e w2 ⟨rfl, hb2⟩
    have B2 : Below w.heap.size w w2 := HB1.out.trans (hb2.mono (by have := HZ1.out; omega))
    have HPK : Hid (Calls Tryz.prog 66 #[.slice (some ⟨g, 0, none⟩) c.length cap, .int .i64 policy, .int .i64 mask] w2 _) := pick_any c HCTX.out.1 policy mask HCTX.out.2.2.1 HCTX.out.2.2.2.1 HCTX.out.2.2.2.2 hl g cap w2 (HI.out.below B2)
    have HR2 : Hid (w2.ownsRow w.heap.size 3 1 (.slice (some ⟨w.heap.size, 0, none⟩) 0 0) 0 []) := owns_below HR1.out hb2
    have HB2 : Hid (Below w.heap.size w w2 ∧ w.heap.size < w2.heap.size) := ⟨B2, by have := HZ1.out; have := hb2.size; omega⟩
    clear hb2 B2 HHB HR1 HB1 HZ1
    go_wp2_with fail
    refine HPK.out.mono ?_
    rintro e w3 ⟨rfl, hpk, hb3⟩
    have HC0 : Hid (ChAt c policy mask w w2.heap.size 0 w.heap.size 0 0 w3) := by
      refine ⟨owns_below HR2.out hb3, rfl, ?_, by have := HB2.out.2; omega, HB2.out.1.trans (hb3.mono HB2.out.1.size)⟩
      exact owns_base hpk (by have := HB2.out.2; omega)
    clear hpk hb3 HPK HR2 HB2
    generalize w2.heap.size = gp at *
    go_wp2_with fail
    go_loopw [7, 9, 22] (fun v b i wr => ∃ k q n cp : Nat, k ≤ c.length ∧ i = .int .i64 k ∧ b = .int .i64 (Mt.bh c k) ∧ v = .slice (some ⟨q, 0, none⟩) n cp ∧ ChAt c policy mask w gp k q n cp wr) (fun _ _ i _ => c.length - (intOf i).toNat)
    case atStart => exact ⟨0, w.heap.size, 0, 0, Nat.zero_le _, rfl, rfl, rfl, HC0.out⟩
    case round =>
      obtain ⟨k, q, n, cp, hk, rfl, rfl, rfl, hch⟩ := hrel
      by_cases hlt : k < c.length
      · have hR := code_range HI.out hch.below k hlt
        have hk' : (k : Int) < (c.length : Int) := by omega
        have HCH : Hid (ChAt c policy mask w gp k q n cp wr) := hch
        have hsub := Mt.bh_inSub c HCTX.out.2.1 k hlt
        have hnx := Mt.numsTo_next (Mt.chosen c policy mask) k
        rw [chosen_getD c policy mask hbk k hlt, ← hsub] at hnx
        obtain ⟨y1, y2⟩ := hch.pk.at k (by rw [pickList_len]; exact hlt) (by rw [pickList_len])
        rw [pickList_at c policy mask k hlt] at y1
        have hgp : gp < wr.heap.size := (World.ownsRow.lt hch.pk gp rfl).2
        have HBH : Hid (Mt.bh c (k + 1) = if (k : Int) < Mt.bh c k then Mt.bh c k else if (c.getD k Mt.ins0).op = 11 then (c.getD k Mt.ins0).y else Mt.bh c k) := rfl
        have hnl : n ≤ 300 := by rw [hch.len]; have := Mt.numsTo_len (Mt.chosen c policy mask) k; omega
        have HNX : Hid (Mt.numsTo (Mt.chosen c policy mask) (k + 1) = Mt.numsTo (Mt.chosen c policy mask) k ++ if (if decide ((k : Int) < Mt.bh c k) = true then false else Mt.picked c k policy mask) = true then [(k : Int)] else []) := hnx
        have HBR : Hid (Below w.heap.size w wr) := hch.below
        clear hch hsub hnx y2
        generalize c.getD k Mt.ins0 = I at *
        generalize hpk : Mt.picked c k policy mask = pk at *
        generalize hbe : Mt.bh c k = bk at *
        go_upto_region 9 with (first | (refine wpList_load_mid (by rfl) 112 (.tmp 25) (by rfl) g (k * 4) (by rfl) (insCells I) _ hR Tryz.underlying112 rfl (by rw [Tryz.sizeIn]; rfl) ?_) | (refine store_blk 112 4 Tryz.sizeIn (by rfl) (.tmp 11) (.tmp 26) (by rfl) wr.heap.size (insA I) (by rfl) (by rfl) (by exact heap_b1 _ _) (by rfl) (by rfl) (insA_all I) ?_; intro w4 r1 r2 r3 r4))
        obtain ⟨x0, x1, x2, B4, B5⟩ := box_ins HBR.out r1 r4
        have z1 : w4.cell? ⟨gp, k, none⟩ = some (.bool pk) := (World.cell?_of_block (a := ⟨gp, k, none⟩) (B5.block gp hgp)).trans y1
        have HB5 : Hid (Below wr.heap.size wr w4) := B5
        clear r1 r2 r3 r4 B4 B5 hR x1 y1
        cases hd : decide ((k : Int) < bk)
        · have hnb : ¬ (k : Int) < bk := by simpa using hd
          have HBH2 : Hid (Mt.bh c (k + 1) = if I.op = 11 then I.y else bk) := by show _ = _; rw [HBH.out, if_neg hnb]
          cases pk
          · have HN1 : Hid (Mt.numsTo (Mt.chosen c policy mask) (k + 1) = Mt.numsTo (Mt.chosen c policy mask) k) := by
              show _ = _; rw [HNX.out, hd]; simp
            have HCN : Hid (ChAt c policy mask w gp (k + 1) q n cp w4) := HCH.out.next HB5.out HN1.out
            cases h11 : (I.op == 11)
            · have HBH3 : Hid (Mt.bh c (k + 1) = bk) := by show _ = _; rw [HBH2.out, if_neg (by simpa using h11)]
              go_wp2_with fail
              go_roundw
              case rel => exact ⟨k + 1, q, n, cp, by omega, by go_num, by rw [HBH3.out], rfl, HCN.out⟩
              case measure => simp [intOf]; omega
            · have HBH3 : Hid (Mt.bh c (k + 1) = I.y) := by show _ = _; rw [HBH2.out, if_pos (by simpa using h11)]
              go_wp2_with fail
              go_roundw
              case rel => exact ⟨k + 1, q, n, cp, by omega, by go_num, by rw [HBH3.out], rfl, HCN.out⟩
              case measure => simp [intOf]; omega
          · have HN1 : Hid (Mt.numsTo (Mt.chosen c policy mask) (k + 1) = Mt.numsTo (Mt.chosen c policy mask) k ++ [(k : Int)]) := by
              show _ = _; rw [HNX.out, hd]; simp
            have HO4 : Hid (w4.ownsRow w.heap.size 3 1 (.slice (some ⟨q, 0, none⟩) n cp) n ((Mt.numsTo (Mt.chosen c policy mask) k).map (Value.int .i64))) := by
              have := HCH.out.row.below HB5.out
              unfold rInts at this
              rw [← HCH.out.len] at this; exact this
            have hws : w.heap.size ≤ w4.heap.size := Nat.le_trans HBR.out.size HB5.out.size
            cases h11 : (I.op == 11)
            · have HBH3 : Hid (Mt.bh c (k + 1) = bk) := by show _ = _; rw [HBH2.out, if_neg (by simpa using h11)]
              go_wp2_with (at_builtin; refine wpList_append_lies _ rfl _ _ 41 rfl w.heap.size 3 i0 _ 1 8 Tryz.underlying41 hi hz0 hz1 hz2 rfl (by decide) _ n _ rfl (World.ownsRow.alloc HO4.out _) ⟨w4.heap.size, 0, none⟩ 1 1 [.int .i64 (k : Int)] rfl rfl (news_cells _ _ _) (by simp [Value.oneCell']) (by decide) (by unfold maxLen; omega) (by omega) (by simp; omega) (w4.heap.size + 1) (by simp) ?_)
              intro q' cap' w5 hown hgrow hqq hqlt
              have HCN : Hid (ChAt c policy mask w gp (k + 1) q' (n + 1) cap' w5) := HCH.out.push HB5.out hgrow (by simpa [Value.ownBlock] using hqq) hown HN1.out
              clear hown hgrow hqq hqlt
              go_wp2_with fail
              go_roundw
              case rel => exact ⟨k + 1, q', n + 1, cap', by omega, by go_num, by rw [HBH3.out], rfl, HCN.out⟩
              case measure => simp [intOf]; omega
            · have HBH3 : Hid (Mt.bh c (k + 1) = I.y) := by show _ = _; rw [HBH2.out, if_pos (by simpa using h11)]
              go_wp2_with (at_builtin; refine wpList_append_lies _ rfl _ _ 41 rfl w.heap.size 3 i0 _ 1 8 Tryz.underlying41 hi hz0 hz1 hz2 rfl (by decide) _ n _ rfl (World.ownsRow.alloc HO4.out _) ⟨w4.heap.size, 0, none⟩ 1 1 [.int .i64 (k : Int)] rfl rfl (news_cells _ _ _) (by simp [Value.oneCell']) (by decide) (by unfold maxLen; omega) (by omega) (by simp; omega) (w4.heap.size + 1) (by simp) ?_)
              intro q' cap' w5 hown hgrow hqq hqlt
              have HCN : Hid (ChAt c policy mask w gp (k + 1) q' (n + 1) cap' w5) := HCH.out.push HB5.out hgrow (by simpa [Value.ownBlock] using hqq) hown HN1.out
              clear hown hgrow hqq hqlt
              go_wp2_with fail
              go_roundw
              case rel => exact ⟨k + 1, q', n + 1, cap', by omega, by go_num, by rw [HBH3.out], rfl, HCN.out⟩
              case measure => simp [intOf]; omega
        · have hnb : (k : Int) < bk := by simpa using hd
          have HBH2 : Hid (Mt.bh c (k + 1) = bk) := by show _ = _; rw [HBH.out, if_pos hnb]
          have HN1 : Hid (Mt.numsTo (Mt.chosen c policy mask) (k + 1) = Mt.numsTo (Mt.chosen c policy mask) k) := by
            show _ = _; rw [HNX.out, hd]; simp
          have HCN : Hid (ChAt c policy mask w gp (k + 1) q n cp w4) := HCH.out.next HB5.out HN1.out
          go_wp2_with fail
          go_roundw
          case rel => exact ⟨k + 1, q, n, cp, by omega, by go_num, by rw [HBH2.out], rfl, HCN.out⟩
          case measure => simp [intOf]; omega
      · have hk2 : k = c.length := by omega
        subst hk2
        have HCH : Hid (ChAt c policy mask w gp c.length q n cp wr) := hch
        clear hch
        go_wp2_with fail
        go_ret
        exact ⟨q, n, cp, rfl, HCH.out.len, HCH.out.row, HCH.out.below⟩
  · rw [hbk] at HHB
    have HNB : Hid (Mt.numsTo (Mt.chosen c policy mask) c.length = []) := nums_back c policy mask hbk
    go_wp2_with fail
    refine HHB.out.mono ?_
    rintro e w2 ⟨rfl, hb2⟩
    have HF : Hid (Below w.heap.size w w2 ∧ rInts w2 w.heap.size (.slice (some ⟨w.heap.size, 0, none⟩) 0 0) []) := ⟨HB1.out.trans (hb2.mono (by have := HZ1.out; omega)), owns_below HR1.out hb2⟩
    clear hb2
    go_wp2_with fail
    go_ret
    exact ⟨w.heap.size, 0, 0, rfl, by rw [HNB.out]; rfl, by rw [HNB.out]; exact HF.out.2, HF.out.1⟩

set_option maxHeartbeats 2000000 in
theorem isChoice_any (policy mask : Int) (w : World) : Calls Tryz.prog 36 #[.int .i64 policy, .int .i64 mask] w fun e w' => e = .returned (.bool (Mt.maySelect policy mask)) ∧ w = w' := by
  have HC : Hid (Mt.maySelect policy mask = (decide (policy ≥ 0) && decide (policy ≤ 4) && decide (mask ≥ 0) && decide (mask ≤ 4294967295))) := by
    show _ = _
    unfold Mt.maySelect
    rw [Bool.eq_iff_iff]; simp; omega
  rw [HC.out]
  cases h1 : decide (policy ≥ 0)
  · go_enter Tryz.func36, Tryz.ntmps36
    go_wp2_with fail
    go_ret
    exact ⟨rfl, rfl⟩
  cases h2 : decide (policy ≤ 4)
  · go_enter Tryz.func36, Tryz.ntmps36
    go_wp2_with fail
    go_ret
    exact ⟨rfl, rfl⟩
  cases h3 : decide (mask ≥ 0)
  · go_enter Tryz.func36, Tryz.ntmps36
    go_wp2_with fail
    go_ret
    exact ⟨rfl, rfl⟩
  cases h4 : decide (mask ≤ 4294967295)
  · go_enter Tryz.func36, Tryz.ntmps36
    go_wp2_with fail
    go_ret
    exact ⟨rfl, rfl⟩
  · go_enter Tryz.func36, Tryz.ntmps36
    go_wp2_with fail
    go_ret
    exact ⟨rfl, rfl⟩
end Go.Proofs.YtebpgfodelggoaaGreat
/- matcher.Chosen. -/
set_option linter.unusedVariables false
set_option linter.unusedSimpArgs false
namespace Go.Proofs.YtebpgfodelggoaaGreat
open Go.RowKit

theorem codeR_check (p : ByteArray) (h : (Mt.codeR p).2 = 0) : (Mt.checkR p).1 = 0 := by
  unfold Mt.codeR at h
  split at h
  · rename_i x; exact absurd h x
  · rename_i x; simpa using x
set_option maxRecDepth 100000 in
set_option maxHeartbeats 2000000 in
theorem Chosen_any (p : ByteArray) (policy mask : Int) (w : World) (hm : p.size ≤ maxLen) : Calls Tryz.prog 58 #[.string p, .int .i64 policy, .int .i64 mask] w fun e w' => ∃ v, e = .returned (.tuple #[v, .int .i64 (Mt.chosenR p policy mask).2]) ∧ rInts w' w.heap.size v (Mt.chosenR p policy mask).1 ∧ Below w.heap.size w w' := by
  have HC : Hid (Calls Tryz.prog 35 #[.string p] w fun e w' => ∃ v, e = .returned (.tuple #[v, .int .i64 (Mt.codeR p).2]) ∧ ownIns w' w.heap.size v (Mt.codeR p).1 ∧ Below w.heap.size w w') := Code_any p w hm
  have hl := (Mt.codeR_fit p).2
  cases he : ((Mt.codeR p).2 != 0)
  · have h0 : (Mt.codeR p).2 = 0 := by simpa using he
    obtain ⟨A, hK⟩ := Mt.pattern_known p (codeR_check p h0)
    have hN := Mt.pattern_nest p (codeR_check p h0)
    have HIC : Hid (∀ z : World, Calls Tryz.prog 36 #[.int .i64 policy, .int .i64 mask] z fun e w' => e = .returned (.bool (Mt.maySelect policy mask)) ∧ z = w') := fun z => isChoice_any policy mask z
    cases hms : Mt.maySelect policy mask
    · have HR : Hid (Mt.chosenR p policy mask = ([], 13)) := by show _ = _; unfold Mt.chosenR; rw [if_neg (by omega), if_pos hms]
      rw [HR.out]
      rw [hms] at HIC
      clear h0 hK hN
      generalize Mt.codeR p = K at *
      go_enter Tryz.func58, Tryz.ntmps58
      go_wp2_with fail
      refine HC.out.mono ?_
      rintro e w1 ⟨v, rfl, ho, hb⟩
      have HB : Hid (Below w.heap.size w w1) := hb
      clear ho hb HC
      go_wp2_with fail
      refine (HIC.out w1).mono ?_
      rintro e w2 ⟨rfl, rfl⟩
      go_wp2_with fail
      go_ret2
      exact ⟨.slice none 0 0, rfl, World.ownsRow_nil _ _ _ _, HB.out⟩
    · have hms' : 0 ≤ policy ∧ policy ≤ 4 ∧ 0 ≤ mask ∧ mask ≤ 4294967295 := by unfold Mt.maySelect at hms; simpa using hms
      have HR : Hid (Mt.chosenR p policy mask = (Mt.numsTo (Mt.chosen (Mt.codeR p).1 policy mask) (Mt.codeR p).1.length, 0)) := by show _ = _; unfold Mt.chosenR; rw [if_neg (by omega), if_neg (by rw [hms]; decide)]
      rw [HR.out]
      rw [hms] at HIC
      have HCC : Hid (∀ (g cap : Nat) (z : World), ownIns z 0 (.slice (some ⟨g, 0, none⟩) (Mt.codeR p).1.length cap) (Mt.codeR p).1 → Calls Tryz.prog 37 #[.slice (some ⟨g, 0, none⟩) (Mt.codeR p).1.length cap, .int .i64 policy, .int .i64 mask] z fun e w' => ∃ q n cp, e = .returned (.slice (some ⟨q, 0, none⟩) n cp) ∧ n = (Mt.numsTo (Mt.chosen (Mt.codeR p).1 policy mask) (Mt.codeR p).1.length).length ∧ rInts w' z.heap.size (.slice (some ⟨q, 0, none⟩) n cp) (Mt.numsTo (Mt.chosen (Mt.codeR p).1 policy mask) (Mt.codeR p).1.length) ∧ Below z.heap.size z w') :=
        fun g cap z hz => codeChosen_any _ hK.ok hN policy mask ⟨hms'.1, hms'.2.1⟩ hms'.2.2.1 hms'.2.2.2 hl g cap z hz
      have hpos := hK.pos
      clear h0 hK hN hms'
      generalize Mt.codeR p = K at *
      go_enter Tryz.func58, Tryz.ntmps58
      go_wp2_with fail
      refine HC.out.mono ?_
      rintro e w1 ⟨v, rfl, ho, hb⟩
      obtain ⟨g, cap, rfl, _, _⟩ := World.ownsRow.form ho hpos
      have HO : Hid (ownIns w1 0 (.slice (some ⟨g, 0, none⟩) K.1.length cap) K.1) := ho.base (Nat.zero_le _)
      have HB : Hid (Below w.heap.size w w1) := hb
      clear ho hb HC
      go_wp2_with fail
      refine (HIC.out w1).mono ?_
      rintro e w2 ⟨rfl, rfl⟩
      go_wp2_with fail
      refine (HCC.out g cap w1 HO.out).mono ?_
      rintro e w3 ⟨q, n, cp, rfl, hn, hr, hb3⟩
      have HF : Hid (rInts w3 w.heap.size (.slice (some ⟨q, 0, none⟩) n cp) (Mt.numsTo (Mt.chosen K.1 policy mask) K.1.length) ∧ Below w.heap.size w w3) := ⟨owns_base hr HB.out.size, HB.out.trans (hb3.mono HB.out.size)⟩
      clear hr hb3 hn
      go_wp2_with fail
      go_ret2
      exact ⟨_, rfl, HF.out.1, HF.out.2⟩
  · have HR : Hid (Mt.chosenR p policy mask = ([], (Mt.codeR p).2)) := by show _ = _; unfold Mt.chosenR; rw [if_pos (by simpa using he)]
    rw [HR.out]
    generalize Mt.codeR p = K at *
    go_enter Tryz.func58, Tryz.ntmps58
    go_wp2_with fail
    refine HC.out.mono ?_
    rintro e w1 ⟨v, rfl, ho, hb⟩
    have HB : Hid (Below w.heap.size w w1) := hb
    clear ho hb HC
    go_wp2_with fail
    go_ret2
    exact ⟨.slice none 0 0, rfl, World.ownsRow_nil _ _ _ _, HB.out⟩
end Go.Proofs.YtebpgfodelggoaaGreat
