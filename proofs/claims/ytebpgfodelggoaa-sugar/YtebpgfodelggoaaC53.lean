import Derived.Test.YtebpgfodelggoaaC52
import Derived.Test.YtebpgfodelggoaaC00
import Derived.ChangeMaps5
/- matcherkeep: Sugar. (Plain seats alone.) -/
set_option linter.unusedVariables false
set_option linter.unusedSimpArgs false
namespace Go.Proofs.Ytebpgfodelggoaa
open Go.RowKit

theorem twin_small (l : List UInt8) (hl : l.length ≤ 12) (i : Nat) (hi : i < 14) : (Mt.bp (twinP l i).1).size ≤ maxLen ∧ (Mt.bp (twinP l i).2).size ≤ maxLen := by
  have h : ∀ q ∈ Mt.twinL l, q.1.length ≤ 100 ∧ q.2.length ≤ 100 := by
    intro q hq
    simp only [Mt.twinL, List.mem_cons, List.not_mem_nil, or_false] at hq
    rcases hq with rfl | rfl | rfl | rfl | rfl | rfl | rfl | rfl | rfl | rfl | rfl | rfl | rfl | rfl <;> simp [Mt.yB_len] <;> omega
  have := h _ (twinP_mem l i hi)
  rw [Mt.bp_size, Mt.bp_size]
  unfold maxLen; omega

set_option maxRecDepth 100000 in
set_option maxHeartbeats 4000000 in
theorem Sugar_any (x : ByteArray) (w : World) (hm : x.size ≤ maxLen) : Calls Try.prog 3 #[.string x] w fun e w' => e = .returned (.bool true) ∧ Below w.heap.size w w' := by
  have hs := someB_size x 12
  have K0 : Hid (Calls Try.prog 7 #[.string x, .int .i64 ((12 : Nat) : Int)] w fun e w' => e = .returned (.string (someB x 12)) ∧ w = w') := some_any x 12 w hm (by omega)
  generalize hX : someB x 12 = X at *
  have hXm : X.size ≤ maxLen := by unfold maxLen; omega
  have K1 : Hid (Calls Try.prog 8 #[.string X] w fun e w' => e = .returned (.tuple #[.int .i64 (Mt.checkR X).1, .bool true]) ∧ Below w.heap.size w w') := checked_any X w hXm
  have KM : Hid (∀ z : World, Calls Try.prog 10 #[.string X] z fun e w' => CapSays X e ∧ z = w') := fun z => mayCapture_any X z (by omega)
  have KT : Hid (∀ z : World, Calls Try.prog 11 #[.string X] z fun e w' => e = .returned (.slice (some ⟨z.heap.size, 0, none⟩) 28 28) ∧ w' = z.alloc (.cells (twinA X (yW X)) 9)) := fun z => twins_any X z hs.1
  have HM : Hid ((Mt.checkR X).1 = 0 → Mt.NoCap X → ∀ q ∈ Mt.twinL X.data.toList, Mt.Same2 q.1 q.2) := fun h0 hc => Mt.sugar_math X.data.toList (by rw [Array.length_toList]; exact hs.1) (by rw [bp_self]; exact hc) (by rw [bp_self]; exact h0)
  have HTC : Hid (∀ i, i < 14 → (twinA X (yW X))[i * 2]? = some (.string (Mt.bp (twinP X.data.toList i).1)) ∧ (twinA X (yW X))[i * 2 + 1]? = some (.string (Mt.bp (twinP X.data.toList i).2))) := by
    have := twin_cells X.data.toList
    rw [bp_self] at this; exact this
  have HTS : Hid (∀ i, i < 14 → (Mt.bp (twinP X.data.toList i).1).size ≤ maxLen ∧ (Mt.bp (twinP X.data.toList i).2).size ≤ maxLen) := fun i hi => twin_small _ (by rw [Array.length_toList]; exact hs.1) i hi
  clear hX hm hXm hs
  generalize (Mt.checkR X).1 = E at *
  generalize X.data.toList = l at *
  generalize twinA X (yW X) = TA at *
  go_enter Try.func3, Try.ntmps3
  go_wp2_with fail
  refine K0.out.mono ?_
  rintro e w' ⟨rfl, rfl⟩
  go_wp2_with fail
  refine K1.out.mono ?_
  rintro e w1 ⟨rfl, b1⟩
  have HB1 : Hid (Below w.heap.size w w1) := b1
  clear b1
  go_wp2_with fail
  refine (codes_any w1).mono ?_
  rintro e w2 ⟨rfl, b2⟩
  have HB2 : Hid (Below w.heap.size w w2) := HB1.out.trans (b2.mono HB1.out.size)
  clear b2
  by_cases hE : E = 0
  · have m0 : (E != 0) = false := by simpa using hE
    have HM0 : Hid (Mt.NoCap X → ∀ q ∈ Mt.twinL l, Mt.Same2 q.1 q.2) := HM.out hE
    clear HM hE
    go_wp2_with fail
    refine (KM.out w2).mono ?_
    rintro e w' ⟨⟨bb, rfl, hbb⟩, rfl⟩
    have HBB : Hid (bb = false → Mt.NoCap X) := hbb
    clear hbb
    cases bb
    · have HS : Hid (∀ i, i < 14 → _) := fun i hi => twin_code (HM0.out (HBB.out rfl)) i hi
      clear HM0 HBB
      go_wp2_with fail
      refine (KT.out w2).mono ?_
      rintro e w3 ⟨rfl, hw3⟩
      have HB3 : Hid (Below w.heap.size w w3 ∧ w3.heap[w2.heap.size]? = some (.cells TA 9 (0, 0)) ∧ w2.heap.size < w3.heap.size) := by
        subst hw3
        exact ⟨HB2.out.alloc HB2.out.size _, heap_b1 _ _, by simp⟩
      clear hw3
      go_wp2_with fail
      go_loopw [8] (fun i wr => ∃ k : Nat, k ≤ 14 ∧ i = .int .i64 ((k * 2 : Nat) : Int) ∧ Below w3.heap.size w3 wr) (fun i _ => 28 - (intOf i).toNat)
      case atStart => exact ⟨0, by omega, rfl, Below.refl _ _⟩
      case round =>
        obtain ⟨k, hk, rfl, hbr⟩ := hrel
        have hblk : wr.heap[w2.heap.size]? = some (.cells TA 9 (0, 0)) := (hbr.block _ HB3.out.2.2).trans HB3.out.2.1
        have HBR : Hid (Below w3.heap.size w3 wr) := hbr
        clear hbr
        by_cases hlt : k < 14
        · obtain ⟨t1, t2⟩ := HTC.out k hlt
          obtain ⟨z1, z2⟩ := HTS.out k hlt
          have c1 := ((cell_block hblk).1 (k * 2)).trans t1
          have c2 := ((cell_block hblk).1 (k * 2 + 1)).trans t2
          obtain ⟨s1, s2, s3⟩ := HS.out k hlt
          have Q1 : Hid (∀ z : World, Calls Try.prog 12 #[.string (Mt.bp (twinP l k).1)] z fun e w' => ∃ v, e = .returned (.tuple #[v, .int .i64 (Mt.codeR (Mt.bp (twinP l k).1)).2]) ∧ ownIns w' z.heap.size v (Mt.codeR (Mt.bp (twinP l k).1)).1 ∧ Below z.heap.size z w') := fun z => Code_any _ z z1
          have Q2 : Hid (∀ z : World, Calls Try.prog 12 #[.string (Mt.bp (twinP l k).2)] z fun e w' => ∃ v, e = .returned (.tuple #[v, .int .i64 (Mt.codeR (Mt.bp (twinP l k).1)).2]) ∧ ownIns w' z.heap.size v (Mt.codeR (Mt.bp (twinP l k).1)).1 ∧ Below z.heap.size z w') := fun z => by
            have := Code_any (Mt.bp (twinP l k).2) z z2
            rw [s1] at this; exact this
          have hcl := (Mt.codeR_fit (Mt.bp (twinP l k).1)).2
          have S2 : Hid ((Mt.codeR (Mt.bp (twinP l k).1)).2 = 0 ∨ (Mt.codeR (Mt.bp (twinP l k).1)).2 = 12) := s2
          have S3 : Hid ((Mt.codeR (Mt.bp (twinP l k).1)).2 = 0 → ∃ c, (Mt.codeR (Mt.bp (twinP l k).1)).1 = c ++ [⟨13, 0, 0, []⟩]) := s3
          clear t1 t2 z1 z2 s1 s2 s3
          generalize (Mt.codeR (Mt.bp (twinP l k).1)).1 = C at *
          generalize (Mt.codeR (Mt.bp (twinP l k).1)).2 = F at *
          generalize Mt.bp (twinP l k).1 = p1 at *
          generalize Mt.bp (twinP l k).2 = p2 at *
          have lk : w2.heap.size < wr.heap.size := (Array.getElem?_eq_some_iff.1 hblk).1
          have kk : ((k * 2 : Nat) : Int) + 1 < 28 := by omega
          have kd : decide (((k * 2 : Nat) : Int) + 1 < 28) = true := by simpa using kk
          have HKM : Hid (k * 2 + 2 = (k + 1) * 2) := by show _ = _; omega
          clear hblk
          generalize hj : k * 2 = j at *
          go_wp2_with fail
          refine (Q1.out wr).mono ?_
          rintro e w4 ⟨v1, rfl, o1, b4⟩
          have H4 : Hid (ownIns w4 0 v1 C ∧ Below w3.heap.size w3 w4) := ⟨o1.base (Nat.zero_le _), HBR.out.trans (b4.mono HBR.out.size)⟩
          have d2 := (b4.cell (p := ⟨w2.heap.size, j + 1, none⟩) lk).trans c2
          clear o1 b4
          go_wp2_with fail
          refine (Q2.out w4).mono ?_
          rintro e w5 ⟨v2, rfl, o2, b5⟩
          have H5 : Hid (ownIns w5 0 v1 C ∧ ownIns w5 0 v2 C ∧ Below w3.heap.size w3 w5) := ⟨H4.out.1.below b5, o2.base (Nat.zero_le _), H4.out.2.trans (b5.mono H4.out.2.size)⟩
          clear o2 b5
          go_wp2_with fail
          refine (keepSame_same C v1 v2 w5 H5.out.1 H5.out.2.1 hcl).mono ?_
          rintro e w6 ⟨rfl, n6, hw6⟩
          have hb6 : Below w5.heap.size w5 w6 := by rw [hw6]; exact below_drewN (Below.refl _ _) _
          have H6 : Hid (ownIns w6 0 v1 C ∧ Below w3.heap.size w3 w6) := ⟨H5.out.1.below hb6, H5.out.2.2.trans (hb6.mono H5.out.2.2.size)⟩
          clear hb6 hw6
          have mff : (F != F) = false := by simp
          rcases S2.out with hF | hF
          · obtain ⟨c, hc⟩ := S3.out hF
            rcases ins_two H6.out.1 with ⟨e0, _⟩ | ⟨hpos, g, cap, rfl, hcap, hg, hgb, hcell⟩
            · rw [hc] at e0; simp at e0
            have hn : C.length = c.length + 1 := by rw [hc]; simp
            have c0 := hcell c.length 0 (by omega) (by omega)
            have e13 : C.getD c.length Mt.ins0 = ⟨13, 0, 0, []⟩ := by rw [hc, List.getD_eq_getElem?_getD, List.getElem?_append_right (Nat.le_refl _)]; simp
            rw [e13] at c0
            change w6.cell? ⟨g, c.length * 4, none⟩ = some (.int .i64 13) at c0
            rw [hn] at hcl hcap
            rw [hn]
            have HB6 : Hid (Below w3.heap.size w3 w6) := H6.out.2
            clear hcell hc e13 S3 S2 H6 H5 H4 Q1 Q2 hpos hn
            generalize c.length = n at *
            subst hF
            have m1 : ((n : Int) + 1 == 0) = false := by simp; omega
            have i1 : (n : Int) < (n : Int) + 1 := by omega
            have i0 : (0 : Int) ≤ (n : Int) := by omega
            have i2 : (n : Int) + 1 - 1 = n := by omega
            go_wp2_with fail
            go_roundw
            case rel => exact ⟨k + 1, by omega, by rw [← HKM.out]; go_num, HB6.out⟩
            case measure => simp [intOf]; omega
          · have HB6 : Hid (Below w3.heap.size w3 w6) := H6.out.2
            subst hF
            clear S3 S2 H6 H5 H4 Q1 Q2
            go_wp2_with fail
            go_roundw
            case rel => exact ⟨k + 1, by omega, by rw [← HKM.out]; go_num, HB6.out⟩
            case measure => simp [intOf]; omega
        · have ek : k = 14 := by omega
          subst ek
          have HBE : Hid (Below w.heap.size w wr) := HB3.out.1.trans (HBR.out.mono HB3.out.1.size)
          go_wp2_with fail
          go_ret
          exact ⟨rfl, HBE.out⟩
    · go_wp2_with fail
      go_ret
      exact ⟨rfl, HB2.out⟩
  · have m0 : (E != 0) = true := by simpa using hE
    go_wp2_with fail
    go_ret
    exact ⟨rfl, HB2.out⟩
end Go.Proofs.Ytebpgfodelggoaa
/- The law Sugar: P4. (Plain seats alone.) -/
set_option linter.unusedVariables false
namespace Go.Proofs.Ytebpgfodelggoaa
open Go.ChangeShapes Go.WideShapes Go.ChangeAt Go.RowKit Go.ChangeMaps

set_option maxRecDepth 100000 in
theorem sugar_contract (H : Type) (enc : TypeId × Value → H) (W : World) (base : Nat) (args : Array Value) (ds gs : List (DataW H)) (before : List MemPlace)
    (hval : ∀ (j : Nat) t v, Try.f3.params[j]? = some t → args[j]? = some v → Value.okWide Try.prog W .any base t v)
    (hW : DataW.Whole enc Try.prog Try.f3.params.toList Rows.sugarSpec.vars false W args.toList ds gs before) :
    Calls Try.prog 3 args W fun e W' => ∃ v, e = .returned v ∧ Rows.sugarSpec.post enc Try.prog Try.f3 false true false false W args v W' := by
  have hW' := hW
  obtain ⟨p, q, hA0, hV, rfl, hfz, hnd⟩ := hW
  have hA : DataW.TrodAll enc Try.prog W 0 (fun _ => true) true Try.f3.params.toList args.toList ds p := hA0
  rw [Try.params3] at hA hval
  obtain ⟨v0, d0, hargs, rfl, h0⟩ := trodAll_one hA
  obtain rfl : args = #[v0] := by cases args; simp_all
  obtain ⟨rfl, rfl⟩ := trodVars_none hV
  obtain ⟨x, rfl, rfl, rfl, hx⟩ := open_string Try.underlying9 (hval 0 9 v0 rfl rfl) h0
  clear hA0
  simp only [List.append_nil] at hW'
  refine (Sugar_any x W hx).mono fun e W' ⟨he, hb⟩ => ?_
  subst he
  exact ⟨_, rfl, post_below (pa := []) (pv := []) hW' (fun _ _ _ => trodAll_cons_mk (shut_bool Try.underlying4 _) trodAll_mk0) (fun sp hsp => trodAll_cons_mk (shut_string Try.underlying9 hx) trodAll_mk0) (fun _ _ => rfl) rfl hb (ok_one (by kernel_rfl) rfl (okWide_bool_mk Try.underlying4 _))⟩

set_option maxRecDepth 100000 in
theorem sugar_lifted (os : Os) (started : os.Started) (H : Type) (enc : TypeId × Value → H) :
    ReturnsInHanded {} Try.checked os 3 .any (Rows.sugarSpec.pre6 enc Try.prog Try.f3 Rows.sugarRow.domain false) (Rows.sugarSpec.post enc Try.prog Try.f3 false true false false) := by
  refine returnsInHanded_of_change (C := Try.checked) Try.ownK started (by kernel_rfl) Try.func3
    (ChangeSpec.witness6 (enc := enc) (C := Try.checked) false ⟨#[], #[.string ⟨#[]⟩], []⟩ 8 (by kernel_rfl) (by kernel_rfl) (by kernel_rfl) (by kernel_rfl)) ?_
  intro W base args ds gs before hval hW _ _
  exact sugar_contract H enc W base args ds gs before hval hW

theorem sugar_holds : Rows.SugarSaid :=
  OpenClaim.holds_of_wide 3 Try.f3 rfl rfl rfl rfl rfl rfl rfl ⟨rfl, rfl, rfl, rfl, rfl⟩ rfl rfl rfl rfl rfl (by kernel_rfl) Try.func3 (by kernel_rfl)
    (of_decide_eq_true (by kernel_rfl)) (by unfold Func.isWrapper; first | (rw [if_pos (by decide +kernel)]; kernel_rfl) | (rw [if_neg (by decide +kernel)]; exact ⟨rfl, rfl⟩))
    (fun os started H enc _ => sugar_lifted os started H enc)
end Go.Proofs.Ytebpgfodelggoaa
