import Derived.Test.YtebpgfodelggoabC18
set_option linter.unusedVariables false
set_option linter.unusedSimpArgs false
namespace Mt
theorem item_in (p : ByteArray) (i : Int) (h0 : 0 ≤ i) (h : (item p i).2.2.1 ≠ 0) : i < (p.size : Int) := by
  rcases Int.lt_or_le i p.size with h1 | h1
  · exact h1
  · have e := atB_out p i (Or.inr h1)
    exfalso; apply h
    have c : classByte p i = (0, 0) := by unfold classByte; rw [if_pos (Or.inl (by omega))]
    unfold item
    rw [if_neg (by omega), if_pos (by rw [c])]
/-- The end of a class, item by item. -/
theorem classFrom_item (p : ByteArray) (b : Int) (h0 : 0 ≤ b) (h1 : atB p b ≠ 93) (h2 : (item p b).2.2.1 ≠ 0) : classFrom p b = classFrom p (b + (item p b).2.2.1) := by
  have := item_in p b h0 h2
  rw [classFrom_step, if_neg (by omega), if_neg h1, if_neg h2]
theorem classFrom_none (p : ByteArray) (b : Int) (h1 : atB p b ≠ 93) (h2 : (item p b).2.2.1 = 0) : classFrom p b = -1 := by
  rw [classFrom_step]
  by_cases h : (p.size : Int) ≤ b
  · rw [if_pos h]
  · rw [if_neg h, if_neg h1, if_pos h2]
theorem classFrom_end (p : ByteArray) (b : Int) (h1 : atB p b = 93) : classFrom p b = b := by
  have := atB_ge p b (by omega)
  rw [classFrom_step, if_neg (by omega), if_pos h1]
/-- The set S holds what stands before b, of the class from a on. -/
def Half (p : ByteArray) (a b : Int) (S : BSet) : Prop := classFrom p b = classFrom p a ∧ (classFrom p a ≠ -1 → ∀ c : Nat, (S c || inClass p b (classFrom p a) (c : Int)) = inClass p a (classFrom p a) (c : Int))
theorem half_start (p : ByteArray) (a : Int) : Half p a a none0 := ⟨rfl, fun _ c => by simp [none0]⟩
theorem half_next {p : ByteArray} {a b : Int} {S : BSet} (h : Half p a b S) (h0 : 0 ≤ b) (h1 : atB p b ≠ 93) (h2 : (item p b).2.2.1 ≠ 0) : Half p a (b + (item p b).2.2.1) (addI p b S) := by
  have e := classFrom_item p b h0 h1 h2
  refine ⟨by rw [← e]; exact h.1, fun hn c => ?_⟩
  have hb := item_bd p b
  have bd := classFrom_bd p ((p.size : Int) - (b + (item p b).2.2.1) + 1).toNat (b + (item p b).2.2.1) (by omega) (by omega)
  have e2 := h.1
  rw [← h.2 hn c]
  exact (addI_in p b (classFrom p a) S c (by omega) h2).symm
theorem half_end {p : ByteArray} {a b : Int} {S : BSet} (h : Half p a b S) (h1 : atB p b = 93) : classFrom p a = b ∧ ∀ c : Nat, S c = inClass p a b (c : Int) := by
  have e := classFrom_end p b h1
  have e2 := h.1
  have g := atB_ge p b (by omega)
  have e3 : classFrom p a = b := by rw [← e2, e]
  refine ⟨e3, fun c => ?_⟩
  have := h.2 (by omega) c
  rw [e3, inClass_empty] at this
  simpa using this
end Mt
namespace Go.Proofs.Ytebpgfodelggoab
open Go.RowKit
/-- What readClass answers. -/
def clP (p : ByteArray) (i : Int) : Mt.PT × Int := if (Mt.classT p i).2 then (Mt.ptok (Mt.classT p i).1, 0) else (Mt.pt0, 3)
theorem clP_none (p : ByteArray) (i : Int) (h : Mt.classFrom p (Mt.classA p i) = -1) : clP p i = (Mt.pt0, 3) := by
  have e : (Mt.classT p i).2 = false := by unfold Mt.classT; rw [if_pos (Or.inl h)]
  unfold clP; rw [e]; rfl
theorem clP_empty (p : ByteArray) (i : Int) (h : Mt.classFrom p (Mt.classA p i) = Mt.classA p i) : clP p i = (Mt.pt0, 3) := by
  have e : (Mt.classT p i).2 = false := by unfold Mt.classT; rw [if_pos (Or.inr h)]
  unfold clP; rw [e]; rfl
theorem clP_some (p : ByteArray) (i b : Int) (h : Mt.classFrom p (Mt.classA p i) = b) (h1 : b ≠ -1) (h2 : b ≠ Mt.classA p i) : clP p i = (⟨5, b + 1, 0, 0, 0, 0, 0, Mt.all p (Mt.classA p i) b (decide (Mt.atB p (i + 1) = 94))⟩, 0) := by
  have e : Mt.classT p i = (⟨1, i, b + 1, 0, 0, 0, Mt.all p (Mt.classA p i) b (decide (Mt.atB p (i + 1) = 94))⟩, true) := by
    unfold Mt.classT; rw [h, if_neg (by rintro (x | x); exact h1 x; exact h2 x)]
  unfold clP; rw [e]; rfl
theorem set_no (p : ByteArray) (a b : Int) (S : Mt.BSet) (h : ∀ c : Nat, S c = Mt.inClass p a b (c : Int)) : Mt.setTo S 256 = Mt.all p a b false ∧ Mt.setTo (fun c => !S c) 256 = Mt.all p a b true := by
  rw [← Mt.setTo_all, ← Mt.setTo_all]
  exact ⟨Mt.setTo_same (fun c _ => by rw [h c]; simp), Mt.setTo_same (fun c _ => by rw [h c]; simp)⟩

set_option maxRecDepth 100000 in
set_option maxHeartbeats 2000000 in
theorem readClass_any (p : ByteArray) (i : Int) (w : World) (hp : p.size ≤ 64) (hi0 : 0 ≤ i) (hi1 : i ≤ 100) :
    Calls Try.prog 78 #[.string p, .int .i64 i] w fun e w' => e = .returned (.tuple #[ptV (clP p i).1, .int .i64 (clP p i).2]) ∧ Below w.heap.size w w' := by
  obtain ⟨a, ha⟩ : ∃ a, a = Mt.classA p i := ⟨_, rfl⟩
  cases hv : (Mt.atB p (i + 1) == 94)
  all_goals
    have ha2 : a = if (Mt.atB p (i + 1) == 94) then i + 1 + 1 else i + 1 := by
      rw [ha]; unfold Mt.classA; by_cases x : Mt.atB p (i + 1) = 94 <;> simp [x]
      omega
    rw [hv] at ha2
    simp only [if_true, if_false, Bool.false_eq_true] at ha2
    have ha0 : 0 ≤ a := by omega
    have ha1 : a ≤ 102 := by omega
    have HA : Hid (a = Mt.classA p i) := ha
    have HV : Hid ((Mt.atB p (i + 1) == 94) = _) := hv
    obtain ⟨R, hR⟩ : ∃ R, R = clP p i := ⟨_, rfl⟩
    rw [← hR]
    have HR : Hid (R = clP p i) := hR
    clear hR ha
    go_enter Try.func78, Try.ntmps78
    go_wp2_with (first | (go_at_call 73; refine (byteAt_any _ _ _ hp).mono ?_; rintro e w' ⟨rfl, rfl⟩))
    rw [← ha2]
    clear ha2
    go_loopw [6] (fun b wr => ∃ (k : Int) (S : Mt.BSet), a ≤ k ∧ k ≤ 110 ∧ b = .int .i64 k ∧ setAt wr (w.heap.size + 1) S ∧ Mt.Half p a k S ∧ wr.heap[w.heap.size]? = some (.cells (ptA Mt.pt0) 121 (0, 0)) ∧ wr.heap.size = w.heap.size + 2 ∧ Below w.heap.size w wr) (fun b _ => (110 - intOf b).toNat)
    case atStart =>
      exact ⟨a, Mt.none0, by omega, by omega, rfl, by exact set_start _ _, Mt.half_start p a, by exact heap_b2 _ _ _, by simp, by go_grown⟩
    case round =>
      obtain ⟨k, S, hk1, hk2, rfl, hs, hh, hz, hsz, hB⟩ := hrel
      have HS : Hid (setAt wr (w.heap.size + 1) S) := hs
      have HH : Hid (Mt.Half p a k S) := hh
      have HB : Hid (Below w.heap.size w wr) := hB
      have HZ : Hid (wr.heap[w.heap.size]? = some (.cells (ptA Mt.pt0) 121 (0, 0))) := hz
      clear hs hh hB hz
      cases hc : (Mt.atB p k != 93)
      · have E := Mt.half_end HH.out (by simpa using hc)
        have HE : Hid (Mt.classFrom p a = k ∧ ∀ c : Nat, S c = Mt.inClass p a k (c : Int)) := E
        clear E
        cases hf : (k == a)
        · have HT : Hid (R = (⟨5, k + 1, 0, 0, 0, 0, 0, Mt.all p a k (decide (Mt.atB p (i + 1) = 94))⟩, 0)) := by
            show _ = _
            rw [HR.out, clP_some p i k (by rw [← HA.out]; exact HE.out.1) (by omega) (by rw [← HA.out]; simpa using hf), HA.out]
          go_wp2_with (first | (go_at_call 73; refine (byteAt_any _ _ _ hp).mono ?_; rintro e w' ⟨rfl, rfl⟩))
          first
          | (refine (invert_any wr (w.heap.size + 1) S HS.out).mono ?_
             rintro e w1 ⟨rfl, s1, b1, n1, o1⟩
             have HT2 : Hid (R = (⟨5, k + 1, 0, 0, 0, 0, 0, Mt.setTo (fun c => !S c) 256⟩, 0)) := by
               show _ = _
               rw [HT.out, (set_no p a k S HE.out.2).2, show decide (Mt.atB p (i + 1) = 94) = true by simpa using HV.out]
             have H1 : Hid (setAt w1 (w.heap.size + 1) (fun c => !S c) ∧ Below w.heap.size w w1 ∧ w1.heap[w.heap.size]? = some (.cells (ptA Mt.pt0) 121 (0, 0))) := ⟨s1, HB.out.trans (b1.mono (by omega)), (o1 _ (by omega)).trans HZ.out⟩
             clear s1 b1 o1
             generalize hX : (fun c => !S c) = X at *
             clear hX
             go_wp2_with fail
             have TA := text_any w1 (w.heap.size + 1) _ H1.out.1
             generalize Mt.setTo X 256 = T at *
             refine TA.mono ?_
             clear TA
             rintro e w2 ⟨rfl, b2⟩
             have HZ2 : Hid (w2.heap[w.heap.size]? = some (.cells (ptA Mt.pt0) 121 (0, 0)) ∧ Below w.heap.size w w2) := ⟨(b2.block _ (by omega)).trans H1.out.2.2, H1.out.2.1.trans (b2.mono (by omega))⟩
             clear b2
             go_wp2_with (refine store_blk 121 8 Try.sizePT (by rfl) (.tmp 4) (.tmp 45) (by rfl) w.heap.size (ptA ⟨5, k + 1, 0, 0, 0, 0, 0, T⟩) (by rfl) (by rfl) HZ2.out.1 (by rfl) (by rfl) (ptA_all _) ?_; intro w3 r1 r2 r3 r4)
             refine bodyPost_ret (ret_blk2 121 8 Try.underlying121 rfl Try.sizePT rfl (by rfl) r1 (by rfl)) rfl ⟨by rw [HT2.out]; rfl, ?_⟩
             exact HZ2.out.2.trans (r4 _ (Nat.le_refl _)))
          | (have HT2 : Hid (R = (⟨5, k + 1, 0, 0, 0, 0, 0, Mt.setTo S 256⟩, 0)) := by
               show _ = _
               rw [HT.out, (set_no p a k S HE.out.2).1, show decide (Mt.atB p (i + 1) = 94) = false by simpa using HV.out]
             have TA := text_any wr (w.heap.size + 1) _ HS.out
             generalize Mt.setTo S 256 = T at *
             refine TA.mono ?_
             clear TA
             rintro e w2 ⟨rfl, b2⟩
             have HZ2 : Hid (w2.heap[w.heap.size]? = some (.cells (ptA Mt.pt0) 121 (0, 0)) ∧ Below w.heap.size w w2) := ⟨(b2.block _ (by omega)).trans HZ.out, HB.out.trans (b2.mono (by omega))⟩
             clear b2
             go_wp2_with (refine store_blk 121 8 Try.sizePT (by rfl) (.tmp 4) (.tmp 45) (by rfl) w.heap.size (ptA ⟨5, k + 1, 0, 0, 0, 0, 0, T⟩) (by rfl) (by rfl) HZ2.out.1 (by rfl) (by rfl) (ptA_all _) ?_; intro w3 r1 r2 r3 r4)
             refine bodyPost_ret (ret_blk2 121 8 Try.underlying121 rfl Try.sizePT rfl (by rfl) r1 (by rfl)) rfl ⟨by rw [HT2.out]; rfl, ?_⟩
             exact HZ2.out.2.trans (r4 _ (Nat.le_refl _)))
        · have HT : Hid (R = (Mt.pt0, 3)) := by
            show _ = _
            have : k = a := by simpa using hf
            rw [HR.out]; exact clP_empty p i (by rw [← HA.out, HE.out.1, this])
          go_wp2_with (first | (go_at_call 73; refine (byteAt_any _ _ _ hp).mono ?_; rintro e w' ⟨rfl, rfl⟩) | (refine store_blk 121 8 Try.sizePT (by rfl) (.tmp 4) (.tmp 39) (by rfl) w.heap.size (ptA Mt.pt0) (by rfl) (by rfl) HZ.out (by rfl) (by rfl) (ptA_all _) ?_; intro w3 r1 r2 r3 r4))
          refine bodyPost_ret (ret_blk2 121 8 Try.underlying121 rfl Try.sizePT rfl (by rfl) r1 (by rfl)) rfl ⟨by rw [HT.out]; rfl, ?_⟩
          exact HB.out.trans (r4 _ (Nat.le_refl _))
      · cases hit : (itP p k).2
        · have HT : Hid (R = (Mt.pt0, 3)) := by
            show _ = _
            have z : (Mt.item p k).2.2.1 = 0 := by
              unfold itP at hit; by_cases z : (Mt.item p k).2.2.1 = 0
              · exact z
              · rw [if_neg z] at hit; simp at hit
            rw [HR.out]; exact clP_none p i (by rw [← HA.out, ← HH.out.1]; exact Mt.classFrom_none p k (by simpa using hc) z)
          go_wp2_with (first | (go_at_call 73; refine (byteAt_any _ _ _ hp).mono ?_; rintro e w' ⟨rfl, rfl⟩))
          refine (readItem_any p k wr (w.heap.size + 1) S hp (by omega) (by omega) HS.out).mono ?_
          rintro e w1 ⟨rfl, s1, o1⟩
          have HB1 : Hid (Below w.heap.size w w1) := HB.out.trans (o1.below (by omega))
          have HZ1 : Hid (w1.heap[w.heap.size]? = some (.cells (ptA Mt.pt0) 121 (0, 0))) := (o1.block _ (by omega)).trans HZ.out
          clear s1 o1
          go_wp2_with (refine store_blk 121 8 Try.sizePT (by rfl) (.tmp 4) (.tmp 34) (by rfl) w.heap.size (ptA Mt.pt0) (by rfl) (by rfl) HZ1.out (by rfl) (by rfl) (ptA_all _) ?_; intro w3 r1 r2 r3 r4)
          refine bodyPost_ret (ret_blk2 121 8 Try.underlying121 rfl Try.sizePT rfl (by rfl) r1 (by rfl)) rfl ⟨by rw [HT.out]; rfl, ?_⟩
          exact HB1.out.trans (r4 _ (Nat.le_refl _))
        · have z : (Mt.item p k).2.2.1 ≠ 0 := by
            intro z; unfold itP at hit; rw [if_pos z] at hit; simp at hit
          have zb := Mt.item_bd p k
          have zi := Mt.item_in p k (by omega) z
          have HN : Hid (Mt.Half p a (itP p k).1 (afterI p k S) ∧ (itP p k).1 = k + (Mt.item p k).2.2.1) := by
            have e1 : (itP p k).1 = k + (Mt.item p k).2.2.1 := by unfold itP; rw [if_neg z]
            refine ⟨?_, e1⟩
            have e2 : afterI p k S = Mt.addI p k S := by unfold afterI; rw [hit, if_pos rfl]
            rw [e1, e2]; exact Mt.half_next HH.out (by omega) (by simpa using hc) z
          have k1 : k < (itP p k).1 := by rw [HN.out.2]; omega
          have k2 : (itP p k).1 ≤ 110 := by rw [HN.out.2]; omega
          clear z zb zi
          go_wp2_with (first | (go_at_call 73; refine (byteAt_any _ _ _ hp).mono ?_; rintro e w' ⟨rfl, rfl⟩))
          refine (readItem_any p k wr (w.heap.size + 1) S hp (by omega) (by omega) HS.out).mono ?_
          rintro e w1 ⟨rfl, s1, o1⟩
          have HB1 : Hid (Below w.heap.size w w1 ∧ w1.heap[w.heap.size]? = some (.cells (ptA Mt.pt0) 121 (0, 0)) ∧ w1.heap.size = w.heap.size + 2 ∧ setAt w1 (w.heap.size + 1) (afterI p k S)) := ⟨HB.out.trans (o1.below (by omega)), (o1.block _ (by omega)).trans HZ.out, by rw [o1.size]; exact hsz, s1⟩
          clear s1 o1
          go_wp2_with fail
          go_roundw
          case rel => exact ⟨(itP p k).1, afterI p k S, by omega, by omega, rfl, HB1.out.2.2.2, HN.out.1, HB1.out.2.1, HB1.out.2.2.1, HB1.out.1⟩
          case measure => simp [intOf]; omega
end Go.Proofs.Ytebpgfodelggoab
