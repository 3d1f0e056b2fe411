import Derived.Test.YtebpgfodelggoabC41
import Derived.Test.YtebpgfodelggoabC13
import Derived.Test.YtebpgfodelggoabC14
/- code.Weight, matcher.Weight. -/
set_option linter.unusedVariables false
set_option linter.unusedSimpArgs false
namespace Go.Proofs.Ytebpgfodelggoab
open Go.RowKit

set_option maxRecDepth 100000 in
set_option maxHeartbeats 4000000 in
theorem codeWeight_any (c : List Mt.Ins) (hcl : ∀ k, (c.take k).countP Mt.isMark = (c.take k).countP Mt.isAgain + Mt.loopsAt c k) (hl : c.length ≤ 300) (hpos : 0 < c.length) (v : Value) (w : World) (h : ownIns w 0 v c) :
    Calls Try.prog 33 #[v] w fun e w' => e = .returned (.int .i64 (Mt.weightC c : Nat)) ∧ Below w.heap.size w w' := by
  obtain ⟨g, cap, rfl, _, hg⟩ := World.ownsRow.form h hpos
  have HL : Hid (Calls Try.prog 49 #[.slice (some ⟨g, 0, none⟩) c.length cap] w _) := Loops_any c hcl hl g cap w h
  clear h
  go_enter Try.func33, Try.ntmps33
  go_wp2_with fail
  refine HL.out.mono ?_
  rintro e w1 ⟨rfl, hown, hb1⟩
  have HO : Hid (rInts w1 w.heap.size (.slice (some ⟨w.heap.size, 0, none⟩) c.length c.length) (loopList c)) := hown
  have HB1 : Hid (Below w.heap.size w w1) := hb1
  clear hown hb1 HL
  go_wp2_with fail
  go_loopw [3, 9] (fun wt i wr => ∃ k : Nat, k ≤ c.length ∧ i = .int .i64 k ∧ wt = .int .i64 (Mt.weightTo c k : Nat) ∧ wr = w1) (fun _ i _ => c.length - (intOf i).toNat)
  case atStart => exact ⟨0, Nat.zero_le _, rfl, rfl, rfl⟩
  case round =>
    obtain ⟨k, hk, rfl, rfl, rfl⟩ := hrel
    by_cases hlt : k < c.length
    · obtain ⟨x1, x2⟩ := HO.out.at k (by rw [loopList_len]; exact hlt) (by rw [loopList_len])
      rw [loopList_at c k hlt] at x1
      have HW : Hid (Mt.weightTo c (k + 1) = Mt.weightTo c k + 1 + Mt.loopsAt c k) := Mt.weightTo_next c k
      have bl := Mt.loopsAt_le c k
      have bw := Mt.weightTo_le c k
      have bw2 : k * (c.length + 1) ≤ 300 * 301 := Nat.mul_le_mul (by omega) (by omega)
      have hk' : (k : Int) < (c.length : Int) := by omega
      generalize hLk : Mt.loopsAt c k = lk at *
      generalize hWk : Mt.weightTo c k = wk at *
      go_wp2_with fail
      go_roundw
      case rel => exact ⟨k + 1, by omega, by go_num, by rw [HW.out]; go_num, by trivial⟩
      case measure => simp [intOf]; omega
    · have hk2 : k = c.length := by omega
      subst hk2
      go_wp2_with fail
      go_ret
      exact ⟨rfl, HB1.out⟩

theorem codeR_loops (p : ByteArray) (h : (Mt.codeR p).2 = 0) (k : Nat) : ((Mt.codeR p).1.take k).countP Mt.isMark = ((Mt.codeR p).1.take k).countP Mt.isAgain + Mt.loopsAt (Mt.codeR p).1 k := by
  have h0 : (Mt.checkR p).1 = 0 := by
    unfold Mt.codeR at h
    split at h
    · rename_i x; exact absurd h x
    · rename_i x; simpa using x
  obtain ⟨f, _, _, _, _, _, hc, _⟩ := Mt.pattern_tree p h0
  exact Mt.code_loops f.re _ hc k

set_option maxRecDepth 100000 in
set_option maxHeartbeats 2000000 in
theorem Weight_any (p : ByteArray) (w : World) (hm : p.size ≤ maxLen) : Calls Try.prog 18 #[.string p] w fun e w' => e = .returned (.tuple #[.int .i64 (Mt.weightR p).1, .int .i64 (Mt.weightR p).2]) ∧ Below w.heap.size w w' := by
  have HC : Hid (Calls Try.prog 19 #[.string p] w fun e w' => ∃ v, e = .returned (.tuple #[v, .int .i64 (Mt.codeR p).2]) ∧ ownIns w' w.heap.size v (Mt.codeR p).1 ∧ Below w.heap.size w w') := Code_any p w hm
  have hl := (Mt.codeR_fit p).2
  unfold Mt.weightR
  cases he : ((Mt.codeR p).2 != 0)
  · have h0 : (Mt.codeR p).2 = 0 := by simpa using he
    rw [if_neg (by simpa using he)]
    have hpos : 0 < (Mt.codeR p).1.length := by
      have hc0 : (Mt.checkR p).1 = 0 := by
        unfold Mt.codeR at h0
        split at h0
        · rename_i x; exact absurd h0 x
        · rename_i x; simpa using x
      obtain ⟨A, hK⟩ := Mt.pattern_known p hc0
      exact hK.pos
    have HW : Hid (∀ (v : Value) (z : World), ownIns z 0 v (Mt.codeR p).1 → Calls Try.prog 33 #[v] z fun e w' => e = .returned (.int .i64 (Mt.weightC (Mt.codeR p).1 : Nat)) ∧ Below z.heap.size z w') := fun v z hz => codeWeight_any _ (codeR_loops p h0) hl hpos v z hz
    clear h0 hpos
    generalize Mt.codeR p = K at *
    go_enter Try.func18, Try.ntmps18
    go_wp2_with fail
    refine HC.out.mono ?_
    rintro e w1 ⟨v, rfl, ho, hb⟩
    have HO : Hid (ownIns w1 0 v K.1) := ho.base (Nat.zero_le _)
    have HB : Hid (Below w.heap.size w w1) := hb
    clear ho hb HC
    go_wp2_with fail
    refine (HW.out v w1 HO.out).mono ?_
    rintro e w2 ⟨rfl, hb2⟩
    have HB2 : Hid (Below w.heap.size w w2) := HB.out.trans (hb2.mono HB.out.size)
    clear hb2
    go_wp2_with fail
    go_ret2
    exact ⟨rfl, HB2.out⟩
  · rw [if_pos (by simpa using he)]
    generalize Mt.codeR p = K at *
    go_enter Try.func18, Try.ntmps18
    go_wp2_with fail
    refine HC.out.mono ?_
    rintro e w1 ⟨v, rfl, ho, hb⟩
    have HB : Hid (Below w.heap.size w w1) := hb
    clear ho hb HC
    go_wp2_with fail
    go_ret2
    exact ⟨rfl, HB.out⟩
end Go.Proofs.Ytebpgfodelggoab
