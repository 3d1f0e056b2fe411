import Derived.Test.YtebpgfodelggoaaC17
import Derived.Test.YtebpgfodelggoaaC03
set_option linter.unusedVariables false
set_option linter.unusedSimpArgs false
namespace Go.Proofs.Ytebpgfodelggoaa
open Go.RowKit

/-- A set of bytes in memory. -/
def setA (S : Mt.BSet) : Array Value := ((List.range 256).map fun c => Value.bool (S c)).toArray
theorem setA_size (S : Mt.BSet) : (setA S).size = 256 := by simp [setA]
theorem setA_get (S : Mt.BSet) (c : Nat) (h : c < 256) : (setA S)[c]? = some (.bool (S c)) := by
  unfold setA; rw [List.getElem?_toArray, List.getElem?_map, List.getElem?_range h]; rfl
theorem setA_set (S T : Mt.BSet) (k : Nat) (b : Bool) (hk : k < 256) (h : ∀ c, T c = if c = k then b else S c) : (setA S).setIfInBounds k (.bool b) = setA T := by
  apply Array.ext
  · simp [setA]
  · intro i h1 h2
    simp only [Array.size_setIfInBounds, setA_size] at h1
    rw [Array.getElem_setIfInBounds (by rw [setA_size]; exact h1)]
    simp only [setA, List.getElem_toArray, List.getElem_map, List.getElem_range]
    rw [h i]
    by_cases e : k = i
    · rw [if_pos e, if_pos e.symm]
    · rw [if_neg e, if_neg (Ne.symm e)]
theorem setA_same {S T : Mt.BSet} (h : Mt.sameB S T) : setA S = setA T := by
  unfold setA
  congr 1
  apply List.map_congr_left
  intro c hc
  rw [h c (by simpa using hc)]
/-- The block g holds the set S. -/
def setAt (w : World) (g : Nat) (S : Mt.BSet) : Prop := w.heap[g]? = some (.cells (setA S) 136 (0, 0))
/-- Only the block g turns. -/
structure Only (g : Nat) (w w' : World) : Prop where
  os : w'.os = w.os
  tape : w'.tape = w.tape
  output : w'.output = w.output
  size : w'.heap.size = w.heap.size
  block : ∀ k, k ≠ g → w'.heap[k]? = w.heap[k]?
theorem Only.refl (g : Nat) (w : World) : Only g w w := ⟨rfl, rfl, rfl, rfl, fun _ _ => rfl⟩
theorem Only.trans {g : Nat} {a b c : World} (h : Only g a b) (k : Only g b c) : Only g a c :=
  ⟨k.os.trans h.os, k.tape.trans h.tape, k.output.trans h.output, k.size.trans h.size, fun i hi => (k.block i hi).trans (h.block i hi)⟩
theorem Only.set {g : Nat} {a w : World} (h : Only g a w) (k : Nat) (u : Value) : Only g a (w.setCell ⟨g, k, none⟩ u) :=
  h.trans ⟨rfl, rfl, rfl, by simp [World.setCell], fun i hi => Below.heap_setCell _ _ _ _ hi⟩
theorem Only.below {g L : Nat} {a w : World} (h : Only g a w) (hl : L ≤ g) : Below L a w :=
  ⟨h.os, h.tape, h.output, Nat.le_of_eq h.size.symm, fun i hi => h.block i (by omega)⟩

set_option maxRecDepth 100000 in
set_option maxHeartbeats 1000000 in
theorem addRange_any (w : World) (g : Nat) (S : Mt.BSet) (a b : Int) (hS : setAt w g S) :
    Calls Try.prog 83 #[.pointer (some ⟨g, 0, none⟩), .int .i64 a, .int .i64 b] w fun e w' => e = .returned (.tuple #[]) ∧ setAt w' g (Mt.addR S a b) ∧ Only g w w' := by
  have H0 : Hid (setAt w g (Mt.addTo S a b 0)) := by show setAt _ _ _; rw [Mt.addTo_zero]; exact hS
  clear hS
  go_enter Try.func83, Try.ntmps83
  go_wp2_with fail
  go_loopw [6] (fun i wr => ∃ k : Nat, k ≤ 256 ∧ i = .int .i64 k ∧ setAt wr g (Mt.addTo S a b k) ∧ Only g w wr) (fun i _ => 256 - (intOf i).toNat)
  case atStart => exact ⟨0, by omega, rfl, H0.out, Only.refl _ _⟩
  case round =>
    obtain ⟨k, hk, rfl, hs, hO⟩ := hrel
    have HS : Hid (setAt wr g (Mt.addTo S a b k)) := hs
    have HO : Hid (Only g w wr) := hO
    by_cases hl : k < 256
    · have zz : wr.cell? ⟨g, k, none⟩ = some (.bool (Mt.addTo S a b k k)) := by rw [(cell_block hs).1, setA_get _ _ hl]
      have z2 := (cell_block hs).2 k
      clear hs hO
      by_cases h1 : a ≤ (k : Int)
      · by_cases h2 : (k : Int) ≤ b
        · have HN := Mt.addTo_hit S a b k ⟨h1, h2⟩
          have HN' : Hid (Mt.addTo S a b (k + 1) = fun c => if c = k then true else Mt.addTo S a b k c) := HN
          clear HN
          go_wp2_with fail
          go_roundw
          case rel =>
            refine ⟨k + 1, by omega, by go_num, ?_, HO.out.set _ _⟩
            have := Go.heap_setCell_same wr g k _ _ (.bool true) HS.out
            unfold setAt
            rw [setA_set (Mt.addTo S a b k) (Mt.addTo S a b (k + 1)) k true hl (fun c => by rw [HN'.out])] at this
            exact this
          case measure => simp [intOf]; omega
        · have HN' : Hid (Mt.addTo S a b (k + 1) = Mt.addTo S a b k) := Mt.addTo_miss S a b k (by omega)
          go_wp2_with fail
          go_roundw
          case rel => exact ⟨k + 1, by omega, by go_num, by rw [HN'.out]; exact HS.out, HO.out⟩
          case measure => simp [intOf]; omega
      · have HN' : Hid (Mt.addTo S a b (k + 1) = Mt.addTo S a b k) := Mt.addTo_miss S a b k (by omega)
        go_wp2_with fail
        go_roundw
        case rel => exact ⟨k + 1, by omega, by go_num, by rw [HN'.out]; exact HS.out, HO.out⟩
        case measure => simp [intOf]; omega
    · have e : k = 256 := by omega
      subst e
      clear hs hO
      go_wp2_with fail
      go_returns
      refine ⟨rfl, ?_, HO.out⟩
      have := HS.out
      unfold setAt at this ⊢
      rw [setA_same (Mt.addTo_end S a b)] at this
      exact this

set_option maxRecDepth 100000 in
set_option maxHeartbeats 1000000 in
theorem addLetter_any (w : World) (g : Nat) (S : Mt.BSet) (c : Int) (hS : setAt w g S) :
    Calls Try.prog 88 #[.pointer (some ⟨g, 0, none⟩), .int .i64 c] w fun e w' => e = .returned (.tuple #[]) ∧ setAt w' g (Mt.addL S (decide (c = 119))) ∧ Only g w w' := by
  have H0 : Hid (setAt w g S) := hS
  clear hS
  cases hc : (c == 119)
  · have HL : Hid (Mt.addL S (decide (c = 119)) = Mt.addR S 48 57) := by
      show _ = _; have : ¬ c = 119 := by simpa using hc
      simp [Mt.addL, this]
    go_enter Try.func88, Try.ntmps88
    go_wp2_with fail
    refine (addRange_any w g S 48 57 H0.out).mono ?_
    rintro e w1 ⟨rfl, s1, o1⟩
    have H1 : Hid (setAt w1 g (Mt.addR S 48 57) ∧ Only g w w1) := ⟨s1, o1⟩
    clear s1 o1
    go_wp2_with fail
    go_returns
    exact ⟨rfl, by rw [HL.out]; exact H1.out.1, H1.out.2⟩
  · have HL : Hid (Mt.addL S (decide (c = 119)) = Mt.addR (Mt.addR (Mt.addR (Mt.addR S 48 57) 65 90) 95 95) 97 122) := by
      show _ = _; have : c = 119 := by simpa using hc
      simp [Mt.addL, this]
    go_enter Try.func88, Try.ntmps88
    go_wp2_with fail
    refine (addRange_any w g S 48 57 H0.out).mono ?_
    rintro e w1 ⟨rfl, s1, o1⟩
    have H1 : Hid (setAt w1 g (Mt.addR S 48 57) ∧ Only g w w1) := ⟨s1, o1⟩
    clear s1 o1
    go_wp2_with fail
    refine (addRange_any w1 g _ 65 90 H1.out.1).mono ?_
    rintro e w2 ⟨rfl, s1, o1⟩
    have H2 : Hid (setAt w2 g (Mt.addR (Mt.addR S 48 57) 65 90) ∧ Only g w w2) := ⟨s1, H1.out.2.trans o1⟩
    clear s1 o1 H1
    go_wp2_with fail
    refine (addRange_any w2 g _ 95 95 H2.out.1).mono ?_
    rintro e w3 ⟨rfl, s1, o1⟩
    have H3 : Hid (setAt w3 g (Mt.addR (Mt.addR (Mt.addR S 48 57) 65 90) 95 95) ∧ Only g w w3) := ⟨s1, H2.out.2.trans o1⟩
    clear s1 o1 H2
    go_wp2_with fail
    refine (addRange_any w3 g _ 97 122 H3.out.1).mono ?_
    rintro e w4 ⟨rfl, s1, o1⟩
    have H4 : Hid (setAt w4 g (Mt.addR (Mt.addR (Mt.addR (Mt.addR S 48 57) 65 90) 95 95) 97 122) ∧ Only g w w4) := ⟨s1, H3.out.2.trans o1⟩
    clear s1 o1 H3
    go_wp2_with fail
    go_returns
    exact ⟨rfl, by rw [HL.out]; exact H4.out.1, H4.out.2⟩

set_option maxRecDepth 100000 in
set_option maxHeartbeats 1000000 in
theorem text_any (w : World) (g : Nat) (S : Mt.BSet) (hS : setAt w g S) :
    Calls Try.prog 84 #[.pointer (some ⟨g, 0, none⟩)] w fun e w' => e = .returned (.string ⟨(Mt.setTo S 256).toArray⟩) ∧ Below w.heap.size w w' := by
  obtain ⟨i0, hi, hz0, hz1, hz2⟩ := info_parts Try.info5
  have H0 : Hid (setAt w g S) := hS
  have hg : g < w.heap.size := (Array.getElem?_eq_some_iff.1 hS).1
  clear hS
  go_enter Try.func84, Try.ntmps84
  go_wp2_with fail
  go_loopw [3, 4] (fun v i wr => ∃ k : Nat, k ≤ 256 ∧ i = .int .i64 k ∧ wr.ownsRow w.heap.size 5 1 v (Mt.setTo S k).length (bcells (Mt.setTo S k)) ∧ Below w.heap.size w wr) (fun _ i _ => 256 - (intOf i).toNat)
  case atStart => exact ⟨0, by omega, rfl, World.ownsRow_nil _ _ _ _, Below.refl _ _⟩
  case round =>
    obtain ⟨k, hk, rfl, hown, hbel⟩ := hrel
    have hl := Mt.setTo_len S k
    have hsz := hbel.size
    by_cases hlt : k < 256
    · have zz : wr.cell? ⟨g, k, none⟩ = some (.bool (S k)) := by
        rw [hbel.cell (p := ⟨g, k, none⟩) hg, (cell_block H0.out).1, setA_get _ _ hlt]
      cases hq : S k
      · rw [hq] at zz
        have H1 : Hid (wr.ownsRow w.heap.size 5 1 u3 (Mt.setTo S (k + 1)).length (bcells (Mt.setTo S (k + 1)))) := by rw [Mt.setTo_miss hq]; exact hown
        go_wp2_with fail
        go_roundw
        case rel => exact ⟨k + 1, by omega, by go_num, H1.out, hbel⟩
        case measure => simp [intOf]; omega
      · rw [hq] at zz
        have H1 : Hid (bcells (Mt.setTo S (k + 1)) = bcells (Mt.setTo S k) ++ [.int .u8 (k : Int)] ∧ (Mt.setTo S (k + 1)).length = (Mt.setTo S k).length + 1) := by
          rw [Mt.setTo_hit hq]
          refine ⟨?_, by simp⟩
          simp only [bcells, List.map_append, List.map_cons, List.map_nil]
          have : (UInt8.ofNat k).toNat = k := by simp; omega
          rw [this]
        go_wp2_with (first | (at_builtin; refine wpList_append_own _ rfl _ _ 66 rfl w.heap.size 5 i0 (.int .u8 0) 1 1 Try.underlying66 hi hz0 hz1 hz2 rfl (by decide) _ _ _ rfl (hown.alloc _) ⟨wr.heap.size, 0, none⟩ 1 1 [.int .u8 (k : Int)] rfl rfl ?c1 ?c2 ?c3 ?c4 ?c5 ?_))
        case c1 =>
          intro j u hj
          match j, hj with
          | 0, hj => simp at hj; subst hj; simp [Addr.add]
        case c2 => intro u hu; simp at hu; subst hu; rfl
        case c3 => unfold maxLen; omega
        case c4 => omega
        case c5 => simp; omega
        · intro v' w1 hown' hgrow _
          have R1 : Hid (w1.ownsRow w.heap.size 5 1 v' (Mt.setTo S (k + 1)).length (bcells (Mt.setTo S (k + 1)))) := by
            show World.ownsRow _ _ _ _ _ _ _
            rw [H1.out.1, H1.out.2]; exact hown'
          have R2 : Hid (Below w.heap.size w w1) := (hbel.alloc hsz _).grown hgrow (by simp; omega) (fun q hq' => (hown.lt q hq').1)
          clear hown' hgrow
          go_wp2_with fail
          go_roundw
          case rel => exact ⟨k + 1, by omega, by go_num, R1.out, R2.out⟩
          case measure => simp [intOf]; omega
    · have e : k = 256 := by omega
      subst e
      have hcv := conv_owned wr w.heap.size u3 (Mt.setTo S 256) hown
      go_wp2_with fail
      go_returns
      exact ⟨rfl, hbel⟩
end Go.Proofs.Ytebpgfodelggoaa
set_option linter.unusedVariables false
set_option linter.unusedSimpArgs false
namespace Go.Proofs.Ytebpgfodelggoaa
open Go.RowKit

/-- What readClassByte answers. -/
def cbP (p : ByteArray) (i : Int) : Int × Int × Bool := if (Mt.classByte p i).2 = 0 then (0, 0, false) else ((Mt.classByte p i).1, i + (Mt.classByte p i).2, true)
theorem escB_iff (d : Int) (hd : -1 ≤ d) : escB d = true ↔ ¬ (d < 0 ∨ Mt.digB d = true ∨ Mt.letB d = true) := by
  unfold escB
  cases Mt.digB d <;> cases Mt.letB d <;> simp <;> omega
theorem cbP_cases (p : ByteArray) (i : Int) :
    ((Mt.atB p i == -1) = true ∧ cbP p i = (0, 0, false)) ∨ ((Mt.atB p i == -1) = false ∧ (Mt.atB p i == 93) = true ∧ cbP p i = (0, 0, false)) ∨
    ((Mt.atB p i == -1) = false ∧ (Mt.atB p i == 93) = false ∧ (Mt.atB p i == 45) = true ∧ cbP p i = (0, 0, false)) ∨
    ((Mt.atB p i == -1) = false ∧ (Mt.atB p i == 93) = false ∧ (Mt.atB p i == 45) = false ∧ (Mt.atB p i == 92) = true ∧ escB (Mt.atB p (i + 1)) = false ∧ cbP p i = (0, 0, false)) ∨
    ((Mt.atB p i == -1) = false ∧ (Mt.atB p i == 93) = false ∧ (Mt.atB p i == 45) = false ∧ (Mt.atB p i == 92) = true ∧ escB (Mt.atB p (i + 1)) = true ∧ cbP p i = (Mt.atB p (i + 1), i + 2, true)) ∨
    ((Mt.atB p i == -1) = false ∧ (Mt.atB p i == 93) = false ∧ (Mt.atB p i == 45) = false ∧ (Mt.atB p i == 92) = false ∧ cbP p i = (Mt.atB p i, i + 1, true)) := by
  unfold cbP Mt.classByte
  have l0 := Mt.atB_lo p i
  have l1 := Mt.atB_lo p (i + 1)
  have he := escB_iff (Mt.atB p (i + 1)) l1
  generalize Mt.atB p i = c at *
  generalize Mt.atB p (i + 1) = d at *
  simp only [beq_iff_eq, beq_eq_false_iff_ne]
  by_cases h1 : c < 0 ∨ c = 93 ∨ c = 45
  · rw [if_pos h1]; simp; omega
  · rw [if_neg h1]
    by_cases h2 : c ≠ 92
    · rw [if_pos h2]; simp; omega
    · rw [if_neg h2]
      by_cases h3 : d < 0 ∨ Mt.digB d = true ∨ Mt.letB d = true
      · rw [if_pos h3]
        have : escB d = false := by cases x : escB d; rfl; exact absurd h3 (he.1 x)
        simp [this]; omega
      · rw [if_neg h3]
        have : escB d = true := he.2 h3
        simp [this]; omega
set_option maxHeartbeats 400000 in
theorem readClassByte_any (p : ByteArray) (i : Int) (w : World) (hp : p.size ≤ 64) (_hi0 : 0 ≤ i) (_hi1 : i ≤ 1000) :
    Calls Try.prog 99 #[.string p, .int .i64 i] w fun e w' => e = .returned (.tuple #[.int .i64 (cbP p i).1, .int .i64 (cbP p i).2.1, .bool (cbP p i).2.2]) ∧ w = w' := by
  rcases cbP_cases p i with ⟨a1, e⟩ | ⟨a1, a2, e⟩ | ⟨a1, a2, a3, e⟩ | ⟨a1, a2, a3, a4, a5, e⟩ | ⟨a1, a2, a3, a4, a5, e⟩ | ⟨a1, a2, a3, a4, e⟩
  all_goals
    rw [e]; clear e
    go_enter Try.func99, Try.ntmps99
    go_wp2_with (first | (go_at_call 59; refine (byteAt_any _ _ _ hp).mono ?_; rintro e w' ⟨rfl, rfl⟩) | (go_at_call 89; refine (canBeEscaped_any _ _).mono ?_; rintro e w' ⟨rfl, rfl⟩))
    refine bodyPost_ret (results_tmp3 rfl _ _ _) rfl ?_
    exact ⟨rfl, rfl⟩

/-- What readNumber answers. -/
def numP (p : ByteArray) (i : Int) : Int × Int × Bool := if (Mt.number p i).2 = 0 ∨ 20 < (Mt.number p i).1 then (0, 0, false) else ((Mt.number p i).1, i + (Mt.number p i).2, true)
theorem numP_cases (p : ByteArray) (i : Int) :
    (Mt.digB (Mt.atB p i) = false ∧ numP p i = (0, 0, false)) ∨
    (48 ≤ Mt.atB p i ∧ Mt.atB p i ≤ 57 ∧ Mt.digB (Mt.atB p i) = true ∧ Mt.digB (Mt.atB p (i + 1)) = false ∧ numP p i = (Mt.atB p i - 48, i + 1, true)) ∨
    (48 ≤ Mt.atB p i ∧ Mt.atB p i ≤ 57 ∧ 48 ≤ Mt.atB p (i + 1) ∧ Mt.atB p (i + 1) ≤ 57 ∧ Mt.digB (Mt.atB p i) = true ∧ Mt.digB (Mt.atB p (i + 1)) = true ∧
      ((decide (20 < (Mt.atB p i - 48) * 10 + Mt.atB p (i + 1) - 48) = true ∧ numP p i = (0, 0, false)) ∨
       (decide (20 < (Mt.atB p i - 48) * 10 + Mt.atB p (i + 1) - 48) = false ∧ numP p i = ((Mt.atB p i - 48) * 10 + Mt.atB p (i + 1) - 48, i + 1 + 1, true)))) := by
  unfold numP Mt.number
  simp only [Mt.digB, decide_eq_true_eq, decide_eq_false_iff_not]
  generalize Mt.atB p i = c
  generalize Mt.atB p (i + 1) = d
  by_cases h1 : c < 48 ∨ 57 < c
  · rw [if_pos h1]; simp; omega
  · rw [if_neg h1]
    by_cases h2 : d < 48 ∨ 57 < d
    · rw [if_pos h2]; simp; omega
    · rw [if_neg h2]
      by_cases h3 : 20 < 10 * (c - 48) + d - 48
      · simp [h3]; omega
      · simp [h3]; omega
set_option maxHeartbeats 400000 in
theorem readNumber_any (p : ByteArray) (i : Int) (w : World) (hp : p.size ≤ 64) (_hi0 : 0 ≤ i) (_hi1 : i ≤ 1000) :
    Calls Try.prog 81 #[.string p, .int .i64 i] w fun e w' => e = .returned (.tuple #[.int .i64 (numP p i).1, .int .i64 (numP p i).2.1, .bool (numP p i).2.2]) ∧ w = w' := by
  rcases numP_cases p i with ⟨a1, e⟩ | ⟨b1, b2, a1, a2, e⟩ | ⟨b1, b2, b3, b4, a1, a2, ⟨a3, e⟩ | ⟨a3, e⟩⟩
  all_goals
    rw [e]; clear e
    go_enter Try.func81, Try.ntmps81
    go_wp2_with (first | (go_at_call 59; refine (byteAt_any _ _ _ hp).mono ?_; rintro e w' ⟨rfl, rfl⟩) | (go_at_call 98; refine (isDigit_any _ _).mono ?_; rintro e w' ⟨rfl, rfl⟩))
    refine bodyPost_ret (results_tmp3 rfl _ _ _) rfl ?_
    exact ⟨rfl, rfl⟩

/-- What readMost answers. -/
def mostP (p : ByteArray) (i : Int) : Int × Int × Bool := if Mt.atB p i = 125 then (-1, i, true) else numP p i
set_option maxHeartbeats 400000 in
theorem readMost_any (p : ByteArray) (i : Int) (w : World) (hp : p.size ≤ 64) (_hi0 : 0 ≤ i) (_hi1 : i ≤ 1000) :
    Calls Try.prog 82 #[.string p, .int .i64 i] w fun e w' => e = .returned (.tuple #[.int .i64 (mostP p i).1, .int .i64 (mostP p i).2.1, .bool (mostP p i).2.2]) ∧ w = w' := by
  cases a : (Mt.atB p i == 125)
  · have e : mostP p i = numP p i := by unfold mostP; rw [if_neg (by simpa using a)]
    rw [e]; clear e
    go_enter Try.func82, Try.ntmps82
    go_wp2_with (first | (go_at_call 59; refine (byteAt_any _ _ _ hp).mono ?_; rintro e w' ⟨rfl, rfl⟩) | (go_at_call 81; refine (readNumber_any _ _ _ hp (by omega) (by omega)).mono ?_; rintro e w' ⟨rfl, rfl⟩))
    refine bodyPost_ret (results_tmp3 rfl _ _ _) rfl ?_
    exact ⟨rfl, rfl⟩
  · have e : mostP p i = (-1, i, true) := by unfold mostP; rw [if_pos (by simpa using a)]
    rw [e]; clear e
    go_enter Try.func82, Try.ntmps82
    go_wp2_with (first | (go_at_call 59; refine (byteAt_any _ _ _ hp).mono ?_; rintro e w' ⟨rfl, rfl⟩))
    refine bodyPost_ret (results_tmp3 rfl _ _ _) rfl ?_
    exact ⟨rfl, rfl⟩
end Go.Proofs.Ytebpgfodelggoaa
set_option linter.unusedVariables false
set_option linter.unusedSimpArgs false
namespace Go.Proofs.Ytebpgfodelggoaa
open Go.RowKit

def ptA (t : Mt.PT) : Array Value := #[.int .i64 t.kind, .int .i64 t.en, .int .i64 t.group, .int .i64 t.number, .int .i64 t.least, .int .i64 t.most, .int .i64 t.mood, .string ⟨t.set.toArray⟩]
def ptV (t : Mt.PT) : Value := .agg (ptA t)
theorem ptA_size (t : Mt.PT) : (ptA t).size = 8 := rfl
theorem ptA_all (t : Mt.PT) : (ptA t).all (·.oneCell') = true := by simp [ptA, Value.oneCell']
theorem Try.sizePT : (Try.prog.info? 103).map (·.size) = some 8 := by kernel_rfl
theorem Try.zeroSet : Try.zeroCells136 = setA Mt.none0 := by kernel_rfl

theorem letBy_start {w w1 : World} {A : Array Value} {t : TypeId} (o1 : Only (w.heap.size + 1) ((w.alloc (.cells A t)).alloc (.cells Try.zeroCells136 136)) w1) :
    w1.heap[w.heap.size]? = some (.cells A t (0, 0)) ∧ Below w.heap.size w w1 ∧ w1.heap.size = w.heap.size + 2 := by
  refine ⟨by rw [o1.block _ (by omega)]; exact heap_b2 _ _ _, ?_, by rw [o1.size]; simp⟩
  exact (((Below.refl _ _).alloc (Nat.le_refl _) _).alloc (by simp) _).trans (o1.below (by omega))
theorem set_start (w : World) (A : Obj) : setAt ((w.alloc A).alloc (.cells Try.zeroCells136 136)) (w.heap.size + 1) Mt.none0 := by
  unfold setAt; rw [heap_b3, Try.zeroSet]

set_option maxRecDepth 100000 in
set_option maxHeartbeats 1000000 in
theorem letBy_any (w : World) (a b i : Int) :
    Calls Try.prog 63 #[.int .i64 a, .int .i64 b, .int .i64 i] w fun e w' => e = .returned (ptV ⟨5, i, 0, 0, 0, 0, 0, Mt.setTo (Mt.addR Mt.none0 a b) 256⟩) ∧ Below w.heap.size w w' := by
  obtain ⟨T, hT⟩ : ∃ T, T = Mt.setTo (Mt.addR Mt.none0 a b) 256 := ⟨_, rfl⟩
  rw [← hT]
  have HT : Hid (T = Mt.setTo (Mt.addR Mt.none0 a b) 256) := hT
  clear hT
  go_enter Try.func63, Try.ntmps63
  go_wp2_with fail
  refine (addRange_any _ (w.heap.size + 1) Mt.none0 a b (by exact set_start _ _)).mono ?_
  rintro e w1 ⟨rfl, s1, o1⟩
  obtain ⟨z1, b1, sz⟩ := letBy_start o1
  have HS : Hid (setAt w1 (w.heap.size + 1) (Mt.addR Mt.none0 a b)) := s1
  have HB : Hid (Below w.heap.size w w1) := b1
  clear s1 o1 b1
  go_wp2_with fail
  have TA := text_any w1 (w.heap.size + 1) _ HS.out
  rw [← HT.out] at TA
  refine TA.mono ?_
  clear TA
  rintro e w2 ⟨rfl, b2⟩
  have z2 : w2.heap[w.heap.size]? = _ := (b2.block _ (by omega)).trans z1
  have HB2 : Hid (Below w.heap.size w w2) := HB.out.trans (b2.mono (by omega))
  clear b2 z1
  go_wp2_with (refine store_blk 103 8 Try.sizePT (by rfl) (.tmp 6) (.tmp 13) (by rfl) w.heap.size (ptA ⟨5, i, 0, 0, 0, 0, 0, T⟩) (by rfl) (by rfl) z2 (by rfl) (by rfl) (ptA_all _) ?_; intro w3 r1 r2 r3 r4)
  refine bodyPost_ret (ret_blk1 103 8 Try.underlying103 rfl Try.sizePT rfl (by rfl) r1 (by rfl)) rfl ⟨rfl, ?_⟩
  exact HB2.out.trans (r4 _ (Nat.le_refl _))

/-- readMood's answer. -/
def moodP (p : ByteArray) (t n m : Int) : Mt.PT := ⟨4, (Mt.mood p t).2, 0, 0, n, m, (Mt.mood p t).1 + 1, []⟩
theorem moodP_cases (p : ByteArray) (t n m : Int) :
    ((Mt.atB p t == 63) = true ∧ moodP p t n m = ⟨4, t + 1, 0, 0, n, m, 2, []⟩) ∨ ((Mt.atB p t == 63) = false ∧ (Mt.atB p t == 43) = true ∧ moodP p t n m = ⟨4, t + 1, 0, 0, n, m, 3, []⟩) ∨
    ((Mt.atB p t == 63) = false ∧ (Mt.atB p t == 43) = false ∧ moodP p t n m = ⟨4, t, 0, 0, n, m, 1, []⟩) := by
  unfold moodP Mt.mood
  simp only [beq_iff_eq, beq_eq_false_iff_ne]
  by_cases h1 : Mt.atB p t = 63
  · rw [if_pos h1]; simp [h1]
  · rw [if_neg h1]
    by_cases h2 : Mt.atB p t = 43
    · rw [if_pos h2]; simp [h2]
    · rw [if_neg h2]; simp [h1, h2]
set_option maxRecDepth 100000 in
set_option maxHeartbeats 1000000 in
theorem readMood_any (p : ByteArray) (t n m : Int) (w : World) (hp : p.size ≤ 64) (h0 : 0 ≤ t) (h1 : t ≤ 1000) :
    Calls Try.prog 61 #[.string p, .int .i64 t, .int .i64 n, .int .i64 m] w fun e w' => e = .returned (ptV (moodP p t n m)) ∧ Below w.heap.size w w' := by
  rcases moodP_cases p t n m with ⟨a1, e⟩ | ⟨a1, a2, e⟩ | ⟨a1, a2, e⟩
  all_goals
    rw [e]; clear e
    go_enter Try.func61, Try.ntmps61
    go_wp2_with (first | (go_at_call 59; refine (byteAt_any _ _ _ hp).mono ?_; rintro e w' ⟨rfl, rfl⟩))
    go_returns
    exact ⟨rfl, by go_grown⟩
end Go.Proofs.Ytebpgfodelggoaa
