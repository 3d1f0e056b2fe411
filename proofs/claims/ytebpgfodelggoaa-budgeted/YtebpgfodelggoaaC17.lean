import Derived.Test.YtebpgfodelggoaaC09
import Derived.Test.YtebpgfodelggoaaC16
import Derived.Test.YtebpgfodelggoaaC03
import Derived.Test.YtebpgfodelggoaaC10
/- matcherkeep: inside. (Plain seats alone.) -/
set_option linter.unusedVariables false
set_option linter.unusedSimpArgs false
namespace Go.Proofs.Ytebpgfodelggoaa
open Go.RowKit

set_option maxRecDepth 100000 in
set_option maxHeartbeats 4000000 in
theorem inside_true (f : Mt.Fnd) (T frm : Nat) (h : Mt.Inside T frm f) (hT : T ≤ 60) (hf : frm ≤ T) (w : World) :
    Calls Try.prog 34 #[.agg (fpA f), .int .i64 (frm : Int), .int .i64 (T : Int)] w fun e w' => e = .returned (.bool true) ∧ Below w.heap.size w w' := by
  have HF : Hid (∀ k, k < 20 → (fpA f)[1 + k]? = some (.int .i64 (f.at'.getD k 0))) := fun k hk => fpA_get f h.len k hk
  have HP : Hid (∀ i, i < 10 → (f.at'.getD (2 * i) 0 = -1 ∧ f.at'.getD (2 * i + 1) 0 = -1) ∨ (f.ok = true ∧ 0 ≤ f.at'.getD (2 * i) 0 ∧ f.at'.getD (2 * i) 0 ≤ f.at'.getD (2 * i + 1) 0 ∧ f.at'.getD (2 * i + 1) 0 ≤ T)) := h.place
  have HY : Hid (f.ok = true → (frm : Int) ≤ f.at'.getD 0 0 ∧ f.at'.getD 0 0 - frm + 1 ≤ f.steps) := h.yes
  have HN : Hid (f.ok = false → (T : Int) - frm + 1 ≤ f.steps) := h.no
  have s1 := h.steps1
  have s2 := h.steps2
  obtain ⟨z, hz⟩ : ∃ z, z = w.alloc (.cells (fpA f) 39) := ⟨_, rfl⟩
  have q1 : z.heap[w.heap.size]? = some (.cells (fpA f) 39 (0, 0)) := by rw [hz]; exact heap_b1 _ _
  have HB : Hid (Below w.heap.size w z) := by rw [hz]; exact (Below.refl _ _).alloc (Nat.le_refl _) _
  have l1 : w.heap.size < z.heap.size := by rw [hz]; simp
  have c0 : z.cell? ⟨w.heap.size, 0, none⟩ = some (.bool f.ok) := ((cell_block q1).1 _).trans (fpA_ok _)
  have c21 : z.cell? ⟨w.heap.size, 21, none⟩ = some (.int .i64 f.steps) := ((cell_block q1).1 _).trans (fpA_steps _ h.len)
  have c1 : z.cell? ⟨w.heap.size, 1, none⟩ = some (.int .i64 (f.at'.getD 0 0)) := ((cell_block q1).1 _).trans (HF.out 0 (by omega))
  have HC : Hid (∀ k, k < 20 → z.cell? ⟨w.heap.size, 1 + k, none⟩ = some (.int .i64 (f.at'.getD k 0))) := fun k hk => ((cell_block q1).1 _).trans (HF.out k hk)
  have d1 : decide (f.steps < 1) = false := by rw [decide_eq_false_iff_not]; omega
  have d2 : decide (10000 < f.steps) = false := by rw [decide_eq_false_iff_not]; omega
  have HS : Hid (1 ≤ f.steps ∧ f.steps ≤ 10000) := ⟨s1, s2⟩
  clear h HF q1 s1 s2
  go_enter Try.func34, Try.ntmps34
  go_upto_region 1 with fail
  show Code.wp _ _ _ _ (w.alloc (.cells (fpA f) 39))
  rw [← hz]
  clear hz
  generalize f.steps = S at *
  generalize f.ok = O at *
  generalize f.at' = L at *
  generalize hn : w.heap.size = n at *
  go_wp2_with fail
  go_loopw [7] (fun i wr => ∃ k : Nat, k ≤ 10 ∧ i = .int .i64 k ∧ wr = z) (fun i _ => 10 - (intOf i).toNat)
  case atStart => exact ⟨0, Nat.zero_le _, rfl, rfl⟩
  case round =>
    obtain ⟨k, hk, rfl, rfl⟩ := hrel
    by_cases hlt : k < 10
    · have a0 := HC.out (2 * k) (by omega)
      have b0 := HC.out (2 * k + 1) (by omega)
      have i1 : (k : Int) < 10 := by omega
      have i2 : (2 : Int) * (k : Int) < 20 := by omega
      have i3 : (2 : Int) * (k : Int) + 1 < 20 := by omega
      rcases HP.out k hlt with ⟨e1, e2⟩ | ⟨e0, e1, e2, e3⟩
      · rw [e1] at a0
        rw [e2] at b0
        clear e1 e2
        go_wp2_with fail
        go_roundw
        case rel => exact ⟨k + 1, by omega, by go_num, trivial⟩
        case measure => simp [intOf]; omega
      · subst e0
        generalize L.getD (2 * k) 0 = a at *
        generalize L.getD (2 * k + 1) 0 = b at *
        have m1 : (a == -1) = false := by rw [beq_eq_false_iff_ne]; omega
        have m2 : decide (a < 0) = false := by rw [decide_eq_false_iff_not]; omega
        have m3 : decide (b < a) = false := by rw [decide_eq_false_iff_not]; omega
        have m4 : decide ((T : Int) < b) = false := by rw [decide_eq_false_iff_not]; omega
        go_wp2_with fail
        go_roundw
        case rel => exact ⟨k + 1, by omega, by go_num, trivial⟩
        case measure => simp [intOf]; omega
    · cases O
      · have m1 := HN.out rfl
        have m2 : decide ((T : Int) - frm + 1 ≤ S) = true := by rw [decide_eq_true_eq]; exact m1
        have HM : Hid ((T : Int) - frm + 1 ≤ S) := m1
        clear m1
        go_wp2_with fail
        go_ret
        exact ⟨rfl, HB.out⟩
      · obtain ⟨m1, m2⟩ := HY.out rfl
        have HS2 := HS.out
        generalize L.getD 0 0 = a at *
        have m3 : decide ((frm : Int) ≤ a) = true := by rw [decide_eq_true_eq]; exact m1
        have m4 : decide (a - frm + 1 ≤ S) = true := by rw [decide_eq_true_eq]; exact m2
        go_wp2_with fail
        go_ret
        exact ⟨rfl, HB.out⟩
end Go.Proofs.Ytebpgfodelggoaa
/- matcherkeep: refused, whole, shown, without. (Plain seats alone.) -/
set_option linter.unusedVariables false
set_option linter.unusedSimpArgs false
namespace Go.Proofs.Ytebpgfodelggoaa
open Go.RowKit

set_option maxRecDepth 100000 in
set_option maxHeartbeats 4000000 in
theorem refused_true (e : Int) (w : World) :
    Calls Try.prog 24 #[.agg (fpA Mt.fnd0), .int .i64 e, .int .i64 e] w fun r w' => r = .returned (.bool true) ∧ Below w.heap.size w w' := by
  have KE : Hid (∀ z : World, Calls Try.prog 26 #[.agg (fpA Mt.fnd0)] z fun e w' => e = .returned (.bool true) ∧ Below z.heap.size z w') := fun z => empty_true z
  have hsz := fpA_size Mt.fnd0 rfl
  generalize fpA Mt.fnd0 = A at *
  go_enter Try.func24, Try.ntmps24
  go_wp2_with (refine load_blk 39 22 Try.underlying39 rfl Try.sizeFd (by rfl) (.tmp 3) (by rfl) w.heap.size (by rfl) (by exact heap_b1 _ _) hsz ?_)
  refine (KE.out _).mono ?_
  rintro r w1 ⟨rfl, hb1⟩
  have HB : Hid (Below w.heap.size w w1) := ((Below.refl _ _).alloc (Nat.le_refl _) _).trans (hb1.mono (by simp))
  clear hb1
  have e1 : (e == e) = true := by simp
  go_wp2_with fail
  go_ret
  exact ⟨rfl, HB.out⟩

/-- A whole struct read under a guard that says yes. -/
theorem load_blk_g {P : Program} {ops : Array Oper} {rest : List Oper} {op : Oper} {a : Act} {w : World} {Q : Exit → Act → World → Prop} (ty : TypeId) (n : Nat) {d : TypeDesc} (hu : P.underlying ty = some d) (hd : d.isRow = true) (hn : (P.info? ty).map (·.size) = some n) (hw : Region.wanted op (yielded ops a.tmps) = true) (x : Operand) (ho : op.op = .load ty x)
    (b : Nat) (hx : a.eval x = .pointer (some ⟨b, 0, none⟩)) {t : TypeId} {A : Array Value} (hA : w.heap[b]? = some (.cells A t (0, 0))) (hs : A.size = n)
    (h : wpList P ops Q rest (a.put op.dst (.agg A)) w) : wpList P ops Q (op :: rest) a w :=
  BigFrame.wpList_want hw fun _ hK => wp_load_mid ty x ho b 0 hx A.toList _ (rangeAt_blk hA) hu hd (by rw [hn]; simp [hs]) (hK _ _ h)
/-- The answer of a search. -/
def WholeOk (T frm : Nat) (f : Mt.Fnd) (e : Int) : Prop := (e = 14 ∧ f = Mt.fnd0) ∨ (e = 0 ∧ Mt.Inside T frm f)
theorem WholeOk.len {T frm : Nat} {f : Mt.Fnd} {e : Int} (h : WholeOk T frm f e) : f.at'.length = 20 := by
  rcases h with ⟨_, rfl⟩ | ⟨_, h⟩
  · rfl
  · exact h.len
set_option maxRecDepth 100000 in
set_option maxHeartbeats 4000000 in
theorem whole_true (T frm : Nat) (f : Mt.Fnd) (e : Int) (h : WholeOk T frm f e) (hT : T ≤ 60) (hf : frm ≤ T) (w : World) :
    Calls Try.prog 25 #[.agg (fpA f), .int .i64 e, .int .i64 (frm : Int), .int .i64 (T : Int)] w fun r w' => r = .returned (.bool true) ∧ Below w.heap.size w w' := by
  have hsz := fpA_size f h.len
  rcases h with ⟨rfl, rfl⟩ | ⟨rfl, h⟩
  · have KE : Hid (∀ z : World, Calls Try.prog 26 #[.agg (fpA Mt.fnd0)] z fun e w' => e = .returned (.bool true) ∧ Below z.heap.size z w') := fun z => empty_true z
    generalize fpA Mt.fnd0 = A at *
    go_enter Try.func25, Try.ntmps25
    go_wp2_with (refine load_blk 39 22 Try.underlying39 rfl Try.sizeFd (by rfl) (.tmp 4) (by rfl) w.heap.size (by rfl) (by exact heap_b1 _ _) hsz ?_)
    refine (KE.out _).mono ?_
    rintro r w1 ⟨rfl, hb1⟩
    have HB : Hid (Below w.heap.size w w1) := ((Below.refl _ _).alloc (Nat.le_refl _) _).trans (hb1.mono (by simp))
    clear hb1
    go_wp2_with fail
    go_ret
    exact ⟨rfl, HB.out⟩
  · have KE : Hid (∀ z : World, Calls Try.prog 34 #[.agg (fpA f), .int .i64 (frm : Int), .int .i64 (T : Int)] z fun e w' => e = .returned (.bool true) ∧ Below z.heap.size z w') := fun z => inside_true f T frm h hT hf z
    clear h
    generalize fpA f = A at *
    go_enter Try.func25, Try.ntmps25
    go_wp2_with (refine load_blk_g 39 22 Try.underlying39 rfl Try.sizeFd (by rfl) (.tmp 4) (by rfl) w.heap.size (by rfl) (by exact heap_b1 _ _) hsz ?_)
    refine (KE.out _).mono ?_
    rintro r w1 ⟨rfl, hb1⟩
    have HB : Hid (Below w.heap.size w w1) := ((Below.refl _ _).alloc (Nat.le_refl _) _).trans (hb1.mono (by simp))
    clear hb1
    go_wp2_with fail
    go_ret
    exact ⟨rfl, HB.out⟩
end Go.Proofs.Ytebpgfodelggoaa
/- matcherkeep: shown, without. (Plain seats alone.) -/
set_option linter.unusedVariables false
set_option linter.unusedSimpArgs false
namespace Go.Proofs.Ytebpgfodelggoaa
open Go.RowKit

/-- The match is from a to b; a below 0: nothing is found. -/
structure Shown (f : Mt.Fnd) (a b : Int) : Prop where
  len : f.at'.length = 20
  s1 : 1 ≤ f.steps
  s2 : f.steps ≤ 10000
  ok : f.ok = decide (0 ≤ a)
  a0 : f.at'.getD 0 0 = if a < 0 then -1 else a
  b0 : f.at'.getD 1 0 = if a < 0 then -1 else b

set_option maxRecDepth 100000 in
set_option maxHeartbeats 4000000 in
theorem shown_true (f : Mt.Fnd) (a b : Int) (h : Shown f a b) (w : World) :
    Calls Try.prog 18 #[.agg (fpA f), .int .i64 0, .int .i64 a, .int .i64 b] w fun e w' => e = .returned (.bool true) ∧ Below w.heap.size w w' := by
  obtain ⟨z, hz⟩ : ∃ z, z = w.alloc (.cells (fpA f) 39) := ⟨_, rfl⟩
  have q1 : z.heap[w.heap.size]? = some (.cells (fpA f) 39 (0, 0)) := by rw [hz]; exact heap_b1 _ _
  have HB : Hid (Below w.heap.size w z) := by rw [hz]; exact (Below.refl _ _).alloc (Nat.le_refl _) _
  have l1 : w.heap.size < z.heap.size := by rw [hz]; simp
  have c0 : z.cell? ⟨w.heap.size, 0, none⟩ = some (.bool f.ok) := ((cell_block q1).1 _).trans (fpA_ok _)
  have c21 : z.cell? ⟨w.heap.size, 21, none⟩ = some (.int .i64 f.steps) := ((cell_block q1).1 _).trans (fpA_steps _ h.len)
  have c1 : z.cell? ⟨w.heap.size, 1, none⟩ = some (.int .i64 (f.at'.getD 0 0)) := ((cell_block q1).1 _).trans (fpA_get f h.len 0 (by omega))
  have c2 : z.cell? ⟨w.heap.size, 2, none⟩ = some (.int .i64 (f.at'.getD 1 0)) := ((cell_block q1).1 _).trans (fpA_get f h.len 1 (by omega))
  have s1 := h.s1
  have s2 := h.s2
  rw [h.ok] at c0
  rw [h.a0] at c1
  rw [h.b0] at c2
  have d1 : decide (f.steps < 1) = false := by rw [decide_eq_false_iff_not]; omega
  have d2 : decide (10000 < f.steps) = false := by rw [decide_eq_false_iff_not]; omega
  clear h q1 s1 s2
  go_enter Try.func18, Try.ntmps18
  go_upto_region 1 with fail
  show Code.wp _ _ _ _ (w.alloc (.cells (fpA f) 39))
  rw [← hz]
  clear hz
  generalize f.steps = S at *
  generalize hn : w.heap.size = n at *
  by_cases ha : a < 0
  · rw [if_pos ha] at c1 c2
    have m1 : decide (a < 0) = true := by rw [decide_eq_true_eq]; exact ha
    have m2 : decide (0 ≤ a) = false := by rw [decide_eq_false_iff_not]; omega
    rw [m2] at c0
    clear ha
    go_wp2_with fail
    go_ret
    exact ⟨rfl, by rw [hn]; exact HB.out⟩
  · rw [if_neg ha] at c1 c2
    have m1 : decide (a < 0) = false := by rw [decide_eq_false_iff_not]; exact ha
    have m2 : decide (0 ≤ a) = true := by rw [decide_eq_true_eq]; omega
    have m3 : (a == a) = true := by simp
    have m4 : (b == b) = true := by simp
    rw [m2] at c0
    clear ha
    go_wp2_with fail
    go_ret
    exact ⟨rfl, by rw [hn]; exact HB.out⟩

/-- No group but k has a place. -/
def Without (f : Mt.Fnd) (k : Nat) : Prop := f.at'.length = 20 ∧ ∀ i, 1 ≤ i → i < 10 → i ≠ k → f.at'.getD (2 * i) 0 = -1 ∧ f.at'.getD (2 * i + 1) 0 = -1
set_option maxRecDepth 100000 in
set_option maxHeartbeats 4000000 in
theorem without_true (f : Mt.Fnd) (g : Nat) (h : Without f g) (w : World) :
    Calls Try.prog 19 #[.agg (fpA f), .int .i64 (g : Int)] w fun e w' => e = .returned (.bool true) ∧ Below w.heap.size w w' := by
  obtain ⟨z, hz⟩ : ∃ z, z = w.alloc (.cells (fpA f) 39) := ⟨_, rfl⟩
  have q1 : z.heap[w.heap.size]? = some (.cells (fpA f) 39 (0, 0)) := by rw [hz]; exact heap_b1 _ _
  have HB : Hid (Below w.heap.size w z) := by rw [hz]; exact (Below.refl _ _).alloc (Nat.le_refl _) _
  have l1 : w.heap.size < z.heap.size := by rw [hz]; simp
  have HC : Hid (∀ i, 1 ≤ i → i < 10 → i ≠ g → z.cell? ⟨w.heap.size, 1 + 2 * i, none⟩ = some (.int .i64 (-1)) ∧ z.cell? ⟨w.heap.size, 1 + (2 * i + 1), none⟩ = some (.int .i64 (-1))) := fun i h1 h2 h3 => by
    have := h.2 i h1 h2 h3
    exact ⟨((cell_block q1).1 _).trans ((fpA_get f h.1 (2 * i) (by omega)).trans (by rw [this.1])), ((cell_block q1).1 _).trans ((fpA_get f h.1 (2 * i + 1) (by omega)).trans (by rw [this.2]))⟩
  clear h q1
  go_enter Try.func19, Try.ntmps19
  go_upto_region 1 with fail
  show Code.wp _ _ _ _ (w.alloc (.cells (fpA f) 39))
  rw [← hz]
  clear hz
  generalize hn : w.heap.size = n at *
  go_wp2_with fail
  go_loopw [5] (fun i wr => ∃ k : Nat, 1 ≤ k ∧ k ≤ 10 ∧ i = .int .i64 k ∧ wr = z) (fun i _ => 10 - (intOf i).toNat)
  case atStart => exact ⟨1, Nat.le_refl _, by omega, rfl, rfl⟩
  case round =>
    obtain ⟨k, hk1, hk, rfl, rfl⟩ := hrel
    by_cases hlt : k < 10
    · have i1 : (k : Int) < 10 := by omega
      have i2 : (2 : Int) * (k : Int) < 20 := by omega
      have i3 : (2 : Int) * (k : Int) + 1 < 20 := by omega
      by_cases hg : k = g
      · subst hg
        have m1 : ((k : Int) != (k : Int)) = false := by simp
        go_wp2_with fail
        go_roundw
        case rel => exact ⟨k + 1, by omega, by omega, by go_num, trivial⟩
        case measure => simp [intOf]; omega
      · obtain ⟨a0, b0⟩ := HC.out k hk1 hlt hg
        have m1 : ((k : Int) != (g : Int)) = true := by rw [bne_iff_ne]; omega
        clear hg
        go_wp2_with fail
        go_roundw
        case rel => exact ⟨k + 1, by omega, by omega, by go_num, trivial⟩
        case measure => simp [intOf]; omega
    · go_wp2_with fail
      go_ret
      exact ⟨rfl, by rw [hn]; exact HB.out⟩
end Go.Proofs.Ytebpgfodelggoaa
set_option linter.unusedVariables false
set_option linter.unusedSimpArgs false
namespace Go.Proofs.Ytebpgfodelggoaa
open Go.RowKit

theorem results_tmp3 {fn : Func} {t u v : Tmp} (h : fn.results = #[.tmp t, .tmp u, .tmp v]) (tmps : Array Value) (P : Program) (w : World) :
    (results fn tmps).run P w = .ok (.tuple #[tmps.getD t undef, tmps.getD u undef, tmps.getD v undef]) w := by
  simp [results, h]

set_option maxHeartbeats 400000 in
theorem byteAt_any (p : ByteArray) (i : Int) (w : World) (hp : p.size ≤ 64) :
    Calls Try.prog 59 #[.string p, .int .i64 i] w fun e w' => e = .returned (.int .i64 (Mt.atB p i)) ∧ w = w' := by
  by_cases h0 : i < 0
  · rw [Mt.atB_out p i (by omega)]
    go_enter Try.func59, Try.ntmps59
    go_wp2
    go_ret
    exact ⟨rfl, rfl⟩
  · by_cases h1 : (p.size : Int) ≤ i
    · rw [Mt.atB_out p i (by omega)]
      go_enter Try.func59, Try.ntmps59
      go_wp2
      go_ret
      exact ⟨rfl, rfl⟩
    · obtain ⟨k, rfl⟩ := Int.eq_ofNat_of_zero_le (show 0 ≤ i by omega)
      have hk : k < p.size := by omega
      rw [← atB_nat p k hk]
      go_enter Try.func59, Try.ntmps59
      go_wp2
      go_ret
      exact ⟨rfl, rfl⟩

set_option maxHeartbeats 400000 in
theorem isDigit_any (c : Int) (w : World) :
    Calls Try.prog 98 #[.int .i64 c] w fun e w' => e = .returned (.bool (Mt.digB c)) ∧ w = w' := by
  by_cases a : 48 ≤ c
  · by_cases b : c ≤ 57
    · rw [digB_t ⟨a, b⟩]
      go_enter Try.func98, Try.ntmps98
      go_wp2
      go_ret
      exact ⟨rfl, rfl⟩
    · rw [digB_f (by omega)]
      go_enter Try.func98, Try.ntmps98
      go_wp2
      go_ret
      exact ⟨rfl, rfl⟩
  · rw [digB_f (by omega)]
    go_enter Try.func98, Try.ntmps98
    go_wp2
    go_ret
    exact ⟨rfl, rfl⟩

set_option maxHeartbeats 400000 in
theorem isLetter_any (c : Int) (w : World) :
    Calls Try.prog 100 #[.int .i64 c] w fun e w' => e = .returned (.bool (Mt.letB c)) ∧ w = w' := by
  rcases (show (c < 65 ∧ Mt.letB c = false) ∨ ((65 ≤ c ∧ c ≤ 90) ∧ Mt.letB c = true) ∨ ((90 < c ∧ c < 97) ∧ Mt.letB c = false) ∨ ((97 ≤ c ∧ c ≤ 122) ∧ Mt.letB c = true) ∨ (122 < c ∧ Mt.letB c = false) by
      simp only [Mt.letB, decide_eq_true_eq, decide_eq_false_iff_not]; omega) with ⟨h, e⟩ | ⟨⟨h, h'⟩, e⟩ | ⟨⟨h, h'⟩, e⟩ | ⟨⟨h, h'⟩, e⟩ | ⟨h, e⟩
  all_goals
    rw [e]; clear e
    go_enter Try.func100, Try.ntmps100
    go_wp2
    go_ret
    first | exact ⟨rfl, rfl⟩ | exact ⟨ret_bool (by simp; omega), rfl⟩

set_option maxHeartbeats 400000 in
theorem isSetLetter_any (c : Int) (w : World) :
    Calls Try.prog 87 #[.int .i64 c] w fun e w' => e = .returned (.bool (c == 100 || c == 119)) ∧ w = w' := by
  cases a : (c == 100) <;> cases b : (c == 119)
  all_goals
    go_enter Try.func87, Try.ntmps87
    go_wp2
    go_ret
    first | exact ⟨rfl, rfl⟩ | exact ⟨ret_bool (by simp_all), rfl⟩

/-- May a backslash stand before the byte? -/
def escB (c : Int) : Bool := c != -1 && !Mt.letB c && !Mt.digB c
set_option maxHeartbeats 400000 in
theorem canBeEscaped_any (c : Int) (w : World) :
    Calls Try.prog 89 #[.int .i64 c] w fun e w' => e = .returned (.bool (escB c)) ∧ w = w' := by
  unfold escB
  cases a : (c != -1) <;> cases b : Mt.letB c <;> cases d : Mt.digB c
  all_goals
    go_enter Try.func89, Try.ntmps89
    go_wp2_with (first | (go_at_call 100; refine (isLetter_any _ _).mono ?_; rintro e w' ⟨rfl, rfl⟩) | (go_at_call 98; refine (isDigit_any _ _).mono ?_; rintro e w' ⟨rfl, rfl⟩))
    all_goals
      go_ret
      first | exact ⟨rfl, rfl⟩ | exact ⟨ret_bool (by simp_all), rfl⟩

end Go.Proofs.Ytebpgfodelggoaa
