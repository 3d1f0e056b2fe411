import Derived.Test.YtebpgfodelggoabC10
import Derived.Test.YtebpgfodelggoabC16
import Derived.Test.YtebpgfodelggoabC09
import Derived.Test.YtebpgfodelggoabC02
/- WHAT A SEARCH ANSWERS LIES IN THE TEXT, and takes a step for each start. -/
set_option linter.unusedVariables false
namespace Mt

theorem foundAt_get (p : Int) (r : Sta) (h : r.length = 44) (j : Nat) (hj : j < 20) : (foundAt p r).getD j 0 = if j = 0 then p else if j = 1 then gt r 1 else gt r (2 + j) := by
  unfold foundAt
  rcases j with _ | _ | j
  · rfl
  · rfl
  · rw [if_neg (by omega), if_neg (by omega)]
    unfold gt
    rw [List.getD_eq_getElem?_getD, List.getElem?_cons_succ, List.getElem?_cons_succ, List.getElem?_take, if_pos (by omega), List.getElem?_drop, List.getD_eq_getElem?_getD]
    congr 2; omega
theorem nowhere_get (j : Nat) (hj : j < 20) : nowhere.getD j 0 = -1 := by
  unfold nowhere
  rw [List.getD_eq_getElem?_getD, List.getElem?_replicate, if_pos hj]; rfl

/-- An answer that can be. -/
structure Inside (T : Nat) (frm : Nat) (f : Fnd) : Prop where
  len : f.at'.length = 20
  steps1 : 1 ≤ f.steps
  steps2 : f.steps ≤ 10000
  place : ∀ i, i < 10 → (f.at'.getD (2 * i) 0 = -1 ∧ f.at'.getD (2 * i + 1) 0 = -1) ∨ (f.ok = true ∧ 0 ≤ f.at'.getD (2 * i) 0 ∧ f.at'.getD (2 * i) 0 ≤ f.at'.getD (2 * i + 1) 0 ∧ f.at'.getD (2 * i + 1) 0 ≤ T)
  yes : f.ok = true → (frm : Int) ≤ f.at'.getD 0 0 ∧ f.at'.getD 0 0 - frm + 1 ≤ f.steps
  no : f.ok = false → (T : Int) - frm + 1 ≤ f.steps
  all : f.ok = false → ∀ j, j < 20 → f.at'.getD j 0 = -1

theorem search_inside (E : Env) (hc : codeOk E.c) (hc0 : 0 < E.c.length) (budget : Int) : ∀ (f p n : Nat) (kn : List Bool) (room : Int), p + f ≤ E.t.size + 1 → (0 ≤ room ∧ room ≤ 5000) → (n : Int) ≤ budget → (search E budget f p n kn room).2 = false →
    (search E budget f p n kn room).1.at'.length = 20 ∧ (∀ i, i < 10 → ((search E budget f p n kn room).1.at'.getD (2 * i) 0 = -1 ∧ (search E budget f p n kn room).1.at'.getD (2 * i + 1) 0 = -1) ∨ ((search E budget f p n kn room).1.ok = true ∧ 0 ≤ (search E budget f p n kn room).1.at'.getD (2 * i) 0 ∧ (search E budget f p n kn room).1.at'.getD (2 * i) 0 ≤ (search E budget f p n kn room).1.at'.getD (2 * i + 1) 0 ∧ (search E budget f p n kn room).1.at'.getD (2 * i + 1) 0 ≤ E.t.size)) ∧
    ((search E budget f p n kn room).1.ok = true → (p : Int) ≤ (search E budget f p n kn room).1.at'.getD 0 0 ∧ budget - n + ((search E budget f p n kn room).1.at'.getD 0 0 - p + 1) ≤ (search E budget f p n kn room).1.steps) ∧ ((search E budget f p n kn room).1.ok = false → budget - n + f ≤ (search E budget f p n kn room).1.steps) ∧ (search E budget f p n kn room).1.steps ≤ budget ∧ ((search E budget f p n kn room).1.ok = false → (search E budget f p n kn room).1.at' = nowhere)
  | 0, p, n, kn, room, _, _, hn, _ => by
    simp only [search]
    refine ⟨by simp [nowhere], fun i hi => .inl ⟨nowhere_get _ (by omega), nowhere_get _ (by omega)⟩, fun h => (by cases h), fun _ => by omega, by omega, fun _ => trivial⟩
  | f + 1, p, n, kn, room, hp, hr, hn, ho => by
    have hst := startSt_good E.c.length E.t.size p hc0 (by omega)
    have hg := look_good E hc n n (startSt p) kn room (Nat.le_refl _) hst hr
    have hpos := look_pos E hc n n (startSt p) kn room (Nat.le_refl _) hst hr
    have hneg := look_neg E hc n n (startSt p) kn room (Nat.le_refl _) hst hr (startSt_neg p)
    have hlt : (look E n (startSt p) kn room).over = false → (look E n (startSt p) kn room).n < n := fun e => by
      cases n with
      | zero => rw [look_zero] at e; cases e
      | succ n => exact look_n_lt E n _ kn room
    rw [search] at ho ⊢
    generalize look E n (startSt p) kn room = r at *
    by_cases hov : r.over = true
    · rw [if_pos hov] at ho; cases ho
    have hlt := hlt (by simpa using hov)
    rw [if_neg hov] at ho ⊢
    by_cases hok : r.ok = true
    · rw [if_pos hok]
      have h1 := hpos hok
      have h2 := hg.1 hok
      have h3 := hneg hok
      have h4 := h2.pos1
      have e1 : gt (startSt p) 1 = p := rfl
      rw [e1] at h1
      have hge := foundAt_get p r.st h2.len
      dsimp only
      refine ⟨foundAt_len _ _ h2.len, fun i hi => ?_, fun _ => ?_, fun h => (by cases h), by omega, fun h => (by cases h)⟩
      · rw [hge _ (by omega), hge _ (by omega)]
        by_cases i0 : i = 0
        · subst i0
          exact .inr ⟨rfl, by simp, by simp; omega, by simp; omega⟩
        · rw [if_neg (by omega), if_neg (by omega), if_neg (by omega), if_neg (by omega)]
          rcases h3 i hi with a | a
          · exact .inl a
          · rcases h2.place i hi with b | b
            · omega
            · exact .inr ⟨rfl, b.1, b.2.1, b.2.2⟩
      · rw [hge 0 (by omega), if_pos rfl]; omega
    · rw [if_neg hok] at ho ⊢
      obtain ⟨a1, a2, a3, a4, a5, a6⟩ := search_inside E hc hc0 budget f (p + 1) r.n r.kn r.room (by omega) hg.2.2.1 (by omega) ho
      refine ⟨a1, a2, fun h => ?_, fun h => ?_, a5, a6⟩
      · have := a3 h; omega
      · have := a4 h; omega

theorem searchAll_inside {c : List Ins} (hc : codeOk c) (hc0 : 0 < c.length) (t : ByteArray) (policy mask room budget : Int) (frm : Nat) (hf : frm ≤ t.size) (hr : 0 ≤ room ∧ room ≤ 5000) (hb : 0 ≤ budget ∧ budget ≤ 10000) (h : (searchAll c t policy mask room budget frm).2 = false) : Inside t.size frm (searchAll c t policy mask room budget frm).1 := by
  unfold searchAll at h ⊢
  obtain ⟨a1, a2, a3, a4, a5, a6⟩ := search_inside (envOf c t policy mask) hc hc0 budget (t.size + 1 - frm) frm budget.toNat (List.replicate (c.length * (t.size + 1) * 12) false) room (by show frm + (t.size + 1 - frm) ≤ t.size + 1; omega) hr (by omega) h
  generalize (search (envOf c t policy mask) budget (t.size + 1 - frm) frm budget.toNat (List.replicate (c.length * (t.size + 1) * 12) false) room).1 = S at *
  refine ⟨a1, ?_, by omega, a2, fun h => ?_, fun h => ?_, fun h j hj => by rw [a6 h]; exact nowhere_get j hj⟩
  · cases e : S.ok
    · have := a4 e; omega
    · have := a3 e; omega
  · have := a3 h; omega
  · have := a4 h; omega
end Mt
/- matcherkeep: inside. (Plain seats alone.) -/
set_option linter.unusedVariables false
set_option linter.unusedSimpArgs false
namespace Go.Proofs.Ytebpgfodelggoab
open Go.RowKit

set_option maxRecDepth 100000 in
set_option maxHeartbeats 4000000 in
theorem inside_true (f : Mt.Fnd) (T frm : Nat) (h : Mt.Inside T frm f) (hT : T ≤ 60) (hf : frm ≤ T) (w : World) :
    Calls Try.prog 22 #[.agg (fpA f), .int .i64 (frm : Int), .int .i64 (T : Int)] w fun e w' => e = .returned (.bool true) ∧ Below w.heap.size w w' := by
  have HF : Hid (∀ k, k < 20 → (fpA f)[1 + k]? = some (.int .i64 (f.at'.getD k 0))) := fun k hk => fpA_get f h.len k hk
  have HP : Hid (∀ i, i < 10 → (f.at'.getD (2 * i) 0 = -1 ∧ f.at'.getD (2 * i + 1) 0 = -1) ∨ (f.ok = true ∧ 0 ≤ f.at'.getD (2 * i) 0 ∧ f.at'.getD (2 * i) 0 ≤ f.at'.getD (2 * i + 1) 0 ∧ f.at'.getD (2 * i + 1) 0 ≤ T)) := h.place
  have HY : Hid (f.ok = true → (frm : Int) ≤ f.at'.getD 0 0 ∧ f.at'.getD 0 0 - frm + 1 ≤ f.steps) := h.yes
  have HN : Hid (f.ok = false → (T : Int) - frm + 1 ≤ f.steps) := h.no
  have s1 := h.steps1
  have s2 := h.steps2
  obtain ⟨z, hz⟩ : ∃ z, z = w.alloc (.cells (fpA f) 31) := ⟨_, rfl⟩
  have q1 : z.heap[w.heap.size]? = some (.cells (fpA f) 31 (0, 0)) := by rw [hz]; exact heap_b1 _ _
  have HB : Hid (Below w.heap.size w z) := by rw [hz]; exact (Below.refl _ _).alloc (Nat.le_refl _) _
  have l1 : w.heap.size < z.heap.size := by rw [hz]; simp
  have c0 : z.cell? ⟨w.heap.size, 0, none⟩ = some (.bool f.ok) := ((cell_block q1).1 _).trans (fpA_ok _)
  have c21 : z.cell? ⟨w.heap.size, 21, none⟩ = some (.int .i64 f.steps) := ((cell_block q1).1 _).trans (fpA_steps _ h.len)
  have c1 : z.cell? ⟨w.heap.size, 1, none⟩ = some (.int .i64 (f.at'.getD 0 0)) := ((cell_block q1).1 _).trans (HF.out 0 (by omega))
  have HC : Hid (∀ k, k < 20 → z.cell? ⟨w.heap.size, 1 + k, none⟩ = some (.int .i64 (f.at'.getD k 0))) := fun k hk => ((cell_block q1).1 _).trans (HF.out k hk)
  have d1 : decide (f.steps < 1) = false := by rw [decide_eq_false_iff_not]; omega
  have d2 : decide (10000 < f.steps) = false := by rw [decide_eq_false_iff_not]; omega
  have HS : Hid (1 ≤ f.steps ∧ f.steps ≤ 10000) := ⟨s1, s2⟩
  clear h HF q1 s1 s2
  go_enter Try.func22, Try.ntmps22
  go_upto_region 1 with fail
  show Code.wp _ _ _ _ (w.alloc (.cells (fpA f) 31))
  rw [← hz]
  clear hz
  generalize f.steps = S at *
  generalize f.ok = O at *
  generalize f.at' = L at *
  generalize hn : w.heap.size = n at *
  go_wp2_with fail
  go_loopw [7] (fun i wr => ∃ k : Nat, k ≤ 10 ∧ i = .int .i64 k ∧ wr = z) (fun i _ => 10 - (intOf i).toNat)
  case atStart => exact ⟨0, Nat.zero_le _, rfl, rfl⟩
  case round =>
    obtain ⟨k, hk, rfl, rfl⟩ := hrel
    by_cases hlt : k < 10
    · have a0 := HC.out (2 * k) (by omega)
      have b0 := HC.out (2 * k + 1) (by omega)
      have i1 : (k : Int) < 10 := by omega
      have i2 : (2 : Int) * (k : Int) < 20 := by omega
      have i3 : (2 : Int) * (k : Int) + 1 < 20 := by omega
      rcases HP.out k hlt with ⟨e1, e2⟩ | ⟨e0, e1, e2, e3⟩
      · rw [e1] at a0
        rw [e2] at b0
        clear e1 e2
        go_wp2_with fail
        go_roundw
        case rel => exact ⟨k + 1, by omega, by go_num, trivial⟩
        case measure => simp [intOf]; omega
      · subst e0
        generalize L.getD (2 * k) 0 = a at *
        generalize L.getD (2 * k + 1) 0 = b at *
        have m1 : (a == -1) = false := by rw [beq_eq_false_iff_ne]; omega
        have m2 : decide (a < 0) = false := by rw [decide_eq_false_iff_not]; omega
        have m3 : decide (b < a) = false := by rw [decide_eq_false_iff_not]; omega
        have m4 : decide ((T : Int) < b) = false := by rw [decide_eq_false_iff_not]; omega
        go_wp2_with fail
        go_roundw
        case rel => exact ⟨k + 1, by omega, by go_num, trivial⟩
        case measure => simp [intOf]; omega
    · cases O
      · have m1 := HN.out rfl
        have m2 : decide ((T : Int) - frm + 1 ≤ S) = true := by rw [decide_eq_true_eq]; exact m1
        have HM : Hid ((T : Int) - frm + 1 ≤ S) := m1
        clear m1
        go_wp2_with fail
        go_ret
        exact ⟨rfl, HB.out⟩
      · obtain ⟨m1, m2⟩ := HY.out rfl
        have HS2 := HS.out
        generalize L.getD 0 0 = a at *
        have m3 : decide ((frm : Int) ≤ a) = true := by rw [decide_eq_true_eq]; exact m1
        have m4 : decide (a - frm + 1 ≤ S) = true := by rw [decide_eq_true_eq]; exact m2
        go_wp2_with fail
        go_ret
        exact ⟨rfl, HB.out⟩
end Go.Proofs.Ytebpgfodelggoab
/- matcherkeep: refused, whole, shown, without. (Plain seats alone.) -/
set_option linter.unusedVariables false
set_option linter.unusedSimpArgs false
namespace Go.Proofs.Ytebpgfodelggoab
open Go.RowKit

set_option maxRecDepth 100000 in
set_option maxHeartbeats 4000000 in
theorem refused_true (e : Int) (w : World) :
    Calls Try.prog 14 #[.agg (fpA Mt.fnd0), .int .i64 e, .int .i64 e] w fun r w' => r = .returned (.bool true) ∧ Below w.heap.size w w' := by
  have KE : Hid (∀ z : World, Calls Try.prog 32 #[.agg (fpA Mt.fnd0)] z fun e w' => e = .returned (.bool true) ∧ Below z.heap.size z w') := fun z => empty_true z
  have hsz := fpA_size Mt.fnd0 rfl
  generalize fpA Mt.fnd0 = A at *
  go_enter Try.func14, Try.ntmps14
  go_wp2_with (refine load_blk 31 22 Try.underlying31 rfl Try.sizeFd (by rfl) (.tmp 3) (by rfl) w.heap.size (by rfl) (by exact heap_b1 _ _) hsz ?_)
  refine (KE.out _).mono ?_
  rintro r w1 ⟨rfl, hb1⟩
  have HB : Hid (Below w.heap.size w w1) := ((Below.refl _ _).alloc (Nat.le_refl _) _).trans (hb1.mono (by simp))
  clear hb1
  have e1 : (e == e) = true := by simp
  go_wp2_with fail
  go_ret
  exact ⟨rfl, HB.out⟩

/-- A whole struct read under a guard that says yes. -/
theorem load_blk_g {P : Program} {ops : Array Oper} {rest : List Oper} {op : Oper} {a : Act} {w : World} {Q : Exit → Act → World → Prop} (ty : TypeId) (n : Nat) {d : TypeDesc} (hu : P.underlying ty = some d) (hd : d.isRow = true) (hn : (P.info? ty).map (·.size) = some n) (hw : Region.wanted op (yielded ops a.tmps) = true) (x : Operand) (ho : op.op = .load ty x)
    (b : Nat) (hx : a.eval x = .pointer (some ⟨b, 0, none⟩)) {t : TypeId} {A : Array Value} (hA : w.heap[b]? = some (.cells A t (0, 0))) (hs : A.size = n)
    (h : wpList P ops Q rest (a.put op.dst (.agg A)) w) : wpList P ops Q (op :: rest) a w :=
  BigFrame.wpList_want hw fun _ hK => wp_load_mid ty x ho b 0 hx A.toList _ (rangeAt_blk hA) hu hd (by rw [hn]; simp [hs]) (hK _ _ h)
/-- The answer of a search. -/
def WholeOk (T frm : Nat) (f : Mt.Fnd) (e : Int) : Prop := (e = 14 ∧ f = Mt.fnd0) ∨ (e = 0 ∧ Mt.Inside T frm f)
theorem WholeOk.len {T frm : Nat} {f : Mt.Fnd} {e : Int} (h : WholeOk T frm f e) : f.at'.length = 20 := by
  rcases h with ⟨_, rfl⟩ | ⟨_, h⟩
  · rfl
  · exact h.len
set_option maxRecDepth 100000 in
set_option maxHeartbeats 4000000 in
theorem whole_true (T frm : Nat) (f : Mt.Fnd) (e : Int) (h : WholeOk T frm f e) (hT : T ≤ 60) (hf : frm ≤ T) (w : World) :
    Calls Try.prog 15 #[.agg (fpA f), .int .i64 e, .int .i64 (frm : Int), .int .i64 (T : Int)] w fun r w' => r = .returned (.bool true) ∧ Below w.heap.size w w' := by
  have hsz := fpA_size f h.len
  rcases h with ⟨rfl, rfl⟩ | ⟨rfl, h⟩
  · have KE : Hid (∀ z : World, Calls Try.prog 32 #[.agg (fpA Mt.fnd0)] z fun e w' => e = .returned (.bool true) ∧ Below z.heap.size z w') := fun z => empty_true z
    generalize fpA Mt.fnd0 = A at *
    go_enter Try.func15, Try.ntmps15
    go_wp2_with (refine load_blk 31 22 Try.underlying31 rfl Try.sizeFd (by rfl) (.tmp 4) (by rfl) w.heap.size (by rfl) (by exact heap_b1 _ _) hsz ?_)
    refine (KE.out _).mono ?_
    rintro r w1 ⟨rfl, hb1⟩
    have HB : Hid (Below w.heap.size w w1) := ((Below.refl _ _).alloc (Nat.le_refl _) _).trans (hb1.mono (by simp))
    clear hb1
    go_wp2_with fail
    go_ret
    exact ⟨rfl, HB.out⟩
  · have KE : Hid (∀ z : World, Calls Try.prog 22 #[.agg (fpA f), .int .i64 (frm : Int), .int .i64 (T : Int)] z fun e w' => e = .returned (.bool true) ∧ Below z.heap.size z w') := fun z => inside_true f T frm h hT hf z
    clear h
    generalize fpA f = A at *
    go_enter Try.func15, Try.ntmps15
    go_wp2_with (refine load_blk_g 31 22 Try.underlying31 rfl Try.sizeFd (by rfl) (.tmp 4) (by rfl) w.heap.size (by rfl) (by exact heap_b1 _ _) hsz ?_)
    refine (KE.out _).mono ?_
    rintro r w1 ⟨rfl, hb1⟩
    have HB : Hid (Below w.heap.size w w1) := ((Below.refl _ _).alloc (Nat.le_refl _) _).trans (hb1.mono (by simp))
    clear hb1
    go_wp2_with fail
    go_ret
    exact ⟨rfl, HB.out⟩
end Go.Proofs.Ytebpgfodelggoab
/- matcherkeep: shown, without. (Plain seats alone.) -/
set_option linter.unusedVariables false
set_option linter.unusedSimpArgs false
namespace Go.Proofs.Ytebpgfodelggoab
open Go.RowKit

/-- The match is from a to b; a below 0: nothing is found. -/
structure Shown (f : Mt.Fnd) (a b : Int) : Prop where
  len : f.at'.length = 20
  s1 : 1 ≤ f.steps
  s2 : f.steps ≤ 10000
  ok : f.ok = decide (0 ≤ a)
  a0 : f.at'.getD 0 0 = if a < 0 then -1 else a
  b0 : f.at'.getD 1 0 = if a < 0 then -1 else b

set_option maxRecDepth 100000 in
set_option maxHeartbeats 4000000 in
theorem shown_true (f : Mt.Fnd) (a b : Int) (h : Shown f a b) (w : World) :
    Calls Try.prog 25 #[.agg (fpA f), .int .i64 0, .int .i64 a, .int .i64 b] w fun e w' => e = .returned (.bool true) ∧ Below w.heap.size w w' := by
  obtain ⟨z, hz⟩ : ∃ z, z = w.alloc (.cells (fpA f) 31) := ⟨_, rfl⟩
  have q1 : z.heap[w.heap.size]? = some (.cells (fpA f) 31 (0, 0)) := by rw [hz]; exact heap_b1 _ _
  have HB : Hid (Below w.heap.size w z) := by rw [hz]; exact (Below.refl _ _).alloc (Nat.le_refl _) _
  have l1 : w.heap.size < z.heap.size := by rw [hz]; simp
  have c0 : z.cell? ⟨w.heap.size, 0, none⟩ = some (.bool f.ok) := ((cell_block q1).1 _).trans (fpA_ok _)
  have c21 : z.cell? ⟨w.heap.size, 21, none⟩ = some (.int .i64 f.steps) := ((cell_block q1).1 _).trans (fpA_steps _ h.len)
  have c1 : z.cell? ⟨w.heap.size, 1, none⟩ = some (.int .i64 (f.at'.getD 0 0)) := ((cell_block q1).1 _).trans (fpA_get f h.len 0 (by omega))
  have c2 : z.cell? ⟨w.heap.size, 2, none⟩ = some (.int .i64 (f.at'.getD 1 0)) := ((cell_block q1).1 _).trans (fpA_get f h.len 1 (by omega))
  have s1 := h.s1
  have s2 := h.s2
  rw [h.ok] at c0
  rw [h.a0] at c1
  rw [h.b0] at c2
  have d1 : decide (f.steps < 1) = false := by rw [decide_eq_false_iff_not]; omega
  have d2 : decide (10000 < f.steps) = false := by rw [decide_eq_false_iff_not]; omega
  clear h q1 s1 s2
  go_enter Try.func25, Try.ntmps25
  go_upto_region 1 with fail
  show Code.wp _ _ _ _ (w.alloc (.cells (fpA f) 31))
  rw [← hz]
  clear hz
  generalize f.steps = S at *
  generalize hn : w.heap.size = n at *
  by_cases ha : a < 0
  · rw [if_pos ha] at c1 c2
    have m1 : decide (a < 0) = true := by rw [decide_eq_true_eq]; exact ha
    have m2 : decide (0 ≤ a) = false := by rw [decide_eq_false_iff_not]; omega
    rw [m2] at c0
    clear ha
    go_wp2_with fail
    go_ret
    exact ⟨rfl, by rw [hn]; exact HB.out⟩
  · rw [if_neg ha] at c1 c2
    have m1 : decide (a < 0) = false := by rw [decide_eq_false_iff_not]; exact ha
    have m2 : decide (0 ≤ a) = true := by rw [decide_eq_true_eq]; omega
    have m3 : (a == a) = true := by simp
    have m4 : (b == b) = true := by simp
    rw [m2] at c0
    clear ha
    go_wp2_with fail
    go_ret
    exact ⟨rfl, by rw [hn]; exact HB.out⟩

/-- No group but k has a place. -/
def Without (f : Mt.Fnd) (k : Nat) : Prop := f.at'.length = 20 ∧ ∀ i, 1 ≤ i → i < 10 → i ≠ k → f.at'.getD (2 * i) 0 = -1 ∧ f.at'.getD (2 * i + 1) 0 = -1
set_option maxRecDepth 100000 in
set_option maxHeartbeats 4000000 in
theorem without_true (f : Mt.Fnd) (g : Nat) (h : Without f g) (w : World) :
    Calls Try.prog 24 #[.agg (fpA f), .int .i64 (g : Int)] w fun e w' => e = .returned (.bool true) ∧ Below w.heap.size w w' := by
  obtain ⟨z, hz⟩ : ∃ z, z = w.alloc (.cells (fpA f) 31) := ⟨_, rfl⟩
  have q1 : z.heap[w.heap.size]? = some (.cells (fpA f) 31 (0, 0)) := by rw [hz]; exact heap_b1 _ _
  have HB : Hid (Below w.heap.size w z) := by rw [hz]; exact (Below.refl _ _).alloc (Nat.le_refl _) _
  have l1 : w.heap.size < z.heap.size := by rw [hz]; simp
  have HC : Hid (∀ i, 1 ≤ i → i < 10 → i ≠ g → z.cell? ⟨w.heap.size, 1 + 2 * i, none⟩ = some (.int .i64 (-1)) ∧ z.cell? ⟨w.heap.size, 1 + (2 * i + 1), none⟩ = some (.int .i64 (-1))) := fun i h1 h2 h3 => by
    have := h.2 i h1 h2 h3
    exact ⟨((cell_block q1).1 _).trans ((fpA_get f h.1 (2 * i) (by omega)).trans (by rw [this.1])), ((cell_block q1).1 _).trans ((fpA_get f h.1 (2 * i + 1) (by omega)).trans (by rw [this.2]))⟩
  clear h q1
  go_enter Try.func24, Try.ntmps24
  go_upto_region 1 with fail
  show Code.wp _ _ _ _ (w.alloc (.cells (fpA f) 31))
  rw [← hz]
  clear hz
  generalize hn : w.heap.size = n at *
  go_wp2_with fail
  go_loopw [5] (fun i wr => ∃ k : Nat, 1 ≤ k ∧ k ≤ 10 ∧ i = .int .i64 k ∧ wr = z) (fun i _ => 10 - (intOf i).toNat)
  case atStart => exact ⟨1, Nat.le_refl _, by omega, rfl, rfl⟩
  case round =>
    obtain ⟨k, hk1, hk, rfl, rfl⟩ := hrel
    by_cases hlt : k < 10
    · have i1 : (k : Int) < 10 := by omega
      have i2 : (2 : Int) * (k : Int) < 20 := by omega
      have i3 : (2 : Int) * (k : Int) + 1 < 20 := by omega
      by_cases hg : k = g
      · subst hg
        have m1 : ((k : Int) != (k : Int)) = false := by simp
        go_wp2_with fail
        go_roundw
        case rel => exact ⟨k + 1, by omega, by omega, by go_num, trivial⟩
        case measure => simp [intOf]; omega
      · obtain ⟨a0, b0⟩ := HC.out k hk1 hlt hg
        have m1 : ((k : Int) != (g : Int)) = true := by rw [bne_iff_ne]; omega
        clear hg
        go_wp2_with fail
        go_roundw
        case rel => exact ⟨k + 1, by omega, by omega, by go_num, trivial⟩
        case measure => simp [intOf]; omega
    · go_wp2_with fail
      go_ret
      exact ⟨rfl, by rw [hn]; exact HB.out⟩
end Go.Proofs.Ytebpgfodelggoab
set_option linter.unusedVariables false
set_option linter.unusedSimpArgs false
namespace Go.Proofs.Ytebpgfodelggoab
open Go.RowKit

theorem results_tmp3 {fn : Func} {t u v : Tmp} (h : fn.results = #[.tmp t, .tmp u, .tmp v]) (tmps : Array Value) (P : Program) (w : World) :
    (results fn tmps).run P w = .ok (.tuple #[tmps.getD t undef, tmps.getD u undef, tmps.getD v undef]) w := by
  simp [results, h]

set_option maxHeartbeats 400000 in
theorem byteAt_any (p : ByteArray) (i : Int) (w : World) (hp : p.size ≤ 64) :
    Calls Try.prog 73 #[.string p, .int .i64 i] w fun e w' => e = .returned (.int .i64 (Mt.atB p i)) ∧ w = w' := by
  by_cases h0 : i < 0
  · rw [Mt.atB_out p i (by omega)]
    go_enter Try.func73, Try.ntmps73
    go_wp2
    go_ret
    exact ⟨rfl, rfl⟩
  · by_cases h1 : (p.size : Int) ≤ i
    · rw [Mt.atB_out p i (by omega)]
      go_enter Try.func73, Try.ntmps73
      go_wp2
      go_ret
      exact ⟨rfl, rfl⟩
    · obtain ⟨k, rfl⟩ := Int.eq_ofNat_of_zero_le (show 0 ≤ i by omega)
      have hk : k < p.size := by omega
      rw [← atB_nat p k hk]
      go_enter Try.func73, Try.ntmps73
      go_wp2
      go_ret
      exact ⟨rfl, rfl⟩

set_option maxHeartbeats 400000 in
theorem isDigit_any (c : Int) (w : World) :
    Calls Try.prog 105 #[.int .i64 c] w fun e w' => e = .returned (.bool (Mt.digB c)) ∧ w = w' := by
  by_cases a : 48 ≤ c
  · by_cases b : c ≤ 57
    · rw [digB_t ⟨a, b⟩]
      go_enter Try.func105, Try.ntmps105
      go_wp2
      go_ret
      exact ⟨rfl, rfl⟩
    · rw [digB_f (by omega)]
      go_enter Try.func105, Try.ntmps105
      go_wp2
      go_ret
      exact ⟨rfl, rfl⟩
  · rw [digB_f (by omega)]
    go_enter Try.func105, Try.ntmps105
    go_wp2
    go_ret
    exact ⟨rfl, rfl⟩

set_option maxHeartbeats 400000 in
theorem isLetter_any (c : Int) (w : World) :
    Calls Try.prog 107 #[.int .i64 c] w fun e w' => e = .returned (.bool (Mt.letB c)) ∧ w = w' := by
  rcases (show (c < 65 ∧ Mt.letB c = false) ∨ ((65 ≤ c ∧ c ≤ 90) ∧ Mt.letB c = true) ∨ ((90 < c ∧ c < 97) ∧ Mt.letB c = false) ∨ ((97 ≤ c ∧ c ≤ 122) ∧ Mt.letB c = true) ∨ (122 < c ∧ Mt.letB c = false) by
      simp only [Mt.letB, decide_eq_true_eq, decide_eq_false_iff_not]; omega) with ⟨h, e⟩ | ⟨⟨h, h'⟩, e⟩ | ⟨⟨h, h'⟩, e⟩ | ⟨⟨h, h'⟩, e⟩ | ⟨h, e⟩
  all_goals
    rw [e]; clear e
    go_enter Try.func107, Try.ntmps107
    go_wp2
    go_ret
    first | exact ⟨rfl, rfl⟩ | exact ⟨ret_bool (by simp; omega), rfl⟩

set_option maxHeartbeats 400000 in
theorem isSetLetter_any (c : Int) (w : World) :
    Calls Try.prog 97 #[.int .i64 c] w fun e w' => e = .returned (.bool (c == 100 || c == 119)) ∧ w = w' := by
  cases a : (c == 100) <;> cases b : (c == 119)
  all_goals
    go_enter Try.func97, Try.ntmps97
    go_wp2
    go_ret
    first | exact ⟨rfl, rfl⟩ | exact ⟨ret_bool (by simp_all), rfl⟩

/-- May a backslash stand before the byte? -/
def escB (c : Int) : Bool := c != -1 && !Mt.letB c && !Mt.digB c
set_option maxHeartbeats 400000 in
theorem canBeEscaped_any (c : Int) (w : World) :
    Calls Try.prog 99 #[.int .i64 c] w fun e w' => e = .returned (.bool (escB c)) ∧ w = w' := by
  unfold escB
  cases a : (c != -1) <;> cases b : Mt.letB c <;> cases d : Mt.digB c
  all_goals
    go_enter Try.func99, Try.ntmps99
    go_wp2_with (first | (go_at_call 107; refine (isLetter_any _ _).mono ?_; rintro e w' ⟨rfl, rfl⟩) | (go_at_call 105; refine (isDigit_any _ _).mono ?_; rintro e w' ⟨rfl, rfl⟩))
    all_goals
      go_ret
      first | exact ⟨rfl, rfl⟩ | exact ⟨ret_bool (by simp_all), rfl⟩

end Go.Proofs.Ytebpgfodelggoab
set_option linter.unusedVariables false
set_option linter.unusedSimpArgs false
namespace Go.Proofs.Ytebpgfodelggoab
open Go.RowKit

/-- A set of bytes in memory. -/
def setA (S : Mt.BSet) : Array Value := ((List.range 256).map fun c => Value.bool (S c)).toArray
theorem setA_size (S : Mt.BSet) : (setA S).size = 256 := by simp [setA]
theorem setA_get (S : Mt.BSet) (c : Nat) (h : c < 256) : (setA S)[c]? = some (.bool (S c)) := by
  unfold setA; rw [List.getElem?_toArray, List.getElem?_map, List.getElem?_range h]; rfl
theorem setA_set (S T : Mt.BSet) (k : Nat) (b : Bool) (hk : k < 256) (h : ∀ c, T c = if c = k then b else S c) : (setA S).setIfInBounds k (.bool b) = setA T := by
  apply Array.ext
  · simp [setA]
  · intro i h1 h2
    simp only [Array.size_setIfInBounds, setA_size] at h1
    rw [Array.getElem_setIfInBounds (by rw [setA_size]; exact h1)]
    simp only [setA, List.getElem_toArray, List.getElem_map, List.getElem_range]
    rw [h i]
    by_cases e : k = i
    · rw [if_pos e, if_pos e.symm]
    · rw [if_neg e, if_neg (Ne.symm e)]
theorem setA_same {S T : Mt.BSet} (h : Mt.sameB S T) : setA S = setA T := by
  unfold setA
  congr 1
  apply List.map_congr_left
  intro c hc
  rw [h c (by simpa using hc)]
/-- The block g holds the set S. -/
def setAt (w : World) (g : Nat) (S : Mt.BSet) : Prop := w.heap[g]? = some (.cells (setA S) 151 (0, 0))
/-- Only the block g turns. -/
structure Only (g : Nat) (w w' : World) : Prop where
  os : w'.os = w.os
  tape : w'.tape = w.tape
  output : w'.output = w.output
  size : w'.heap.size = w.heap.size
  block : ∀ k, k ≠ g → w'.heap[k]? = w.heap[k]?
theorem Only.refl (g : Nat) (w : World) : Only g w w := ⟨rfl, rfl, rfl, rfl, fun _ _ => rfl⟩
theorem Only.trans {g : Nat} {a b c : World} (h : Only g a b) (k : Only g b c) : Only g a c :=
  ⟨k.os.trans h.os, k.tape.trans h.tape, k.output.trans h.output, k.size.trans h.size, fun i hi => (k.block i hi).trans (h.block i hi)⟩
theorem Only.set {g : Nat} {a w : World} (h : Only g a w) (k : Nat) (u : Value) : Only g a (w.setCell ⟨g, k, none⟩ u) :=
  h.trans ⟨rfl, rfl, rfl, by simp [World.setCell], fun i hi => Below.heap_setCell _ _ _ _ hi⟩
theorem Only.below {g L : Nat} {a w : World} (h : Only g a w) (hl : L ≤ g) : Below L a w :=
  ⟨h.os, h.tape, h.output, Nat.le_of_eq h.size.symm, fun i hi => h.block i (by omega)⟩

set_option maxRecDepth 100000 in
set_option maxHeartbeats 1000000 in
theorem addRange_any (w : World) (g : Nat) (S : Mt.BSet) (a b : Int) (hS : setAt w g S) :
    Calls Try.prog 93 #[.pointer (some ⟨g, 0, none⟩), .int .i64 a, .int .i64 b] w fun e w' => e = .returned (.tuple #[]) ∧ setAt w' g (Mt.addR S a b) ∧ Only g w w' := by
  have H0 : Hid (setAt w g (Mt.addTo S a b 0)) := by show setAt _ _ _; rw [Mt.addTo_zero]; exact hS
  clear hS
  go_enter Try.func93, Try.ntmps93
  go_wp2_with fail
  go_loopw [6] (fun i wr => ∃ k : Nat, k ≤ 256 ∧ i = .int .i64 k ∧ setAt wr g (Mt.addTo S a b k) ∧ Only g w wr) (fun i _ => 256 - (intOf i).toNat)
  case atStart => exact ⟨0, by omega, rfl, H0.out, Only.refl _ _⟩
  case round =>
    obtain ⟨k, hk, rfl, hs, hO⟩ := hrel
    have HS : Hid (setAt wr g (Mt.addTo S a b k)) := hs
    have HO : Hid (Only g w wr) := hO
    by_cases hl : k < 256
    · have zz : wr.cell? ⟨g, k, none⟩ = some (.bool (Mt.addTo S a b k k)) := by rw [(cell_block hs).1, setA_get _ _ hl]
      have z2 := (cell_block hs).2 k
      clear hs hO
      by_cases h1 : a ≤ (k : Int)
      · by_cases h2 : (k : Int) ≤ b
        · have HN := Mt.addTo_hit S a b k ⟨h1, h2⟩
          have HN' : Hid (Mt.addTo S a b (k + 1) = fun c => if c = k then true else Mt.addTo S a b k c) := HN
          clear HN
          go_wp2_with fail
          go_roundw
          case rel =>
            refine ⟨k + 1, by omega, by go_num, ?_, HO.out.set _ _⟩
            have := Go.heap_setCell_same wr g k _ _ (.bool true) HS.out
            unfold setAt
            rw [setA_set (Mt.addTo S a b k) (Mt.addTo S a b (k + 1)) k true hl (fun c => by rw [HN'.out])] at this
            exact this
          case measure => simp [intOf]; omega
        · have HN' : Hid (Mt.addTo S a b (k + 1) = Mt.addTo S a b k) := Mt.addTo_miss S a b k (by omega)
          go_wp2_with fail
          go_roundw
          case rel => exact ⟨k + 1, by omega, by go_num, by rw [HN'.out]; exact HS.out, HO.out⟩
          case measure => simp [intOf]; omega
      · have HN' : Hid (Mt.addTo S a b (k + 1) = Mt.addTo S a b k) := Mt.addTo_miss S a b k (by omega)
        go_wp2_with fail
        go_roundw
        case rel => exact ⟨k + 1, by omega, by go_num, by rw [HN'.out]; exact HS.out, HO.out⟩
        case measure => simp [intOf]; omega
    · have e : k = 256 := by omega
      subst e
      clear hs hO
      go_wp2_with fail
      go_returns
      refine ⟨rfl, ?_, HO.out⟩
      have := HS.out
      unfold setAt at this ⊢
      rw [setA_same (Mt.addTo_end S a b)] at this
      exact this

set_option maxRecDepth 100000 in
set_option maxHeartbeats 1000000 in
theorem addLetter_any (w : World) (g : Nat) (S : Mt.BSet) (c : Int) (hS : setAt w g S) :
    Calls Try.prog 98 #[.pointer (some ⟨g, 0, none⟩), .int .i64 c] w fun e w' => e = .returned (.tuple #[]) ∧ setAt w' g (Mt.addL S (decide (c = 119))) ∧ Only g w w' := by
  have H0 : Hid (setAt w g S) := hS
  clear hS
  cases hc : (c == 119)
  · have HL : Hid (Mt.addL S (decide (c = 119)) = Mt.addR S 48 57) := by
      show _ = _; have : ¬ c = 119 := by simpa using hc
      simp [Mt.addL, this]
    go_enter Try.func98, Try.ntmps98
    go_wp2_with fail
    refine (addRange_any w g S 48 57 H0.out).mono ?_
    rintro e w1 ⟨rfl, s1, o1⟩
    have H1 : Hid (setAt w1 g (Mt.addR S 48 57) ∧ Only g w w1) := ⟨s1, o1⟩
    clear s1 o1
    go_wp2_with fail
    go_returns
    exact ⟨rfl, by rw [HL.out]; exact H1.out.1, H1.out.2⟩
  · have HL : Hid (Mt.addL S (decide (c = 119)) = Mt.addR (Mt.addR (Mt.addR (Mt.addR S 48 57) 65 90) 95 95) 97 122) := by
      show _ = _; have : c = 119 := by simpa using hc
      simp [Mt.addL, this]
    go_enter Try.func98, Try.ntmps98
    go_wp2_with fail
    refine (addRange_any w g S 48 57 H0.out).mono ?_
    rintro e w1 ⟨rfl, s1, o1⟩
    have H1 : Hid (setAt w1 g (Mt.addR S 48 57) ∧ Only g w w1) := ⟨s1, o1⟩
    clear s1 o1
    go_wp2_with fail
    refine (addRange_any w1 g _ 65 90 H1.out.1).mono ?_
    rintro e w2 ⟨rfl, s1, o1⟩
    have H2 : Hid (setAt w2 g (Mt.addR (Mt.addR S 48 57) 65 90) ∧ Only g w w2) := ⟨s1, H1.out.2.trans o1⟩
    clear s1 o1 H1
    go_wp2_with fail
    refine (addRange_any w2 g _ 95 95 H2.out.1).mono ?_
    rintro e w3 ⟨rfl, s1, o1⟩
    have H3 : Hid (setAt w3 g (Mt.addR (Mt.addR (Mt.addR S 48 57) 65 90) 95 95) ∧ Only g w w3) := ⟨s1, H2.out.2.trans o1⟩
    clear s1 o1 H2
    go_wp2_with fail
    refine (addRange_any w3 g _ 97 122 H3.out.1).mono ?_
    rintro e w4 ⟨rfl, s1, o1⟩
    have H4 : Hid (setAt w4 g (Mt.addR (Mt.addR (Mt.addR (Mt.addR S 48 57) 65 90) 95 95) 97 122) ∧ Only g w w4) := ⟨s1, H3.out.2.trans o1⟩
    clear s1 o1 H3
    go_wp2_with fail
    go_returns
    exact ⟨rfl, by rw [HL.out]; exact H4.out.1, H4.out.2⟩

set_option maxRecDepth 100000 in
set_option maxHeartbeats 1000000 in
theorem text_any (w : World) (g : Nat) (S : Mt.BSet) (hS : setAt w g S) :
    Calls Try.prog 94 #[.pointer (some ⟨g, 0, none⟩)] w fun e w' => e = .returned (.string ⟨(Mt.setTo S 256).toArray⟩) ∧ Below w.heap.size w w' := by
  obtain ⟨i0, hi, hz0, hz1, hz2⟩ := info_parts Try.info5
  have H0 : Hid (setAt w g S) := hS
  have hg : g < w.heap.size := (Array.getElem?_eq_some_iff.1 hS).1
  clear hS
  go_enter Try.func94, Try.ntmps94
  go_wp2_with fail
  go_loopw [3, 4] (fun v i wr => ∃ k : Nat, k ≤ 256 ∧ i = .int .i64 k ∧ wr.ownsRow w.heap.size 5 1 v (Mt.setTo S k).length (bcells (Mt.setTo S k)) ∧ Below w.heap.size w wr) (fun _ i _ => 256 - (intOf i).toNat)
  case atStart => exact ⟨0, by omega, rfl, World.ownsRow_nil _ _ _ _, Below.refl _ _⟩
  case round =>
    obtain ⟨k, hk, rfl, hown, hbel⟩ := hrel
    have hl := Mt.setTo_len S k
    have hsz := hbel.size
    by_cases hlt : k < 256
    · have zz : wr.cell? ⟨g, k, none⟩ = some (.bool (S k)) := by
        rw [hbel.cell (p := ⟨g, k, none⟩) hg, (cell_block H0.out).1, setA_get _ _ hlt]
      cases hq : S k
      · rw [hq] at zz
        have H1 : Hid (wr.ownsRow w.heap.size 5 1 u3 (Mt.setTo S (k + 1)).length (bcells (Mt.setTo S (k + 1)))) := by rw [Mt.setTo_miss hq]; exact hown
        go_wp2_with fail
        go_roundw
        case rel => exact ⟨k + 1, by omega, by go_num, H1.out, hbel⟩
        case measure => simp [intOf]; omega
      · rw [hq] at zz
        have H1 : Hid (bcells (Mt.setTo S (k + 1)) = bcells (Mt.setTo S k) ++ [.int .u8 (k : Int)] ∧ (Mt.setTo S (k + 1)).length = (Mt.setTo S k).length + 1) := by
          rw [Mt.setTo_hit hq]
          refine ⟨?_, by simp⟩
          simp only [bcells, List.map_append, List.map_cons, List.map_nil]
          have : (UInt8.ofNat k).toNat = k := by simp; omega
          rw [this]
        go_wp2_with (first | (at_builtin; refine wpList_append_own _ rfl _ _ 159 rfl w.heap.size 5 i0 (.int .u8 0) 1 1 Try.underlying159 hi hz0 hz1 hz2 rfl (by decide) _ _ _ rfl (hown.alloc _) ⟨wr.heap.size, 0, none⟩ 1 1 [.int .u8 (k : Int)] rfl rfl ?c1 ?c2 ?c3 ?c4 ?c5 ?_))
        case c1 =>
          intro j u hj
          match j, hj with
          | 0, hj => simp at hj; subst hj; simp [Addr.add]
        case c2 => intro u hu; simp at hu; subst hu; rfl
        case c3 => unfold maxLen; omega
        case c4 => omega
        case c5 => simp; omega
        · intro v' w1 hown' hgrow _
          have R1 : Hid (w1.ownsRow w.heap.size 5 1 v' (Mt.setTo S (k + 1)).length (bcells (Mt.setTo S (k + 1)))) := by
            show World.ownsRow _ _ _ _ _ _ _
            rw [H1.out.1, H1.out.2]; exact hown'
          have R2 : Hid (Below w.heap.size w w1) := (hbel.alloc hsz _).grown hgrow (by simp; omega) (fun q hq' => (hown.lt q hq').1)
          clear hown' hgrow
          go_wp2_with fail
          go_roundw
          case rel => exact ⟨k + 1, by omega, by go_num, R1.out, R2.out⟩
          case measure => simp [intOf]; omega
    · have e : k = 256 := by omega
      subst e
      have hcv := conv_owned wr w.heap.size u3 (Mt.setTo S 256) hown
      go_wp2_with fail
      go_returns
      exact ⟨rfl, hbel⟩
end Go.Proofs.Ytebpgfodelggoab
