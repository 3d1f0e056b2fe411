import Derived.Test.YtedcboimnmhdaaaGreatC08
import Derived.Test.YtedcboimnmhdaaaGreatC12
import Derived.Test.YtedcboimnmhdaaaGreatC15
/- The tokens of a pattern are small, and no more than its bytes. Check as the reference answers it. -/
set_option linter.unusedVariables false
namespace Mt

theorem mood_how (p : ByteArray) (t : Int) : 0 ≤ (mood p t).1 ∧ (mood p t).1 ≤ 2 := by
  unfold mood
  split
  · simp
  · split <;> simp
theorem count_nm (p : ByteArray) (i : Int) : 0 ≤ (count p i).1 ∧ (count p i).1 ≤ 20 ∧ -1 ≤ (count p i).2.1 ∧ (count p i).2.1 ≤ 20 := by
  have b1 := number_bd p (i + 1)
  have b2 := number_bd p (i + 1 + (number p (i + 1)).2 + 1)
  unfold count
  split
  · simp
  · split
    · simp only; omega
    · split
      · simp
      · split
        · simp only; omega
        · split
          · simp
          · simp only; omega
theorem repeat_ok (p : ByteArray) (i : Int) : tokOk (repeatT p i).1 := by
  have m1 := mood_how p (i + 1)
  have m2 := mood_how p (count p i).2.2.1
  have c := count_nm p i
  unfold repeatT
  split
  · simp only [tokOk]; omega
  · split
    · simp only [tokOk]; omega
    · split
      · split
        · simp only [tokOk]; omega
        · simp [tokOk]
      · simp only [tokOk]; omega
theorem escape_ok (p : ByteArray) (i : Int) : tokOk (escape p i).1 := by
  unfold escape
  split
  · simp [tokOk]
  · split
    · simp [tokOk]
    · split
      · simp only [tokOk]; omega
      · simp [tokOk]
theorem opening_ok (p : ByteArray) (i : Int) : tokOk (opening p i).1 := by
  unfold opening
  split
  · simp [tokOk]
  · split
    · simp [tokOk]
    · split
      · simp [tokOk]
      · split
        · simp [tokOk]
        · split <;> simp [tokOk]
theorem class_ok (p : ByteArray) (i : Int) : tokOk (classT p i).1 := by
  unfold classT
  split <;> simp [tokOk]
theorem next_ok (p : ByteArray) (i : Int) : tokOk (nextT p i).1 := by
  unfold nextT
  split
  · simp [tokOk]
  split
  · simp [tokOk]
  split
  · simp [tokOk]
  split
  · simp [tokOk]
  split
  · exact escape_ok p i
  split
  · exact class_ok p i
  split
  · exact opening_ok p i
  split
  · exact repeat_ok p i
  split
  · simp [tokOk]
  · simp [tokOk]
theorem joined_ok {l : List Tok} {t : Tok} (h : tokOk t) (hl : l.length ≤ 64) : tokOk (joined l t) := by
  unfold joined
  split
  · rename_i hc
    have hk : t.kind = 6 := by simp [isCap] at hc; exact hc.1
    have := captures_bd l
    simp only [tokOk] at *
    omega
  · exact h

theorem readOn_ok (p : ByteArray) (hp : p.size ≤ 64) : ∀ (f : Nat) (l : List Tok) (i : Int), 0 ≤ i → i ≤ p.size → (p.size : Int) - i < f → toksOk l → (l.length : Int) ≤ i → toksOk (readOn p l i).1 ∧ ((readOn p l i).1.length : Int) ≤ p.size := by
  intro f
  induction f with
  | zero => intro l i h0 h1 h2; omega
  | succ f ih =>
    intro l i h0 h1 h2 hl hn
    rw [readOn_step p l i h0 h1]
    split
    · exact ⟨hl, by simp only; omega⟩
    · split
      · exact ⟨by simp [toksOk], by simp⟩
      · split
        · exact ⟨by simp [toksOk], by simp⟩
        · rename_i a b c
          have ht := nextT_to p i h0 (by omega) (by omega)
          refine ih _ _ (by omega) (by omega) (by omega) ?_ ?_
          · intro t hm
            rcases List.mem_append.1 hm with hm | hm
            · exact hl t hm
            · simp at hm; rw [hm]; exact joined_ok (next_ok p i) (by omega)
          · rw [List.length_append]; simp; omega
theorem tokens_small (p : ByteArray) : toksOk (tokens p).1 ∧ (tokens p).1.length ≤ 64 := by
  unfold tokens
  split
  · exact ⟨by simp [toksOk], by simp⟩
  · rename_i hp
    have h := readOn_ok p (by omega) ((p.size : Int) + 1).toNat [] 0 (by omega) (by omega) (by omega) (by simp [toksOk]) (by simp)
    rw [readOn_start p (by omega)]
    split
    · exact ⟨h.1, by have := h.2; omega⟩
    · split
      · exact ⟨by simp [toksOk], by simp⟩
      · exact ⟨h.1, by have := h.2; simp only; omega⟩

/-- Check: the error and its place. -/
def checkR (p : ByteArray) : Int × Int :=
  if (tokens p).2.1 ≠ 0 then (tokens p).2
  else if 300 < (coded (tokens p).1).length then (12, 0)
  else (0, 0)

theorem tokens_place (p : ByteArray) : 0 ≤ (tokens p).2.2 ∧ True := by
  refine ⟨?_, trivial⟩
  unfold tokens
  split
  · simp
  · rename_i hp
    rw [readOn_start p (by omega)]
    have key : ∀ (f : Nat) (l : List Tok) (i : Int), 0 ≤ i → i ≤ p.size → (p.size : Int) - i < f → 0 ≤ (readOn p l i).2.2 := by
      intro f
      induction f with
      | zero => intro l i h0 h1 h2; omega
      | succ f ih =>
        intro l i h0 h1 h2
        rw [readOn_step p l i h0 h1]
        split
        · exact h0
        · split
          · exact h0
          · split
            · exact h0
            · have ht := nextT_to p i h0 (by omega) (by omega)
              exact ih _ _ (by omega) (by omega) (by omega)
    split
    · exact key ((p.size : Int) + 1).toNat [] 0 (by omega) (by omega) (by omega)
    · split <;> simp

end Mt
set_option linter.unusedVariables false
set_option linter.unusedSimpArgs false
namespace Go.Proofs.YtedcboimnmhdaaaGreat
open Go.RowKit

theorem tokens_any (p : ByteArray) (w : World) (hm : p.size ≤ maxLen) :
    Calls Tryz.prog 23 #[.string p] w fun e w' => ∃ v, e = .returned (.tuple #[v, .int .i64 (Mt.tokens p).2.1, .int .i64 (Mt.tokens p).2.2]) ∧ toks w' v (Mt.tokens p).1 ∧ Below w.heap.size w w' := by
  by_cases h : 64 < p.size
  · have e : Mt.tokens p = ([], 1, 0) := by unfold Mt.tokens; rw [if_pos h]
    rw [e]
    refine (tokens_long p w h hm).mono ?_
    rintro e w' ⟨rfl, rfl⟩
    exact ⟨_, rfl, World.ownsRow_nil _ _ _ _, Below.refl _ _⟩
  · refine (tokens_short p w (by omega)).mono ?_
    rintro e w' ⟨v, rfl, h1, h2⟩
    exact ⟨v, rfl, h1.toks, h2⟩

set_option maxHeartbeats 1000000 in
theorem refCheck_any (p : ByteArray) (w : World) (hm : p.size ≤ maxLen) :
    Calls Tryz.prog 28 #[.string p] w fun e w' => e = .returned (.tuple #[.int .i64 (Mt.checkR p).1, .int .i64 (Mt.checkR p).2]) ∧ Below w.heap.size w w' := by
  have K : Hid (Calls Tryz.prog 23 #[.string p] w fun e w' => ∃ v, e = .returned (.tuple #[v, .int .i64 (Mt.tokens p).2.1, .int .i64 (Mt.tokens p).2.2]) ∧ toks w' v (Mt.tokens p).1 ∧ Below w.heap.size w w') := tokens_any p w hm
  have ts := Mt.tokens_small p
  have tsl := ts.2
  have TS : Hid (Mt.toksOk (Mt.tokens p).1) := ts.1
  have KC : Hid (∀ (v : Value) (z : World), toks z v (Mt.tokens p).1 → Calls Tryz.prog 41 #[v] z fun e w' => ∃ v', e = .returned v' ∧ ownIns w' 0 v' (Mt.coded (Mt.tokens p).1) ∧ Below z.heap.size z w') := fun v z hz => coded_any _ v z tsl TS.out hz
  have cb : ((Mt.coded (Mt.tokens p).1).length : Int) ≤ 100000000 := by
    have fc := gen_ok TS.out 283 0 0 (Mt.tokens p).1.length 0 (by omega) (by omega)
    have := (Mt.fit_behind fc (Mt.fit_one (M := 70000000) (i := ⟨13, 0, 0, []⟩) (fitI_small _ _ _ _ (by omega) (by omega)) (by omega))).1
    unfold Mt.coded
    omega
  unfold Mt.checkR
  generalize hT : Mt.tokens p = T at *
  clear hT ts
  generalize hC : Mt.coded T.1 = C at *
  clear hC
  cases he : (T.2.1 != 0)
  · rw [if_neg (by simpa using he)]
    by_cases hb : 300 < C.length
    · rw [if_pos hb]
      go_enter Tryz.func28, Tryz.ntmps28
      go_wp2_with fail
      refine K.out.mono ?_
      rintro e w1 ⟨v1, rfl, q1, hb1⟩
      have Q1 : Hid (toks w1 v1 T.1) := q1
      have hs1 := hb1.size
      clear q1
      go_wp2_with fail
      refine (KC.out v1 _ Q1.out).mono ?_
      rintro e w2 ⟨v2, rfl, q2, hb2⟩
      obtain ⟨ao, cap, rfl⟩ := len_val q2
      have hB2 : Below w.heap.size w w2 := hb1.trans (hb2.mono hs1)
      clear q2 hb2 hb1
      go_wp2_with fail
      go_ret2
      exact ⟨rfl, hB2⟩
    · rw [if_neg hb]
      go_enter Tryz.func28, Tryz.ntmps28
      go_wp2_with fail
      refine K.out.mono ?_
      rintro e w1 ⟨v1, rfl, q1, hb1⟩
      have Q1 : Hid (toks w1 v1 T.1) := q1
      have hs1 := hb1.size
      clear q1
      go_wp2_with fail
      refine (KC.out v1 _ Q1.out).mono ?_
      rintro e w2 ⟨v2, rfl, q2, hb2⟩
      obtain ⟨ao, cap, rfl⟩ := len_val q2
      have hB2 : Below w.heap.size w w2 := hb1.trans (hb2.mono hs1)
      clear q2 hb2 hb1
      go_wp2_with fail
      go_ret2
      exact ⟨rfl, hB2⟩
  · rw [if_pos (by simpa using he)]
    go_enter Tryz.func28, Tryz.ntmps28
    go_wp2_with fail
    refine K.out.mono ?_
    rintro e w1 ⟨v1, rfl, q1, hb1⟩
    clear q1
    go_wp2_with fail
    go_ret2
    exact ⟨rfl, hb1⟩
end Go.Proofs.YtedcboimnmhdaaaGreat
/- A script is played: every step of the kinds asked for is as the document says. The step Check. -/
set_option linter.unusedVariables false
set_option linter.unusedSimpArgs false
namespace Go.Proofs.YtedcboimnmhdaaaGreat
open Go.RowKit

/-- A step of a script. -/
structure Stp where
  kind : Int
  p : ByteArray
  t : ByteArray
  frm : Int
  policy : Int
  mask : Int
  room : Int
  budget : Int
def opA (o : Stp) : Array Value := #[.int .i64 o.kind, .string o.p, .string o.t, .int .i64 o.frm, .int .i64 o.policy, .int .i64 o.mask, .int .i64 o.room, .int .i64 o.budget]
def opV (o : Stp) : Value := .agg (opA o)

/-- What is asked of the program's Check. -/
def CheckKeeps : Prop := ∀ (p : ByteArray) (z : World), p.size ≤ maxLen → Calls Tryz.prog 27 #[.string p] z fun e w' => e = .returned (.tuple #[.int .i64 (Mt.checkR p).1, .int .i64 (Mt.checkR p).2]) ∧ Below z.heap.size z w'

set_option maxRecDepth 100000 in
set_option maxHeartbeats 4000000 in
theorem plays_check (KP : CheckKeeps) (o : Stp) (w : World) (hp : o.p.size ≤ maxLen) (k1 : (o.kind == 1) = true) :
    Calls Tryz.prog 15 #[opV o] w fun e w' => e = .returned (.bool true) ∧ Below w.heap.size w w' := by
  have K1 : Hid (∀ z : World, Calls Tryz.prog 27 #[.string o.p] z fun e w' => e = .returned (.tuple #[.int .i64 (Mt.checkR o.p).1, .int .i64 (Mt.checkR o.p).2]) ∧ Below z.heap.size z w') := fun z => KP o.p z hp
  have K2 : Hid (∀ z : World, Calls Tryz.prog 28 #[.string o.p] z fun e w' => e = .returned (.tuple #[.int .i64 (Mt.checkR o.p).1, .int .i64 (Mt.checkR o.p).2]) ∧ Below z.heap.size z w') := fun z => refCheck_any o.p z hp
  generalize Mt.checkR o.p = C at *
  unfold opV opA
  go_enter Tryz.func15, Tryz.ntmps15
  go_wp2_with fail
  refine (K1.out _).mono ?_
  rintro e w1 ⟨rfl, hb1⟩
  have hs1 := hb1.size
  have y1 : w1.cell? ⟨w.heap.size, 1, none⟩ = some (.string o.p) := (cell_block ((hb1.block _ (by simp)).trans (heap_alloc_new _ _))).1 1
  have l1 : w.heap.size < w1.heap.size := by simp at hs1; omega
  have hB1 : Below w.heap.size w w1 := ((Below.refl _ _).alloc (Nat.le_refl _) _).trans (hb1.mono (by simp))
  clear hb1 hs1
  go_wp2_with fail
  refine (K2.out _).mono ?_
  rintro e w2 ⟨rfl, hb2⟩
  have hB2 : Below w.heap.size w w2 := hB1.trans (hb2.mono (by omega))
  clear hb2
  go_wp2_with fail
  go_ret
  exact ⟨ret_bool (by simp), hB2⟩

def stp0 : Stp := ⟨0, ⟨#[]⟩, ⟨#[]⟩, 0, 0, 0, 0, 0⟩
/-- A script in memory: the slice v holds the steps l (its block may lie at any offset). -/
def Script (w : World) (v : Value) (l : List Stp) : Prop :=
  (l = [] ∧ ∃ ao cap, v = .slice ao 0 cap) ∨ (0 < l.length ∧ ∃ g o cap, v = .slice (some ⟨g, o, none⟩) l.length cap ∧ l.length ≤ cap ∧ g < w.heap.size ∧ ∀ k, k < l.length → ∀ j, j < 8 → w.cell? ⟨g, o + k * 8 + j, none⟩ = (opA (l.getD k stp0))[j]?)

set_option maxRecDepth 100000 in
set_option maxHeartbeats 4000000 in
theorem upTo_true (lo hi : Int) (l : List Stp) (v : Value) (w : World) (h : Script w v l) (hn : (l.length : Int) ≤ 9223372036854775807)
    (KP : ∀ o ∈ l, lo ≤ o.kind → o.kind ≤ hi → ∀ z : World, Calls Tryz.prog 15 #[opV o] z fun e w' => e = .returned (.bool true) ∧ Below z.heap.size z w') :
    Calls Tryz.prog 8 #[v, .int .i64 lo, .int .i64 hi] w fun e w' => e = .returned (.int .i64 (-1)) ∧ Below w.heap.size w w' := by
  rcases h with ⟨rfl, ao, cap, rfl⟩ | ⟨hpos, g, off, cap, rfl, hca, hg, hA⟩
  · go_enter Tryz.func8, Tryz.ntmps8
    go_wp2_with fail
    refine wp_loop_rounds 1 ?_
    rw [rounds_succ]
    go_wp2_with fail
    go_ret
    exact ⟨rfl, Below.refl _ _⟩
  · have HA : Hid (∀ k, k < l.length → ∀ j, j < 8 → w.cell? ⟨g, off + k * 8 + j, none⟩ = (opA (l.getD k stp0))[j]?) := hA
    have HP : Hid (∀ o ∈ l, lo ≤ o.kind → o.kind ≤ hi → ∀ z : World, Calls Tryz.prog 15 #[opV o] z fun e w' => e = .returned (.bool true) ∧ Below z.heap.size z w') := KP
    clear hA KP
    go_enter Tryz.func8, Tryz.ntmps8
    go_wp2_with fail
    go_loopw [7] (fun i wr => ∃ k : Nat, k ≤ l.length ∧ i = .int .i64 k ∧ Below w.heap.size w wr) (fun i _ => l.length - (intOf i).toNat)
    case atStart => exact ⟨0, Nat.zero_le _, rfl, Below.refl _ _⟩
    case round =>
      obtain ⟨k, hk, rfl, hbr⟩ := hrel
      have hsz := hbr.size
      by_cases hlt : k < l.length
      · have key := fun j hj => (hbr.cell (p := ⟨g, off + k * 8 + j, none⟩) hg).trans (HA.out k hlt j hj)
        have a0 : wr.cell? ⟨g, off + k * 8, none⟩ = some (.int .i64 (l.getD k stp0).kind) := key 0 (by omega)
        have a1 : wr.cell? ⟨g, off + k * 8 + 1, none⟩ = some (.string (l.getD k stp0).p) := key 1 (by omega)
        have a2 : wr.cell? ⟨g, off + k * 8 + 2, none⟩ = some (.string (l.getD k stp0).t) := key 2 (by omega)
        have a3 : wr.cell? ⟨g, off + k * 8 + 3, none⟩ = some (.int .i64 (l.getD k stp0).frm) := key 3 (by omega)
        have a4 : wr.cell? ⟨g, off + k * 8 + 4, none⟩ = some (.int .i64 (l.getD k stp0).policy) := key 4 (by omega)
        have a5 : wr.cell? ⟨g, off + k * 8 + 5, none⟩ = some (.int .i64 (l.getD k stp0).mask) := key 5 (by omega)
        have a6 : wr.cell? ⟨g, off + k * 8 + 6, none⟩ = some (.int .i64 (l.getD k stp0).room) := key 6 (by omega)
        have a7 : wr.cell? ⟨g, off + k * 8 + 7, none⟩ = some (.int .i64 (l.getD k stp0).budget) := key 7 (by omega)
        have hm : l.getD k stp0 ∈ l := by rw [List.getD_eq_getElem?_getD, List.getElem?_eq_getElem hlt]; exact List.getElem_mem hlt
        have hP := HP.out _ hm
        generalize l.getD k stp0 = O at *
        have i0 : (0 : Int) ≤ (k : Int) := by omega
        have i1 : (k : Int) < (l.length : Int) := by omega
        have lg : g < wr.heap.size := by omega
        have HBR : Hid (Below w.heap.size w wr) := hbr
        clear key hm hbr
        by_cases h1 : lo ≤ O.kind
        · by_cases h2 : O.kind ≤ hi
          · have KO : Hid (∀ z : World, Calls Tryz.prog 15 #[opV O] z fun e w' => e = .returned (.bool true) ∧ Below z.heap.size z w') := hP h1 h2
            unfold opV opA at KO
            have e1 : decide (lo ≤ O.kind) = true := by simpa using h1
            have e2 : decide (O.kind ≤ hi) = true := by simpa using h2
            clear hP
            go_wp2_with fail
            refine (KO.out _).mono ?_
            rintro e w1 ⟨rfl, hb1⟩
            have B1 : Hid (Below w.heap.size w w1) := (HBR.out.alloc hsz _).trans (hb1.mono (by simp; omega))
            clear hb1 a0 a1 a2 a3 a4 a5 a6 a7
            go_wp2_with fail
            go_roundw
            case rel => exact ⟨k + 1, by omega, by go_num, B1.out⟩
            case measure => simp [intOf]; omega
          · have e1 : decide (lo ≤ O.kind) = true := by simpa using h1
            have e2 : decide (O.kind ≤ hi) = false := by simpa using h2
            clear hP
            go_wp2_with fail
            go_roundw
            case rel => exact ⟨k + 1, by omega, by go_num, HBR.out.alloc hsz _⟩
            case measure => simp [intOf]; omega
        · have e1 : decide (lo ≤ O.kind) = false := by simpa using h1
          clear hP
          go_wp2_with fail
          go_roundw
          case rel => exact ⟨k + 1, by omega, by go_num, HBR.out.alloc hsz _⟩
          case measure => simp [intOf]; omega
      · go_wp2_with fail
        go_ret
        exact ⟨rfl, hbr⟩
end Go.Proofs.YtedcboimnmhdaaaGreat
