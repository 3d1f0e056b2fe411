import Derived.Test.YtebpgfodelggoabC05
import Derived.Test.YtebpgfodelggoabC08
import Derived.Test.YtebpgfodelggoabC03
import Derived.Deep.DeepCutAuto
import Derived.Deep.QuietTactic
import Derived.BigQuiet
import Derived.Test.YtebpgfodelggoabC00
import Derived.ChangeMaps5
import Derived.Lib.SmallJoins
/- THE SEARCHES OF matcherref/walk.go, plain. -/
set_option linter.unusedVariables false
namespace Mt

structure Fnd where
  ok : Bool
  at' : List Int
  steps : Int
def nowhere : List Int := List.replicate 20 (-1)
def fnd0 : Fnd := ⟨false, List.replicate 20 0, 0⟩
/-- The first state of a run. -/
def startSt (p : Int) : Sta := 0 :: p :: (nowhere ++ List.replicate 22 0)
theorem startSt_len (p : Int) : (startSt p).length = 44 := by simp [startSt, nowhere]
theorem startSt_good (L T : Nat) (p : Nat) (hL : 0 < L) (hp : p ≤ T) : Good L T (startSt p) := by
  have e0 : gt (startSt p) 0 = 0 := rfl
  have e1 : gt (startSt p) 1 = p := rfl
  refine ⟨startSt_len _, by omega, by omega, by omega, by omega, fun k hk => ?_, fun k hk => ?_⟩
  · left
    have : gt (startSt p) (2 + 2 * k) = -1 := by
      unfold gt startSt nowhere
      rw [List.getD_eq_getElem?_getD, show 2 + 2 * k = (2 * k) + 1 + 1 by omega, List.getElem?_cons_succ, List.getElem?_cons_succ, List.getElem?_append_left (by simp; omega), List.getElem?_replicate, if_pos (by omega)]; rfl
    omega
  · have : gt (startSt p) (22 + k) = 0 := by
      unfold gt startSt nowhere
      rw [List.getD_eq_getElem?_getD, show 22 + k = (20 + k) + 1 + 1 by omega, List.getElem?_cons_succ, List.getElem?_cons_succ, List.getElem?_append_right (by simp), List.getElem?_replicate, if_pos (by simp; omega)]; rfl
    omega
/-- The places of a match from p on that ended in the state r. -/
def foundAt (p : Int) (r : Sta) : List Int := p :: gt r 1 :: (r.drop 4).take 18
theorem foundAt_len (p : Int) (r : Sta) (h : r.length = 44) : (foundAt p r).length = 20 := by simp [foundAt, h]

/-- The search from p on (f positions are left): what is found; is the budget over? -/
def search (E : Env) (budget : Int) : Nat → Nat → Nat → List Bool → Int → Fnd × Bool
  | 0, _, n, _, _ => (⟨false, nowhere, budget - n⟩, false)
  | f + 1, p, n, kn, room =>
    if (look E n (startSt p) kn room).over then (fnd0, true)
    else if (look E n (startSt p) kn room).ok then (⟨true, foundAt p (look E n (startSt p) kn room).st, budget - (look E n (startSt p) kn room).n⟩, false)
    else search E budget f (p + 1) (look E n (startSt p) kn room).n (look E n (startSt p) kn room).kn (look E n (startSt p) kn room).room

def envOf (c : List Ins) (text : ByteArray) (policy mask : Int) : Env := ⟨c, text, chosen c policy mask, (List.range c.length).map fun p => (loopsAt c p : Int)⟩
/-- A search with a table of its own. -/
def searchAll (c : List Ins) (text : ByteArray) (policy mask room budget : Int) (frm : Nat) : Fnd × Bool :=
  search (envOf c text policy mask) budget (text.size + 1 - frm) frm budget.toNat (List.replicate (c.length * (text.size + 1) * 12) false) room
def mayFind (T : Nat) (frm policy mask room budget : Int) : Int :=
  if 60 < T then 1
  else if maySelect policy mask = true ∧ 0 ≤ frm ∧ frm ≤ T ∧ 0 ≤ room ∧ room ≤ 5000 ∧ 0 ≤ budget ∧ budget ≤ 10000 then 0 else 13
def findR (p text : ByteArray) (frm policy mask room budget : Int) : Fnd × Int :=
  if (codeR p).2 ≠ 0 then (fnd0, (codeR p).2)
  else if mayFind text.size frm policy mask room budget ≠ 0 then (fnd0, mayFind text.size frm policy mask room budget)
  else if (searchAll (codeR p).1 text policy mask room budget frm.toNat).2 then (fnd0, 14)
  else ((searchAll (codeR p).1 text policy mask room budget frm.toNat).1, 0)
end Mt
/- What is found, as cells. -/
set_option linter.unusedVariables false
set_option linter.unusedSimpArgs false
namespace Go.Proofs.Ytebpgfodelggoab
open Go.RowKit

/-- What is found: 22 cells. -/
def fpA (f : Mt.Fnd) : Array Value := (Value.bool f.ok :: (f.at'.map (Value.int .i64) ++ [Value.int .i64 f.steps])).toArray
theorem fpA_size (f : Mt.Fnd) (h : f.at'.length = 20) : (fpA f).size = 22 := by simp [fpA, h]
theorem fpA_all (f : Mt.Fnd) : (fpA f).all (·.oneCell') = true := by
  unfold fpA
  rw [List.all_toArray, List.all_eq_true]
  intro u hu
  simp only [List.mem_cons, List.mem_append, List.mem_map, List.not_mem_nil, or_false] at hu
  rcases hu with rfl | ⟨i, _, rfl⟩ | rfl <;> rfl
theorem fpA_set (b : Bool) (l : List Int) (u : Int) (i : Nat) (v : Int) (hi : i < l.length) : (fpA ⟨b, l, u⟩).setIfInBounds (1 + i) (.int .i64 v) = fpA ⟨b, l.set i v, u⟩ := by
  unfold fpA
  dsimp only
  rw [List.setIfInBounds_toArray, show 1 + i = i + 1 by omega, List.set_cons_succ, List.set_append_left _ _ (by simpa using hi), List.map_set]
theorem fpA_at (b : Bool) (l : List Int) (u : Int) (i : Nat) (hi : i < l.length) : (fpA ⟨b, l, u⟩)[1 + i]? = some (.int .i64 (l.getD i 0)) := by
  unfold fpA
  dsimp only
  rw [List.getElem?_toArray, show 1 + i = i + 1 by omega, List.getElem?_cons_succ, List.getElem?_append_left (by simpa using hi), List.getElem?_map, List.getD_eq_getElem?_getD, List.getElem?_eq_getElem hi]; rfl
theorem Try.sizeFd : (Try.prog.info? 31).map (·.size) = some 22 := by kernel_rfl
theorem fpA_ok (f : Mt.Fnd) : (fpA f)[0]? = some (.bool f.ok) := by unfold fpA; rfl
theorem fpA_get (f : Mt.Fnd) (h : f.at'.length = 20) (k : Nat) (hk : k < 20) : (fpA f)[1 + k]? = some (.int .i64 (f.at'.getD k 0)) := fpA_at f.ok f.at' f.steps k (by omega)
theorem fpA_steps (f : Mt.Fnd) (h : f.at'.length = 20) : (fpA f)[21]? = some (.int .i64 f.steps) := by
  unfold fpA
  rw [List.getElem?_toArray, List.getElem?_cons_succ, List.getElem?_append_right (by simp [h]), List.length_map, h]; rfl
end Go.Proofs.Ytebpgfodelggoab
/- matcherkeep: pick, set, empty, alike. (Plain seats alone.) -/
set_option linter.unusedVariables false
set_option linter.unusedSimpArgs false
namespace Go.Proofs.Ytebpgfodelggoab
open Go.RowKit

def pickI (c : Int) (n : Nat) : Int := (if c < 0 then -(c + 1) else c).tmod n
theorem pickI_in (c : Int) (n : Nat) (h : 0 < n) : 0 ≤ pickI c n ∧ pickI c n < n := by
  unfold pickI
  have h0 : 0 ≤ (if c < 0 then -(c + 1) else c) := by split <;> omega
  rw [Int.tmod_eq_emod_of_nonneg h0]
  exact ⟨Int.emod_nonneg _ (by omega), Int.emod_lt_of_pos _ (by omega)⟩
def I64 (c : Int) : Prop := -9223372036854775808 ≤ c ∧ c ≤ 9223372036854775807

set_option maxRecDepth 100000 in
set_option maxHeartbeats 1000000 in
theorem kpick_any (c : Int) (n : Nat) (w : World) (hc : I64 c) (hn : 0 < n) (hn2 : n ≤ 4294967296) : Calls Try.prog 9 #[.int .i64 c, .int .i64 (n : Int)] w fun e w' => e = .returned (.int .i64 (pickI c n)) ∧ w = w' := by
  obtain ⟨h1, h2⟩ := hc
  have hr := pickI_in c n hn
  have HR : Hid (0 ≤ pickI c n ∧ pickI c n < n) := hr
  have hn0 : ((n : Int) == 0) = false := by rw [beq_eq_false_iff_ne]; omega
  have hn1 : ((n : Int) == -1) = false := by rw [beq_eq_false_iff_ne]; omega
  unfold pickI at *
  by_cases h : c < 0
  · have d1 : decide (c < 0) = true := by simpa using h
    rw [if_pos h] at *
    have b1 : -9223372036854775808 ≤ c + 1 := by omega
    have b2 : c + 1 ≤ 9223372036854775807 := by omega
    have b3 : -9223372036854775808 ≤ -(c + 1) := by omega
    have b4 : -(c + 1) ≤ 9223372036854775807 := by omega
    go_enter Try.func9, Try.ntmps9
    go_wp2_with fail
    go_ret
    refine ⟨?_, rfl⟩
    show Ending.returned (.int .i64 (-((c + 1).tmod n))) = _
    rw [Int.neg_tmod]
  · have d1 : decide (c < 0) = false := by simpa using h
    rw [if_neg h] at *
    go_enter Try.func9, Try.ntmps9
    go_wp2_with fail
    go_ret
    refine ⟨?_, rfl⟩
    show Ending.returned (.int .i64 (c % n)) = _
    rw [Int.tmod_eq_emod_of_nonneg (by omega)]

theorem Try.sizeOp4 : (Try.prog.info? 23).map (·.size) = some 4 := by kernel_rfl
set_option maxRecDepth 100000 in
set_option maxHeartbeats 1000000 in
theorem kset_any (p m r : Int) (w : World) (hp : I64 p) (hm : I64 m) (hr : I64 r) : Calls Try.prog 12 #[.int .i64 p, .int .i64 m, .int .i64 r] w fun e w' => e = .returned (.agg #[.int .i64 (pickI p 5), .int .i64 (pickI m 4294967296), .int .i64 (pickI r 5001), .int .i64 10000]) ∧ Below w.heap.size w w' := by
  have K1 : Hid (∀ z : World, Calls Try.prog 9 #[.int .i64 p, .int .i64 5] z fun e w' => e = .returned (.int .i64 (pickI p 5)) ∧ z = w') := fun z => kpick_any p 5 z hp (by omega) (by omega)
  have K2 : Hid (∀ z : World, Calls Try.prog 9 #[.int .i64 m, .int .i64 4294967296] z fun e w' => e = .returned (.int .i64 (pickI m 4294967296)) ∧ z = w') := fun z => kpick_any m 4294967296 z hm (by omega) (by omega)
  have K3 : Hid (∀ z : World, Calls Try.prog 9 #[.int .i64 r, .int .i64 5001] z fun e w' => e = .returned (.int .i64 (pickI r 5001)) ∧ z = w') := fun z => kpick_any r 5001 z hr (by omega) (by omega)
  generalize pickI p 5 = P at *
  generalize pickI m 4294967296 = M at *
  generalize pickI r 5001 = R at *
  clear hp hm hr
  go_enter Try.func12, Try.ntmps12
  go_wp2_with fail
  refine (K1.out _).mono ?_
  rintro e w' ⟨rfl, rfl⟩
  go_wp2_with fail
  refine (K2.out _).mono ?_
  rintro e w' ⟨rfl, rfl⟩
  go_wp2_with fail
  refine (K3.out _).mono ?_
  rintro e w' ⟨rfl, rfl⟩
  go_wp2_with fail
  go_returns
  refine ⟨rfl, ?_⟩
  go_grown
end Go.Proofs.Ytebpgfodelggoab
/- Rows with numbers and options: opened and shut. -/
set_option linter.unusedVariables false
set_option maxRecDepth 100000
namespace Go.Proofs.Ytebpgfodelggoab
open Go.ChangeShapes Go.WideShapes Go.ChangeAt Go.RowKit Go.ChangeMaps Go.Joins

theorem wf_i64 {n : Int} (h : (Lit.int .i64 n).wf = true) : I64 n := by
  unfold Lit.wf at h
  rw [Bool.and_eq_true, decide_eq_true_eq, decide_eq_true_eq] at h
  exact ⟨h.1, h.2⟩
def optD {H : Type} (a b c d : Int) : DataW H := .agg [.lit (.int .i64 a), .lit (.int .i64 b), .lit (.int .i64 c), .lit (.int .i64 d)]
theorem opt_open {H : Type} {enc : TypeId × Value → H} {w : World} {base : Nat} {spare : Nat → Bool} {held : Bool} {r : Reach} {b0 : Nat} {v : Value} {d : DataW H} {p : List MemPlace} (hv : Value.okWide Try.prog w r b0 23 v) (h : DataW.Trod enc Try.prog w base spare held 23 v d p) :
    ∃ a b c e : Int, v = .agg #[.int .i64 a, .int .i64 b, .int .i64 c, .int .i64 e] ∧ d = optD a b c e ∧ p = [] ∧ ((Lit.int .i64 a).wf = true ∧ (Lit.int .i64 b).wf = true ∧ (Lit.int .i64 c).wf = true ∧ (Lit.int .i64 e).wf = true) := by
  obtain ⟨v0, v1, v2, v3, y0, y1, y2, y3, n, rfl, rfl, rfl, h0, h1, h2, h3⟩ := open_agg4 Try.underlying23 (by kernel_rfl) (by kernel_rfl) hv h
  obtain ⟨a, ha, rfl, wa⟩ := DataW.trod_int Try.underlying3 h0
  obtain ⟨b, hb, rfl, wb⟩ := DataW.trod_int Try.underlying3 h1
  obtain ⟨c, hc, rfl, wc⟩ := DataW.trod_int Try.underlying3 h2
  obtain ⟨e, he, rfl, we⟩ := DataW.trod_int Try.underlying3 h3
  simp only [List.cons.injEq, and_true] at ha hb hc he
  subst ha; subst hb; subst hc; subst he
  exact ⟨a, b, c, e, rfl, rfl, rfl, wa, wb, wc, we⟩
theorem opt_shut {H : Type} {enc : TypeId × Value → H} {w : World} {base : Nat} {spare : Nat → Bool} {held : Bool} {a b c e : Int} (h : (Lit.int .i64 a).wf = true ∧ (Lit.int .i64 b).wf = true ∧ (Lit.int .i64 c).wf = true ∧ (Lit.int .i64 e).wf = true) :
    DataW.Trod enc Try.prog w base spare held 23 (.agg #[.int .i64 a, .int .i64 b, .int .i64 c, .int .i64 e]) (optD a b c e) [] := by
  have key : ∀ n : Int, (Lit.int .i64 n).wf = true → ∃ k, DataW.trod enc Try.prog w base spare held k 3 [.int .i64 n] = some (.lit (.int .i64 n), []) := fun n hn => ⟨1, by simp [DataW.trod, Try.underlying3, hn]⟩
  exact shut_agg4 (y0 := (.lit (.int .i64 a), [])) (y1 := (.lit (.int .i64 b), [])) (y2 := (.lit (.int .i64 c), [])) (y3 := (.lit (.int .i64 e), [])) Try.underlying23 (by kernel_rfl) (by kernel_rfl) (key a h.1) (key b h.2.1) (key c h.2.2.1) (key e h.2.2.2)
theorem trodAll_five {H : Type} {enc : TypeId × Value → H} {P : Program} {w : World} {base : Nat} {spare : Nat → Bool} {held : Bool} {t0 t1 t2 t3 t4 : TypeId} {args : Array Value} {ds : List (DataW H)} {ps : List MemPlace} (h : DataW.TrodAll enc P w base spare held [t0, t1, t2, t3, t4] args.toList ds ps) :
    ∃ v0 v1 v2 v3 v4 d0 d1 d2 d3 d4 p0 p1 p2 p3 p4, args = #[v0, v1, v2, v3, v4] ∧ ds = [d0, d1, d2, d3, d4] ∧ ps = p0 ++ (p1 ++ (p2 ++ (p3 ++ p4))) ∧ DataW.Trod enc P w base spare held t0 v0 d0 p0 ∧ DataW.Trod enc P w base spare held t1 v1 d1 p1 ∧ DataW.Trod enc P w base spare held t2 v2 d2 p2 ∧ DataW.Trod enc P w base spare held t3 v3 d3 p3 ∧ DataW.Trod enc P w base spare held t4 v4 d4 p4 := by
  obtain ⟨v0, l0, d0, e0, p0, q0, ha, rfl, rfl, h0, h⟩ := trodAll_cons h
  obtain ⟨v1, l1, d1, e1, p1, q1, rfl, rfl, rfl, h1, h⟩ := trodAll_cons h
  obtain ⟨v2, l2, d2, e2, p2, q2, rfl, rfl, rfl, h2, h⟩ := trodAll_cons h
  obtain ⟨v3, l3, d3, e3, p3, q3, rfl, rfl, rfl, h3, h⟩ := trodAll_cons h
  obtain ⟨v4, l4, d4, e4, p4, q4, rfl, rfl, rfl, h4, h⟩ := trodAll_cons h
  obtain ⟨rfl, rfl, rfl⟩ := trodAll_nil h
  exact ⟨v0, v1, v2, v3, v4, d0, d1, d2, d3, d4, p0, p1, p2, p3, p4, by cases args; simp_all, rfl, by simp, h0, h1, h2, h3, h4⟩
end Go.Proofs.Ytebpgfodelggoab
/- matcherkeep: empty, alike, inside. (Plain seats alone.) -/
set_option linter.unusedVariables false
set_option linter.unusedSimpArgs false
namespace Go.Proofs.Ytebpgfodelggoab
open Go.RowKit

set_option maxRecDepth 100000 in
set_option maxHeartbeats 4000000 in
theorem empty_true (w : World) : Calls Try.prog 32 #[.agg (fpA Mt.fnd0)] w fun e w' => e = .returned (.bool true) ∧ Below w.heap.size w w' := by
  have HG : Hid (∀ k, k < 20 → (fpA Mt.fnd0)[1 + k]? = some (.int .i64 0)) := fun k hk => by
    have := fpA_get Mt.fnd0 rfl k hk
    rw [this]
    unfold Mt.fnd0
    dsimp only
    rw [List.getD_eq_getElem?_getD, List.getElem?_replicate, if_pos hk]; rfl
  have HG0 : Hid ((fpA Mt.fnd0)[0]? = some (.bool false)) := fpA_ok _
  have HG1 : Hid ((fpA Mt.fnd0)[21]? = some (.int .i64 0)) := fpA_steps _ rfl
  generalize fpA Mt.fnd0 = A at *
  go_enter Try.func32, Try.ntmps32
  go_wp2_with fail
  go_loopw [3] (fun i wr => ∃ k : Nat, k ≤ 20 ∧ i = .int .i64 k ∧ wr = w.alloc (.cells A 31)) (fun i _ => 20 - (intOf i).toNat)
  case atStart => exact ⟨0, Nat.zero_le _, rfl, rfl⟩
  case round =>
    obtain ⟨k, hk, rfl, rfl⟩ := hrel
    have q1 : (w.alloc (.cells A 31)).heap[w.heap.size]? = some (.cells A 31 (0, 0)) := heap_b1 _ _
    have hB : Below w.heap.size w (w.alloc (.cells A 31)) := (Below.refl _ _).alloc (Nat.le_refl _) _
    have s1 : w.heap.size < (w.alloc (.cells A 31)).heap.size := by simp
    by_cases hlt : k < 20
    · have a0 : (w.alloc (.cells A 31)).cell? ⟨w.heap.size, 1 + k, none⟩ = some (.int .i64 0) := ((cell_block q1).1 _).trans (HG.out k hlt)
      have i0 : (0 : Int) ≤ (k : Int) := by omega
      have i1 : (k : Int) < 20 := by omega
      clear q1
      generalize hz : w.alloc (.cells A 31) = z at *
      go_wp2_with fail
      go_roundw
      case rel => exact ⟨k + 1, by omega, by go_num, trivial⟩
      case measure => simp [intOf]; omega
    · have a0 : (w.alloc (.cells A 31)).cell? ⟨w.heap.size, 0, none⟩ = some (.bool false) := ((cell_block q1).1 _).trans HG0.out
      have a1 : (w.alloc (.cells A 31)).cell? ⟨w.heap.size, 21, none⟩ = some (.int .i64 0) := ((cell_block q1).1 _).trans HG1.out
      clear q1
      generalize hz : w.alloc (.cells A 31) = z at *
      go_wp2_with fail
      go_ret
      exact ⟨rfl, hB⟩

set_option maxRecDepth 100000 in
set_option maxHeartbeats 4000000 in
theorem alike_true (f g : Mt.Fnd) (h : f.at'.length = 20) (h1 : g.at' = f.at') (h2 : g.ok = f.ok) (w : World) :
    Calls Try.prog 16 #[.agg (fpA f), .agg (fpA g)] w fun e w' => e = .returned (.bool true) ∧ Below w.heap.size w w' := by
  have HF : Hid (∀ k, k < 20 → (fpA f)[1 + k]? = some (.int .i64 (f.at'.getD k 0))) := fun k hk => fpA_get f h k hk
  have HG : Hid (∀ k, k < 20 → (fpA g)[1 + k]? = some (.int .i64 (f.at'.getD k 0))) := fun k hk => by rw [← h1]; exact fpA_get g (by rw [h1]; exact h) k hk
  have HF0 : Hid ((fpA f)[0]? = some (.bool f.ok)) := fpA_ok _
  have HG0 : Hid ((fpA g)[0]? = some (.bool f.ok)) := by rw [← h2]; exact fpA_ok _
  clear h1 h2 h
  generalize fpA f = A at *
  generalize fpA g = B at *
  go_enter Try.func16, Try.ntmps16
  go_wp2_with fail
  go_loopw [5] (fun i wr => ∃ k d : Nat, k ≤ 20 ∧ i = .int .i64 k ∧ wr = ((w.alloc (.cells A 31)).alloc (.cells B 31)).drewN d) (fun i _ => 20 - (intOf i).toNat)
  case atStart => exact ⟨0, 0, Nat.zero_le _, rfl, rfl⟩
  case round =>
    obtain ⟨k, d, hk, rfl, rfl⟩ := hrel
    have q1 : ((w.alloc (.cells A 31)).alloc (.cells B 31)).heap[w.heap.size]? = some (.cells A 31 (0, 0)) := heap_b2 _ _ _
    have q2 : ((w.alloc (.cells A 31)).alloc (.cells B 31)).heap[w.heap.size + 1]? = some (.cells B 31 (0, 0)) := heap_b3 _ _ _
    have hB : Below w.heap.size w ((w.alloc (.cells A 31)).alloc (.cells B 31)) := ((Below.refl _ _).alloc (Nat.le_refl _) _).alloc (by simp) _
    have s1 : ((w.alloc (.cells A 31)).alloc (.cells B 31)).heap.size = w.heap.size + 1 + 1 := by simp
    generalize ((w.alloc (.cells A 31)).alloc (.cells B 31)) = z at *
    have l1 : w.heap.size < z.heap.size := by omega
    have l2 : w.heap.size + 1 < z.heap.size := by omega
    by_cases hlt : k < 20
    · have a0 : z.cell? ⟨w.heap.size, 1 + k, none⟩ = some (.int .i64 (f.at'.getD k 0)) := ((cell_block q1).1 _).trans (HF.out k hlt)
      have b0 : z.cell? ⟨w.heap.size + 1, 1 + k, none⟩ = some (.int .i64 (f.at'.getD k 0)) := ((cell_block q2).1 _).trans (HG.out k hlt)
      generalize f.at'.getD k 0 = I at *
      have i0 : (0 : Int) ≤ (k : Int) := by omega
      have i1 : (k : Int) < 20 := by omega
      clear q1 q2 s1
      go_wp2_with fail
      go_quiet (fail)
      go_wp2_with fail
      go_roundw
      case rel => exact ⟨k + 1, _, by omega, by go_num, rfl⟩
      case measure => simp [intOf]; omega
    · have a0 : z.cell? ⟨w.heap.size, 0, none⟩ = some (.bool f.ok) := ((cell_block q1).1 _).trans HF0.out
      have b0 : z.cell? ⟨w.heap.size + 1, 0, none⟩ = some (.bool f.ok) := ((cell_block q2).1 _).trans HG0.out
      clear q1 q2 s1
      go_wp2_with fail
      go_ret
      exact ⟨ret_bool (by simp), below_drewN hB _⟩
end Go.Proofs.Ytebpgfodelggoab
/- FindAll OF THE REFERENCE, plain; where a match lies; how many steps a search takes. -/
set_option linter.unusedVariables false
namespace Mt

theorem oneP_pos {c : List Ins} {t : ByteArray} {s : Sta} (h : Good c.length t.size s) (x : Ins) (hi : insOk c (pcOf s) x) (ok : (oneP t s x).2 = true) : gt s 1 ≤ gt (oneP t s x).1 1 := by
  have hl := h.len
  have hx6 := hi.2.2.2.2.1
  have key : ∀ (i : Nat) (v : Int), i ≠ 1 → gt (s.set i v) 1 = gt s 1 := fun i v hi => gt_set_ne _ _ _ _ hi
  unfold oneP at ok ⊢
  by_cases o1 : x.op = 1
  · rw [if_pos o1]
    dsimp only
    rw [gt_set_ne _ _ _ _ (by omega), gt_set_same _ _ _ (by omega)]; omega
  rw [if_neg o1] at ok ⊢
  by_cases o3 : x.op = 3
  · rw [if_pos o3]; dsimp only; rw [key _ _ (by omega)]; exact Int.le_refl _
  rw [if_neg o3] at ok ⊢
  by_cases o4 : x.op = 4
  · rw [if_pos o4]; dsimp only; rw [gt_set_ne _ _ _ _ (by omega), gt_set_ne _ _ _ _ (by omega)]; exact Int.le_refl _
  rw [if_neg o4] at ok ⊢
  by_cases o5 : x.op = 5
  · rw [if_pos o5]; dsimp only; rw [key _ _ (by omega)]; exact Int.le_refl _
  rw [if_neg o5] at ok ⊢
  by_cases o6 : x.op = 6
  · rw [if_pos o6]; dsimp only; rw [gt_set_ne _ _ _ _ (by omega), gt_set_ne _ _ _ _ (by omega)]; exact Int.le_refl _
  rw [if_neg o6] at ok ⊢
  by_cases o7 : x.op = 7
  · rw [if_pos o7]; dsimp only; rw [gt_set_ne _ _ _ _ (by omega), gt_set_ne _ _ _ _ (by omega), gt_set_ne _ _ _ _ (by omega)]; exact Int.le_refl _
  rw [if_neg o7] at ok ⊢
  by_cases o8 : x.op = 8
  · rw [if_pos o8] at ok ⊢
    have hk := hx6 (.inr (.inr o8))
    have hpl := h.place x.x.toNat (by omega)
    rw [show 2 * x.x.toNat = (2 * x.x).toNat by omega] at hpl
    rw [show (2 * x.x).toNat + 1 = (2 * x.x + 1).toNat by omega] at hpl
    unfold backP at ok ⊢
    split
    · exact Int.le_refl _
    split
    · exact Int.le_refl _
    · dsimp only
      rw [gt_set_ne _ _ _ _ (by omega), gt_set_same _ _ _ (by omega)]; omega
  rw [if_neg o8] at ok ⊢
  split
  · dsimp only; rw [key _ _ (by omega)]; exact Int.le_refl _
  split
  · dsimp only; rw [key _ _ (by omega)]; exact Int.le_refl _
  · dsimp only; rw [key _ _ (by omega)]; exact Int.le_refl _

/-- A look never goes back in the text. -/
theorem look_pos (E : Env) (hc : codeOk E.c) : ∀ (N n : Nat) (s : Sta) (kn : List Bool) (room : Int), n ≤ N → Good E.c.length E.t.size s → 0 ≤ room ∧ room ≤ 5000 → (look E n s kn room).ok = true → gt s 1 ≤ gt (look E n s kn room).st 1
  | N, 0, s, kn, room, _, h, hr, ok => by rw [look_zero] at ok; cases ok
  | 0, n + 1, s, kn, room, hn, _, _, _ => by omega
  | N + 1, n + 1, s, kn, room, hn, h, hr, ok => by
    have ih : ∀ (n : Nat) (s : Sta) (kn : List Bool) (room : Int), n ≤ N → Good E.c.length E.t.size s → 0 ≤ room ∧ room ≤ 5000 → (look E n s kn room).ok = true → gt s 1 ≤ gt (look E n s kn room).st 1 := look_pos E hc N
    have hgood := fun (m : Nat) (u : Sta) (k : List Bool) (r : Int) (hu : Good E.c.length E.t.size u) (hr' : 0 ≤ r ∧ r ≤ 5000) => look_good E hc m m u k r (Nat.le_refl _) hu hr'
    rw [look_step] at ok ⊢
    have hR := E.room'_in s kn room hr
    have hi := hc (pcOf s) h.pcOf_lt
    have hpc : ((pcOf s : Nat) : Int) = gt s 0 := by have := h.pc0; unfold pcOf; omega
    have hpc0 := h.pc0
    by_cases hd : E.dead s kn = true
    · rw [if_pos hd] at ok; cases ok
    rw [if_neg hd] at ok ⊢
    by_cases h13 : (E.ins s).op = 13 ∨ (E.ins s).op = 12
    · rw [if_pos h13]; exact Int.le_refl _
    rw [if_neg h13] at ok ⊢
    by_cases o2 : (E.ins s).op = 2
    · rw [if_pos o2] at ok ⊢
      have i2 := hi.1 o2
      have g1 := h.at_pc (E.ins s).x i2.1 i2.2.1
      have g2 := h.at_pc (E.ins s).y i2.2.2.1 i2.2.2.2
      have p1 := ih n (s.set 0 (E.ins s).x) (E.kn' s kn room) (E.room' s kn room) (by omega) g1 hR
      have q1 := hgood n (s.set 0 (E.ins s).x) (E.kn' s kn room) (E.room' s kn room) g1 hR
      have n1 := look_n E n (s.set 0 (E.ins s).x) (E.kn' s kn room) (E.room' s kn room)
      dsimp only at ok ⊢
      generalize look E n (s.set 0 (E.ins s).x) (E.kn' s kn room) (E.room' s kn room) = r at *
      rw [gt_set_ne _ _ _ _ (by omega)] at p1
      split at ok
      · rename_i hh; rw [if_pos hh]; exact p1 ok
      · rename_i hh; rw [if_neg hh]
        have := ih r.n (s.set 0 (E.ins s).y) r.kn r.room (by omega) g2 q1.2.2.1 ok
        rw [gt_set_ne _ _ _ _ (by omega)] at this
        exact this
    rw [if_neg o2] at ok ⊢
    by_cases o11 : (E.ins s).op = 11
    · rw [if_pos o11] at ok ⊢
      have i11 := hi.2.2.2.2.2.1 o11
      have hnx : pcOf s + 1 < E.c.length := hi.2.2.2.2.2.2.1 (by show (E.ins s).op ≠ 13; omega)
      have g1 := h.at_pc (gt s 0 + 1) (by omega) (by omega)
      have p1 := ih n (s.set 0 (gt s 0 + 1)) (E.kn' s kn room) (E.room' s kn room) (by omega) g1 hR
      have q1 := hgood n (s.set 0 (gt s 0 + 1)) (E.kn' s kn room) (E.room' s kn room) g1 hR
      have n1 := look_n E n (s.set 0 (gt s 0 + 1)) (E.kn' s kn room) (E.room' s kn room)
      dsimp only at ok ⊢
      generalize look E n (s.set 0 (gt s 0 + 1)) (E.kn' s kn room) (E.room' s kn room) = r at *
      rw [gt_set_ne _ _ _ _ (by omega)] at p1
      split at ok
      · cases ok
      rename_i hov
      rw [if_neg hov]
      split at ok
      · rename_i hk
        rw [if_pos hk]
        have := ih r.n _ r.kn r.room (by omega) (apartP_good h q1.1 (E.ins s) i11.1 i11.2.1 hk) q1.2.2.1 ok
        refine Int.le_trans ?_ this
        unfold apartP at hk ⊢
        by_cases x0 : (E.ins s).x = 0
        · rw [if_pos x0] at hk ⊢
          dsimp only at hk ⊢
          rw [gt_set_ne _ _ _ _ (by omega)]; exact p1 hk
        rw [if_neg x0] at hk ⊢
        by_cases x1 : (E.ins s).x = 1
        · rw [if_pos x1] at hk ⊢
          dsimp only at hk ⊢
          rw [gt_set_ne _ _ _ _ (by omega), gt_withAt s r.st h.len (q1.1 hk).len, if_neg (by omega)]; exact Int.le_refl _
        rw [if_neg x1]
        dsimp only
        rw [gt_set_ne _ _ _ _ (by omega)]; exact Int.le_refl _
      · cases ok
    rw [if_neg o11] at ok ⊢
    split at ok
    · rename_i hk
      rw [if_pos hk]
      have hg := oneP_good hc h o2 o11 (by show (E.ins s).op ≠ 13; omega) hk
      have := ih n _ (E.kn' s kn room) (E.room' s kn room) (by omega) hg hR ok
      exact Int.le_trans (oneP_pos h (E.ins s) hi hk) this
    · cases ok

/-- What a search finds: it lies in the text, from p on; its steps are within the budget. -/
theorem search_in (E : Env) (hc : codeOk E.c) (hc0 : 0 < E.c.length) (budget : Int) : ∀ (f p n : Nat) (kn : List Bool) (room : Int), p + f ≤ E.t.size + 1 → (0 ≤ room ∧ room ≤ 5000) → (n : Int) ≤ budget → (search E budget f p n kn room).2 = false →
    (0 ≤ (search E budget f p n kn room).1.steps ∧ (search E budget f p n kn room).1.steps ≤ budget) ∧ ((search E budget f p n kn room).1.ok = true → ∃ a b : Nat, (search E budget f p n kn room).1.at'.getD 0 0 = (a : Int) ∧ (search E budget f p n kn room).1.at'.getD 1 0 = (b : Int) ∧ p ≤ a ∧ a ≤ b ∧ b ≤ E.t.size)
  | 0, p, n, kn, room, _, _, hn, _ => by
    simp only [search]
    exact ⟨by omega, fun h => by cases h⟩
  | f + 1, p, n, kn, room, hp, hr, hn, ho => by
    have hst := startSt_good E.c.length E.t.size p hc0 (by omega)
    have hg := look_good E hc n n (startSt p) kn room (Nat.le_refl _) hst hr
    have hpos := look_pos E hc n n (startSt p) kn room (Nat.le_refl _) hst hr
    have hln := look_n E n (startSt p) kn room
    rw [search] at ho ⊢
    generalize look E n (startSt p) kn room = r at *
    by_cases hov : r.over = true
    · rw [if_pos hov] at ho; cases ho
    rw [if_neg hov] at ho ⊢
    by_cases hok : r.ok = true
    · rw [if_pos hok]
      have h1 := hpos hok
      have h2 := (hg.1 hok).pos1
      have e1 : gt (startSt p) 1 = p := rfl
      rw [e1] at h1
      refine ⟨by dsimp only; omega, fun _ => ⟨p, (gt r.st 1).toNat, rfl, ?_, Nat.le_refl _, by omega, by omega⟩⟩
      show gt r.st 1 = _
      omega
    · rw [if_neg hok] at ho ⊢
      obtain ⟨h1, h2⟩ := search_in E hc hc0 budget f (p + 1) r.n r.kn r.room (by omega) hg.2.2.1 (by omega) ho
      refine ⟨h1, fun h => ?_⟩
      obtain ⟨a, b, x1, x2, x3, x4, x5⟩ := h2 h
      exact ⟨a, b, x1, x2, by omega, x4, x5⟩

/-- From where the next search begins. -/
def nextFrom (f : Fnd) : Nat := if f.at'.getD 0 0 = f.at'.getD 1 0 then (f.at'.getD 1 0).toNat + 1 else (f.at'.getD 1 0).toNat
/-- Searching again and again: F: fuel. -/
def allFrom (c : List Ins) (text : ByteArray) (policy mask room budget : Int) : Nat → Nat → Int → List Fnd → List Fnd × Int × Int
  | 0, _, used, l => (l, used, 0)
  | F + 1, frm, used, l =>
    if text.size < frm then (l, used, 0)
    else if (searchAll c text policy mask room (budget - used) frm).2 then ([], 0, 14)
    else if (searchAll c text policy mask room (budget - used) frm).1.ok = false then (l, used + (searchAll c text policy mask room (budget - used) frm).1.steps, 0)
    else allFrom c text policy mask room budget F (nextFrom (searchAll c text policy mask room (budget - used) frm).1) (used + (searchAll c text policy mask room (budget - used) frm).1.steps) (l ++ [(searchAll c text policy mask room (budget - used) frm).1])
def findAllR (p text : ByteArray) (policy mask room budget : Int) : List Fnd × Int × Int :=
  if (codeR p).2 ≠ 0 then ([], 0, (codeR p).2)
  else if mayFind text.size 0 policy mask room budget ≠ 0 then ([], 0, mayFind text.size 0 policy mask room budget)
  else allFrom (codeR p).1 text policy mask room budget (text.size + 2) 0 0 []
end Mt
