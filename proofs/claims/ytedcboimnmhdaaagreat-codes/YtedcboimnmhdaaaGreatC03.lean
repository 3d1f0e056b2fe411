import Derived.Test.YtedcboimnmhdaaaGreatC02
import Derived.Deep.MidRow
set_option linter.unusedVariables false
set_option linter.unusedSimpArgs false
namespace Go.Proofs.YtedcboimnmhdaaaGreat
open Go.RowKit

theorem classT_none {p : ByteArray} {i : Int} (h : Mt.classFrom p (Mt.classA p i) = -1) : Mt.classT p i = (⟨0, 0, 0, 0, 0, 0, []⟩, false) := by unfold Mt.classT; rw [if_pos (Or.inl h)]
theorem classT_empty {p : ByteArray} {i : Int} (h : Mt.classFrom p (Mt.classA p i) = Mt.classA p i) : Mt.classT p i = (⟨0, 0, 0, 0, 0, 0, []⟩, false) := by unfold Mt.classT; rw [if_pos (Or.inr h)]
theorem classT_some {p : ByteArray} {i k : Int} (h : Mt.classFrom p (Mt.classA p i) = k) (h1 : 0 ≤ k) (h2 : k ≠ Mt.classA p i) : Mt.classT p i = (⟨1, i, k + 1, 0, 0, 0, Mt.all p (Mt.classA p i) k (decide (Mt.atB p (i + 1) = 94))⟩, true) := by
  unfold Mt.classT; rw [h, if_neg (by omega)]

set_option maxRecDepth 100000 in
set_option maxHeartbeats 4000000 in
theorem class_core (p : ByteArray) (i a : Int) (no : Bool) (w : World) (hp : p.size ≤ 64) (hi0 : 0 ≤ i) (hi1 : i ≤ 64) (hno : (Mt.atB p (i + 1) == 94) = no) (ha : Hid (a = Mt.classA p i)) (ha0 : a = if no then i + 1 + 1 else i + 1) :
    Calls Tryz.prog 75 #[.string p, .int .i64 i] w fun e w' => e = .returned (.tuple #[tokV (Mt.classT p i).1, .bool (Mt.classT p i).2]) ∧ Below w.heap.size w w' := by
  have hdec : Hid (decide (Mt.atB p (i + 1) = 94) = no) := by show _ = _; rw [← hno]; rfl
  cases no
  · simp only [Bool.false_eq_true, if_false] at ha0
    subst ha0
    go_enter Tryz.func75, Tryz.ntmps75
    go_wp2_with (first | (go_at_call 100; refine (at_any _ _ _ hp).mono ?_; rintro e w' ⟨rfl, rfl⟩))
    go_loop [8] (fun b => ∃ k : Nat, i + 1 ≤ (k : Int) ∧ k ≤ 100 ∧ b = .int .i64 k ∧ Mt.classFrom p (i + 1) = Mt.classFrom p k) (fun b => 200 - (intOf b).toNat)
    case atStart => exact ⟨(i + 1).toNat, by omega, by omega, by rw [Int.toNat_of_nonneg (by omega)], by rw [Int.toNat_of_nonneg (by omega)]⟩
    case round =>
      obtain ⟨k, hk1, hk2, rfl, hr⟩ := hrel
      have H : Hid (Mt.classFrom p (i + 1) = Mt.classFrom p k) := hr
      clear hr
      have ⟨d1, d2, d3, d4, d5, d6⟩ := Mt.item_bd p k
      have hst := Mt.classFrom_step p k
      by_cases hlt : k < p.size
      · have eb : Hid (((p[k]'hlt).toNat : Int) = Mt.atB p k) := byte_at p k hlt
        rw [if_neg (by omega)] at hst
        cases hq : (((p[k]'hlt).toNat : Int) != 93)
        · have h93 : Mt.atB p k = 93 := by rw [← eb.out]; simpa using hq
          rw [if_pos h93] at hst
          have HS : Hid (Mt.classFrom p (i + 1) = k) := H.out.trans hst
          clear hst h93 H
          cases hka : ((k : Int) == i + 1)
          · have hT := classT_some (p := p) (i := i) (k := k) (by rw [← ha.out]; exact HS.out) (by omega) (by rw [← ha.out]; simpa using hka)
            rw [← ha.out, hdec.out] at hT
            have HT : Hid (Mt.classT p i = (⟨1, i, k + 1, 0, 0, 0, Mt.all p (i + 1) k false⟩, true)) := hT
            clear hT
            go_wp2_with (first | (go_at_call 78; refine (all_any _ _ _ _ _ hp (by omega) (by omega) (by omega)).mono ?_; rintro e w1 ⟨rfl, hb1⟩; obtain ⟨q0, q1, q4, q5⟩ := one_new hb1; clear hb1))
            refine bodyPost_ret (v := .tuple #[tokV ⟨1, i, k + 1, 0, 0, 0, Mt.all p (i + 1) k false⟩, .bool true]) (by simp [results, Tryz.results75, go_sem, q0, q1, tokV]) rfl ⟨by rw [HT.out], ?_⟩
            go_grown
          · have hT := classT_empty (p := p) (i := i) (by rw [← ha.out, HS.out]; simpa using hka)
            have HT : Hid (Mt.classT p i = (⟨0, 0, 0, 0, 0, 0, []⟩, false)) := hT
            clear hT
            go_wp2_with fail
            go_returns
            exact ⟨by rw [HT.out]; rfl, by go_grown⟩
        · have h93 : ¬ Mt.atB p k = 93 := by rw [← eb.out]; simpa using hq
          rw [if_neg h93] at hst
          clear h93
          cases hz : ((Mt.item p k).2.2.1 == 0)
          · rw [if_neg (by simpa using hz)] at hst
            have hz1 : 1 ≤ (Mt.item p k).2.2.1 := by
              have : (Mt.item p k).2.2.1 ≠ 0 := by simpa using hz
              omega
            have R : Hid (Mt.classFrom p (i + 1) = Mt.classFrom p (k + (Mt.item p k).2.2.1)) := H.out.trans hst
            clear hst H
            go_wp2_with (first | (go_at_call 103; refine (item_any _ _ _ hp (by omega) (by omega)).mono ?_; rintro e w' ⟨rfl, rfl⟩))
            go_round
            case rel => exact ⟨((k : Int) + (Mt.item p k).2.2.1).toNat, by omega, by omega, by rw [Int.toNat_of_nonneg (by omega)], by rw [Int.toNat_of_nonneg (by omega)]; exact R.out⟩
            case measure => simp [intOf]; omega
          · rw [if_pos (by simpa using hz)] at hst
            have HT : Hid (Mt.classT p i = (⟨0, 0, 0, 0, 0, 0, []⟩, false)) := classT_none (by rw [← ha.out]; exact H.out.trans hst)
            clear hst H
            go_wp2_with (first | (go_at_call 103; refine (item_any _ _ _ hp (by omega) (by omega)).mono ?_; rintro e w' ⟨rfl, rfl⟩))
            go_returns
            exact ⟨by rw [HT.out]; rfl, by go_grown⟩
      · rw [if_pos (by omega)] at hst
        have HT : Hid (Mt.classT p i = (⟨0, 0, 0, 0, 0, 0, []⟩, false)) := classT_none (by rw [← ha.out]; exact H.out.trans hst)
        clear hst H
        cases hka : ((k : Int) == i + 1)
        all_goals
          go_wp2_with fail
          go_returns
          exact ⟨by rw [HT.out]; rfl, by go_grown⟩
  · simp only [if_true] at ha0
    subst ha0
    go_enter Tryz.func75, Tryz.ntmps75
    go_wp2_with (first | (go_at_call 100; refine (at_any _ _ _ hp).mono ?_; rintro e w' ⟨rfl, rfl⟩))
    go_loop [8] (fun b => ∃ k : Nat, i + 1 + 1 ≤ (k : Int) ∧ k ≤ 100 ∧ b = .int .i64 k ∧ Mt.classFrom p (i + 1 + 1) = Mt.classFrom p k) (fun b => 200 - (intOf b).toNat)
    case atStart => exact ⟨(i + 1 + 1).toNat, by omega, by omega, by rw [Int.toNat_of_nonneg (by omega)], by rw [Int.toNat_of_nonneg (by omega)]⟩
    case round =>
      obtain ⟨k, hk1, hk2, rfl, hr⟩ := hrel
      have H : Hid (Mt.classFrom p (i + 1 + 1) = Mt.classFrom p k) := hr
      clear hr
      have ⟨d1, d2, d3, d4, d5, d6⟩ := Mt.item_bd p k
      have hst := Mt.classFrom_step p k
      by_cases hlt : k < p.size
      · have eb : Hid (((p[k]'hlt).toNat : Int) = Mt.atB p k) := byte_at p k hlt
        rw [if_neg (by omega)] at hst
        cases hq : (((p[k]'hlt).toNat : Int) != 93)
        · have h93 : Mt.atB p k = 93 := by rw [← eb.out]; simpa using hq
          rw [if_pos h93] at hst
          have HS : Hid (Mt.classFrom p (i + 1 + 1) = k) := H.out.trans hst
          clear hst h93 H
          cases hka : ((k : Int) == i + 1 + 1)
          · have hT := classT_some (p := p) (i := i) (k := k) (by rw [← ha.out]; exact HS.out) (by omega) (by rw [← ha.out]; simpa using hka)
            rw [← ha.out, hdec.out] at hT
            have HT : Hid (Mt.classT p i = (⟨1, i, k + 1, 0, 0, 0, Mt.all p (i + 1 + 1) k true⟩, true)) := hT
            clear hT
            go_wp2_with (first | (go_at_call 78; refine (all_any _ _ _ _ _ hp (by omega) (by omega) (by omega)).mono ?_; rintro e w1 ⟨rfl, hb1⟩; obtain ⟨q0, q1, q4, q5⟩ := one_new hb1; clear hb1))
            refine bodyPost_ret (v := .tuple #[tokV ⟨1, i, k + 1, 0, 0, 0, Mt.all p (i + 1 + 1) k true⟩, .bool true]) (by simp [results, Tryz.results75, go_sem, q0, q1, tokV]) rfl ⟨by rw [HT.out], ?_⟩
            go_grown
          · have hT := classT_empty (p := p) (i := i) (by rw [← ha.out, HS.out]; simpa using hka)
            have HT : Hid (Mt.classT p i = (⟨0, 0, 0, 0, 0, 0, []⟩, false)) := hT
            clear hT
            go_wp2_with fail
            go_returns
            exact ⟨by rw [HT.out]; rfl, by go_grown⟩
        · have h93 : ¬ Mt.atB p k = 93 := by rw [← eb.out]; simpa using hq
          rw [if_neg h93] at hst
          clear h93
          cases hz : ((Mt.item p k).2.2.1 == 0)
          · rw [if_neg (by simpa using hz)] at hst
            have hz1 : 1 ≤ (Mt.item p k).2.2.1 := by
              have : (Mt.item p k).2.2.1 ≠ 0 := by simpa using hz
              omega
            have R : Hid (Mt.classFrom p (i + 1 + 1) = Mt.classFrom p (k + (Mt.item p k).2.2.1)) := H.out.trans hst
            clear hst H
            go_wp2_with (first | (go_at_call 103; refine (item_any _ _ _ hp (by omega) (by omega)).mono ?_; rintro e w' ⟨rfl, rfl⟩))
            go_round
            case rel => exact ⟨((k : Int) + (Mt.item p k).2.2.1).toNat, by omega, by omega, by rw [Int.toNat_of_nonneg (by omega)], by rw [Int.toNat_of_nonneg (by omega)]; exact R.out⟩
            case measure => simp [intOf]; omega
          · rw [if_pos (by simpa using hz)] at hst
            have HT : Hid (Mt.classT p i = (⟨0, 0, 0, 0, 0, 0, []⟩, false)) := classT_none (by rw [← ha.out]; exact H.out.trans hst)
            clear hst H
            go_wp2_with (first | (go_at_call 103; refine (item_any _ _ _ hp (by omega) (by omega)).mono ?_; rintro e w' ⟨rfl, rfl⟩))
            go_returns
            exact ⟨by rw [HT.out]; rfl, by go_grown⟩
      · rw [if_pos (by omega)] at hst
        have HT : Hid (Mt.classT p i = (⟨0, 0, 0, 0, 0, 0, []⟩, false)) := classT_none (by rw [← ha.out]; exact H.out.trans hst)
        clear hst H
        cases hka : ((k : Int) == i + 1 + 1)
        all_goals
          go_wp2_with fail
          go_returns
          exact ⟨by rw [HT.out]; rfl, by go_grown⟩

theorem class_any (p : ByteArray) (i : Int) (w : World) (hp : p.size ≤ 64) (hi0 : 0 ≤ i) (hi1 : i ≤ 64) :
    Calls Tryz.prog 75 #[.string p, .int .i64 i] w fun e w' => e = .returned (.tuple #[tokV (Mt.classT p i).1, .bool (Mt.classT p i).2]) ∧ Below w.heap.size w w' := by
  refine class_core p i (Mt.classA p i) (Mt.atB p (i + 1) == 94) w hp hi0 hi1 rfl rfl ?_
  unfold Mt.classA
  by_cases h : Mt.atB p (i + 1) = 94
  · rw [if_pos h, if_pos (by simpa using h)]; omega
  · rw [if_neg h, if_neg (by simpa using h)]
end Go.Proofs.YtedcboimnmhdaaaGreat
/- The token that begins at a place (matcherref/tokens.go, next). -/
set_option linter.unusedVariables false
namespace Mt

/-- The token that begins at i, and why none does (0: one does). -/
def nextT (p : ByteArray) (i : Int) : Tok × Int :=
  if atB p i = 124 then (⟨5, i, i + 1, 0, 0, 0, []⟩, 0)
  else if atB p i = 41 then (⟨7, i, i + 1, 0, 0, 0, []⟩, 0)
  else if atB p i = 94 then (⟨3, i, i + 1, 0, 0, 0, []⟩, 0)
  else if atB p i = 36 then (⟨4, i, i + 1, 0, 0, 0, []⟩, 0)
  else if atB p i = 92 then ((escape p i).1, if (escape p i).2 then 0 else 2)
  else if atB p i = 91 then ((classT p i).1, if (classT p i).2 then 0 else 3)
  else if atB p i = 40 then ((opening p i).1, if (opening p i).2 then 0 else 5)
  else if atB p i = 42 ∨ atB p i = 43 ∨ atB p i = 63 ∨ atB p i = 123 then ((repeatT p i).1, if (repeatT p i).2 then 0 else 4)
  else if atB p i = 46 then (⟨1, i, i + 1, 0, 0, 0, all p i i true⟩, 0)
  else (⟨1, i, i + 1, 0, 0, 0, [UInt8.ofNat (atB p i).toNat]⟩, 0)

end Mt
set_option linter.unusedVariables false
set_option linter.unusedSimpArgs false
namespace Go.Proofs.YtedcboimnmhdaaaGreat
open Go.RowKit

theorem below_setCells (b : Nat) : ∀ (vs : List Value) (o : Nat) (w : World) (B : Nat), B ≤ b → Below B w (w.setCells b o vs) ∧ (w.setCells b o vs).heap.size = w.heap.size
  | [], o, w, B, h => ⟨Below.refl _ _, rfl⟩
  | v :: r, o, w, B, h => by
    have ih := below_setCells b r (o + 1) (w.setCell ⟨b, o, none⟩ v) B h
    refine ⟨((Below.refl B w).setCell (p := ⟨b, o, none⟩) h v).trans ih.1, ?_⟩
    show ((w.setCell ⟨b, o, none⟩ v).setCells b (o + 1) r).heap.size = _
    rw [ih.2]; simp [World.setCell]

/-- What a store of a whole struct over a block that is known leaves. -/
theorem stored_block {w : World} {b : Nat} {B : Array Value} (q2 : ∀ o, w.cell? ⟨b, o, none⟩ = B[o]?) (q3 : ∀ o, w.frozen? ⟨b, o, none⟩ = false) (cs : Array Value) (hs : cs.size = B.size) :
    ∃ w2, w2 = w.setCells b 0 cs.toList ∧ (∀ o, w2.cell? ⟨b, o, none⟩ = cs[o]?) ∧ (∀ o, w2.frozen? ⟨b, o, none⟩ = false) ∧
      (∀ c o, c ≠ b → w2.cell? ⟨c, o, none⟩ = w.cell? ⟨c, o, none⟩) ∧ (∀ c o, w2.frozen? ⟨c, o, none⟩ = w.frozen? ⟨c, o, none⟩) ∧ w2.heap.size = w.heap.size ∧ (∀ L, L ≤ b → Below L w w2) := by
  refine ⟨_, rfl, fun o => ?_, fun o => ?_, fun c o hc => ?_, fun c o => ?_, (below_setCells b _ 0 w 0 (Nat.zero_le _)).2, fun L hL => (below_setCells b _ 0 w L hL).1⟩
  · by_cases ho : o < cs.size
    · have := World.cell?_setCells_in b cs.toList 0 w (fun j hj => by rw [Nat.zero_add, q2]; rw [Array.getElem?_eq_getElem (by simp at hj; omega)]; rfl) o (by simpa using ho)
      rw [Nat.zero_add] at this
      rw [this]; simp [ho]
    · rw [World.cell?_setCells_out b cs.toList 0 w ⟨b, o, none⟩ (fun _ _ => Or.inr (by simp; omega)), q2, Array.getElem?_eq_none (by omega), Array.getElem?_eq_none (by omega)]
  · rw [World.frozen?_setCells]; exact q3 o
  · exact World.cell?_setCells_out b cs.toList 0 w ⟨c, o, none⟩ (fun h => absurd h hc)
  · rw [World.frozen?_setCells]

theorem there_block {w : World} {b : Nat} {B : Array Value} (q2 : ∀ o, w.cell? ⟨b, o, none⟩ = B[o]?) (q3 : ∀ o, w.frozen? ⟨b, o, none⟩ = false) (n : Nat) (hn : n ≤ B.size) : w.there b 0 n := by
  intro j hj
  rw [Nat.zero_add, q2, Array.getElem?_eq_getElem (by omega)]
  exact ⟨rfl, q3 j⟩

theorem Tryz.size80 : (Tryz.prog.info? 97).map (·.size) = some 7 := by kernel_rfl

/-- A struct Token stored into a block that is known: the world behind it is a letter again. -/
theorem wpList_store_tok {ops : Array Oper} {rest : List Oper} {op : Oper} {a : Act} {w : World} {Q : Exit → Act → World → Prop} (hgd : op.guard = none) (x y : Operand) (ho : op.op = .store 97 x y)
    (b : Nat) (t : Mt.Tok) (hx : a.eval x = .pointer (some ⟨b, 0, none⟩)) (hy : a.eval y = tokV t) {B : Array Value} (q2 : ∀ o, w.cell? ⟨b, o, none⟩ = B[o]?) (q3 : ∀ o, w.frozen? ⟨b, o, none⟩ = false) (hB : B.size = 7)
    (h : ∀ w2 : World, (∀ o, w2.cell? ⟨b, o, none⟩ = #[Value.int .i64 t.kind, .int .i64 t.frm, .int .i64 t.to, .int .i64 t.n, .int .i64 t.m, .int .i64 t.how, .string ⟨t.set.toArray⟩][o]?) → (∀ o, w2.frozen? ⟨b, o, none⟩ = false) →
      (∀ c o, c ≠ b → w2.cell? ⟨c, o, none⟩ = w.cell? ⟨c, o, none⟩) → (∀ c o, w2.frozen? ⟨c, o, none⟩ = w.frozen? ⟨c, o, none⟩) → w2.heap.size = w.heap.size → (∀ L, L ≤ b → Below L w w2) →
      wpList Tryz.prog ops Q rest (a.put op.dst undef) w2) : wpList Tryz.prog ops Q (op :: rest) a w := by
  obtain ⟨w2, e, h1, h2, h3, h4, h5, h6⟩ := stored_block q2 q3 #[Value.int .i64 t.kind, .int .i64 t.frm, .int .i64 t.to, .int .i64 t.n, .int .i64 t.m, .int .i64 t.how, .string ⟨t.set.toArray⟩] (by simp [hB])
  refine wpList_store_mid hgd 97 x y ho b 0 #[Value.int .i64 t.kind, .int .i64 t.frm, .int .i64 t.to, .int .i64 t.n, .int .i64 t.m, .int .i64 t.how, .string ⟨t.set.toArray⟩] hx hy (there_block q2 q3 7 (by omega)) Tryz.size80 (by simp [Value.oneCell']) ?_
  rw [← e]
  exact h w2 h1 h2 h3 h4 h5 h6
end Go.Proofs.YtedcboimnmhdaaaGreat
/- THE PLAIN MATHEMATICS OF LISTS OF TOKENS (matcherref/tokens.go). -/
set_option linter.unusedVariables false
namespace Mt

def tok0 : Tok := ⟨0, 0, 0, 0, 0, 0, []⟩
/-- What a token adds to the number of open groups. -/
def delta (t : Tok) : Int := if t.kind = 6 then 1 else if t.kind = 7 then -1 else 0
def opened : List Tok → Int
  | [] => 0
  | t :: r => delta t + opened r
theorem opened_append (a b : List Tok) : opened (a ++ b) = opened a + opened b := by
  induction a with
  | nil => simp [opened]
  | cons t r ih => simp only [List.cons_append, opened, ih]; omega
theorem take_next (l : List Tok) (k : Nat) (h : k < l.length) : l.take (k + 1) = l.take k ++ [l.getD k tok0] := by
  rw [List.take_succ_eq_append_getElem h, List.getD_eq_getElem?_getD, List.getElem?_eq_getElem h]; rfl
theorem opened_next (l : List Tok) (k : Nat) (h : k < l.length) : opened (l.take (k + 1)) = opened (l.take k) + delta (l.getD k tok0) := by
  rw [take_next l k h, opened_append]; simp [opened]
theorem delta_bd (t : Tok) : -1 ≤ delta t ∧ delta t ≤ 1 := by
  unfold delta
  split
  · omega
  · split <;> omega
theorem opened_bd (l : List Tok) : -(l.length : Int) ≤ opened l ∧ opened l ≤ l.length := by
  induction l with
  | nil => simp [opened]
  | cons t r ih => have := delta_bd t; simp only [opened, List.length_cons]; omega
theorem opened_bd_take (l : List Tok) (k : Nat) : -(k : Int) ≤ opened (l.take k) ∧ opened (l.take k) ≤ k := by
  have := opened_bd (l.take k)
  have h2 : (l.take k).length ≤ k := List.length_take_le _ _
  omega

/-- Does the token open a capturing group? -/
def isCap (t : Tok) : Bool := decide (t.kind = 6 ∧ t.how = 4)
def captures : List Tok → Int
  | [] => 0
  | t :: r => (if isCap t then 1 else 0) + captures r
theorem captures_append (a b : List Tok) : captures (a ++ b) = captures a + captures b := by
  induction a with
  | nil => simp [captures]
  | cons t r ih => simp only [List.cons_append, captures, ih]; omega
theorem captures_next (l : List Tok) (k : Nat) (h : k < l.length) : captures (l.take (k + 1)) = captures (l.take k) + if isCap (l.getD k tok0) then 1 else 0 := by
  rw [take_next l k h, captures_append]; simp [captures]
theorem captures_bd (l : List Tok) : 0 ≤ captures l ∧ captures l ≤ l.length := by
  induction l with
  | nil => simp [captures]
  | cons t r ih => simp only [captures, List.length_cons]; split <;> omega
theorem captures_bd_take (l : List Tok) (k : Nat) : 0 ≤ captures (l.take k) ∧ captures (l.take k) ≤ k := by
  have := captures_bd (l.take k)
  have h2 : (l.take k).length ≤ k := List.length_take_le _ _
  omega

/-- From place j on, n groups being open: where the last of them is closed; the list's end: nowhere. -/
def closeFrom : List Tok → Int → Nat → Nat
  | [], _, j => j
  | t :: r, n, j => if n + delta t = 0 then j else closeFrom r (n + delta t) (j + 1)
def closing (l : List Tok) (i : Nat) : Nat := closeFrom (l.drop i) 0 i
theorem drop_next (l : List Tok) (k : Nat) (h : k < l.length) : l.drop k = l.getD k tok0 :: l.drop (k + 1) := by
  rw [List.drop_eq_getElem_cons h, List.getD_eq_getElem?_getD, List.getElem?_eq_getElem h]; rfl
theorem closeFrom_le : ∀ (l : List Tok) (n : Int) (j : Nat), closeFrom l n j ≤ j + l.length := by
  intro l
  induction l with
  | nil => intro n j; simp [closeFrom]
  | cons t r ih =>
    intro n j
    simp only [closeFrom, List.length_cons]
    split
    · omega
    · have := ih (n + delta t) (j + 1); omega
theorem closeFrom_ge : ∀ (l : List Tok) (n : Int) (j : Nat), j ≤ closeFrom l n j := by
  intro l
  induction l with
  | nil => intro n j; simp [closeFrom]
  | cons t r ih =>
    intro n j
    simp only [closeFrom]
    split
    · omega
    · have := ih (n + delta t) (j + 1); omega
theorem closing_le (l : List Tok) (i : Nat) (h : i ≤ l.length) : closing l i ≤ l.length := by
  have := closeFrom_le (l.drop i) 0 i
  rw [List.length_drop] at this
  unfold closing; omega
theorem closing_ge (l : List Tok) (i : Nat) : i ≤ closing l i := closeFrom_ge _ _ _

/-- From place j on: is the capturing group k closed? -/
def closedFrom (l : List Tok) (k : Int) : List Tok → Nat → Bool
  | [], _ => false
  | t :: r, j => if isCap t = true ∧ t.n = k then decide (closing l j < l.length) else closedFrom l k r (j + 1)
def closed (l : List Tok) (k : Int) : Bool := closedFrom l k l 0

/-- Does an atom end with the last of these tokens? -/
def atomEnds (l : List Tok) : Bool :=
  match l.getLast? with
  | none => false
  | some t => decide (t.kind = 1 ∨ t.kind = 2 ∨ t.kind = 3 ∨ t.kind = 4 ∨ t.kind = 7)

/-- May the token stand behind these? (0: it may) -/
def may (l : List Tok) (t : Tok) : Int :=
  if t.kind = 2 then (if closed l t.n then 0 else 6)
  else if t.kind = 8 then (if atomEnds l then 0 else 7)
  else if t.kind = 6 then (if 10 ≤ opened l then 8 else if t.how = 4 ∧ 9 ≤ captures l then 9 else 0)
  else if t.kind = 7 then (if opened l = 0 then 10 else 0)
  else 0

/-- The token as it joins the list: a capturing group has its number. -/
def joined (l : List Tok) (t : Tok) : Tok := if isCap t then { t with n := captures l + 1 } else t

/-- Reading on from place i behind the tokens l: the tokens, or the error and its place. -/
def readFrom (p : ByteArray) : Nat → List Tok → Int → List Tok × Int × Int
  | 0, l, i => (l, 0, i)
  | f + 1, l, i =>
    if (p.size : Int) ≤ i then (l, 0, i)
    else if (nextT p i).2 ≠ 0 then ([], (nextT p i).2, i)
    else if may l (nextT p i).1 ≠ 0 then ([], may l (nextT p i).1, i)
    else readFrom p f (l ++ [joined l (nextT p i).1]) (nextT p i).1.to

/-- The tokens of a pattern; or the error and its place. -/
def tokens (p : ByteArray) : List Tok × Int × Int :=
  if 64 < p.size then ([], 1, 0)
  else if (readFrom p 65 [] 0).2.1 ≠ 0 then readFrom p 65 [] 0
  else if 0 < opened (readFrom p 65 [] 0).1 then ([], 11, p.size)
  else ((readFrom p 65 [] 0).1, 0, 0)

theorem closeFrom_step (l : List Tok) (n : Int) (k : Nat) (h : k < l.length) : closeFrom (l.drop k) n k = if n + delta (l.getD k tok0) = 0 then k else closeFrom (l.drop (k + 1)) (n + delta (l.getD k tok0)) (k + 1) := by
  rw [drop_next l k h]; rfl
theorem closedFrom_step (l : List Tok) (c : Int) (k : Nat) (h : k < l.length) : closedFrom l c (l.drop k) k = if isCap (l.getD k tok0) = true ∧ (l.getD k tok0).n = c then decide (closing l k < l.length) else closedFrom l c (l.drop (k + 1)) (k + 1) := by
  rw [drop_next l k h]; rfl
end Mt
