import Derived.Test.YtebpgfodelggoaaC27
import Derived.Test.YtebpgfodelggoaaC28
set_option linter.unusedVariables false
set_option linter.unusedSimpArgs false
namespace Go.Proofs.Ytebpgfodelggoaa
open Go.RowKit

/-- A token is taken: the error, and the builder behind it. -/
def Takes (L : Nat) (w : World) (g : Nat) (so ao oo : Option Addr) (E : Int) (b' : Mt.PB) (e : Ending) (w' : World) : Prop :=
  e = .returned (.int .i64 E) ∧ (E = 0 → ∃ so' ao' oo' sc' ac' oc', BAt L w' g b' so' ao' oo' sc' ac' oc' ∧ BStep g so ao oo so' ao' oo' w w') ∧ Below L w w'

theorem takeOpening_prog {L : Nat} {w : World} {g : Nat} {b : Mt.PB} {so ao oo : Option Addr} {sc ac oc : Nat} (t : Mt.PT) (h : BAt L w g b so ao oo sc ac oc) (hn : b.atoms.length ≤ 900) (hns : b.seqs.length ≤ 900) (hs : b.seq < b.seqs.length) (hla : b.last = -1 ∨ ∃ k : Nat, b.last = k ∧ k < b.atoms.length) :
    Calls Try.prog 67 #[.pointer (some ⟨g, 0, none⟩), ptV t] w (Takes L w g so ao oo (if 10 ≤ b.opn.length then 8 else if t.group = 1 ∧ 9 ≤ b.groups then 9 else 0) (b.opening t)) := by
  have hL : L ≤ w.heap.size := by have := h.lo; have := (h.lt g (Or.inl rfl)).2; omega
  by_cases h1 : 10 ≤ b.opn.length
  · rw [if_pos h1]
    exact (takeOpening_bad t h 8 (Or.inl ⟨h1, rfl⟩)).mono (fun e w' hh => ⟨hh.1, fun e => by omega, hh.2⟩)
  · rw [if_neg h1]
    by_cases h2 : t.group = 1
    · by_cases h3 : 9 ≤ b.groups
      · rw [if_pos ⟨h2, h3⟩]
        exact (takeOpening_bad t h 9 (Or.inr ⟨h1, h2, h3, rfl⟩)).mono (fun e w' hh => ⟨hh.1, fun e => by omega, hh.2⟩)
      · rw [if_neg (fun x => h3 x.2)]
        exact (takeOpening_cap t h hn hns hs hla (by omega) h2 (by omega)).mono (fun e w' ⟨h4, so', ao', oo', sc', ac', oc', h5, h6⟩ => ⟨h4, fun _ => ⟨so', ao', oo', sc', ac', oc', h5, h6⟩, h6.low h hL⟩)
    · rw [if_neg (fun x => h2 x.1)]
      exact (takeOpening_plain t h hn hns hs hla (by omega) h2).mono (fun e w' ⟨h4, so', ao', oo', sc', ac', oc', h5, h6⟩ => ⟨h4, fun _ => ⟨so', ao', oo', sc', ac', oc', h5, h6⟩, h6.low h hL⟩)

/-- What take asks of the builder. -/
structure BOk (b : Mt.PB) : Prop where
  na : b.atoms.length ≤ 900
  ns : b.seqs.length ≤ 900
  no : b.opn.length ≤ 900
  sq : b.seq < b.seqs.length
  la : b.last = -1 ∨ ∃ k : Nat, b.last = k ∧ k < b.atoms.length
  tp : 0 < b.opn.length → b.top < b.atoms.length ∧ ∃ nu hm : Nat, (b.aAt b.top).num = nu ∧ nu ≤ 9 ∧ (b.aAt b.top).home = hm

theorem Takes.of {L : Nat} {w W w' : World} {g : Nat} {b b' : Mt.PB} {so ao oo so' ao' oo' : Option Addr} {sc ac oc sc' ac' oc' : Nat} {e : Ending} (h : BAt L w g b so ao oo sc ac oc) (hW : Below w.heap.size w W) (he : e = .returned (.int .i64 0)) (hb : BAt L w' g b' so' ao' oo' sc' ac' oc') (hs : BStep g so ao oo so' ao' oo' W w') : Takes L w g so ao oo 0 b' e w' := by
  have hL : L ≤ w.heap.size := by have := h.lo; have := (h.lt g (Or.inl rfl)).2; omega
  have := (BStep.below (g := g) (so := so) (ao := ao) (oo := oo) hW).trans hs
  exact ⟨he, fun _ => ⟨so', ao', oo', sc', ac', oc', hb, this⟩, this.low h hL⟩
theorem Takes.up {L : Nat} {w W w' : World} {g : Nat} {b b' : Mt.PB} {so ao oo : Option Addr} {sc ac oc : Nat} {E : Int} {e : Ending} (h : BAt L w g b so ao oo sc ac oc) (hW : Below w.heap.size w W) (ht : Takes L W g so ao oo E b' e w') : Takes L w g so ao oo E b' e w' := by
  have hL : L ≤ w.heap.size := by have := h.lo; have := (h.lt g (Or.inl rfl)).2; omega
  refine ⟨ht.1, fun h0 => ?_, (hW.mono hL).trans ht.2.2⟩
  obtain ⟨so', ao', oo', sc', ac', oc', h1, h2⟩ := ht.2.1 h0
  exact ⟨so', ao', oo', sc', ac', oc', h1, (BStep.below hW).trans h2⟩

set_option maxRecDepth 100000 in
set_option maxHeartbeats 4000000 in
theorem take_bar {L : Nat} {w : World} {g : Nat} {b : Mt.PB} {so ao oo : Option Addr} {sc ac oc : Nat} (t : Mt.PT) (h : BAt L w g b so ao oo sc ac oc) (hO : BOk b) (hk : t.kind = 1) :
    Calls Try.prog 49 #[.pointer (some ⟨g, 0, none⟩), ptV t] w (Takes L w g so ao oo (b.err t) (b.next t)) := by
  have HB : Hid (BAt L w g b so ao oo sc ac oc) := h
  have W1 : Below w.heap.size w (w.alloc (.cells (ptA t) 103)) := (Below.refl _ _).alloc (Nat.le_refl _) _
  have hw := h.below W1
  have e1 : b.err t = 0 := by unfold Mt.PB.err; rw [if_pos hk]
  have e2 : b.next t = b.bar := by unfold Mt.PB.next; rw [if_pos hk]
  rw [e1, e2]
  clear e1 e2
  have HT : Hid (Calls Try.prog 66 _ (w.alloc (.cells (ptA t) 103)) _) := takeBar_prog hw (by have := hO.ns; omega) hO.sq
  have HW1 : Hid (Below w.heap.size w (w.alloc (.cells (ptA t) 103))) := W1
  clear h W1 hw hO
  unfold ptV
  unfold ptA at HT
  unfold ptA at HW1 ⊢
  rw [hk] at HT HW1 ⊢
  clear hk
  go_enter Try.func49, Try.ntmps49
  go_wp2_with fail
  refine HT.out.mono ?_
  rintro e w1 ⟨rfl, so1, sc1, hP, hSt⟩
  have R : Hid (BAt L w1 g b.bar so1 ao oo sc1 ac oc ∧ BStep g so ao oo so1 ao oo _ w1) := ⟨hP, hSt⟩
  clear hP hSt
  go_wp2_with fail
  go_returns
  exact Takes.of HB.out HW1.out rfl R.out.1 R.out.2

set_option maxRecDepth 100000 in
set_option maxHeartbeats 4000000 in
theorem take_open {L : Nat} {w : World} {g : Nat} {b : Mt.PB} {so ao oo : Option Addr} {sc ac oc : Nat} (t : Mt.PT) (h : BAt L w g b so ao oo sc ac oc) (hO : BOk b) (hk : t.kind = 2) :
    Calls Try.prog 49 #[.pointer (some ⟨g, 0, none⟩), ptV t] w (Takes L w g so ao oo (b.err t) (b.next t)) := by
  have HB : Hid (BAt L w g b so ao oo sc ac oc) := h
  have W1 : Below w.heap.size w (w.alloc (.cells (ptA t) 103)) := (Below.refl _ _).alloc (Nat.le_refl _) _
  have hw := h.below W1
  have e1 : b.err t = if 10 ≤ b.opn.length then 8 else if t.group = 1 ∧ 9 ≤ b.groups then 9 else 0 := by unfold Mt.PB.err; rw [if_neg (by omega), if_pos hk]
  have e2 : b.next t = b.opening t := by unfold Mt.PB.next; rw [if_neg (by omega), if_pos hk]
  rw [e1, e2]
  clear e1 e2
  have HT0 := takeOpening_prog t hw hO.na hO.ns hO.sq hO.la
  generalize (if 10 ≤ b.opn.length then (8 : Int) else if t.group = 1 ∧ 9 ≤ b.groups then 9 else 0) = E at *
  have HT : Hid (Calls Try.prog 67 _ (w.alloc (.cells (ptA t) 103)) _) := HT0
  have HW1 : Hid (Below w.heap.size w (w.alloc (.cells (ptA t) 103))) := W1
  clear HT0 h W1 hw hO
  unfold ptV
  unfold ptV ptA at HT
  unfold ptA at HW1 ⊢
  rw [hk] at HT HW1 ⊢
  clear hk
  go_enter Try.func49, Try.ntmps49
  go_wp2_with fail
  refine HT.out.mono ?_
  rintro e w1 hT
  obtain ⟨rfl, hR⟩ := (show e = .returned (.int .i64 E) ∧ Takes L (w.alloc _) g so ao oo E (b.opening t) e w1 from ⟨hT.1, hT⟩)
  have R : Hid (Takes L _ g so ao oo E (b.opening t) (.returned (.int .i64 E)) w1) := hR
  clear hT hR
  go_wp2_with fail
  go_returns
  exact Takes.up HB.out HW1.out R.out

set_option maxRecDepth 100000 in
set_option maxHeartbeats 4000000 in
theorem take_close {L : Nat} {w : World} {g : Nat} {b : Mt.PB} {so ao oo : Option Addr} {sc ac oc : Nat} (t : Mt.PT) (h : BAt L w g b so ao oo sc ac oc) (hO : BOk b) (hk : t.kind = 3) :
    Calls Try.prog 49 #[.pointer (some ⟨g, 0, none⟩), ptV t] w (Takes L w g so ao oo (b.err t) (b.next t)) := by
  have HB : Hid (BAt L w g b so ao oo sc ac oc) := h
  have W1 : Below w.heap.size w (w.alloc (.cells (ptA t) 103)) := (Below.refl _ _).alloc (Nat.le_refl _) _
  have hw := h.below W1
  have e1 : b.err t = if b.opn.length = 0 then 10 else 0 := by unfold Mt.PB.err; rw [if_neg (by omega), if_neg (by omega), if_pos hk]
  have e2 : b.next t = b.close := by unfold Mt.PB.next; rw [if_neg (by omega), if_neg (by omega), if_pos hk]
  rw [e1, e2]
  clear e1 e2
  have HT0 := takeClose_prog hw (by have := hO.na; omega) (by have := hO.no; omega) hO.tp _ rfl
  generalize (if b.opn.length = 0 then (10 : Int) else 0) = E at *
  have HT : Hid (Calls Try.prog 68 _ (w.alloc (.cells (ptA t) 103)) _) := HT0
  have HW1 : Hid (Below w.heap.size w (w.alloc (.cells (ptA t) 103))) := W1
  clear HT0 h W1 hw hO
  unfold ptV
  unfold ptA at HT
  unfold ptA at HW1 ⊢
  rw [hk] at HT HW1 ⊢
  clear hk
  go_enter Try.func49, Try.ntmps49
  go_wp2_with fail
  refine HT.out.mono ?_
  rintro e w1 ⟨rfl, hT1, hT2⟩
  have R : Hid (Takes L _ g so ao oo E b.close (.returned (.int .i64 E)) w1) := ⟨rfl, fun h0 => ⟨so, ao, oo, sc, ac, oc, (hT1 h0).1, (hT1 h0).2⟩, hT2⟩
  clear hT1 hT2
  go_wp2_with fail
  go_returns
  exact Takes.up HB.out HW1.out R.out

set_option maxRecDepth 100000 in
set_option maxHeartbeats 4000000 in
theorem take_rep {L : Nat} {w : World} {g : Nat} {b : Mt.PB} {so ao oo : Option Addr} {sc ac oc : Nat} (t : Mt.PT) (h : BAt L w g b so ao oo sc ac oc) (hO : BOk b) (hk : t.kind = 4) :
    Calls Try.prog 49 #[.pointer (some ⟨g, 0, none⟩), ptV t] w (Takes L w g so ao oo (b.err t) (b.next t)) := by
  have HB : Hid (BAt L w g b so ao oo sc ac oc) := h
  have W1 : Below w.heap.size w (w.alloc (.cells (ptA t) 103)) := (Below.refl _ _).alloc (Nat.le_refl _) _
  have hw := h.below W1
  have e1 : b.err t = if b.last = -1 ∨ (b.aAt b.last.toNat).rep.kind ≠ 0 then 7 else 0 := by unfold Mt.PB.err; rw [if_neg (by omega), if_neg (by omega), if_neg (by omega), if_pos hk]
  have e2 : b.next t = b.repeated t := by unfold Mt.PB.next; rw [if_neg (by omega), if_neg (by omega), if_neg (by omega), if_pos hk]
  rw [e1, e2]
  clear e1 e2
  have HT0 := takeRepeat_prog t hw (by have := hO.na; omega) hO.la _ rfl
  generalize (if b.last = -1 ∨ (b.aAt b.last.toNat).rep.kind ≠ 0 then (7 : Int) else 0) = E at *
  have HT : Hid (Calls Try.prog 69 _ (w.alloc (.cells (ptA t) 103)) _) := HT0
  have HW1 : Hid (Below w.heap.size w (w.alloc (.cells (ptA t) 103))) := W1
  clear HT0 h W1 hw hO
  unfold ptV
  unfold ptV ptA at HT
  unfold ptA at HW1 ⊢
  rw [hk] at HT HW1 ⊢
  clear hk
  go_enter Try.func49, Try.ntmps49
  go_wp2_with fail
  refine HT.out.mono ?_
  rintro e w1 ⟨rfl, hT1, hT2⟩
  have R : Hid (Takes L _ g so ao oo E (b.repeated t) (.returned (.int .i64 E)) w1) := ⟨rfl, fun h0 => ⟨so, ao, oo, sc, ac, oc, (hT1 h0).1, (hT1 h0).2⟩, hT2⟩
  clear hT1 hT2
  go_wp2_with fail
  go_returns
  exact Takes.up HB.out HW1.out R.out

set_option maxRecDepth 100000 in
set_option maxHeartbeats 4000000 in
theorem take_back {L : Nat} {w : World} {g : Nat} {b : Mt.PB} {so ao oo : Option Addr} {sc ac oc : Nat} (t : Mt.PT) (h : BAt L w g b so ao oo sc ac oc) (hO : BOk b) (hk : t.kind = 6) (n : Nat) (hnum : t.number = n) (hn9 : n ≤ 9) :
    Calls Try.prog 49 #[.pointer (some ⟨g, 0, none⟩), ptV t] w (Takes L w g so ao oo (b.err t) (b.next t)) := by
  have HB : Hid (BAt L w g b so ao oo sc ac oc) := h
  have W1 : Below w.heap.size w (w.alloc (.cells (ptA t) 103)) := (Below.refl _ _).alloc (Nat.le_refl _) _
  have hw := h.below W1
  have e1 : b.err t = if (b.groups : Int) < t.number ∨ b.clo.getD t.number.toNat false = false then 6 else 0 := by unfold Mt.PB.err; rw [if_neg (by omega), if_neg (by omega), if_neg (by omega), if_neg (by omega), if_pos hk]
  have e2 : b.next t = b.addAtom t := by unfold Mt.PB.next; rw [if_neg (by omega), if_neg (by omega), if_neg (by omega), if_neg (by omega)]
  rw [e1, e2]
  clear e1 e2
  have HT0 := takeBack_prog t hw (by have := hO.na; omega) hO.sq hO.la n hnum hn9 _ rfl
  generalize (if (b.groups : Int) < t.number ∨ b.clo.getD t.number.toNat false = false then (6 : Int) else 0) = E at *
  have HT : Hid (Calls Try.prog 70 _ (w.alloc (.cells (ptA t) 103)) _) := HT0
  have HW1 : Hid (Below w.heap.size w (w.alloc (.cells (ptA t) 103))) := W1
  clear HT0 hnum h W1 hw hO
  unfold ptV
  unfold ptV ptA at HT
  unfold ptA at HW1 ⊢
  rw [hk] at HT HW1 ⊢
  clear hk
  go_enter Try.func49, Try.ntmps49
  go_wp2_with fail
  refine HT.out.mono ?_
  rintro e w1 ⟨rfl, hT1, hT2⟩
  have R : Hid (Takes L _ g so ao oo E (b.addAtom t) (.returned (.int .i64 E)) w1) := ⟨rfl, fun h0 => by obtain ⟨ao', ac', x1, x2⟩ := hT1 h0; exact ⟨so, ao', oo, sc, ac', oc, x1, x2⟩, hT2⟩
  clear hT1 hT2
  go_wp2_with fail
  go_returns
  exact Takes.up HB.out HW1.out R.out

set_option maxRecDepth 100000 in
set_option maxHeartbeats 4000000 in
theorem take_leaf {L : Nat} {w : World} {g : Nat} {b : Mt.PB} {so ao oo : Option Addr} {sc ac oc : Nat} (t : Mt.PT) (h : BAt L w g b so ao oo sc ac oc) (hO : BOk b) (hk : t.kind = 5 ∨ t.kind = 7 ∨ t.kind = 8) :
    Calls Try.prog 49 #[.pointer (some ⟨g, 0, none⟩), ptV t] w (Takes L w g so ao oo (b.err t) (b.next t)) := by
  have HB : Hid (BAt L w g b so ao oo sc ac oc) := h
  have W1 : Below w.heap.size w (w.alloc (.cells (ptA t) 103)) := (Below.refl _ _).alloc (Nat.le_refl _) _
  have hw := h.below W1
  have e1 : b.err t = 0 := by unfold Mt.PB.err; rw [if_neg (by omega), if_neg (by omega), if_neg (by omega), if_neg (by omega), if_neg (by omega)]
  have e2 : b.next t = b.addAtom t := by unfold Mt.PB.next; rw [if_neg (by omega), if_neg (by omega), if_neg (by omega), if_neg (by omega)]
  rw [e1, e2]
  clear e1 e2
  have HT : Hid (Calls Try.prog 71 _ (w.alloc (.cells (ptA t) 103)) _) := addAtom_prog t hw (by have := hO.na; omega) hO.sq hO.la
  have HW1 : Hid (Below w.heap.size w (w.alloc (.cells (ptA t) 103))) := W1
  clear h W1 hw hO
  rcases hk with hk | hk | hk
  all_goals
    unfold ptV
    unfold ptV ptA at HT
    unfold ptA at HW1 ⊢
    rw [hk] at HT HW1 ⊢
    clear hk
    go_enter Try.func49, Try.ntmps49
    go_wp2_with fail
    refine HT.out.mono ?_
    rintro e w1 ⟨rfl, ao1, ac1, hP, hSt⟩
    have R : Hid (BAt L w1 g (b.addAtom t) so ao1 oo sc ac1 oc ∧ BStep g so ao oo so ao1 oo _ w1) := ⟨hP, hSt⟩
    clear hP hSt
    go_wp2_with fail
    go_returns
    exact Takes.of HB.out HW1.out rfl R.out.1 R.out.2
end Go.Proofs.Ytebpgfodelggoaa
