import Derived.Test.YtebpgfodelggoabC25
set_option linter.unusedVariables false
set_option linter.unusedSimpArgs false
namespace Go.Proofs.Ytebpgfodelggoab
open Go.RowKit

/-- A token is taken: the error, and the builder behind it. -/
def Takes (L : Nat) (w : World) (g : Nat) (so ao oo : Option Addr) (E : Int) (b' : Mt.PB) (e : Ending) (w' : World) : Prop :=
  e = .returned (.int .i64 E) ∧ (E = 0 → ∃ so' ao' oo' sc' ac' oc', BAt L w' g b' so' ao' oo' sc' ac' oc' ∧ BStep g so ao oo so' ao' oo' w w') ∧ Below L w w'

theorem takeOpening_prog {L : Nat} {w : World} {g : Nat} {b : Mt.PB} {so ao oo : Option Addr} {sc ac oc : Nat} (t : Mt.PT) (h : BAt L w g b so ao oo sc ac oc) (hn : b.atoms.length ≤ 900) (hns : b.seqs.length ≤ 900) (hs : b.seq < b.seqs.length) (hla : b.last = -1 ∨ ∃ k : Nat, b.last = k ∧ k < b.atoms.length) :
    Calls Try.prog 81 #[.pointer (some ⟨g, 0, none⟩), ptV t] w (Takes L w g so ao oo (if 10 ≤ b.opn.length then 8 else if t.group = 1 ∧ 9 ≤ b.groups then 9 else 0) (b.opening t)) := by
  have hL : L ≤ w.heap.size := by have := h.lo; have := (h.lt g (Or.inl rfl)).2; omega
  by_cases h1 : 10 ≤ b.opn.length
  · rw [if_pos h1]
    exact (takeOpening_bad t h 8 (Or.inl ⟨h1, rfl⟩)).mono (fun e w' hh => ⟨hh.1, fun e => by omega, hh.2⟩)
  · rw [if_neg h1]
    by_cases h2 : t.group = 1
    · by_cases h3 : 9 ≤ b.groups
      · rw [if_pos ⟨h2, h3⟩]
        exact (takeOpening_bad t h 9 (Or.inr ⟨h1, h2, h3, rfl⟩)).mono (fun e w' hh => ⟨hh.1, fun e => by omega, hh.2⟩)
      · rw [if_neg (fun x => h3 x.2)]
        exact (takeOpening_cap t h hn hns hs hla (by omega) h2 (by omega)).mono (fun e w' ⟨h4, so', ao', oo', sc', ac', oc', h5, h6⟩ => ⟨h4, fun _ => ⟨so', ao', oo', sc', ac', oc', h5, h6⟩, h6.low h hL⟩)
    · rw [if_neg (fun x => h2 x.1)]
      exact (takeOpening_plain t h hn hns hs hla (by omega) h2).mono (fun e w' ⟨h4, so', ao', oo', sc', ac', oc', h5, h6⟩ => ⟨h4, fun _ => ⟨so', ao', oo', sc', ac', oc', h5, h6⟩, h6.low h hL⟩)

/-- What take asks of the builder. -/
structure BOk (b : Mt.PB) : Prop where
  na : b.atoms.length ≤ 900
  ns : b.seqs.length ≤ 900
  no : b.opn.length ≤ 900
  sq : b.seq < b.seqs.length
  la : b.last = -1 ∨ ∃ k : Nat, b.last = k ∧ k < b.atoms.length
  tp : 0 < b.opn.length → b.top < b.atoms.length ∧ ∃ nu hm : Nat, (b.aAt b.top).num = nu ∧ nu ≤ 9 ∧ (b.aAt b.top).home = hm

theorem Takes.of {L : Nat} {w W w' : World} {g : Nat} {b b' : Mt.PB} {so ao oo so' ao' oo' : Option Addr} {sc ac oc sc' ac' oc' : Nat} {e : Ending} (h : BAt L w g b so ao oo sc ac oc) (hW : Below w.heap.size w W) (he : e = .returned (.int .i64 0)) (hb : BAt L w' g b' so' ao' oo' sc' ac' oc') (hs : BStep g so ao oo so' ao' oo' W w') : Takes L w g so ao oo 0 b' e w' := by
  have hL : L ≤ w.heap.size := by have := h.lo; have := (h.lt g (Or.inl rfl)).2; omega
  have := (BStep.below (g := g) (so := so) (ao := ao) (oo := oo) hW).trans hs
  exact ⟨he, fun _ => ⟨so', ao', oo', sc', ac', oc', hb, this⟩, this.low h hL⟩
theorem Takes.up {L : Nat} {w W w' : World} {g : Nat} {b b' : Mt.PB} {so ao oo : Option Addr} {sc ac oc : Nat} {E : Int} {e : Ending} (h : BAt L w g b so ao oo sc ac oc) (hW : Below w.heap.size w W) (ht : Takes L W g so ao oo E b' e w') : Takes L w g so ao oo E b' e w' := by
  have hL : L ≤ w.heap.size := by have := h.lo; have := (h.lt g (Or.inl rfl)).2; omega
  refine ⟨ht.1, fun h0 => ?_, (hW.mono hL).trans ht.2.2⟩
  obtain ⟨so', ao', oo', sc', ac', oc', h1, h2⟩ := ht.2.1 h0
  exact ⟨so', ao', oo', sc', ac', oc', h1, (BStep.below hW).trans h2⟩

set_option maxRecDepth 100000 in
set_option maxHeartbeats 4000000 in
theorem take_bar {L : Nat} {w : World} {g : Nat} {b : Mt.PB} {so ao oo : Option Addr} {sc ac oc : Nat} (t : Mt.PT) (h : BAt L w g b so ao oo sc ac oc) (hO : BOk b) (hk : t.kind = 1) :
    Calls Try.prog 62 #[.pointer (some ⟨g, 0, none⟩), ptV t] w (Takes L w g so ao oo (b.err t) (b.next t)) := by
  have HB : Hid (BAt L w g b so ao oo sc ac oc) := h
  have W1 : Below w.heap.size w (w.alloc (.cells (ptA t) 121)) := (Below.refl _ _).alloc (Nat.le_refl _) _
  have hw := h.below W1
  have e1 : b.err t = 0 := by unfold Mt.PB.err; rw [if_pos hk]
  have e2 : b.next t = b.bar := by unfold Mt.PB.next; rw [if_pos hk]
  rw [e1, e2]
  clear e1 e2
  have HT : Hid (Calls Try.prog 80 _ (w.alloc (.cells (ptA t) 121)) _) := takeBar_prog hw (by have := hO.ns; omega) hO.sq
  have HW1 : Hid (Below w.heap.size w (w.alloc (.cells (ptA t) 121))) := W1
  clear h W1 hw hO
  unfold ptV
  unfold ptA at HT
  unfold ptA at HW1 ⊢
  rw [hk] at HT HW1 ⊢
  clear hk
  go_enter Try.func62, Try.ntmps62
  go_wp2_with fail
  refine HT.out.mono ?_
  rintro e w1 ⟨rfl, so1, sc1, hP, hSt⟩
  have R : Hid (BAt L w1 g b.bar so1 ao oo sc1 ac oc ∧ BStep g so ao oo so1 ao oo _ w1) := ⟨hP, hSt⟩
  clear hP hSt
  go_wp2_with fail
  go_returns
  exact Takes.of HB.out HW1.out rfl R.out.1 R.out.2

set_option maxRecDepth 100000 in
set_option maxHeartbeats 4000000 in
theorem take_open {L : Nat} {w : World} {g : Nat} {b : Mt.PB} {so ao oo : Option Addr} {sc ac oc : Nat} (t : Mt.PT) (h : BAt L w g b so ao oo sc ac oc) (hO : BOk b) (hk : t.kind = 2) :
    Calls Try.prog 62 #[.pointer (some ⟨g, 0, none⟩), ptV t] w (Takes L w g so ao oo (b.err t) (b.next t)) := by
  have HB : Hid (BAt L w g b so ao oo sc ac oc) := h
  have W1 : Below w.heap.size w (w.alloc (.cells (ptA t) 121)) := (Below.refl _ _).alloc (Nat.le_refl _) _
  have hw := h.below W1
  have e1 : b.err t = if 10 ≤ b.opn.length then 8 else if t.group = 1 ∧ 9 ≤ b.groups then 9 else 0 := by unfold Mt.PB.err; rw [if_neg (by omega), if_pos hk]
  have e2 : b.next t = b.opening t := by unfold Mt.PB.next; rw [if_neg (by omega), if_pos hk]
  rw [e1, e2]
  clear e1 e2
  have HT0 := takeOpening_prog t hw hO.na hO.ns hO.sq hO.la
  generalize (if 10 ≤ b.opn.length then (8 : Int) else if t.group = 1 ∧ 9 ≤ b.groups then 9 else 0) = E at *
  have HT : Hid (Calls Try.prog 81 _ (w.alloc (.cells (ptA t) 121)) _) := HT0
  have HW1 : Hid (Below w.heap.size w (w.alloc (.cells (ptA t) 121))) := W1
  clear HT0 h W1 hw hO
  unfold ptV
  unfold ptV ptA at HT
  unfold ptA at HW1 ⊢
  rw [hk] at HT HW1 ⊢
  clear hk
  go_enter Try.func62, Try.ntmps62
  go_wp2_with fail
  refine HT.out.mono ?_
  rintro e w1 hT
  obtain ⟨rfl, hR⟩ := (show e = .returned (.int .i64 E) ∧ Takes L (w.alloc _) g so ao oo E (b.opening t) e w1 from ⟨hT.1, hT⟩)
  have R : Hid (Takes L _ g so ao oo E (b.opening t) (.returned (.int .i64 E)) w1) := hR
  clear hT hR
  go_wp2_with fail
  go_returns
  exact Takes.up HB.out HW1.out R.out

set_option maxRecDepth 100000 in
set_option maxHeartbeats 4000000 in
theorem take_close {L : Nat} {w : World} {g : Nat} {b : Mt.PB} {so ao oo : Option Addr} {sc ac oc : Nat} (t : Mt.PT) (h : BAt L w g b so ao oo sc ac oc) (hO : BOk b) (hk : t.kind = 3) :
    Calls Try.prog 62 #[.pointer (some ⟨g, 0, none⟩), ptV t] w (Takes L w g so ao oo (b.err t) (b.next t)) := by
  have HB : Hid (BAt L w g b so ao oo sc ac oc) := h
  have W1 : Below w.heap.size w (w.alloc (.cells (ptA t) 121)) := (Below.refl _ _).alloc (Nat.le_refl _) _
  have hw := h.below W1
  have e1 : b.err t = if b.opn.length = 0 then 10 else 0 := by unfold Mt.PB.err; rw [if_neg (by omega), if_neg (by omega), if_pos hk]
  have e2 : b.next t = b.close := by unfold Mt.PB.next; rw [if_neg (by omega), if_neg (by omega), if_pos hk]
  rw [e1, e2]
  clear e1 e2
  have HT0 := takeClose_prog hw (by have := hO.na; omega) (by have := hO.no; omega) hO.tp _ rfl
  generalize (if b.opn.length = 0 then (10 : Int) else 0) = E at *
  have HT : Hid (Calls Try.prog 82 _ (w.alloc (.cells (ptA t) 121)) _) := HT0
  have HW1 : Hid (Below w.heap.size w (w.alloc (.cells (ptA t) 121))) := W1
  clear HT0 h W1 hw hO
  unfold ptV
  unfold ptA at HT
  unfold ptA at HW1 ⊢
  rw [hk] at HT HW1 ⊢
  clear hk
  go_enter Try.func62, Try.ntmps62
  go_wp2_with fail
  refine HT.out.mono ?_
  rintro e w1 ⟨rfl, hT1, hT2⟩
  have R : Hid (Takes L _ g so ao oo E b.close (.returned (.int .i64 E)) w1) := ⟨rfl, fun h0 => ⟨so, ao, oo, sc, ac, oc, (hT1 h0).1, (hT1 h0).2⟩, hT2⟩
  clear hT1 hT2
  go_wp2_with fail
  go_returns
  exact Takes.up HB.out HW1.out R.out

set_option maxRecDepth 100000 in
set_option maxHeartbeats 4000000 in
theorem take_rep {L : Nat} {w : World} {g : Nat} {b : Mt.PB} {so ao oo : Option Addr} {sc ac oc : Nat} (t : Mt.PT) (h : BAt L w g b so ao oo sc ac oc) (hO : BOk b) (hk : t.kind = 4) :
    Calls Try.prog 62 #[.pointer (some ⟨g, 0, none⟩), ptV t] w (Takes L w g so ao oo (b.err t) (b.next t)) := by
  have HB : Hid (BAt L w g b so ao oo sc ac oc) := h
  have W1 : Below w.heap.size w (w.alloc (.cells (ptA t) 121)) := (Below.refl _ _).alloc (Nat.le_refl _) _
  have hw := h.below W1
  have e1 : b.err t = if b.last = -1 ∨ (b.aAt b.last.toNat).rep.kind ≠ 0 then 7 else 0 := by unfold Mt.PB.err; rw [if_neg (by omega), if_neg (by omega), if_neg (by omega), if_pos hk]
  have e2 : b.next t = b.repeated t := by unfold Mt.PB.next; rw [if_neg (by omega), if_neg (by omega), if_neg (by omega), if_pos hk]
  rw [e1, e2]
  clear e1 e2
  have HT0 := takeRepeat_prog t hw (by have := hO.na; omega) hO.la _ rfl
  generalize (if b.last = -1 ∨ (b.aAt b.last.toNat).rep.kind ≠ 0 then (7 : Int) else 0) = E at *
  have HT : Hid (Calls Try.prog 83 _ (w.alloc (.cells (ptA t) 121)) _) := HT0
  have HW1 : Hid (Below w.heap.size w (w.alloc (.cells (ptA t) 121))) := W1
  clear HT0 h W1 hw hO
  unfold ptV
  unfold ptV ptA at HT
  unfold ptA at HW1 ⊢
  rw [hk] at HT HW1 ⊢
  clear hk
  go_enter Try.func62, Try.ntmps62
  go_wp2_with fail
  refine HT.out.mono ?_
  rintro e w1 ⟨rfl, hT1, hT2⟩
  have R : Hid (Takes L _ g so ao oo E (b.repeated t) (.returned (.int .i64 E)) w1) := ⟨rfl, fun h0 => ⟨so, ao, oo, sc, ac, oc, (hT1 h0).1, (hT1 h0).2⟩, hT2⟩
  clear hT1 hT2
  go_wp2_with fail
  go_returns
  exact Takes.up HB.out HW1.out R.out

set_option maxRecDepth 100000 in
set_option maxHeartbeats 4000000 in
theorem take_back {L : Nat} {w : World} {g : Nat} {b : Mt.PB} {so ao oo : Option Addr} {sc ac oc : Nat} (t : Mt.PT) (h : BAt L w g b so ao oo sc ac oc) (hO : BOk b) (hk : t.kind = 6) (n : Nat) (hnum : t.number = n) (hn9 : n ≤ 9) :
    Calls Try.prog 62 #[.pointer (some ⟨g, 0, none⟩), ptV t] w (Takes L w g so ao oo (b.err t) (b.next t)) := by
  have HB : Hid (BAt L w g b so ao oo sc ac oc) := h
  have W1 : Below w.heap.size w (w.alloc (.cells (ptA t) 121)) := (Below.refl _ _).alloc (Nat.le_refl _) _
  have hw := h.below W1
  have e1 : b.err t = if (b.groups : Int) < t.number ∨ b.clo.getD t.number.toNat false = false then 6 else 0 := by unfold Mt.PB.err; rw [if_neg (by omega), if_neg (by omega), if_neg (by omega), if_neg (by omega), if_pos hk]
  have e2 : b.next t = b.addAtom t := by unfold Mt.PB.next; rw [if_neg (by omega), if_neg (by omega), if_neg (by omega), if_neg (by omega)]
  rw [e1, e2]
  clear e1 e2
  have HT0 := takeBack_prog t hw (by have := hO.na; omega) hO.sq hO.la n hnum hn9 _ rfl
  generalize (if (b.groups : Int) < t.number ∨ b.clo.getD t.number.toNat false = false then (6 : Int) else 0) = E at *
  have HT : Hid (Calls Try.prog 84 _ (w.alloc (.cells (ptA t) 121)) _) := HT0
  have HW1 : Hid (Below w.heap.size w (w.alloc (.cells (ptA t) 121))) := W1
  clear HT0 hnum h W1 hw hO
  unfold ptV
  unfold ptV ptA at HT
  unfold ptA at HW1 ⊢
  rw [hk] at HT HW1 ⊢
  clear hk
  go_enter Try.func62, Try.ntmps62
  go_wp2_with fail
  refine HT.out.mono ?_
  rintro e w1 ⟨rfl, hT1, hT2⟩
  have R : Hid (Takes L _ g so ao oo E (b.addAtom t) (.returned (.int .i64 E)) w1) := ⟨rfl, fun h0 => by obtain ⟨ao', ac', x1, x2⟩ := hT1 h0; exact ⟨so, ao', oo, sc, ac', oc, x1, x2⟩, hT2⟩
  clear hT1 hT2
  go_wp2_with fail
  go_returns
  exact Takes.up HB.out HW1.out R.out

set_option maxRecDepth 100000 in
set_option maxHeartbeats 4000000 in
theorem take_leaf {L : Nat} {w : World} {g : Nat} {b : Mt.PB} {so ao oo : Option Addr} {sc ac oc : Nat} (t : Mt.PT) (h : BAt L w g b so ao oo sc ac oc) (hO : BOk b) (hk : t.kind = 5 ∨ t.kind = 7 ∨ t.kind = 8) :
    Calls Try.prog 62 #[.pointer (some ⟨g, 0, none⟩), ptV t] w (Takes L w g so ao oo (b.err t) (b.next t)) := by
  have HB : Hid (BAt L w g b so ao oo sc ac oc) := h
  have W1 : Below w.heap.size w (w.alloc (.cells (ptA t) 121)) := (Below.refl _ _).alloc (Nat.le_refl _) _
  have hw := h.below W1
  have e1 : b.err t = 0 := by unfold Mt.PB.err; rw [if_neg (by omega), if_neg (by omega), if_neg (by omega), if_neg (by omega), if_neg (by omega)]
  have e2 : b.next t = b.addAtom t := by unfold Mt.PB.next; rw [if_neg (by omega), if_neg (by omega), if_neg (by omega), if_neg (by omega)]
  rw [e1, e2]
  clear e1 e2
  have HT : Hid (Calls Try.prog 85 _ (w.alloc (.cells (ptA t) 121)) _) := addAtom_prog t hw (by have := hO.na; omega) hO.sq hO.la
  have HW1 : Hid (Below w.heap.size w (w.alloc (.cells (ptA t) 121))) := W1
  clear h W1 hw hO
  rcases hk with hk | hk | hk
  all_goals
    unfold ptV
    unfold ptV ptA at HT
    unfold ptA at HW1 ⊢
    rw [hk] at HT HW1 ⊢
    clear hk
    go_enter Try.func62, Try.ntmps62
    go_wp2_with fail
    refine HT.out.mono ?_
    rintro e w1 ⟨rfl, ao1, ac1, hP, hSt⟩
    have R : Hid (BAt L w1 g (b.addAtom t) so ao1 oo sc ac1 oc ∧ BStep g so ao oo so ao1 oo _ w1) := ⟨hP, hSt⟩
    clear hP hSt
    go_wp2_with fail
    go_returns
    exact Takes.of HB.out HW1.out rfl R.out.1 R.out.2
end Go.Proofs.Ytebpgfodelggoab
set_option linter.unusedVariables false
set_option linter.unusedSimpArgs false
namespace Mt
def PB.start0 : PB := ⟨[], [], 0, -1, [], 0, List.replicate 10 false⟩
theorem start_new : PB.start0.newSeq = PB.start := rfl
theorem rel_ok {b : PB} {l : List Tok} {stk : List Nat} (h : b.Rel l stk) (hl : l.length ≤ 64) : b.atoms.length ≤ 64 ∧ b.seqs.length ≤ 65 ∧ b.opn.length ≤ 64 ∧ (0 < b.opn.length → b.top < b.atoms.length ∧ ∃ nu hm : Nat, (b.aAt b.top).num = nu ∧ nu ≤ 9 ∧ (b.aAt b.top).home = hm) := by
  have h1 := h.al
  have h2 := h.sl
  have h3 := h.len
  have h4 := h.op
  have h5 := opened_bd l
  refine ⟨by omega, by omega, by omega, fun hp => ?_⟩
  have ht : b.top = b.opn.getD (stk.length - 1) 0 := by unfold PB.top; rw [getLastD_at _ _ hp, h3]
  have T := h.tops (stk.length - 1) (by omega)
  rw [← ht] at T
  obtain ⟨hm, e1, e2⟩ := h.homes b.top T.1
  have n := h.nums b.top T.1
  exact ⟨T.1, (b.aAt b.top).num.toNat, hm, by omega, by omega, e1⟩
/-- The end of reading. -/
theorem readOn_end (p : ByteArray) (l : List Tok) (k : Int) (h0 : 0 ≤ k) (h : k = p.size) : readOn p l k = (l, 0, k) := by
  rw [readOn_step p l k h0 (by omega), if_pos (by omega)]
theorem readOn_bad1 (p : ByteArray) (l : List Tok) (k : Int) (h0 : 0 ≤ k) (h : k < p.size) (h2 : (nextT p k).2 ≠ 0) : readOn p l k = ([], (nextT p k).2, k) := by
  rw [readOn_step p l k h0 (by omega), if_neg (by omega), if_pos h2]
theorem readOn_bad2 (p : ByteArray) (l : List Tok) (k : Int) (h0 : 0 ≤ k) (h : k < p.size) (h2 : (nextT p k).2 = 0) (h3 : may l (nextT p k).1 ≠ 0) : readOn p l k = ([], may l (nextT p k).1, k) := by
  rw [readOn_step p l k h0 (by omega), if_neg (by omega), if_neg (by omega), if_pos h3]
theorem readOn_go (p : ByteArray) (l : List Tok) (k : Int) (h0 : 0 ≤ k) (h : k < p.size) (h2 : (nextT p k).2 = 0) (h3 : may l (nextT p k).1 = 0) : readOn p l k = readOn p (l ++ [joined l (nextT p k).1]) (nextT p k).1.to := by
  rw [readOn_step p l k h0 (by omega), if_neg (by omega), if_neg (by omega), if_neg (by omega)]
/-- What stands behind the tokens that were read. -/
structure Read (p : ByteArray) (k : Nat) (b : PB) (l : List Tok) : Prop where
  le : k ≤ p.size
  len : l.length ≤ k
  run : b = PB.start.run l
  rel : ∃ stk, b.Rel l stk
  val : Valid l
  on : readOn p l k = readOn p [] 0
theorem read_start (p : ByteArray) : Read p 0 PB.start [] := ⟨by omega, by simp, rfl, ⟨[], rel_start⟩, by intro k hk; simp at hk, rfl⟩
theorem read_next {p : ByteArray} {k : Nat} {b : PB} {l : List Tok} (h : Read p k b l) (hk : k < p.size) (h2 : (nextT p k).2 = 0) (h3 : may l (nextT p k).1 = 0) : ∃ m : Nat, (nextT p k).1.to = m ∧ k < m ∧ Read p m (b.next (ptok (nextT p k).1)) (l ++ [joined l (nextT p k).1]) := by
  have ht := nextT_to p k (by omega) (by omega) h2
  obtain ⟨m, hm⟩ := Int.eq_ofNat_of_zero_le (show 0 ≤ (nextT p k).1.to by omega)
  have hg := nextT_G p k h2
  obtain ⟨stk, hr⟩ := h.rel
  refine ⟨m, hm, by omega, by omega, by simp; have := h.len; omega, ?_, rel_next hr h.val hg h3, valid_next h.val hg h3, ?_⟩
  · rw [PB.run_app, ← h.run]; show _ = b.next (ptok (joined l (nextT p k).1)); rw [ptok_joined]
  · rw [← h.on, readOn_go p l k (by omega) (by omega) h2 h3, hm]
end Mt
namespace Go.Proofs.Ytebpgfodelggoab
open Go.RowKit
theorem bok_read {p : ByteArray} {k : Nat} {b : Mt.PB} {l : List Mt.Tok} (h : Mt.Read p k b l) (hp : p.size ≤ 64) : BOk b := by
  obtain ⟨stk, hr⟩ := h.rel
  have hl := h.len
  have hk := h.le
  obtain ⟨a1, a2, a3, a4⟩ := Mt.rel_ok hr (by omega)
  exact ⟨by omega, by omega, by omega, hr.sq, hr.la, a4⟩
/-- A token is taken: by its sort. -/
theorem take_any {L : Nat} {w : World} {g : Nat} {b : Mt.PB} {so ao oo : Option Addr} {sc ac oc : Nat} {p : ByteArray} {k : Nat} {l : List Mt.Tok} (h : BAt L w g b so ao oo sc ac oc) (hR : Mt.Read p k b l) (hp : p.size ≤ 64) (t : Mt.Tok) (hg : Mt.tokG t) :
    Calls Try.prog 62 #[.pointer (some ⟨g, 0, none⟩), ptV (Mt.ptok t)] w (Takes L w g so ao oo (Mt.may l t) (b.next (Mt.ptok t))) := by
  have hO := bok_read hR hp
  obtain ⟨stk, hr⟩ := hR.rel
  rw [← Mt.err_same hr (Mt.nums_valid hR.val) hg]
  obtain ⟨⟨k1, k2⟩, g2, g3, g4, g5⟩ := hg
  have hk : t.kind = 1 ∨ t.kind = 2 ∨ t.kind = 3 ∨ t.kind = 4 ∨ t.kind = 5 ∨ t.kind = 6 ∨ t.kind = 7 ∨ t.kind = 8 := by omega
  rcases hk with e | e | e | e | e | e | e | e
  · exact take_leaf _ h hO (by rw [Mt.ptok_kind, e]; decide)
  · obtain ⟨n1, n2⟩ := g3 e
    exact take_back _ h hO (by rw [Mt.ptok_kind, e]; decide) t.n.toNat (by simp [Mt.ptok, e]; omega) (by omega)
  · exact take_leaf _ h hO (by rw [Mt.ptok_kind, e]; decide)
  · exact take_leaf _ h hO (by rw [Mt.ptok_kind, e]; decide)
  · exact take_bar _ h hO (by rw [Mt.ptok_kind, e]; decide)
  · exact take_open _ h hO (by rw [Mt.ptok_kind, e]; decide)
  · exact take_close _ h hO (by rw [Mt.ptok_kind, e]; decide)
  · exact take_rep _ h hO (by rw [Mt.ptok_kind, e]; decide)

theorem Try.sizeB : (Try.prog.info? 118).map (·.size) = some 16 := by kernel_rfl
theorem Try.sizeT : (Try.prog.info? 80).map (·.size) = some 2 := by kernel_rfl

set_option maxRecDepth 100000 in
set_option maxHeartbeats 4000000 in
theorem Build_long (p : ByteArray) (w : World) (hp : 64 < p.size) (hm : p.size ≤ maxLen) :
    Calls Try.prog 50 #[.string p] w fun e w' => e = .returned (.tuple #[.agg #[.slice none 0 0, .slice none 0 0], .int .i64 1, .int .i64 0]) ∧ Below w.heap.size w w' := by
  have b1 : decide (64 < (p.size : Int)) = true := by simp; omega
  have b2 : decide (64 < p.size) = true := by simp; omega
  have hm' : p.size ≤ 9223372036854775807 := by unfold maxLen at hm; omega
  go_enter Try.func50, Try.ntmps50
  go_wp2_with fail
  go_returns
  exact ⟨rfl, by go_grown⟩

end Go.Proofs.Ytebpgfodelggoab
