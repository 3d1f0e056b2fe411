import Derived.Test.YtebpgfodelggoaaGreatC39
set_option linter.unusedVariables false
set_option linter.unusedSimpArgs false
namespace Go.Proofs.YtebpgfodelggoaaGreat
open Go.RowKit

set_option maxRecDepth 100000 in
set_option maxHeartbeats 2000000 in
theorem takeBar_prog {L : Nat} {w : World} {g : Nat} {b : Mt.PB} {so ao oo : Option Addr} {sc ac oc : Nat} (h : BAt L w g b so ao oo sc ac oc) (hn : b.seqs.length ≤ 1000) (hs : b.seq < b.seqs.length) :
    Calls Tryz.prog 139 #[.pointer (some ⟨g, 0, none⟩)] w fun e w' => e = .returned (.tuple #[]) ∧ ∃ so' sc', BAt L w' g b.bar so' ao oo sc' ac oc ∧ BStep g so ao oo so' ao oo w w' := by
  have HC : Hid (Calls Tryz.prog _ _ _ _) := newSequence_any h hn
  clear h
  go_enter Tryz.func139, Tryz.ntmps139
  go_wp2_with fail
  refine HC.out.mono ?_
  rintro e w1 ⟨rfl, so1, sc1, hP, hSt⟩
  have len1 : b.newSeq.seqs.length = b.seqs.length + 1 := by simp [Mt.PB.newSeq]
  obtain ⟨gs, hso, gs1, gs2, gs3⟩ := hP.seqForm (by omega)
  subst hso
  obtain ⟨x0, x1, x2, x3, _, _, _, hxf⟩ := hP.cells
  have y2 := hxf 2
  have y3 := hxf 3
  have hgw : g < w1.heap.size := (hP.lt g (Or.inl rfl)).2
  have q0 := hP.seqCell b.seq 1 (by omega) (by decide)
  have q1 := q0.1
  have q2 := q0.2
  have ea : b.newSeq.sAt b.seq = b.sAt b.seq := by
    unfold Mt.PB.sAt Mt.PB.newSeq; dsimp only; rw [Mt.getD_app, if_neg (by omega)]
  rw [ea] at q1
  rw [len1] at x0 gs3
  change w1.cell? ⟨gs, b.seq * 2 + 1, none⟩ = some (.int .i64 (b.sAt b.seq).next) at q1
  change w1.cell? ⟨g, 2, none⟩ = some (.int .i64 b.seq) at x2
  change w1.cell? ⟨g, 3, none⟩ = some (.int .i64 b.last) at x3
  have HP : Hid (BAt L w1 g b.newSeq (some ⟨gs, 0, none⟩) ao oo sc1 ac oc) := hP
  have HSt : Hid (BStep g so ao oo (some ⟨gs, 0, none⟩) ao oo w w1) := hSt
  have HE : Hid (b.newSeq.sAt b.seq = b.sAt b.seq) := ea
  clear hP hSt hxf q0 ea
  go_wp2_with fail
  go_region
  go_wp2_with fail
  go_returns
  have M1 := HP.out.seqSet b.seq 1 (.int .i64 b.seqs.length) ⟨(b.sAt b.seq).first, b.seqs.length⟩ (by omega) (by decide) (by rw [HE.out]; rfl)
  have M2 := M1.drew
  have M3 := M2.field (k := 2) (v := .int .i64 b.seqs.length) (b' := { b.bar with last := b.last }) (so' := some ⟨gs, 0, none⟩) (ao' := ao) (oo' := oo) (sc' := sc1) (ac' := ac) (oc' := oc) (by unfold bA Mt.PB.bar Mt.PB.newSeq; simp) M2.seqs M2.atoms M2.opn M2.ap M2.cl
  have M4 := M3.field (k := 3) (v := .int .i64 (-1)) (b' := b.bar) (so' := some ⟨gs, 0, none⟩) (ao' := ao) (oo' := oo) (sc' := sc1) (ac' := ac) (oc' := oc) (by unfold bA Mt.PB.bar; simp) M3.seqs M3.atoms M3.opn M3.ap M3.cl
  refine ⟨rfl, some ⟨gs, 0, none⟩, sc1, M4, ?_⟩
  exact (((HSt.out.set (p := ⟨gs, b.seq * 2 + 1, none⟩) (Or.inr (Or.inl rfl)) _).drew).set (p := ⟨g, 2, none⟩) (Or.inl rfl) _).set (p := ⟨g, 3, none⟩) (Or.inl rfl) _

set_option maxRecDepth 100000 in
set_option maxHeartbeats 2000000 in
theorem takeBack_prog {L : Nat} {w : World} {g : Nat} {b : Mt.PB} {so ao oo : Option Addr} {sc ac oc : Nat} (t : Mt.PT) (h : BAt L w g b so ao oo sc ac oc) (hn : b.atoms.length ≤ 1000) (hs : b.seq < b.seqs.length) (hla : b.last = -1 ∨ ∃ k : Nat, b.last = k ∧ k < b.atoms.length)
    (n : Nat) (hnum : t.number = n) (hn9 : n ≤ 9) (E : Int) (hE : E = if (b.groups : Int) < t.number ∨ b.clo.getD t.number.toNat false = false then 6 else 0) :
    Calls Tryz.prog 143 #[.pointer (some ⟨g, 0, none⟩), ptV t] w fun e w' => e = .returned (.int .i64 E) ∧ (E = 0 → ∃ ao' ac', BAt L w' g (b.addAtom t) so ao' oo sc ac' oc ∧ BStep g so ao oo so ao' oo w w') ∧ Below L w w' := by
  have HB : Hid (BAt L w g b so ao oo sc ac oc) := h
  obtain ⟨_, _, _, _, _, c5, ck, _⟩ := h.cells
  have ckn := ck n (by omega)
  have hn10 : (n : Int) < 10 := by omega
  have hg : g < w.heap.size := (h.lt g (Or.inl rfl)).2
  have hL : L ≤ w.heap.size := by have := h.lo; omega
  have HT : Hid (∀ W : World, Below w.heap.size w W → Calls Tryz.prog 144 #[.pointer (some ⟨g, 0, none⟩), ptV t] W fun e w' => e = .returned (.tuple #[]) ∧ ∃ ao' ac', BAt L w' g (b.addAtom t) so ao' oo sc ac' oc ∧ BStep g so ao oo so ao' oo W w') := fun W hW => addAtom_prog t (h.below hW) hn hs hla
  have hto : t.number.toNat = n := by rw [hnum]; simp
  rw [hto] at hE
  generalize hcl : b.clo.getD n false = cb at *
  clear h ck hto
  rw [hnum] at hE
  have HN : Hid (t.number = n) := hnum
  cases hgr : decide (b.groups < n)
  · have hng : ¬ b.groups < n := by simpa using hgr
    cases cb
    · have HE : Hid (E = 6) := by show _ = _; rw [hE, if_pos (Or.inr rfl)]
      clear hE hng
      unfold ptV ptA
      rw [hnum]
      go_enter Tryz.func143, Tryz.ntmps143
      go_wp2_with fail
      go_quiet (fail)
      go_wp2_with fail
      go_returns
      exact ⟨by rw [HE.out]; rfl, fun e => by have := HE.out; omega, (below_drewN ((Below.refl _ _).alloc (Nat.le_refl _) _) _).mono hL⟩
    · have HE : Hid (E = 0) := by show _ = _; rw [hE, if_neg (by simp; omega)]
      have HV : Hid (ptV t = .agg #[.int .i64 t.kind, .int .i64 t.en, .int .i64 t.group, .int .i64 n, .int .i64 t.least, .int .i64 t.most, .int .i64 t.mood, .string ⟨t.set.toArray⟩]) := by show _ = _; unfold ptV ptA; rw [hnum]
      have HT2 := HT.out
      simp only [HV.out] at HT2
      have HT3 : Hid (∀ W : World, Below w.heap.size w W → Calls Tryz.prog 144 _ W _) := HT2
      clear hE hng HT2
      rw [HV.out]
      go_enter Tryz.func143, Tryz.ntmps143
      go_wp2_with fail
      go_quiet (fail)
      go_wp2_with fail
      refine (HT3.out _ (by exact below_drewN ((Below.refl _ _).alloc (Nat.le_refl _) _) _)).mono ?_
      rintro e w1 ⟨rfl, ao1, ac1, hP, hSt⟩
      have R : Hid (BAt L w1 g (b.addAtom t) so ao1 oo sc ac1 oc ∧ BStep g so ao oo so ao1 oo w w1) := ⟨hP, (BStep.below (below_drewN ((Below.refl _ _).alloc (Nat.le_refl _) _) _)).trans hSt⟩
      clear hP hSt
      go_wp2_with fail
      go_returns
      exact ⟨by rw [HE.out]; rfl, fun _ => ⟨ao1, ac1, R.out.1, R.out.2⟩, R.out.2.low HB.out hL⟩
  · have hng : b.groups < n := by simpa using hgr
    have HE : Hid (E = 6) := by show _ = _; rw [hE, if_pos (Or.inl (by omega))]
    clear hE hng
    unfold ptV ptA
    rw [hnum]
    go_enter Tryz.func143, Tryz.ntmps143
    go_wp2_with fail
    go_quiet (fail)
    go_wp2_with fail
    go_returns
    exact ⟨by rw [HE.out]; rfl, fun e => by have := HE.out; omega, (below_drewN ((Below.refl _ _).alloc (Nat.le_refl _) _) _).mono hL⟩
end Go.Proofs.YtebpgfodelggoaaGreat
