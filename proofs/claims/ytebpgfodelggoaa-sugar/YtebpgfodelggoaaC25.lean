import Derived.Test.YtebpgfodelggoaaC24
set_option linter.unusedVariables false
set_option linter.unusedSimpArgs false
namespace Go.Proofs.Ytebpgfodelggoaa
open Go.RowKit

set_option maxRecDepth 100000 in
set_option maxHeartbeats 2000000 in
theorem takeBar_prog {L : Nat} {w : World} {g : Nat} {b : Mt.PB} {so ao oo : Option Addr} {sc ac oc : Nat} (h : BAt L w g b so ao oo sc ac oc) (hn : b.seqs.length ≤ 1000) (hs : b.seq < b.seqs.length) :
    Calls Try.prog 66 #[.pointer (some ⟨g, 0, none⟩)] w fun e w' => e = .returned (.tuple #[]) ∧ ∃ so' sc', BAt L w' g b.bar so' ao oo sc' ac oc ∧ BStep g so ao oo so' ao oo w w' := by
  have HC : Hid (Calls Try.prog _ _ _ _) := newSequence_any h hn
  clear h
  go_enter Try.func66, Try.ntmps66
  go_wp2_with fail
  refine HC.out.mono ?_
  rintro e w1 ⟨rfl, so1, sc1, hP, hSt⟩
  have len1 : b.newSeq.seqs.length = b.seqs.length + 1 := by simp [Mt.PB.newSeq]
  obtain ⟨gs, hso, gs1, gs2, gs3⟩ := hP.seqForm (by omega)
  subst hso
  obtain ⟨x0, x1, x2, x3, _, _, _, hxf⟩ := hP.cells
  have y2 := hxf 2
  have y3 := hxf 3
  have hgw : g < w1.heap.size := (hP.lt g (Or.inl rfl)).2
  have q0 := hP.seqCell b.seq 1 (by omega) (by decide)
  have q1 := q0.1
  have q2 := q0.2
  have ea : b.newSeq.sAt b.seq = b.sAt b.seq := by
    unfold Mt.PB.sAt Mt.PB.newSeq; dsimp only; rw [Mt.getD_app, if_neg (by omega)]
  rw [ea] at q1
  rw [len1] at x0 gs3
  change w1.cell? ⟨gs, b.seq * 2 + 1, none⟩ = some (.int .i64 (b.sAt b.seq).next) at q1
  change w1.cell? ⟨g, 2, none⟩ = some (.int .i64 b.seq) at x2
  change w1.cell? ⟨g, 3, none⟩ = some (.int .i64 b.last) at x3
  have HP : Hid (BAt L w1 g b.newSeq (some ⟨gs, 0, none⟩) ao oo sc1 ac oc) := hP
  have HSt : Hid (BStep g so ao oo (some ⟨gs, 0, none⟩) ao oo w w1) := hSt
  have HE : Hid (b.newSeq.sAt b.seq = b.sAt b.seq) := ea
  clear hP hSt hxf q0 ea
  go_wp2_with fail
  go_region
  go_wp2_with fail
  go_returns
  have M1 := HP.out.seqSet b.seq 1 (.int .i64 b.seqs.length) ⟨(b.sAt b.seq).first, b.seqs.length⟩ (by omega) (by decide) (by rw [HE.out]; rfl)
  have M2 := M1.drew
  have M3 := M2.field (k := 2) (v := .int .i64 b.seqs.length) (b' := { b.bar with last := b.last }) (so' := some ⟨gs, 0, none⟩) (ao' := ao) (oo' := oo) (sc' := sc1) (ac' := ac) (oc' := oc) (by unfold bA Mt.PB.bar Mt.PB.newSeq; simp) M2.seqs M2.atoms M2.opn M2.ap M2.cl
  have M4 := M3.field (k := 3) (v := .int .i64 (-1)) (b' := b.bar) (so' := some ⟨gs, 0, none⟩) (ao' := ao) (oo' := oo) (sc' := sc1) (ac' := ac) (oc' := oc) (by unfold bA Mt.PB.bar; simp) M3.seqs M3.atoms M3.opn M3.ap M3.cl
  refine ⟨rfl, some ⟨gs, 0, none⟩, sc1, M4, ?_⟩
  exact (((HSt.out.set (p := ⟨gs, b.seq * 2 + 1, none⟩) (Or.inr (Or.inl rfl)) _).drew).set (p := ⟨g, 2, none⟩) (Or.inl rfl) _).set (p := ⟨g, 3, none⟩) (Or.inl rfl) _

set_option maxRecDepth 100000 in
set_option maxHeartbeats 2000000 in
theorem takeBack_prog {L : Nat} {w : World} {g : Nat} {b : Mt.PB} {so ao oo : Option Addr} {sc ac oc : Nat} (t : Mt.PT) (h : BAt L w g b so ao oo sc ac oc) (hn : b.atoms.length ≤ 1000) (hs : b.seq < b.seqs.length) (hla : b.last = -1 ∨ ∃ k : Nat, b.last = k ∧ k < b.atoms.length)
    (n : Nat) (hnum : t.number = n) (hn9 : n ≤ 9) (E : Int) (hE : E = if (b.groups : Int) < t.number ∨ b.clo.getD t.number.toNat false = false then 6 else 0) :
    Calls Try.prog 70 #[.pointer (some ⟨g, 0, none⟩), ptV t] w fun e w' => e = .returned (.int .i64 E) ∧ (E = 0 → ∃ ao' ac', BAt L w' g (b.addAtom t) so ao' oo sc ac' oc ∧ BStep g so ao oo so ao' oo w w') ∧ Below L w w' := by
  have HB : Hid (BAt L w g b so ao oo sc ac oc) := h
  obtain ⟨_, _, _, _, _, c5, ck, _⟩ := h.cells
  have ckn := ck n (by omega)
  have hn10 : (n : Int) < 10 := by omega
  have hg : g < w.heap.size := (h.lt g (Or.inl rfl)).2
  have hL : L ≤ w.heap.size := by have := h.lo; omega
  have HT : Hid (∀ W : World, Below w.heap.size w W → Calls Try.prog 71 #[.pointer (some ⟨g, 0, none⟩), ptV t] W fun e w' => e = .returned (.tuple #[]) ∧ ∃ ao' ac', BAt L w' g (b.addAtom t) so ao' oo sc ac' oc ∧ BStep g so ao oo so ao' oo W w') := fun W hW => addAtom_prog t (h.below hW) hn hs hla
  have hto : t.number.toNat = n := by rw [hnum]; simp
  rw [hto] at hE
  generalize hcl : b.clo.getD n false = cb at *
  clear h ck hto
  rw [hnum] at hE
  have HN : Hid (t.number = n) := hnum
  cases hgr : decide (b.groups < n)
  · have hng : ¬ b.groups < n := by simpa using hgr
    cases cb
    · have HE : Hid (E = 6) := by show _ = _; rw [hE, if_pos (Or.inr rfl)]
      clear hE hng
      unfold ptV ptA
      rw [hnum]
      go_enter Try.func70, Try.ntmps70
      go_wp2_with fail
      go_quiet (fail)
      go_wp2_with fail
      go_returns
      exact ⟨by rw [HE.out]; rfl, fun e => by have := HE.out; omega, (below_drewN ((Below.refl _ _).alloc (Nat.le_refl _) _) _).mono hL⟩
    · have HE : Hid (E = 0) := by show _ = _; rw [hE, if_neg (by simp; omega)]
      have HV : Hid (ptV t = .agg #[.int .i64 t.kind, .int .i64 t.en, .int .i64 t.group, .int .i64 n, .int .i64 t.least, .int .i64 t.most, .int .i64 t.mood, .string ⟨t.set.toArray⟩]) := by show _ = _; unfold ptV ptA; rw [hnum]
      have HT2 := HT.out
      simp only [HV.out] at HT2
      have HT3 : Hid (∀ W : World, Below w.heap.size w W → Calls Try.prog 71 _ W _) := HT2
      clear hE hng HT2
      rw [HV.out]
      go_enter Try.func70, Try.ntmps70
      go_wp2_with fail
      go_quiet (fail)
      go_wp2_with fail
      refine (HT3.out _ (by exact below_drewN ((Below.refl _ _).alloc (Nat.le_refl _) _) _)).mono ?_
      rintro e w1 ⟨rfl, ao1, ac1, hP, hSt⟩
      have R : Hid (BAt L w1 g (b.addAtom t) so ao1 oo sc ac1 oc ∧ BStep g so ao oo so ao1 oo w w1) := ⟨hP, (BStep.below (below_drewN ((Below.refl _ _).alloc (Nat.le_refl _) _) _)).trans hSt⟩
      clear hP hSt
      go_wp2_with fail
      go_returns
      exact ⟨by rw [HE.out]; rfl, fun _ => ⟨ao1, ac1, R.out.1, R.out.2⟩, R.out.2.low HB.out hL⟩
  · have hng : b.groups < n := by simpa using hgr
    have HE : Hid (E = 6) := by show _ = _; rw [hE, if_pos (Or.inl (by omega))]
    clear hE hng
    unfold ptV ptA
    rw [hnum]
    go_enter Try.func70, Try.ntmps70
    go_wp2_with fail
    go_quiet (fail)
    go_wp2_with fail
    go_returns
    exact ⟨by rw [HE.out]; rfl, fun e => by have := HE.out; omega, (below_drewN ((Below.refl _ _).alloc (Nat.le_refl _) _) _).mono hL⟩
end Go.Proofs.Ytebpgfodelggoaa
set_option linter.unusedVariables false
set_option linter.unusedSimpArgs false
namespace Go.Proofs.Ytebpgfodelggoaa
open Go.RowKit

theorem there_row {L : Nat} {w : World} {e : TypeId} {sz g n cap : Nat} {xs : List Value} (h : w.ownsRow L e sz (.slice (some ⟨g, 0, none⟩) n cap) n xs) (o m : Nat) (hm : o + m ≤ n * sz) : w.there g o m := by
  intro j hj
  rw [World.ownsRow.cellAt h (o + j) (by omega)]
  refine ⟨?_, World.ownsRow.frozenAt h _⟩
  have := h.1
  rw [List.getElem?_eq_getElem (by omega)]; rfl
theorem BStep.setMany {g : Nat} {so ao oo so' ao' oo' : Option Addr} {a w : World} (h : BStep g so ao oo so' ao' oo' a w) (q o : Nat) (vs : List Value) (hp : own g so' ao' oo' q) : BStep g so ao oo so' ao' oo' a (w.setCells q o vs) :=
  h.trans ⟨(below_setCells q vs o w 0 (Nat.zero_le _)).1.os, (below_setCells q vs o w 0 (Nat.zero_le _)).1.tape, (below_setCells q vs o w 0 (Nat.zero_le _)).1.output, Nat.le_of_eq (below_setCells q vs o w 0 (Nat.zero_le _)).2.symm, fun i hi hn => setCells_oth q vs o w i (fun e => hn (by rw [e]; exact hp)), fun _ _ h => h⟩

set_option maxRecDepth 100000 in
set_option maxHeartbeats 4000000 in
theorem takeRepeat_prog {L : Nat} {w : World} {g : Nat} {b : Mt.PB} {so ao oo : Option Addr} {sc ac oc : Nat} (t : Mt.PT) (h : BAt L w g b so ao oo sc ac oc) (hn : b.atoms.length ≤ 1000) (hla : b.last = -1 ∨ ∃ k : Nat, b.last = k ∧ k < b.atoms.length)
    (E : Int) (hE : E = if b.last = -1 ∨ (b.aAt b.last.toNat).rep.kind ≠ 0 then 7 else 0) :
    Calls Try.prog 69 #[.pointer (some ⟨g, 0, none⟩), ptV t] w fun e w' => e = .returned (.int .i64 E) ∧ (E = 0 → BAt L w' g (b.repeated t) so ao oo sc ac oc ∧ BStep g so ao oo so ao oo w w') ∧ Below L w w' := by
  have HB : Hid (BAt L w g b so ao oo sc ac oc) := h
  obtain ⟨_, c1, _, c3, _, _, _, hf⟩ := h.cells
  have hg : g < w.heap.size := (h.lt g (Or.inl rfl)).2
  have hL : L ≤ w.heap.size := by have := h.lo; omega
  rcases hla with hl | ⟨k, hl, hk⟩
  · have HE : Hid (E = 7) := by show _ = _; rw [hE, if_pos (Or.inl hl)]
    rw [hl] at c3
    clear h hE hf hl
    unfold ptV ptA
    go_enter Try.func69, Try.ntmps69
    go_wp2_with fail
    go_quiet (fail)
    go_wp2_with fail
    go_returns
    exact ⟨by rw [HE.out]; rfl, fun e => by have := HE.out; omega, (below_drewN ((Below.refl _ _).alloc (Nat.le_refl _) _) _).mono hL⟩
  · obtain ⟨ga, hao, ga1, ga2, ga3⟩ := h.atomForm (by omega)
    subst hao
    have hto : b.last.toNat = k := by rw [hl]; simp
    have bt : ((k : Int) == -1) = false := by simp
    have q9 := (h.atomCell k 9 (by omega) (by decide)).1
    change w.cell? ⟨ga, k * 20 + 9, none⟩ = some (.int .i64 (b.aAt k).rep.kind) at q9
    rw [hl] at c3
    have hk' : (k : Int) < (b.atoms.length : Int) := by omega
    cases hr : ((b.aAt k).rep.kind != 0)
    · have HE : Hid (E = 0) := by show _ = _; rw [hE, hto, if_neg (by rintro (x | x); omega; exact x (by simpa using hr))]
      have HR : Hid (b.repeated t = { b with atoms := b.atoms.set k { b.aAt k with rep := t } }) := by show _ = _; unfold Mt.PB.repeated; rw [hto]
      have HTH : Hid (∀ W : World, Below w.heap.size w W → W.there ga (k * 20 + 9) (ptA t).size) := fun W hW => there_row (h.below hW).atoms _ _ (by rw [ptA_size]; omega)
      clear h hE hf hl
      unfold ptV
      go_enter Try.func69, Try.ntmps69
      go_wp2_with fail
      go_quiet (fail)
      go_upto_region 3 with fail
      have hW : Below w.heap.size w ((w.alloc (.cells (ptA t) 103)).drewN nq) := below_drewN ((Below.refl _ _).alloc (Nat.le_refl _) _) _
      have HNW : ((w.alloc (.cells (ptA t) 103)).drewN nq).heap[w.heap.size]? = some (.cells (ptA t) 103 (0, 0)) := by rw [World.heap_drewN]; exact heap_alloc_new _ _
      have HHW : Hid (Below w.heap.size w ((w.alloc (.cells (ptA t) 103)).drewN nq)) := hW
      generalize hWW : (w.alloc (.cells (ptA t) 103)).drewN nq = W at *
      have d1 := (hW.cell (p := ⟨g, 1, none⟩) hg).trans c1
      have d3 := (hW.cell (p := ⟨g, 3, none⟩) hg).trans c3
      have hc1 : ∀ z : World, (z.heap[w.heap.size]? = some (.cells (ptA t) 103 (0, 0)) ∧ z.cell? ⟨g, 1, none⟩ = some (.slice (some ⟨ga, 0, none⟩) b.atoms.length ac) ∧ z.cell? ⟨g, 3, none⟩ = some (.int .i64 k)) → z.cell? ⟨g, 1, none⟩ = some (.slice (some ⟨ga, 0, none⟩) b.atoms.length ac) := fun z hz => hz.2.1
      have hc3 : ∀ z : World, (z.heap[w.heap.size]? = some (.cells (ptA t) 103 (0, 0)) ∧ z.cell? ⟨g, 1, none⟩ = some (.slice (some ⟨ga, 0, none⟩) b.atoms.length ac) ∧ z.cell? ⟨g, 3, none⟩ = some (.int .i64 k)) → z.cell? ⟨g, 3, none⟩ = some (.int .i64 k) := fun z hz => hz.2.2
      have hcr : ∀ z : World, (z.heap[w.heap.size]? = some (.cells (ptA t) 103 (0, 0)) ∧ z.cell? ⟨g, 1, none⟩ = some (.slice (some ⟨ga, 0, none⟩) b.atoms.length ac) ∧ z.cell? ⟨g, 3, none⟩ = some (.int .i64 k)) → z.rangeAt w.heap.size 0 (ptA t).toList := fun z hz => rangeAt_blk hz.1
      have S0 : W.drew.heap[w.heap.size]? = some (.cells (ptA t) 103 (0, 0)) ∧ W.drew.cell? ⟨g, 1, none⟩ = some (.slice (some ⟨ga, 0, none⟩) b.atoms.length ac) ∧ W.drew.cell? ⟨g, 3, none⟩ = some (.int .i64 k) := ⟨HNW, d1, d3⟩
      refine wp_region_held_drew (S := fun z : World => z.heap[w.heap.size]? = some (.cells (ptA t) 103 (0, 0)) ∧ z.cell? ⟨g, 1, none⟩ = some (.slice (some ⟨ga, 0, none⟩) b.atoms.length ac) ∧ z.cell? ⟨g, 3, none⟩ = some (.int .i64 k)) (by kernel_rfl) S0 (fun hH => ?_)
      refine takeAt 0 26 (.pointer (some ⟨g, 0, none⟩)) rfl rfl (by kernel_rfl) (by kernel_rfl) (by kernel_rfl) (fun _ _ _ h => h) (Or.inl ⟨by rfl, fun z hz => by clear hH hz hc1 hc3 hcr S0 HNW hW; go_simp⟩) (by assumption) ?_
      simp only [Act.put, List.setIfInBounds_toArray, List.set_cons_zero, List.set_cons_succ]
      refine takeAt 1 27 (.pointer (some ⟨g, 0, none⟩)) rfl rfl (by kernel_rfl) (by kernel_rfl) (by kernel_rfl) (fun _ _ _ h => h) (Or.inl ⟨by rfl, fun z hz => by clear hH hz hc1 hc3 hcr S0 HNW hW; go_simp⟩) (by assumption) ?_
      simp only [Act.put, List.setIfInBounds_toArray, List.set_cons_zero, List.set_cons_succ]
      refine takeAt 2 28 (.pointer (some ⟨g, 0, none⟩)) rfl rfl (by kernel_rfl) (by kernel_rfl) (by kernel_rfl) (fun _ _ _ h => h) (Or.inl ⟨by rfl, fun z hz => by clear hH hz hc1 hc3 hcr S0 HNW hW; go_simp⟩) (by assumption) ?_
      simp only [Act.put, List.setIfInBounds_toArray, List.set_cons_zero, List.set_cons_succ]
      refine takeAt 3 29 (.pointer (some ⟨g, 1, none⟩)) rfl rfl (by kernel_rfl) (by kernel_rfl) (by kernel_rfl) (fun _ _ _ h => h) (Or.inl ⟨by rfl, fun z hz => by clear hH hz hc1 hc3 hcr S0 HNW hW; go_simp⟩) (by assumption) ?_
      simp only [Act.put, List.setIfInBounds_toArray, List.set_cons_zero, List.set_cons_succ]
      refine takeAt 4 30 (.slice (some ⟨ga, 0, none⟩) b.atoms.length ac) rfl rfl (by kernel_rfl) (by kernel_rfl) (by kernel_rfl) (fun _ _ _ h => h) (Or.inl ⟨by rfl, fun z hz => by have hz1 := hc1 z hz; clear hH hz hc1 hc3 hcr S0 HNW hW; go_simp⟩) (by assumption) ?_
      simp only [Act.put, List.setIfInBounds_toArray, List.set_cons_zero, List.set_cons_succ]
      refine takeAt 5 31 (.pointer (some ⟨g, 0, none⟩)) rfl rfl (by kernel_rfl) (by kernel_rfl) (by kernel_rfl) (fun _ _ _ h => h) (Or.inl ⟨by rfl, fun z hz => by clear hH hz hc1 hc3 hcr S0 HNW hW; go_simp⟩) (by assumption) ?_
      simp only [Act.put, List.setIfInBounds_toArray, List.set_cons_zero, List.set_cons_succ]
      refine takeAt 6 32 (.pointer (some ⟨g, 0, none⟩)) rfl rfl (by kernel_rfl) (by kernel_rfl) (by kernel_rfl) (fun _ _ _ h => h) (Or.inl ⟨by rfl, fun z hz => by clear hH hz hc1 hc3 hcr S0 HNW hW; go_simp⟩) (by assumption) ?_
      simp only [Act.put, List.setIfInBounds_toArray, List.set_cons_zero, List.set_cons_succ]
      refine takeAt 7 33 (.pointer (some ⟨g, 3, none⟩)) rfl rfl (by kernel_rfl) (by kernel_rfl) (by kernel_rfl) (fun _ _ _ h => h) (Or.inl ⟨by rfl, fun z hz => by clear hH hz hc1 hc3 hcr S0 HNW hW; go_simp⟩) (by assumption) ?_
      simp only [Act.put, List.setIfInBounds_toArray, List.set_cons_zero, List.set_cons_succ]
      refine takeAt 8 34 (.int .i64 k) rfl rfl (by kernel_rfl) (by kernel_rfl) (by kernel_rfl) (fun _ _ _ h => h) (Or.inl ⟨by rfl, fun z hz => by have hz1 := hc3 z hz; clear hH hz hc1 hc3 hcr S0 HNW hW; go_simp⟩) (by assumption) ?_
      simp only [Act.put, List.setIfInBounds_toArray, List.set_cons_zero, List.set_cons_succ]
      refine takeAt 9 35 (.agg (ptA t)) rfl rfl (by kernel_rfl) (by kernel_rfl) (by kernel_rfl) (fun _ _ _ h => h) (yieldsIf_load_mid (by rfl) _ _ rfl _ _ rfl _ _ hcr Try.underlying103 rfl (by rw [Try.sizePT]; rfl)) (by assumption) ?_
      simp only [Act.put, List.setIfInBounds_toArray, List.set_cons_zero, List.set_cons_succ]
      refine takeAt 10 36 (.pointer (some ⟨ga, k * 20, none⟩)) rfl rfl (by kernel_rfl) (by kernel_rfl) (by kernel_rfl) (fun _ _ _ h => h) (Or.inl ⟨by rfl, fun z hz => by clear hH hz hc1 hc3 hcr S0 HNW hW; go_simp⟩) (by assumption) ?_
      simp only [Act.put, List.setIfInBounds_toArray, List.set_cons_zero, List.set_cons_succ]
      refine takeAt 11 37 (.pointer (some ⟨ga, k * 20 + 9, none⟩)) rfl rfl (by kernel_rfl) (by kernel_rfl) (by kernel_rfl) (fun _ _ _ h => h) (Or.inl ⟨by rfl, fun z hz => by clear hH hz hc1 hc3 hcr S0 HNW hW; go_simp⟩) (by assumption) ?_
      simp only [Act.put, List.setIfInBounds_toArray, List.set_cons_zero, List.set_cons_succ]
      refine lastStore 12 _ rfl rfl (by kernel_rfl) (by kernel_rfl) _ _ _ rfl ga (k * 20 + 9) (ptA t) (by kernel_rfl) (by kernel_rfl) (HTH.out _ HHW.out.drew) (by rw [Try.sizePT]; rfl) (ptA_all _) rfl ?_
      have hne : w.heap.size ≠ ga := by omega
      refine ⟨⟨(setCells_oth ga _ _ _ _ hne).trans S0.1, (World.cell?_of_block (a := ⟨g, 1, none⟩) (setCells_oth ga _ _ _ _ (Ne.symm ga1))).trans S0.2.1, (World.cell?_of_block (a := ⟨g, 3, none⟩) (setCells_oth ga _ _ _ _ (Ne.symm ga1))).trans S0.2.2⟩, ?_⟩
      clear hH hc1 hc3 hcr S0 HNW hW
      go_wp2_with fail
      go_returns
      have hWd : Below w.heap.size w W.drew := HHW.out.drew
      refine ⟨by rw [HE.out]; rfl, fun _ => ?_, ?_⟩
      · rw [HR.out]
        exact ⟨(HB.out.below hWd).atomSet k 9 (ptA t).toList { b.aAt k with rep := t } hk (by show 9 + (ptA t).size ≤ 20; rw [ptA_size]; decide) rfl, (BStep.below hWd).setMany ga _ _ (Or.inr (Or.inr (Or.inl rfl)))⟩
      · exact (((BStep.below hWd).setMany ga (k * 20 + 9) (ptA t).toList (Or.inr (Or.inr (Or.inl rfl))))).low HB.out hL
    · have HE : Hid (E = 7) := by show _ = _; rw [hE, hto, if_pos (Or.inr (by simpa using hr))]
      clear h hE hf hl
      unfold ptV ptA
      go_enter Try.func69, Try.ntmps69
      go_wp2_with fail
      go_quiet (fail)
      go_wp2_with fail
      go_returns
      exact ⟨by rw [HE.out]; rfl, fun e => by have := HE.out; omega, (below_drewN ((Below.refl _ _).alloc (Nat.le_refl _) _) _).mono hL⟩
end Go.Proofs.Ytebpgfodelggoaa
