import Derived.Test.YtebpgfodelggoaaC22
set_option linter.unusedVariables false
set_option linter.unusedSimpArgs false
namespace Mt
def PB.newSeq (b : PB) : PB := { b with seqs := b.seqs ++ [ps0] }
end Mt
namespace Go.Proofs.Ytebpgfodelggoaa
open Go.RowKit

theorem Try.infoSq : (Try.prog.info? 111).map (fun i => (i.zero, i.size, i.bytes)) = some (some (.agg #[.int .i64 0, .int .i64 0]), 2, 16) := by kernel_rfl

theorem own_new {g : Nat} {so ao oo : Option Addr} {q : Nat} {w : World} (h : blk so = some q ∨ q = w.heap.size) (hlt : ∀ k, own g so ao oo k → k < w.heap.size) (ap : blk so ≠ some g ∧ blk ao ≠ some g ∧ blk oo ≠ some g ∧ (∀ q, blk so = some q → blk ao ≠ some q ∧ blk oo ≠ some q) ∧ (∀ q, blk ao = some q → blk oo ≠ some q)) :
    q ≠ g ∧ blk ao ≠ some q ∧ blk oo ≠ some q := by
  rcases h with h | h
  · exact ⟨fun e => ap.1 (by rw [h, e]), (ap.2.2.2.1 q h).1, (ap.2.2.2.1 q h).2⟩
  · subst h
    exact ⟨fun e => by have := hlt g (Or.inl rfl); omega, fun e => by have := hlt _ (Or.inr (Or.inr (Or.inl e))); omega, fun e => by have := hlt _ (Or.inr (Or.inr (Or.inr e))); omega⟩
theorem blk_some (q o : Nat) : blk (some ⟨q, o, none⟩) = some q := rfl
theorem ownBlock_blk (o : Option Addr) (n c : Nat) : (Value.slice o n c).ownBlock = blk o := by cases o <;> rfl

/-- Behind an append to one of its rows the builder's other blocks are as they were. -/
theorem BAt.grown {L : Nat} {w w0 w1 : World} {g : Nat} {b : Mt.PB} {so ao oo : Option Addr} {sc ac oc : Nat} {r : Option Nat} (h : BAt L w g b so ao oo sc ac oc) (h0 : Below w.heap.size w w0) (hg : w0.grownBy w1 r) (k : Nat) (hk : own g so ao oo k) (hr : some k ≠ r) : w1.heap[k]? = w.heap[k]? := by
  have hl := (h.lt k hk).2
  rw [hg.block k (by have := h0.size; omega) hr, h0.block k hl]
theorem newSeq_mem {L : Nat} {w w0 w1 : World} {g : Nat} {b : Mt.PB} {so ao oo : Option Addr} {sc ac oc q cap : Nat} (h : BAt L w g b so ao oo sc ac oc) (h0 : Below w.heap.size w w0) (hs0 : w.heap.size < w0.heap.size) (hg : w0.grownBy w1 (blk so)) (hq : blk so = some q ∨ q = w0.heap.size)
    (hown : w1.ownsRow L 111 2 (.slice (some ⟨q, 0, none⟩) (b.seqs.length + 1) cap) (b.seqs.length + 1) (b.seqs.flatMap psC ++ [.int .i64 (-1), .int .i64 (-1)])) :
    BAt L (w1.setCell ⟨g, 0, none⟩ (.slice (some ⟨q, 0, none⟩) (b.seqs.length + 1) cap)) g b.newSeq (some ⟨q, 0, none⟩) ao oo cap ac oc ∧ BStep g so ao oo (some ⟨q, 0, none⟩) ao oo w (w1.setCell ⟨g, 0, none⟩ (.slice (some ⟨q, 0, none⟩) (b.seqs.length + 1) cap)) := by
  have hlt : ∀ k, own g so ao oo k → k < w0.heap.size := fun k hk => by have := (h.lt k hk).2; omega
  obtain ⟨n1, n2, n3⟩ := own_new (g := g) (ao := ao) (oo := oo) hq hlt h.ap
  have kg : w1.heap[g]? = w.heap[g]? := h.grown h0 hg g (Or.inl rfl) (fun e => h.ap.1 e.symm)
  have ka : ∀ k, blk ao = some k → w1.heap[k]? = w.heap[k]? := fun k hk => h.grown h0 hg k (Or.inr (Or.inr (Or.inl hk))) (fun e => (h.ap.2.2.2.1 k e.symm).1 hk)
  have ko : ∀ k, blk oo = some k → w1.heap[k]? = w.heap[k]? := fun k hk => h.grown h0 hg k (Or.inr (Or.inr (Or.inr hk))) (fun e => (h.ap.2.2.2.1 k e.symm).2 hk)
  have hap : blk (some ⟨q, 0, none⟩) ≠ some g ∧ blk ao ≠ some g ∧ blk oo ≠ some g ∧ (∀ k, blk (some ⟨q, 0, none⟩) = some k → blk ao ≠ some k ∧ blk oo ≠ some k) ∧ (∀ k, blk ao = some k → blk oo ≠ some k) :=
    ⟨fun e => n1 (by simpa [blk] using e), h.ap.2.1, h.ap.2.2.1, fun k hk => by simp [blk] at hk; subst hk; exact ⟨n2, n3⟩, h.ap.2.2.2.2⟩
  have o : ∀ k, k ≠ g → (w1.setCell ⟨g, 0, none⟩ (.slice (some ⟨q, 0, none⟩) (b.seqs.length + 1) cap)).heap[k]? = w1.heap[k]? := fun k hk => Below.heap_setCell _ _ _ _ hk
  refine ⟨⟨?_, h.lo, ?_, ?_, ?_, hap, h.cl⟩, ?_⟩
  · have hc := Go.heap_setCell_same w1 g 0 _ _ (.slice (some ⟨q, 0, none⟩) (b.seqs.length + 1) cap) (by rw [kg]; exact h.cell)
    rw [hc]; unfold bA Mt.PB.newSeq; simp
  · have e1 : b.newSeq.seqs.length = b.seqs.length + 1 := by simp [Mt.PB.newSeq]
    have e2 : b.newSeq.seqs.flatMap psC = b.seqs.flatMap psC ++ [.int .i64 (-1), .int .i64 (-1)] := by simp [Mt.PB.newSeq, psC, Mt.ps0]
    rw [e1, e2]
    exact row_keep hown (fun k hk => o k (by simp [blk] at hk; omega))
  · exact row_keep h.atoms (fun k hk => by rw [o k (fun e => h.ap.2.1 (by rw [← e]; exact hk)), ka k hk])
  · exact row_keep h.opn (fun k hk => by rw [o k (fun e => h.ap.2.2.1 (by rw [← e]; exact hk)), ko k hk])
  · refine ⟨hg.os.trans h0.os, hg.tape.trans h0.tape, hg.output.trans h0.output, ?_, fun k hk hn => ?_, fun k hk ho => ?_⟩
    · have := hg.size; have := h0.size; simp [World.setCell]; omega
    · rw [o k (fun e => hn (Or.inl e)), hg.block k (by have := h0.size; omega) (fun e => hn (Or.inr (Or.inl e.symm))), h0.block k hk]
    · rcases ho with e | e | e | e
      · exact Or.inl e
      · simp [blk] at e
        subst e
        rcases hq with hq | hq
        · exact Or.inr (Or.inl hq)
        · omega
      · exact Or.inr (Or.inr (Or.inl e))
      · exact Or.inr (Or.inr (Or.inr e))

section
variable {L : Nat} {w : World} {g gs ga go : Nat} {b : Mt.PB} {so ao oo : Option Addr} {sc ac oc : Nat}
theorem psC_len (s : Mt.PS) : (psC s).length = 2 := rfl
theorem paC_len (a : Mt.PA) : (paC a).length = 20 := rfl
theorem bA_same {b b' : Mt.PB} {so ao oo : Option Addr} {sc ac oc : Nat} (h1 : b'.seqs.length = b.seqs.length) (h2 : b'.atoms.length = b.atoms.length) (h3 : b'.seq = b.seq) (h4 : b'.last = b.last) (h5 : b'.opn = b.opn) (h6 : b'.groups = b.groups) (h7 : b'.clo = b.clo) : bA b' so ao oo sc ac oc = bA b so ao oo sc ac oc := by
  unfold bA; rw [h1, h2, h3, h4, h5, h6, h7]
/-- A field of one of its sequences stored into. -/
theorem BAt.seqSet (h : BAt L w g b (some ⟨gs, 0, none⟩) ao oo sc ac oc) (i j : Nat) (v : Value) (s' : Mt.PS) (hi : i < b.seqs.length) (hj : j < 2) (he : psC s' = (psC (b.sAt i)).set j v) :
    BAt L (w.setCell ⟨gs, i * 2 + j, none⟩ v) g { b with seqs := b.seqs.set i s' } (some ⟨gs, 0, none⟩) ao oo sc ac oc := by
  have o : ∀ k, k ≠ gs → (w.setCell ⟨gs, i * 2 + j, none⟩ v).heap[k]? = w.heap[k]? := fun k hk => Below.heap_setCell _ _ _ _ hk
  have ne : gs ≠ g := fun e => h.ap.1 (by rw [blk_some, e])
  refine ⟨?_, h.lo, ?_, row_keep h.atoms (fun k hk => o k (fun e => (h.ap.2.2.2.1 gs rfl).1 (by rw [← e]; exact hk))), row_keep h.opn (fun k hk => o k (fun e => (h.ap.2.2.2.1 gs rfl).2 (by rw [← e]; exact hk))), h.ap, h.cl⟩
  · have e : bA { b with seqs := b.seqs.set i s' } (some ⟨gs, 0, none⟩) ao oo sc ac oc = bA b (some ⟨gs, 0, none⟩) ao oo sc ac oc := bA_same (by simp) rfl rfl rfl rfl rfl rfl
    rw [o g (Ne.symm ne), e]; exact h.cell
  · have r := (World.ownsRow.stored h.seqs (i * 2 + j) v).1
    rw [flat_set psC 2 psC_len b.seqs i j v s' hi hj (fun a ha => by rw [he]; unfold Mt.PB.sAt; rw [List.getD_eq_getElem?_getD, ha]; rfl)] at r
    simpa using r
/-- Some fields of one of its atoms stored into. -/
theorem BAt.atomSet (h : BAt L w g b so (some ⟨ga, 0, none⟩) oo sc ac oc) (i j : Nat) (vs : List Value) (a' : Mt.PA) (hi : i < b.atoms.length) (hj : j + vs.length ≤ 20) (he : paC a' = setMany (paC (b.aAt i)) j vs) :
    BAt L (w.setCells ga (i * 20 + j) vs) g { b with atoms := b.atoms.set i a' } so (some ⟨ga, 0, none⟩) oo sc ac oc := by
  have o : ∀ k, k ≠ ga → (w.setCells ga (i * 20 + j) vs).heap[k]? = w.heap[k]? := fun k hk => setCells_oth ga vs _ w k hk
  have ne : ga ≠ g := fun e => h.ap.2.1 (by rw [blk_some, e])
  refine ⟨?_, h.lo, row_keep h.seqs (fun k hk => o k (fun e => (h.ap.2.2.2.1 k hk).1 (by rw [e]; rfl))), ?_, row_keep h.opn (fun k hk => o k (fun e => h.ap.2.2.2.2 ga rfl (by rw [← e]; exact hk))), h.ap, h.cl⟩
  · have e : bA { b with atoms := b.atoms.set i a' } so (some ⟨ga, 0, none⟩) oo sc ac oc = bA b so (some ⟨ga, 0, none⟩) oo sc ac oc := bA_same rfl (by simp) rfl rfl rfl rfl rfl
    rw [o g (Ne.symm ne), e]; exact h.cell
  · have r := row_setCells vs (i * 20 + j) w _ h.atoms
    rw [flat_setMany paC 20 paC_len b.atoms i j vs a' hi hj (fun a ha => by rw [he]; unfold Mt.PB.aAt; rw [List.getD_eq_getElem?_getD, ha]; rfl)] at r
    simpa using r
theorem BAt.seqForm (h : BAt L w g b so ao oo sc ac oc) (hn : 0 < b.seqs.length) : ∃ gs, so = some ⟨gs, 0, none⟩ ∧ gs ≠ g ∧ gs < w.heap.size ∧ b.seqs.length ≤ sc := by
  obtain ⟨gs, cap, hv, _, hlt⟩ := World.ownsRow.form h.seqs hn
  simp only [Value.slice.injEq] at hv
  obtain ⟨rfl, _, rfl⟩ := hv
  rcases h.seqs.2 with ⟨e, _⟩ | ⟨g', cap', cur, hv, _, _, hc, _⟩
  · simp at e
  · simp only [Value.slice.injEq] at hv
    exact ⟨gs, rfl, fun e => h.ap.1 (by rw [blk_some, e]), hlt, by omega⟩
theorem BAt.atomForm (h : BAt L w g b so ao oo sc ac oc) (hn : 0 < b.atoms.length) : ∃ ga, ao = some ⟨ga, 0, none⟩ ∧ ga ≠ g ∧ ga < w.heap.size ∧ b.atoms.length ≤ ac := by
  obtain ⟨gs, cap, hv, _, hlt⟩ := World.ownsRow.form h.atoms hn
  simp only [Value.slice.injEq] at hv
  obtain ⟨rfl, _, rfl⟩ := hv
  rcases h.atoms.2 with ⟨e, _⟩ | ⟨g', cap', cur, hv, _, _, hc, _⟩
  · simp at e
  · simp only [Value.slice.injEq] at hv
    exact ⟨gs, rfl, fun e => h.ap.2.1 (by rw [blk_some, e]), hlt, by omega⟩
theorem BAt.opnForm (h : BAt L w g b so ao oo sc ac oc) (hn : 0 < b.opn.length) : ∃ go, oo = some ⟨go, 0, none⟩ ∧ go ≠ g ∧ go < w.heap.size ∧ b.opn.length ≤ oc := by
  obtain ⟨gs, cap, hv, _, hlt⟩ := World.ownsRow.form h.opn hn
  simp only [Value.slice.injEq] at hv
  obtain ⟨rfl, _, rfl⟩ := hv
  rcases h.opn.2 with ⟨e, _⟩ | ⟨g', cap', cur, hv, _, _, hc, _⟩
  · simp at e
  · simp only [Value.slice.injEq] at hv
    exact ⟨gs, rfl, fun e => h.ap.2.2.1 (by rw [blk_some, e]), hlt, by omega⟩
theorem flat_get {α : Type} (f : α → List Value) (k : Nat) (hk : ∀ a, (f a).length = k) (d : α) : ∀ (l : List α) (i j : Nat), i < l.length → j < k → (l.flatMap f)[i * k + j]? = (f (l.getD i d))[j]?
  | [], i, j, h, _ => by simp at h
  | x :: r, 0, j, _, hj => by
    rw [List.flatMap_cons, List.getElem?_append_left (by rw [hk]; omega)]; simp
  | x :: r, i + 1, j, hi, hj => by
    have e : (i + 1) * k + j = k + (i * k + j) := by rw [Nat.add_mul]; omega
    rw [List.flatMap_cons, e, List.getElem?_append_right (by rw [hk]; omega), hk, show k + (i * k + j) - k = i * k + j by omega, flat_get f k hk d r i j (by simpa using hi) hj]
    simp
theorem BAt.seqCell (h : BAt L w g b (some ⟨gs, 0, none⟩) ao oo sc ac oc) (i j : Nat) (hi : i < b.seqs.length) (hj : j < 2) : w.cell? ⟨gs, i * 2 + j, none⟩ = (psC (b.sAt i))[j]? ∧ w.frozen? ⟨gs, i * 2 + j, none⟩ = false :=
  ⟨by rw [World.ownsRow.cellAt h.seqs _ (by omega), flat_get psC 2 psC_len Mt.ps0 _ _ _ hi hj]; rfl, World.ownsRow.frozenAt h.seqs _⟩
theorem BAt.atomCell (h : BAt L w g b so (some ⟨ga, 0, none⟩) oo sc ac oc) (i j : Nat) (hi : i < b.atoms.length) (hj : j < 20) : w.cell? ⟨ga, i * 20 + j, none⟩ = (paC (b.aAt i))[j]? ∧ w.frozen? ⟨ga, i * 20 + j, none⟩ = false :=
  ⟨by rw [World.ownsRow.cellAt h.atoms _ (by omega), flat_get paC 20 paC_len Mt.pa0 _ _ _ hi hj]; rfl, World.ownsRow.frozenAt h.atoms _⟩
theorem BAt.opnCell (h : BAt L w g b so ao (some ⟨go, 0, none⟩) sc ac oc) (i : Nat) (hi : i < b.opn.length) : w.cell? ⟨go, i, none⟩ = some (.int .i64 (b.opn.getD i 0 : Nat)) := by
  rw [World.ownsRow.cellAt h.opn _ (by omega)]
  unfold opL
  rw [List.getElem?_map, List.getD_eq_getElem?_getD, List.getElem?_eq_getElem hi]; rfl
/-- A draw. -/
theorem BAt.drew (h : BAt L w g b so ao oo sc ac oc) : BAt L w.drew g b so ao oo sc ac oc := h.keep (fun _ _ => rfl)
end

set_option maxRecDepth 100000 in
set_option maxHeartbeats 1000000 in
theorem newSequence_any {L : Nat} {w : World} {g : Nat} {b : Mt.PB} {so ao oo : Option Addr} {sc ac oc : Nat} (h : BAt L w g b so ao oo sc ac oc) (hn : b.seqs.length ≤ 1000) :
    Calls Try.prog 47 #[.pointer (some ⟨g, 0, none⟩)] w fun e w' => e = .returned (.int .i64 b.seqs.length) ∧ ∃ so' sc', BAt L w' g b.newSeq so' ao oo sc' ac oc ∧ BStep g so ao oo so' ao oo w w' := by
  obtain ⟨i0, hi, hz0, hz1, hz2⟩ := info_parts Try.infoSq
  have HB : Hid (BAt L w g b so ao oo sc ac oc) := h
  obtain ⟨c0, _, _, _, _, _, _, hf⟩ := h.cells
  have f0 := hf 0
  have hg : g < w.heap.size := (h.lt g (Or.inl rfl)).2
  have hL : L ≤ w.heap.size := by have := h.lo; omega
  have HO := h.seqs
  clear h hf
  generalize hN : b.seqs.length = N at *
  go_enter Try.func47, Try.ntmps47
  go_wp2_with (at_builtin; refine wpList_append_lies _ rfl (.tmp 8) (.tmp 10) 59 rfl L 111 i0 _ 2 16 Try.underlying59 hi hz0 hz1 hz2 rfl (by decide) _ _ _ rfl (HO.alloc _) ⟨w.heap.size, 0, none⟩ 1 1 [.int .i64 (-1), .int .i64 (-1)] rfl rfl ?c1 ?c2 (by decide) ?c3 ?c4 ?c5 (w.heap.size + 1) ?c6 ?_)
  case c1 => exact World.news_of_block (cs := #[.int .i64 (-1), .int .i64 (-1)]) (heap_alloc_new _ _)
  case c2 => intro u hu; simp at hu; subst hu; rfl
  case c3 => unfold maxLen; omega
  case c4 => omega
  case c5 => simp; omega
  case c6 => simp
  · intro q cap w1 hown hgrow hq hqlt
    rw [ownBlock_blk] at hgrow hq
    have hb0 : Below w.heap.size w (w.alloc (.cells #[.int .i64 (-1), .int .i64 (-1)] 111)) := (Below.refl _ _).alloc (Nat.le_refl _) _
    subst hN
    have HM := newSeq_mem HB.out hb0 (by simp) hgrow (by simpa using hq) hown
    have kg : w1.heap[g]? = w.heap[g]? := HB.out.grown hb0 hgrow g (Or.inl rfl) (fun e => HB.out.ap.1 e.symm)
    have d0 : w1.cell? ⟨g, 0, none⟩ = some (.slice so b.seqs.length sc) := (World.cell?_of_block (a := ⟨g, 0, none⟩) kg).trans c0
    have e0 : w1.frozen? ⟨g, 0, none⟩ = false := (World.frozen?_of_block (a := ⟨g, 0, none⟩) kg).trans f0
    have HM' : Hid (BAt L (w1.setCell ⟨g, 0, none⟩ (.slice (some ⟨q, 0, none⟩) (b.seqs.length + 1) cap)) g b.newSeq (some ⟨q, 0, none⟩) ao oo cap ac oc ∧ BStep g so ao oo (some ⟨q, 0, none⟩) ao oo w (w1.setCell ⟨g, 0, none⟩ (.slice (some ⟨q, 0, none⟩) (b.seqs.length + 1) cap))) := HM
    clear HM hown hgrow hq kg hb0 HO
    go_wp2_with fail
    go_returns
    refine ⟨?_, some ⟨q, 0, none⟩, cap, HM'.out.1, HM'.out.2⟩
    go_num
end Go.Proofs.Ytebpgfodelggoaa
