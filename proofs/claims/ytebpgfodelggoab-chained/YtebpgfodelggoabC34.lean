import Derived.Test.YtebpgfodelggoabC33
/- look: the instruction of a state is done. -/
set_option linter.unusedVariables false
set_option linter.unusedSimpArgs false
namespace Go.Proofs.Ytebpgfodelggoab
open Go.RowKit
/-- What looking at a state leaves. -/
def LookDone (k : Pk) (wo : Option Addr) (P : Told) (w : World) (q : List Int) (x : Mt.Ins) (steps : Int) (hd : List Bool) (room : Int) (W : List (List Int)) (b : Bool) (w' : World) : Prop :=
  (x.op = 2 → b = false ∧ Waits k wo w steps hd room ((W ++ [q.set 0 x.y]) ++ [q.set 0 x.x]) w') ∧
  (x.op = 12 ∨ x.op = 13 → b = true ∧ Waits k wo w steps hd room W w') ∧
  (x.op = 11 → b = false ∧ SubDone k wo P w q x w') ∧
  (x.op ≠ 2 → x.op ≠ 11 → x.op ≠ 12 → x.op ≠ 13 → b = false ∧ Waits k wo w steps hd room (addIf W (Mt.oneP k.t q x).2 (Mt.oneP k.t q x).1) w')
section
variable {k : Pk} {w : World} {steps : Int} {hd : List Bool} {room : Int} {wo : Option Addr} {wc : Nat} {W : List (List Int)}
theorem PlayAt.codeAt (h : PlayAt k w steps hd room wo wc W) (p j : Nat) (hp : p < k.c.length) (hj : j < 4) : w.cell? ⟨k.gc, p * 4 + j, none⟩ = (insCells (k.c.getD p Mt.ins0))[j]? := by
  have hc := h.code
  unfold ownIns at hc
  rw [World.ownsRow.cellAt hc (p * 4 + j) (by omega), ins_flat_at k.c p j hp hj]
/-- What lies in memory when the instruction is at hand. -/
structure LookMem (k : Pk) (wo : Option Addr) (wc : Nat) (w : World) (n : Nat) (q : List Int) (x : Mt.Ins) (steps : Int) (hd : List Bool) (room : Int) (W : List (List Int)) (w2 : World) : Prop where
  s : w2.heap[n]? = some (.cells (stA q) 100 (0, 0))
  i : w2.heap[n + 1]? = some (.cells (insA x) 70 (0, 0))
  b : Below n w w2
  z : w2.heap.size = n + 2
  hn : n = w.heap.size
  p : PlayAt k w steps hd room wo wc W
section
variable {n : Nat} {q : List Int} {x : Mt.Ins} {w2 : World}
theorem LookMem.wait (h : LookMem k wo wc w n q x steps hd room W w2) (u : List Int) (z : World) (y : Int) (hu : u.length = 43) (hz : Below n w2 z) (hl : W.length ≤ 100000) :
    Calls Try.prog 57 #[.pointer (some ⟨k.g, 0, none⟩), .agg (stA u), .int .i64 y] z fun e w' => e = .returned (.tuple #[]) ∧ Waits k wo w steps hd room (W ++ [u.set 0 y]) w' ∧ (∀ j, n ≤ j → j < z.heap.size → w'.heap[j]? = z.heap[j]?) ∧ z.heap.size ≤ w'.heap.size := by
  have hb : Below w.heap.size w z := by rw [← h.hn]; exact h.b.trans hz
  have hp := h.p.below hb
  have hlt := h.p.lt
  have hn := h.hn
  refine (wait_prog u y hu hp (by omega)).mono ?_
  rintro e w' ⟨rfl, wo', wc', hP, hS⟩
  refine ⟨rfl, ⟨wo', wc', hP, (PStep.below hb).trans hS⟩, fun j h1 h2 => hS.block j h2 (by omega) (by omega) (fun e => by have := (hlt.2.2.2.2.2 j e).2; omega), hS.size⟩
theorem LookMem.set (h : LookMem k wo wc w n q x steps hd room W w2) (hq : q.length = 43) (j : Nat) (v : Int) : (w2.setCell ⟨n, j, none⟩ (.int .i64 v)).heap[n]? = some (.cells (stA (q.set j v)) 100 (0, 0)) ∧ Below n w2 (w2.setCell ⟨n, j, none⟩ (.int .i64 v)) ∧ (w2.setCell ⟨n, j, none⟩ (.int .i64 v)).heap[n + 1]? = some (.cells (insA x) 70 (0, 0)) := by
  refine ⟨?_, (Below.refl _ _).setCell (p := ⟨n, j, none⟩) (Nat.le_refl _) _, ?_⟩
  · rw [← stA_set q hq]; exact Go.heap_setCell_same w2 n j _ _ _ h.s
  · exact (Below.heap_setCell _ _ _ _ (by show n + 1 ≠ n; omega)).trans h.i
end

set_option maxRecDepth 100000 in
set_option maxHeartbeats 8000000 in
theorem look_prog (h : PlayAt k w steps hd room wo wc W) (q : List Int) (hq : q.length = 43) (pc pos : Nat) (hp0 : Mt.gt q 0 = pc) (hp1 : Mt.gt q 1 = pos) (hpc : pc < k.c.length) (hc : k.c.length ≤ 300) (hpos : pos ≤ 60) (hW : W.length ≤ 90000) (P : Told) (x : Mt.Ins) (hx : k.c.getD pc Mt.ins0 = x)
    (m4 : x.op = 4 → 0 ≤ x.x ∧ x.x < 11) (m5 : x.op = 5 → 0 ≤ x.y ∧ x.y < 11) (m6 : x.op = 6 ∨ x.op = 7 → 0 ≤ x.x ∧ x.x < 10) (m1 : 1 ≤ x.op ∧ x.op ≤ 13)
    (hcmp : ∀ z : World, PlayAt k z steps hd room wo wc W → (x.op = 1 ∨ x.op = 8 ∨ x.op = 9 ∨ x.op = 10) → Calls Try.prog 72 #[.pointer (some ⟨k.g, 0, none⟩), .agg (stA q), .agg (insA x)] z fun e w' => e = .returned (.tuple #[]) ∧ Waits k wo z steps hd room (addIf W (Mt.oneP k.t q x).2 (Mt.oneP k.t q x).1) w')
    (hsub : ∀ z : World, PlayAt k z steps hd room wo wc W → x.op = 11 → Calls Try.prog 71 #[.pointer (some ⟨k.g, 0, none⟩), .agg (stA q), .agg (insA x)] z fun e w' => e = .returned (.tuple #[]) ∧ SubDone k wo P z q x w') :
    Calls Try.prog 59 #[.pointer (some ⟨k.g, 0, none⟩), .agg (stA q)] w fun e w' => ∃ b, e = .returned (.bool b) ∧ LookDone k wo P w q x steps hd room W b w' := by
  have c0 := h.cells.1
  have j0 := h.codeAt pc 0 hpc (by omega)
  have j1 := h.codeAt pc 1 hpc (by omega)
  have j2 := h.codeAt pc 2 hpc (by omega)
  have j3 := h.codeAt pc 3 hpc (by omega)
  rw [hx] at j0 j1 j2 j3
  have hg : k.g < w.heap.size := h.lt.1
  have hgc : k.gc < w.heap.size := h.lt.2.1
  have HP0 : Hid (PlayAt k w steps hd room wo wc W) := h
  have hpc' : (pc : Int) < (k.c.length : Int) := by omega
  have HX4 : Hid ((x.op = 4 → 0 ≤ x.x ∧ x.x < 11) ∧ (x.op = 5 → 0 ≤ x.y ∧ x.y < 11) ∧ (x.op = 6 ∨ x.op = 7 → 0 ≤ x.x ∧ x.x < 10) ∧ (1 ≤ x.op ∧ x.op ≤ 13)) := ⟨m4, m5, m6, m1⟩
  have HCMP : Hid (∀ z : World, PlayAt k z steps hd room wo wc W → (x.op = 1 ∨ x.op = 8 ∨ x.op = 9 ∨ x.op = 10) → Calls Try.prog 72 #[.pointer (some ⟨k.g, 0, none⟩), .agg (stA q), .agg (insA x)] z fun e w' => e = .returned (.tuple #[]) ∧ Waits k wo z steps hd room (addIf W (Mt.oneP k.t q x).2 (Mt.oneP k.t q x).1) w') := hcmp
  have HSUB : Hid (∀ z : World, PlayAt k z steps hd room wo wc W → x.op = 11 → Calls Try.prog 71 #[.pointer (some ⟨k.g, 0, none⟩), .agg (stA q), .agg (insA x)] z fun e w' => e = .returned (.tuple #[]) ∧ SubDone k wo P z q x w') := hsub
  clear h m4 m5 m6 m1 hcmp hsub hx
  generalize hgg : k.g = g at *
  generalize k.gc = gc at *
  generalize k.c.length = CL at *
  generalize k.cc = ccc at *
  go_enter Try.func59, Try.ntmps59
  go_upto_region 1 with fail
  generalize hW1 : w.alloc (.cells (stA q) 100) = W1 at *
  have B1 : Below w.heap.size w W1 := by rw [← hW1]; exact (Below.refl _ _).alloc (Nat.le_refl _) _
  have T1 : W1.heap[w.heap.size]? = some (.cells (stA q) 100 (0, 0)) := by rw [← hW1]; exact heap_alloc_new _ _
  have Z1 : W1.heap.size = w.heap.size + 1 := by rw [← hW1]; simp
  have x0 : W1.cell? ⟨w.heap.size, 0, none⟩ = some (.int .i64 pc) := by rw [(cell_block T1).1 0, ← hp0]; exact stA_at q 0 (by omega)
  have o : ∀ b j, b < w.heap.size → W1.cell? ⟨b, j, none⟩ = w.cell? ⟨b, j, none⟩ := fun b j hb => World.cell?_of_block (a := ⟨b, j, none⟩) (B1.block b hb)
  rw [← o _ _ hg] at c0
  rw [← o _ _ hgc] at j0 j1 j2 j3
  have k0 : W1.cell? ⟨gc, pc * 4, none⟩ = some (.int .i64 x.op) := j0
  have k1 : W1.cell? ⟨gc, pc * 4 + 1, none⟩ = some (.int .i64 x.x) := j1
  have k2 : W1.cell? ⟨gc, pc * 4 + 2, none⟩ = some (.int .i64 x.y) := j2
  have k3 : W1.cell? ⟨gc, pc * 4 + 3, none⟩ = some (.string ⟨x.set.toArray⟩) := j3
  clear o j0 j1 j2 j3 hW1
  generalize hnn : w.heap.size = n at *
  go_region
  have HM : LookMem k wo wc w n q x steps hd room W (W1.alloc (.cells (insA x) 70)).drew := by
    refine ⟨?_, ?_, ?_, by simp [Z1], hnn.symm, HP0.out⟩
    · show (W1.alloc _).heap[n]? = _
      rw [heap_old _ _ _ (by omega)]; exact T1
    · show (W1.alloc _).heap[n + 1]? = _
      rw [← Z1]; exact heap_alloc_new _ _
    · exact (B1.alloc (by omega) _).drew
  have hw2 : (W1.alloc (.cells (insA x) 70)).drew = (W1.alloc (.cells #[.int .i64 x.op, .int .i64 x.x, .int .i64 x.y, .string ⟨x.set.toArray⟩] 70)).drew := rfl
  rw [hw2] at HM
  clear hw2
  generalize (W1.alloc (.cells #[.int .i64 x.op, .int .i64 x.x, .int .i64 x.y, .string ⟨x.set.toArray⟩] 70)).drew = w2 at *
  have S2 := HM.s
  have hcS := cell_block S2
  have hcI := cell_block HM.i
  have i0 : w2.cell? ⟨n + 1, 0, none⟩ = some (.int .i64 x.op) := hcI.1 0
  have i1 : w2.cell? ⟨n + 1, 1, none⟩ = some (.int .i64 x.x) := hcI.1 1
  have i2 : w2.cell? ⟨n + 1, 2, none⟩ = some (.int .i64 x.y) := hcI.1 2
  have s0 : w2.cell? ⟨n, 0, none⟩ = some (.int .i64 pc) := by rw [hcS.1 0, ← hp0]; exact stA_at q 0 (by omega)
  have s1 : w2.cell? ⟨n, 1, none⟩ = some (.int .i64 pos) := by rw [hcS.1 1, ← hp1]; exact stA_at q 1 (by omega)
  have HSJ : Hid (∀ j, j < 43 → w2.cell? ⟨n, j, none⟩ = some (.int .i64 (Mt.gt q j)) ∧ w2.frozen? ⟨n, j, none⟩ = false) := fun j hj => ⟨by rw [hcS.1 j]; exact stA_at q j hj, hcS.2 j⟩
  have HMH : Hid (LookMem k wo wc w n q x steps hd room W w2) := HM
  have HWT : Hid (∀ (u : List Int) (z : World) (y : Int), u.length = 43 → Below n w2 z → Calls Try.prog 57 #[.pointer (some ⟨g, 0, none⟩), .agg (stA u), .int .i64 y] z fun e w' => e = .returned (.tuple #[]) ∧ Waits k wo w steps hd room (W ++ [u.set 0 y]) w' ∧ (∀ j, n ≤ j → j < z.heap.size → w'.heap[j]? = z.heap[j]?) ∧ z.heap.size ≤ w'.heap.size) := fun u z y hu hz => by
    rw [← hgg]; exact HM.wait u z y hu hz (by omega)
  have HPZ : Hid (PlayAt k w2 steps hd room wo wc W) := HM.p.below (by rw [hnn]; exact HM.b)
  have Z2 := HM.z
  have HB2 : Hid (Below n w w2) := HM.b
  have HX5 := HX4.out
  clear hcS hcI HM x0 c0 k0 k1 k2 k3 T1 Z1 B1
  have HOP : Hid (((x.op == 2) = true) ∨ ((x.op == 2) = false ∧ (x.op == 3) = true) ∨ ((x.op == 2) = false ∧ (x.op == 3) = false ∧ (x.op == 4) = true) ∨ ((x.op == 2) = false ∧ (x.op == 3) = false ∧ (x.op == 4) = false ∧ (x.op == 5) = true)
     ∨ ((x.op == 2) = false ∧ (x.op == 3) = false ∧ (x.op == 4) = false ∧ (x.op == 5) = false ∧ (x.op == 6) = true) ∨ ((x.op == 2) = false ∧ (x.op == 3) = false ∧ (x.op == 4) = false ∧ (x.op == 5) = false ∧ (x.op == 6) = false ∧ (x.op == 7) = true)
     ∨ ((x.op == 2) = false ∧ (x.op == 3) = false ∧ (x.op == 4) = false ∧ (x.op == 5) = false ∧ (x.op == 6) = false ∧ (x.op == 7) = false ∧ (x.op == 11) = true)
     ∨ ((x.op == 2) = false ∧ (x.op == 3) = false ∧ (x.op == 4) = false ∧ (x.op == 5) = false ∧ (x.op == 6) = false ∧ (x.op == 7) = false ∧ (x.op == 11) = false ∧ (x.op == 12) = true)
     ∨ ((x.op == 2) = false ∧ (x.op == 3) = false ∧ (x.op == 4) = false ∧ (x.op == 5) = false ∧ (x.op == 6) = false ∧ (x.op == 7) = false ∧ (x.op == 11) = false ∧ (x.op == 12) = false ∧ (x.op == 13) = true)
     ∨ ((x.op == 2) = false ∧ (x.op == 3) = false ∧ (x.op == 4) = false ∧ (x.op == 5) = false ∧ (x.op == 6) = false ∧ (x.op == 7) = false ∧ (x.op == 11) = false ∧ (x.op == 12) = false ∧ (x.op == 13) = false)) := by
    show _ ∨ _
    simp only [beq_iff_eq, beq_eq_false_iff_ne]
    omega
  obtain ⟨m4, m5, m6, m1⟩ := HX5
  rcases HOP.out with e2 | ⟨e2, e3⟩ | ⟨e2, e3, e4⟩ | ⟨e2, e3, e4, e5⟩ | ⟨e2, e3, e4, e5, e6⟩ | ⟨e2, e3, e4, e5, e6, e7⟩ | ⟨e2, e3, e4, e5, e6, e7, e11⟩ | ⟨e2, e3, e4, e5, e6, e7, e11, e12⟩ | ⟨e2, e3, e4, e5, e6, e7, e11, e12, e13⟩ | ⟨e2, e3, e4, e5, e6, e7, e11, e12, e13⟩
  · have HO : Hid (x.op = 2) := by show _ = _; simpa using e2
    clear m4 m5 m6 m1
    go_wp2_with (refine load_blk 100 43 Try.underlying100 rfl Try.sizeSt (by rfl) (.tmp 3) (by rfl) n (by rfl) S2 (stA_size _) ?_)
    refine (HWT.out q w2 x.y hq (Below.refl _ _)).mono ?_
    rintro e w3 ⟨rfl, hWt, hO, hz3⟩
    obtain ⟨wo', wc', hP, hS⟩ := hWt
    have S3 : w3.heap[n]? = some (.cells (stA q) 100 (0, 0)) := (hO n (Nat.le_refl _) (by omega)).trans S2
    have I3 := (hO (n + 1) (by omega) (by omega)).trans HMH.out.i
    have v1 : w3.cell? ⟨n + 1, 1, none⟩ = some (.int .i64 x.x) := (cell_block I3).1 1
    have H2 := wait_prog q x.x hq hP (by simp; omega)
    rw [hgg] at H2
    have H2H : Hid (Calls Try.prog 57 #[.pointer (some ⟨g, 0, none⟩), .agg (stA q), .int .i64 x.x] w3 _) := H2
    have HSS : Hid (PStep k wo wo' w w3) := hS
    clear hO I3 hP hS H2 i0 i1 i2 s0 s1 S2
    go_wp2_with (refine load_blk 100 43 Try.underlying100 rfl Try.sizeSt (by rfl) (.tmp 3) (by rfl) n (by rfl) S3 (stA_size _) ?_)
    refine H2H.out.mono ?_
    rintro e w4 ⟨rfl, wo2, wc2, hP2, hS2⟩
    have HF : Hid (Waits k wo w steps hd room ((W ++ [q.set 0 x.y]) ++ [q.set 0 x.x]) w4) := ⟨wo2, wc2, hP2, HSS.out.trans hS2⟩
    clear hP2 hS2
    go_wp2_with fail
    go_ret
    have ho := HO.out
    exact ⟨false, rfl, fun _ => ⟨rfl, HF.out⟩, fun h => by omega, fun h => by omega, fun h => by omega⟩
  · have HO : Hid (x.op = 3) := by show _ = _; simpa using e3
    clear m4 m5 m6 m1
    go_wp2_with (refine load_blk 100 43 Try.underlying100 rfl Try.sizeSt (by rfl) (.tmp 3) (by rfl) n (by rfl) S2 (stA_size _) ?_)
    refine (HWT.out q w2 x.x hq (Below.refl _ _)).mono ?_
    rintro e w3 ⟨rfl, hWt, _, _⟩
    have HF : Hid (Waits k wo w steps hd room (W ++ [q.set 0 x.x]) w3) := hWt
    clear hWt
    go_wp2_with fail
    go_ret
    have ho := HO.out
    refine ⟨false, rfl, fun h => by omega, fun h => by omega, fun h => by omega, fun _ _ _ _ => ⟨rfl, ?_⟩⟩
    have : Mt.oneP k.t q x = (q.set 0 x.x, true) := by unfold Mt.oneP; rw [if_neg (by omega), if_pos ho]
    rw [this, addIf_yes]; exact HF.out
  · have HO : Hid (x.op = 4) := by show _ = _; simpa using e4
    have h4 := m4 HO.out
    obtain ⟨X, hX⟩ : ∃ X : Nat, x.x = (X : Int) := ⟨x.x.toNat, by omega⟩
    have hX11 : X < 11 := by omega
    have hX11' : (X : Int) < 11 := by omega
    rw [hX] at i1
    obtain ⟨sm, fm⟩ := HSJ.out (32 + X) (by omega)
    obtain ⟨S3, B3, _⟩ := HMH.out.set hq (32 + X) (pos : Int)
    have HB3 : Hid (Below n w2 (w2.setCell ⟨n, 32 + X, none⟩ (.int .i64 (pos : Int)))) := B3
    have HXX : Hid (x.x = (X : Int)) := hX
    clear m4 m5 m6 m1 S2 B3 h4 hX
    go_wp2_with (refine load_blk 100 43 Try.underlying100 rfl Try.sizeSt (by rfl) (.tmp 3) (by rfl) n (by rfl) S3 (stA_size _) ?_)
    refine (HWT.out _ _ _ (by simp [hq]) HB3.out).mono ?_
    rintro e w3 ⟨rfl, hWt, _, _⟩
    have HF : Hid (Waits k wo w steps hd room (W ++ [(q.set (32 + X) (pos : Int)).set 0 ((pc : Int) + 1)]) w3) := hWt
    clear hWt
    go_wp2_with fail
    go_ret
    have ho := HO.out
    refine ⟨false, rfl, fun h => by omega, fun h => by omega, fun h => by omega, fun _ _ _ _ => ⟨rfl, ?_⟩⟩
    have : Mt.oneP k.t q x = ((q.set (32 + X) (pos : Int)).set 0 ((pc : Int) + 1), true) := by unfold Mt.oneP; rw [if_neg (by omega), if_neg (by omega), if_pos ho, HXX.out, hp0, hp1]; rfl
    rw [this, addIf_yes]; exact HF.out
  · have HO : Hid (x.op = 5) := by show _ = _; simpa using e5
    have h5 := m5 HO.out
    obtain ⟨X, hX⟩ : ∃ X : Nat, x.y = (X : Int) := ⟨x.y.toNat, by omega⟩
    have hX11 : X < 11 := by omega
    have hX11' : (X : Int) < 11 := by omega
    rw [hX] at i2
    obtain ⟨sm, fm⟩ := HSJ.out (32 + X) (by omega)
    have HXX : Hid (x.y = (X : Int)) := hX
    have HON : Hid (Mt.oneP k.t q x = (q.set 0 x.x, Mt.gt q (32 + X) != (pos : Int))) := by
      show _ = _
      have ho := HO.out
      unfold Mt.oneP; rw [if_neg (by omega), if_neg (by omega), if_neg (by omega), if_pos ho, hX, hp1]; rfl
    have S3 : w2.drew.heap[n]? = some (.cells (stA q) 100 (0, 0)) := S2
    clear m4 m5 m6 m1 S2 h5 hX fm
    cases hmk : (Mt.gt q (32 + X) != (pos : Int))
    · go_wp2_with fail
      go_region
      go_wp2_with fail
      go_ret
      have ho := HO.out
      refine ⟨false, rfl, fun h => by omega, fun h => by omega, fun h => by omega, fun _ _ _ _ => ⟨rfl, ?_⟩⟩
      rw [HON.out, hmk, addIf_no]
      exact waits_none HP0.out (by rw [hnn]; exact HB2.out.drew)
    · go_wp2_with fail
      go_region
      go_wp2_with (refine load_blk 100 43 Try.underlying100 rfl Try.sizeSt (by rfl) (.tmp 3) (by rfl) n (by rfl) S3 (stA_size _) ?_)
      refine (HWT.out q w2.drew x.x hq (Below.refl _ _).drew).mono ?_
      rintro e w3 ⟨rfl, hWt, _, _⟩
      have HF : Hid (Waits k wo w steps hd room (W ++ [q.set 0 x.x]) w3) := hWt
      clear hWt
      go_wp2_with fail
      go_ret
      have ho := HO.out
      refine ⟨false, rfl, fun h => by omega, fun h => by omega, fun h => by omega, fun _ _ _ _ => ⟨rfl, ?_⟩⟩
      rw [HON.out, hmk, addIf_yes]; exact HF.out
  · have HO : Hid (x.op = 6) := by show _ = _; simpa using e6
    have h6 := m6 (Or.inl HO.out)
    obtain ⟨X, hX⟩ : ∃ X : Nat, x.x = (X : Int) := ⟨x.x.toNat, by omega⟩
    have hX10 : X < 10 := by omega
    have hX10' : (X : Int) < 10 := by omega
    rw [hX] at i1
    obtain ⟨sm, fm⟩ := HSJ.out (22 + X) (by omega)
    obtain ⟨S3, B3, _⟩ := HMH.out.set hq (22 + X) (pos : Int)
    have HB3 : Hid (Below n w2 (w2.setCell ⟨n, 22 + X, none⟩ (.int .i64 (pos : Int)))) := B3
    have HXX : Hid (x.x = (X : Int)) := hX
    clear m4 m5 m6 m1 S2 B3 h6 hX
    go_wp2_with (refine load_blk 100 43 Try.underlying100 rfl Try.sizeSt (by rfl) (.tmp 3) (by rfl) n (by rfl) S3 (stA_size _) ?_)
    refine (HWT.out _ _ _ (by simp [hq]) HB3.out).mono ?_
    rintro e w3 ⟨rfl, hWt, _, _⟩
    have HF : Hid (Waits k wo w steps hd room (W ++ [(q.set (22 + X) (pos : Int)).set 0 ((pc : Int) + 1)]) w3) := hWt
    clear hWt
    go_wp2_with fail
    go_ret
    have ho := HO.out
    refine ⟨false, rfl, fun h => by omega, fun h => by omega, fun h => by omega, fun _ _ _ _ => ⟨rfl, ?_⟩⟩
    have : Mt.oneP k.t q x = ((q.set (22 + X) (pos : Int)).set 0 ((pc : Int) + 1), true) := by unfold Mt.oneP; rw [if_neg (by omega), if_neg (by omega), if_neg (by omega), if_neg (by omega), if_pos ho, HXX.out, hp0, hp1]; rfl
    rw [this, addIf_yes]; exact HF.out
  · have HO : Hid (x.op = 7) := by show _ = _; simpa using e7
    have h7 := m6 (Or.inr HO.out)
    obtain ⟨X, hX⟩ : ∃ X : Nat, x.x = (X : Int) := ⟨x.x.toNat, by omega⟩
    have hX10 : X < 10 := by omega
    rw [hX] at i1
    have HXX : Hid (x.x = (X : Int)) := hX
    have HCG : Hid (Calls Try.prog 70 #[.pointer (some ⟨n, 0, none⟩), .int .i64 (X : Nat)] w2 _) := closeGroup_prog w2 n q hq S2 X hX10
    clear m4 m5 m6 m1 S2 h7 hX
    go_wp2_with fail
    refine HCG.out.mono ?_
    rintro e w3 ⟨rfl, S3, b3, o3, z3⟩
    have HB3 : Hid (Below n w2 w3) := b3 n (Nat.le_refl _)
    clear b3 o3 i0 i1 i2 s0 s1
    go_wp2_with (refine load_blk 100 43 Try.underlying100 rfl Try.sizeSt (by rfl) (.tmp 3) (by rfl) n (by rfl) S3 (stA_size _) ?_)
    refine (HWT.out _ _ _ (by simp [hq]) HB3.out).mono ?_
    rintro e w4 ⟨rfl, hWt, _, _⟩
    have HF : Hid (Waits k wo w steps hd room (W ++ [((q.set (2 + 2 * X) (Mt.gt q (22 + X))).set (2 + (2 * X + 1)) (pos : Int)).set 0 ((pc : Int) + 1)]) w4) := hWt
    clear hWt
    go_wp2_with fail
    go_ret
    have ho := HO.out
    refine ⟨false, rfl, fun h => by omega, fun h => by omega, fun h => by omega, fun _ _ _ _ => ⟨rfl, ?_⟩⟩
    have : Mt.oneP k.t q x = (((q.set (2 + 2 * X) (Mt.gt q (22 + X))).set (2 + (2 * X + 1)) (pos : Int)).set 0 ((pc : Int) + 1), true) := by
      have hxx := HXX.out
      unfold Mt.oneP
      rw [if_neg (by omega), if_neg (by omega), if_neg (by omega), if_neg (by omega), if_neg (by omega), if_pos ho, hp0, hp1, show (2 * x.x).toNat = 2 * X by omega, show (2 * x.x + 1).toNat = 2 * X + 1 by omega, show x.x.toNat = X by omega]
    rw [this, addIf_yes]; exact HF.out
  · have HO : Hid (x.op = 11) := by show _ = _; simpa using e11
    have HI2 : w2.heap[n + 1]? = some (.cells (insA x) 70 (0, 0)) := HMH.out.i
    have HSB : Hid (Calls Try.prog 71 #[.pointer (some ⟨g, 0, none⟩), .agg (stA q), .agg (insA x)] w2 fun e w' => e = .returned (.tuple #[]) ∧ SubDone k wo P w2 q x w') := HSUB.out w2 HPZ.out HO.out
    clear m4 m5 m6 m1
    go_wp2_with (first | (refine load_blk 100 43 Try.underlying100 rfl Try.sizeSt (by rfl) (.tmp 3) (by rfl) n (by rfl) S2 (stA_size _) ?_) | (refine load_blk 70 4 Try.underlying70 rfl Try.sizeIn (by rfl) (.tmp 5) (by rfl) (n + 1) (by rfl) HI2 (by rfl) ?_))
    refine HSB.out.mono ?_
    rintro e w3 ⟨rfl, hSD⟩
    have HF : Hid (SubDone k wo P w q x w3) := by
      obtain ⟨q', b, st', hd', room', wo', wc', W', d1, d2, d3, d4⟩ := hSD
      exact ⟨q', b, st', hd', room', wo', wc', W', d1, d2, d3, (PStep.below (by rw [hnn]; exact HB2.out)).trans d4⟩
    clear hSD
    go_wp2_with fail
    go_ret
    have ho := HO.out
    exact ⟨false, rfl, fun h => by omega, fun h => by omega, fun _ => ⟨rfl, HF.out⟩, fun _ h => absurd ho h⟩
  · have HO : Hid (x.op = 12) := by show _ = _; simpa using e12
    clear m4 m5 m6 m1
    go_wp2_with fail
    go_ret
    have ho := HO.out
    exact ⟨true, rfl, fun h => by omega, fun _ => ⟨rfl, waits_none HP0.out (by rw [hnn]; exact HB2.out)⟩, fun h => by omega, fun _ _ h => absurd ho h⟩
  · have HO : Hid (x.op = 13) := by show _ = _; simpa using e13
    clear m4 m5 m6 m1
    go_wp2_with fail
    go_ret
    have ho := HO.out
    exact ⟨true, rfl, fun h => by omega, fun _ => ⟨rfl, waits_none HP0.out (by rw [hnn]; exact HB2.out)⟩, fun h => by omega, fun _ _ _ h => absurd ho h⟩
  · have HO : Hid (x.op = 1 ∨ x.op = 8 ∨ x.op = 9 ∨ x.op = 10) := by
      show _ ∨ _
      simp only [beq_eq_false_iff_ne] at *
      omega
    have HI2 : w2.heap[n + 1]? = some (.cells (insA x) 70 (0, 0)) := HMH.out.i
    have HSB : Hid (Calls Try.prog 72 #[.pointer (some ⟨g, 0, none⟩), .agg (stA q), .agg (insA x)] w2 fun e w' => e = .returned (.tuple #[]) ∧ Waits k wo w2 steps hd room (addIf W (Mt.oneP k.t q x).2 (Mt.oneP k.t q x).1) w') := HCMP.out w2 HPZ.out HO.out
    clear m4 m5 m6 m1
    go_wp2_with (first | (refine load_blk 100 43 Try.underlying100 rfl Try.sizeSt (by rfl) (.tmp 3) (by rfl) n (by rfl) S2 (stA_size _) ?_) | (refine load_blk 70 4 Try.underlying70 rfl Try.sizeIn (by rfl) (.tmp 5) (by rfl) (n + 1) (by rfl) HI2 (by rfl) ?_))
    refine HSB.out.mono ?_
    rintro e w3 ⟨rfl, hSD⟩
    have HF : Hid (Waits k wo w steps hd room (addIf W (Mt.oneP k.t q x).2 (Mt.oneP k.t q x).1) w3) := by
      obtain ⟨wo', wc', d3, d4⟩ := hSD
      exact ⟨wo', wc', d3, (PStep.below (by rw [hnn]; exact HB2.out)).trans d4⟩
    clear hSD
    go_wp2_with fail
    go_ret
    have ho := HO.out
    exact ⟨false, rfl, fun h => by omega, fun h => by omega, fun h => by omega, fun _ _ _ _ => ⟨rfl, HF.out⟩⟩
end
end Go.Proofs.Ytebpgfodelggoab
