import Derived.Test.YtebpgfodelggoaaGreatC36
import Derived.Test.YtebpgfodelggoaaGreatC35
/- THE PROGRAM'S STATES (43 numbers): its first one, and the one behind a run of its own. -/
set_option linter.unusedVariables false
namespace Mt

/-- The state q with the places and the notes of e. -/
def withBoth (q e : Sta) : Sta := q.take 2 ++ ((e.drop 2).take 30 ++ q.drop 32)
theorem withBoth_len (q e : Sta) (hq : q.length = 43) (he : e.length = 43) : (withBoth q e).length = 43 := by simp [withBoth, hq, he]
theorem gt_withBoth (s r : Sta) (hs : s.length = 43) (hr : r.length = 43) (j : Nat) : gt (withBoth s r) j = if 2 ≤ j ∧ j < 32 then gt r j else gt s j := by
  unfold withBoth gt
  simp only [List.getD_eq_getElem?_getD]
  by_cases h1 : j < 2
  · rw [if_neg (by omega), List.getElem?_append_left (by simp; omega), List.getElem?_take_of_lt h1]
  · rw [List.getElem?_append_right (by simp; omega)]
    have l1 : (s.take 2).length = 2 := by simp [hs]
    have l2 : ((r.drop 2).take 30).length = 30 := by simp [hr]
    by_cases h2 : j < 32
    · rw [if_pos (by omega), List.getElem?_append_left (by omega), l1, List.getElem?_take_of_lt (by omega), List.getElem?_drop, show 2 + (j - 2) = j by omega]
    · rw [if_neg (by omega), List.getElem?_append_right (by omega), l1, l2, List.getElem?_drop, show 32 + (j - 2 - 30) = j by omega]
def apartQ (q : Sta) (x : Ins) (e : Sta) : Sta := if x.x = 0 then e.set 0 x.y else if x.x = 1 then (withBoth q e).set 0 x.y else q.set 0 x.y

theorem apart_sim {E : Env} {A : Int → Att} {s q r e : Sta} {ok : Bool} (hK : Known E.c A) (hg : Good E.c.length E.t.size s) (h : Sim A s q) (ho : (E.ins s).op = 11)
    (hr : ok = true → Good E.c.length E.t.size r) (hre : ok = true → Sim A r e) (hrl : r.length = 44)
    (hk : ok = true → (A (gt r 0)).y = (A (gt s 0 + 1)).y ∧ (∀ k ∈ (A (gt s 0 + 1)).B, gt r (22 + k.toNat) = gt s (22 + k.toNat)) ∧ ((E.ins r).op = 12 ∨ (E.ins r).op = 13))
    (hf : (apartP s (E.ins s) r ok).2 = true) : Sim A (apartP s (E.ins s) r ok).1 (apartQ q (E.ins s) e) := by
  have hpc : ((pcOf s : Nat) : Int) = gt s 0 := by have := hg.pc0; unfold pcOf; omega
  obtain ⟨hn1, hru⟩ := known_att hK hg.pcOf_lt (show (E.c.getD (pcOf s) ins0).op ≠ 13 by have : (E.ins s).op ≠ 13 := by omega
                                                                                         exact this)
  rw [hpc] at hru
  obtain ⟨a1, a2, a3, a4⟩ := hru.2.2.2.2.2.2.2.1 ho
  have hend : ok = true → A (gt r 0) = ⟨(A (gt s 0)).G, (A (gt s 0)).d, (E.ins s).y, (A (gt s 0)).G⟩ := fun hok => by
    obtain ⟨k1, k2, k3⟩ := hk hok
    rw [a1] at k1
    dsimp only at k1
    have g := hr hok
    have hpr : ((pcOf r : Nat) : Int) = gt r 0 := by have := g.pc0; unfold pcOf; omega
    rcases Nat.lt_or_ge (pcOf r + 1) E.c.length with hlt | hge
    · have rr := hK.rule _ hlt
      rw [hpr] at rr
      have h12 : (E.c.getD (pcOf r) ins0).op = 12 := by
        have := rr.2.2.2.2.2.2.2.2.2.2.2.2
        have k3' : (E.c.getD (pcOf r) ins0).op = 12 ∨ (E.c.getD (pcOf r) ins0).op = 13 := k3
        omega
      have y1 := rr.2.2.2.2.2.2.2.2.1 h12
      have ey : gt r 0 = (E.ins s).y - 1 := by
        rw [k1] at y1
        show gt r 0 = (E.c.getD (pcOf s) ins0).y - 1
        omega
      rw [ey]; exact a3
    · exfalso
      have hp := g.pcOf_lt
      have e1 : pcOf r = E.c.length - 1 := by omega
      have st := hK.stop
      rw [← e1, hpr] at st
      rw [st] at k1
      dsimp only at k1
      omega
  unfold apartP at hf ⊢
  unfold apartQ
  by_cases x0 : (E.ins s).x = 0
  · rw [if_pos x0] at hf ⊢
    rw [if_pos x0]
    refine SimAt.to ?_
    have h2 := hre hf
    unfold Sim at h2
    rw [hend hf] at h2
    have a2' : A (E.ins s).y = A (gt s 0) := a2
    rw [a2']
    exact h2.less (fun k hk => hk) (Int.le_refl _)
  rw [if_neg x0] at hf ⊢
  rw [if_neg x0]
  by_cases x1 : (E.ins s).x = 1
  · rw [if_pos x1] at hf ⊢
    rw [if_pos x1]
    refine SimAt.to ?_
    have a2' : A (E.ins s).y = A (gt s 0) := a2
    rw [a2']
    have h2 := hre hf
    have h3 := h2
    unfold Sim at h3
    rw [hend hf] at h3
    obtain ⟨k1, k2, k3⟩ := hk hf
    rw [a1] at k2
    have h1 : SimAt (A (gt s 0)) s q := h
    have gw := gt_withAt s r h1.ls hrl
    have gb := gt_withBoth q e h1.lq h3.lq
    refine ⟨withAt_len s r h1.ls hrl, withBoth_len q e h1.lq h3.lq, fun i hi => ?_, fun k hkk => ?_, fun j hj => ?_⟩
    · rw [gw, gb]
      by_cases hh : 2 ≤ i
      · rw [if_pos (by omega), if_pos (by omega)]; exact h3.low i hi
      · rw [if_neg (by omega), if_neg (by omega)]; exact h1.low i hi
    · have hR := hru.2.2.2.2.2.2.2.2.2.2.2.1 k hkk
      rw [gw, gb, if_pos (by omega), if_neg (by omega), h3.notes k hkk, k2 k hkk]
    · rw [gw, gb, if_neg (by omega), if_neg (by omega)]; exact h1.marks j hj
  · rw [if_neg x1] at hf ⊢
    rw [if_neg x1]
    exact Sim.jump h a2

/-- The first state of a run, as the program has it. -/
def startQ (p : Int) : Sta := 0 :: p :: (nowhere ++ (List.replicate 10 0 ++ List.replicate 11 (-1)))
theorem startQ_len (p : Int) : (startQ p).length = 43 := by simp [startQ, nowhere]
theorem start_sim {c : List Ins} {A : Int → Att} (hK : Known c A) (p : Int) : Sim A (startSt p) (startQ p) := by
  have e0 : gt (startSt p) 0 = 0 := rfl
  unfold Sim
  rw [e0, hK.start]
  refine ⟨startSt_len p, startQ_len p, fun i hi => ?_, fun k hk => by simp at hk, fun j hj => by dsimp only at hj; omega⟩
  unfold gt startQ startSt
  simp only [List.getD_eq_getElem?_getD]
  match i with
  | 0 => rfl
  | 1 => rfl
  | i + 2 =>
    simp only [List.getElem?_cons_succ]
    rw [List.getElem?_append_left (by simp [nowhere]; omega), List.getElem?_append_left (by simp [nowhere]; omega)]
end Mt
/- The program's player in memory. -/
set_option linter.unusedVariables false
set_option linter.unusedSimpArgs false
namespace Go.Proofs.YtebpgfodelggoaaGreat
open Go.RowKit

/-- A state's 43 cells. -/
def stC (q : List Int) : List Value := (List.range 43).map fun i => Value.int .i64 (Mt.gt q i)
def stA (q : List Int) : Array Value := (stC q).toArray
theorem stC_len (q : List Int) : (stC q).length = 43 := by simp [stC]
theorem stA_size (q : List Int) : (stA q).size = 43 := by simp [stA, stC]
theorem stA_at (q : List Int) (j : Nat) (hj : j < 43) : (stA q)[j]? = some (.int .i64 (Mt.gt q j)) := by
  simp [stA, stC, hj]
theorem stA_list (q : List Int) : (stA q).toList = stC q := rfl
theorem stA_all (q : List Int) : (stA q).all (·.oneCell') = true := by
  rw [Array.all_eq_true]
  intro i hi
  simp [stA, stC, Value.oneCell']
theorem stC_all (q : List Int) : ∀ u ∈ stC q, u.oneCell' = true := by
  intro u hu
  simp only [stC, List.mem_map] at hu
  obtain ⟨i, _, rfl⟩ := hu
  rfl
theorem stA_set (q : List Int) (hq : q.length = 43) (j : Nat) (v : Int) : (stA q).setIfInBounds j (.int .i64 v) = stA (q.set j v) := by
  apply Array.ext
  · simp [stA, stC]
  · intro i h1 h2
    have hi : i < 43 := by simpa [stA, stC] using h2
    rw [Array.getElem_setIfInBounds (by simpa [stA, stC] using hi)]
    simp only [stA, stC, List.getElem_toArray, List.getElem_map, List.getElem_range]
    rw [Mt.gt_set]
    by_cases e : j = i
    · rw [if_pos e, if_pos ⟨e, by omega⟩]
    · rw [if_neg e, if_neg (by omega)]
def oInts (w : World) (v : Value) (b : List Int) : Prop := w.ownsRow 0 3 1 v b.length (b.map (Value.int .i64))
def oBools (w : World) (v : Value) (b : List Bool) : Prop := w.ownsRow 0 4 1 v b.length (b.map Value.bool)
theorem Tryz.sizeSt : (Tryz.prog.info? 83).map (·.size) = some 43 := by kernel_rfl

/-- What a player has from the beginning to the end. -/
structure Pk where
  L : Nat
  g : Nat
  gc : Nat
  gl : Nat
  gs : Nat
  gh : Nat
  cc : Nat
  cl : Nat
  cs : Nat
  ch : Nat
  c : List Mt.Ins
  t : ByteArray
  budget : Int
  lp : List Int
  sl : List Int
/-- The player, its steps, its table, its states that wait. -/
structure PlayAt (k : Pk) (w : World) (steps : Int) (hd : List Bool) (room : Int) (wo : Option Addr) (wc : Nat) (W : List (List Int)) : Prop where
  cell : w.heap[k.g]? = some (.cells #[.slice (some ⟨k.gc, 0, none⟩) k.c.length k.cc, .string k.t, .int .i64 k.budget, .int .i64 steps, .int .i64 ((k.t.size : Int) + 1), .slice (some ⟨k.gl, 0, none⟩) k.c.length k.cl, .slice (some ⟨k.gs, 0, none⟩) k.c.length k.cs, .slice (some ⟨k.gh, 0, none⟩) hd.length k.ch, .int .i64 room, .slice wo W.length wc] 79 (0, 0))
  code : ownIns w 0 (.slice (some ⟨k.gc, 0, none⟩) k.c.length k.cc) k.c
  lps : oInts w (.slice (some ⟨k.gl, 0, none⟩) k.lp.length k.cl) k.lp
  sls : oInts w (.slice (some ⟨k.gs, 0, none⟩) k.sl.length k.cs) k.sl
  hds : oBools w (.slice (some ⟨k.gh, 0, none⟩) hd.length k.ch) hd
  wt : w.ownsRow k.L 83 43 (.slice wo W.length wc) W.length (W.flatMap stC)
  lo : k.L ≤ k.g ∧ k.L ≤ k.gh
  ll : k.lp.length = k.c.length
  ls : k.sl.length = k.c.length
  apg : k.gc ≠ k.g ∧ k.gl ≠ k.g ∧ k.gs ≠ k.g ∧ k.gh ≠ k.g
  aph : k.gc ≠ k.gh ∧ k.gl ≠ k.gh ∧ k.gs ≠ k.gh
  apw : blk wo ≠ some k.g ∧ blk wo ≠ some k.gc ∧ blk wo ≠ some k.gl ∧ blk wo ≠ some k.gs ∧ blk wo ≠ some k.gh
/-- What turns: the player's own block, the table's and the waiting states'. -/
structure PStep (k : Pk) (wo wo' : Option Addr) (w w' : World) : Prop where
  os : w'.os = w.os
  tape : w'.tape = w.tape
  output : w'.output = w.output
  size : w.heap.size ≤ w'.heap.size
  block : ∀ i, i < w.heap.size → i ≠ k.g → i ≠ k.gh → blk wo ≠ some i → w'.heap[i]? = w.heap[i]?
  sub : ∀ i, i < w.heap.size → blk wo' = some i → blk wo = some i
theorem PStep.refl (k : Pk) (wo : Option Addr) (w : World) : PStep k wo wo w w := ⟨rfl, rfl, rfl, Nat.le_refl _, fun _ _ _ _ _ => rfl, fun _ _ h => h⟩
theorem PStep.trans {k : Pk} {wo w1 w2 : Option Addr} {a b c : World} (h : PStep k wo w1 a b) (j : PStep k w1 w2 b c) : PStep k wo w2 a c :=
  ⟨j.os.trans h.os, j.tape.trans h.tape, j.output.trans h.output, Nat.le_trans h.size j.size,
   fun i hi h1 h2 h3 => (j.block i (Nat.lt_of_lt_of_le hi h.size) h1 h2 (fun e => h3 (h.sub i hi e))).trans (h.block i hi h1 h2 h3), fun i hi ho => h.sub i hi (j.sub i (Nat.lt_of_lt_of_le hi h.size) ho)⟩
theorem PStep.below {k : Pk} {wo : Option Addr} {a b : World} (h : Below a.heap.size a b) : PStep k wo wo a b := ⟨h.os, h.tape, h.output, h.size, fun i hi _ _ _ => h.block i hi, fun _ _ h => h⟩
theorem PStep.drew {k : Pk} {wo w1 : Option Addr} {a w : World} (h : PStep k wo w1 a w) : PStep k wo w1 a w.drew := h.trans (PStep.below (Below.refl _ _).drew)
theorem PStep.set {k : Pk} {wo w1 : Option Addr} {a w : World} (h : PStep k wo w1 a w) {p : Addr} (hp : p.block = k.g ∨ p.block = k.gh ∨ blk w1 = some p.block) (u : Value) : PStep k wo w1 a (w.setCell p u) :=
  h.trans ⟨rfl, rfl, rfl, by simp [World.setCell], fun i hi h1 h2 h3 => Below.heap_setCell _ _ _ _ (fun e => by rcases hp with hp | hp | hp; exact h1 (by rw [e, hp]); exact h2 (by rw [e, hp]); exact h3 (by rw [e, hp])), fun _ _ h => h⟩

section
variable {k : Pk} {w : World} {steps : Int} {hd : List Bool} {room : Int} {wo : Option Addr} {wc : Nat} {W : List (List Int)}
theorem PlayAt.lt (h : PlayAt k w steps hd room wo wc W) : k.g < w.heap.size ∧ k.gc < w.heap.size ∧ k.gl < w.heap.size ∧ k.gs < w.heap.size ∧ k.gh < w.heap.size ∧ (∀ i, blk wo = some i → k.L ≤ i ∧ i < w.heap.size) :=
  ⟨(Array.getElem?_eq_some_iff.1 h.cell).1, (World.ownsRow.lt h.code k.gc rfl).2, (World.ownsRow.lt h.lps k.gl rfl).2, (World.ownsRow.lt h.sls k.gs rfl).2, (World.ownsRow.lt h.hds k.gh rfl).2, fun i hi => World.ownsRow.lt h.wt i (by rw [ownBlock_blk]; exact hi)⟩
theorem PlayAt.same {w' : World} (h : PlayAt k w steps hd room wo wc W) (hg : w'.heap[k.g]? = w.heap[k.g]?) (hc : w'.heap[k.gc]? = w.heap[k.gc]?) (hl : w'.heap[k.gl]? = w.heap[k.gl]?) (hs : w'.heap[k.gs]? = w.heap[k.gs]?) (hh : w'.heap[k.gh]? = w.heap[k.gh]?) (hw : ∀ i, blk wo = some i → w'.heap[i]? = w.heap[i]?) : PlayAt k w' steps hd room wo wc W :=
  ⟨by rw [hg]; exact h.cell, row_keep h.code (fun q hq => by cases hq; exact hc), row_keep h.lps (fun q hq => by cases hq; exact hl), row_keep h.sls (fun q hq => by cases hq; exact hs), row_keep h.hds (fun q hq => by cases hq; exact hh), row_keep h.wt hw, h.lo, h.ll, h.ls, h.apg, h.aph, h.apw⟩
theorem PlayAt.below {w' : World} (h : PlayAt k w steps hd room wo wc W) (hb : Below w.heap.size w w') : PlayAt k w' steps hd room wo wc W := by
  obtain ⟨l1, l2, l3, l4, l5, l6⟩ := h.lt
  exact h.same (hb.block _ l1) (hb.block _ l2) (hb.block _ l3) (hb.block _ l4) (hb.block _ l5) (fun i hi => hb.block _ (l6 i hi).2)
theorem PlayAt.drew (h : PlayAt k w steps hd room wo wc W) : PlayAt k w.drew steps hd room wo wc W := h.same rfl rfl rfl rfl rfl (fun _ _ => rfl)
theorem PStep.low {wo' : Option Addr} {w' : World} (h : PlayAt k w steps hd room wo wc W) (hs : PStep k wo wo' w w') (hL : k.L ≤ w.heap.size) : Below k.L w w' :=
  ⟨hs.os, hs.tape, hs.output, hs.size, fun i hi => hs.block i (by omega) (fun e => by have := h.lo.1; omega) (fun e => by have := h.lo.2; omega) (fun e => by have := (h.lt.2.2.2.2.2 i e).1; omega)⟩
theorem PlayAt.cells (h : PlayAt k w steps hd room wo wc W) : w.cell? ⟨k.g, 0, none⟩ = some (.slice (some ⟨k.gc, 0, none⟩) k.c.length k.cc) ∧ w.cell? ⟨k.g, 1, none⟩ = some (.string k.t) ∧ w.cell? ⟨k.g, 2, none⟩ = some (.int .i64 k.budget) ∧ w.cell? ⟨k.g, 3, none⟩ = some (.int .i64 steps) ∧ w.cell? ⟨k.g, 4, none⟩ = some (.int .i64 ((k.t.size : Int) + 1))
    ∧ w.cell? ⟨k.g, 5, none⟩ = some (.slice (some ⟨k.gl, 0, none⟩) k.c.length k.cl) ∧ w.cell? ⟨k.g, 6, none⟩ = some (.slice (some ⟨k.gs, 0, none⟩) k.c.length k.cs) ∧ w.cell? ⟨k.g, 7, none⟩ = some (.slice (some ⟨k.gh, 0, none⟩) hd.length k.ch) ∧ w.cell? ⟨k.g, 8, none⟩ = some (.int .i64 room) ∧ w.cell? ⟨k.g, 9, none⟩ = some (.slice wo W.length wc) ∧ (∀ j, w.frozen? ⟨k.g, j, none⟩ = false) := by
  have hb := cell_block h.cell
  exact ⟨hb.1 0, hb.1 1, hb.1 2, hb.1 3, hb.1 4, hb.1 5, hb.1 6, hb.1 7, hb.1 8, hb.1 9, hb.2⟩
/-- One of the player's own numbers stored. -/
theorem PlayAt.setSteps (h : PlayAt k w steps hd room wo wc W) (v : Int) : PlayAt k (w.setCell ⟨k.g, 3, none⟩ (.int .i64 v)) v hd room wo wc W := by
  have o : ∀ i, i ≠ k.g → (w.setCell ⟨k.g, 3, none⟩ (.int .i64 v)).heap[i]? = w.heap[i]? := fun i hi => Below.heap_setCell _ _ _ _ hi
  refine ⟨?_, row_keep h.code (fun q hq => by cases hq; exact o _ h.apg.1), row_keep h.lps (fun q hq => by cases hq; exact o _ h.apg.2.1), row_keep h.sls (fun q hq => by cases hq; exact o _ h.apg.2.2.1), row_keep h.hds (fun q hq => by cases hq; exact o _ h.apg.2.2.2), row_keep h.wt (fun q hq => o q (fun e => h.apw.1 (by rw [← e]; exact hq))), h.lo, h.ll, h.ls, h.apg, h.aph, h.apw⟩
  have := Go.heap_setCell_same w k.g 3 _ _ (.int .i64 v) h.cell
  rw [this]; rfl
theorem PlayAt.setRoom (h : PlayAt k w steps hd room wo wc W) (v : Int) : PlayAt k (w.setCell ⟨k.g, 8, none⟩ (.int .i64 v)) steps hd v wo wc W := by
  have o : ∀ i, i ≠ k.g → (w.setCell ⟨k.g, 8, none⟩ (.int .i64 v)).heap[i]? = w.heap[i]? := fun i hi => Below.heap_setCell _ _ _ _ hi
  refine ⟨?_, row_keep h.code (fun q hq => by cases hq; exact o _ h.apg.1), row_keep h.lps (fun q hq => by cases hq; exact o _ h.apg.2.1), row_keep h.sls (fun q hq => by cases hq; exact o _ h.apg.2.2.1), row_keep h.hds (fun q hq => by cases hq; exact o _ h.apg.2.2.2), row_keep h.wt (fun q hq => o q (fun e => h.apw.1 (by rw [← e]; exact hq))), h.lo, h.ll, h.ls, h.apg, h.aph, h.apw⟩
  have := Go.heap_setCell_same w k.g 8 _ _ (.int .i64 v) h.cell
  rw [this]; rfl
/-- A slot of the table stored. -/
theorem PlayAt.setHeld (h : PlayAt k w steps hd room wo wc W) (i : Nat) : PlayAt k (w.setCell ⟨k.gh, i, none⟩ (.bool true)) steps (hd.set i true) room wo wc W := by
  have o : ∀ j, j ≠ k.gh → (w.setCell ⟨k.gh, i, none⟩ (.bool true)).heap[j]? = w.heap[j]? := fun j hj => Below.heap_setCell _ _ _ _ hj
  have hk := (World.ownsRow.stored h.hds i (.bool true)).1
  refine ⟨?_, row_keep h.code (fun q hq => by cases hq; exact o _ h.aph.1), row_keep h.lps (fun q hq => by cases hq; exact o _ h.aph.2.1), row_keep h.sls (fun q hq => by cases hq; exact o _ h.aph.2.2), ?_, row_keep h.wt (fun q hq => o q (fun e => h.apw.2.2.2.2 (by rw [← e]; exact hq))), h.lo, h.ll, h.ls, h.apg, h.aph, h.apw⟩
  · rw [o k.g (Ne.symm h.apg.2.2.2), List.length_set]; exact h.cell
  · unfold oBools
    rw [List.length_set, List.map_set]; exact hk
theorem stFlat_len (W : List (List Int)) : (W.flatMap stC).length = W.length * 43 := by
  induction W with
  | nil => rfl
  | cons a r ih => rw [List.flatMap_cons, List.length_append, stC_len, ih, List.length_cons, Nat.add_mul]; omega
theorem stFlat_take : ∀ (W : List (List Int)) (n : Nat), (W.flatMap stC).take (n * 43) = (W.take n).flatMap stC
  | [], n => by simp
  | a :: r, 0 => by simp
  | a :: r, n + 1 => by
    rw [List.flatMap_cons, List.take_succ_cons, List.flatMap_cons, List.take_append, stC_len, List.take_of_length_le (by rw [stC_len, Nat.add_mul]; omega), show (n + 1) * 43 - 43 = n * 43 by omega, stFlat_take r n]
theorem stFlat_at : ∀ (W : List (List Int)) (i j : Nat), i < W.length → j < 43 → (W.flatMap stC)[i * 43 + j]? = some (.int .i64 (Mt.gt (W.getD i []) j))
  | [], i, j, h, _ => by simp at h
  | a :: r, 0, j, _, hj => by
    rw [List.flatMap_cons, List.getElem?_append_left (by rw [stC_len]; omega)]
    simp [stC, hj]
  | a :: r, i + 1, j, h, hj => by
    rw [List.flatMap_cons, List.getElem?_append_right (by rw [stC_len]; omega), stC_len, show (i + 1) * 43 + j - 43 = i * 43 + j by omega, stFlat_at r i j (by simpa using h) hj]
    simp
/-- The waiting states cut. -/
theorem PlayAt.cut (h : PlayAt k w steps hd room wo wc W) (n : Nat) (hn : n ≤ W.length) : PlayAt k (w.setCell ⟨k.g, 9, none⟩ (.slice wo n wc)) steps hd room wo wc (W.take n) := by
  have o : ∀ i, i ≠ k.g → (w.setCell ⟨k.g, 9, none⟩ (.slice wo n wc)).heap[i]? = w.heap[i]? := fun i hi => Below.heap_setCell _ _ _ _ hi
  have hl : (W.take n).length = n := by rw [List.length_take]; omega
  refine ⟨?_, row_keep h.code (fun q hq => by cases hq; exact o _ h.apg.1), row_keep h.lps (fun q hq => by cases hq; exact o _ h.apg.2.1), row_keep h.sls (fun q hq => by cases hq; exact o _ h.apg.2.2.1), row_keep h.hds (fun q hq => by cases hq; exact o _ h.apg.2.2.2), ?_, h.lo, h.ll, h.ls, h.apg, h.aph, h.apw⟩
  · have := Go.heap_setCell_same w k.g 9 _ _ (.slice wo n wc) h.cell
    rw [this, hl]; rfl
  · rw [hl]
    refine row_keep (w := w) ?_ (fun q hq => o q (fun e => h.apw.1 (by rw [← e]; exact hq)))
    have h0 := h.wt
    refine ⟨by rw [stFlat_len, hl], ?_⟩
    rcases h0.2 with ⟨e, e2⟩ | ⟨gw, cap, cur, e, r1, r2, r3, r4, r5, r6⟩
    · left
      simp only [Value.slice.injEq] at e
      obtain ⟨rfl, _, rfl⟩ := e
      have : n = 0 := by omega
      subst this; exact ⟨rfl, rfl⟩
    · right
      simp only [Value.slice.injEq] at e
      obtain ⟨rfl, _, rfl⟩ := e
      refine ⟨gw, wc, cur, rfl, r1, r2, by omega, r4, r5, ?_⟩
      rw [← stFlat_take, ← r6, List.take_take]
      congr 1
      have := Nat.mul_le_mul_right 43 hn
      omega
theorem wait_mem {w0 w1 : World} {q cap : Nat} {x : List Int} (h : PlayAt k w steps hd room wo wc W) (h0 : Below w.heap.size w w0) (hs0 : w.heap.size < w0.heap.size) (hg : w0.grownBy w1 (blk wo)) (hq : blk wo = some q ∨ q = w0.heap.size)
    (hown : w1.ownsRow k.L 83 43 (.slice (some ⟨q, 0, none⟩) (W.length + 1) cap) (W.length + 1) (W.flatMap stC ++ stC x)) :
    PlayAt k (w1.setCell ⟨k.g, 9, none⟩ (.slice (some ⟨q, 0, none⟩) (W.length + 1) cap)) steps hd room (some ⟨q, 0, none⟩) cap (W ++ [x]) ∧ PStep k wo (some ⟨q, 0, none⟩) w (w1.setCell ⟨k.g, 9, none⟩ (.slice (some ⟨q, 0, none⟩) (W.length + 1) cap)) := by
  obtain ⟨l1, l2, l3, l4, l5, l6⟩ := h.lt
  have n : q ≠ k.g ∧ q ≠ k.gc ∧ q ≠ k.gl ∧ q ≠ k.gs ∧ q ≠ k.gh := by
    rcases hq with e | e
    · exact ⟨fun x => h.apw.1 (by rw [e, x]), fun x => h.apw.2.1 (by rw [e, x]), fun x => h.apw.2.2.1 (by rw [e, x]), fun x => h.apw.2.2.2.1 (by rw [e, x]), fun x => h.apw.2.2.2.2 (by rw [e, x])⟩
    · omega
  obtain ⟨n1, n2, n3, n4, n5⟩ := n
  have kk : ∀ i, i < w.heap.size → blk wo ≠ some i → w1.heap[i]? = w.heap[i]? := fun i hi hr => by rw [hg.block i (by have := h0.size; omega) (fun e => hr e.symm), h0.block i hi]
  have o : ∀ i, i ≠ k.g → (w1.setCell ⟨k.g, 9, none⟩ (.slice (some ⟨q, 0, none⟩) (W.length + 1) cap)).heap[i]? = w1.heap[i]? := fun i hi => Below.heap_setCell _ _ _ _ hi
  have ne : ∀ i, i ≠ q → blk (some (⟨q, 0, none⟩ : Addr)) ≠ some i := fun i hi e => hi (by simp [blk] at e; exact e.symm)
  refine ⟨⟨?_, row_keep h.code (fun i hi => by cases hi; rw [o _ h.apg.1, kk _ l2 h.apw.2.1]), row_keep h.lps (fun i hi => by cases hi; rw [o _ h.apg.2.1, kk _ l3 h.apw.2.2.1]), row_keep h.sls (fun i hi => by cases hi; rw [o _ h.apg.2.2.1, kk _ l4 h.apw.2.2.2.1]), row_keep h.hds (fun i hi => by cases hi; rw [o _ h.apg.2.2.2, kk _ l5 h.apw.2.2.2.2]), ?_, h.lo, h.ll, h.ls, h.apg, h.aph, ne _ (Ne.symm n1), ne _ (Ne.symm n2), ne _ (Ne.symm n3), ne _ (Ne.symm n4), ne _ (Ne.symm n5)⟩, ?_⟩
  · have hc := Go.heap_setCell_same w1 k.g 9 _ _ (.slice (some ⟨q, 0, none⟩) (W.length + 1) cap) (by rw [kk k.g l1 h.apw.1]; exact h.cell)
    rw [hc]; simp
  · have e1 : (W ++ [x]).length = W.length + 1 := by simp
    have e2 : (W ++ [x]).flatMap stC = W.flatMap stC ++ stC x := by simp
    rw [e1, e2]
    exact row_keep hown (fun i hi => o i (by simp [blk] at hi; omega))
  · refine ⟨hg.os.trans h0.os, hg.tape.trans h0.tape, hg.output.trans h0.output, ?_, fun i hi h1 h2 h3 => ?_, fun i hi ho => ?_⟩
    · have := hg.size; have := h0.size; simp [World.setCell]; omega
    · rw [o i h1, kk i hi h3]
    · simp [blk] at ho
      subst ho
      rcases hq with hq | hq
      · exact hq
      · omega
end
end Go.Proofs.YtebpgfodelggoaaGreat
