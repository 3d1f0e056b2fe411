import Derived.Test.YtebpgfodelggoabC40
import Derived.Test.YtebpgfodelggoabC13
import Derived.Test.YtebpgfodelggoabC30
/- Lay; matcher.Code. -/
set_option linter.unusedVariables false
set_option linter.unusedSimpArgs false
namespace Go.Proofs.Ytebpgfodelggoab
open Go.RowKit

theorem Try.sizeLy : (Try.prog.info? 108).map (·.size) = some 4 := by kernel_rfl
def lyA (b : Mt.PB) (so ao : Option Addr) (sc ac : Nat) : Array Value := #[.slice so b.seqs.length sc, .slice ao b.atoms.length ac, .slice none 0 0, .int .i64 0]
theorem layer_new {w w2 : World} {b : Mt.PB} {so ao : Option Addr} {sc ac L0 : Nat} (h : TreeAt L0 w b so ao sc ac) (hb : Below w.heap.size w w2) (hg : w2.heap[w.heap.size + 1]? = some (.cells (lyA b so ao sc ac) 108 (0, 0))) :
    LAt w.heap.size w2 (w.heap.size + 1) b so ao sc ac none 0 [] 0 := by
  have ls : ∀ k, blk so = some k → k < w.heap.size := fun k hk => (World.ownsRow.lt h.seqs k (by rw [ownBlock_blk]; exact hk)).2
  have la : ∀ k, blk ao = some k → k < w.heap.size := fun k hk => (World.ownsRow.lt h.atoms k (by rw [ownBlock_blk]; exact hk)).2
  exact ⟨hg, by omega, (h.below hb).lower (Nat.zero_le _), World.ownsRow_nil _ _ _ _, by simp [blk], fun e => by have := ls _ e; omega, fun e => by have := la _ e; omega, fun q hq => by simp [blk] at hq⟩

set_option maxRecDepth 100000 in
set_option maxHeartbeats 2000000 in
theorem Lay_any {b : Mt.PB} {so ao : Option Addr} {sc ac : Nat} (hna : b.atoms.length ≤ 1000) (hns : b.seqs.length ≤ 1000) (f : Mt.Fs) (hw : f.wf) (hok : f.ok) (hfl : f.flat.length ≤ 1000) (hre : f.re.len ≤ 900) (hs : 0 < b.seqs.length) (hst : Mt.standsF b 0 0 f (b.sAt 0).first (b.sAt 0).next) {L : Nat} {w : World} (hT : TreeAt L w b so ao sc ac) :
    Calls Try.prog 35 #[treeV b so ao sc ac] w fun e w' => ∃ v, e = .returned v ∧ ownIns w' w.heap.size v (f.re.code 0 0 ++ [⟨13, 0, 0, []⟩]) ∧ Below w.heap.size w w' := by
  have HA : Hid (Lays w.heap.size (w.heap.size + 1) b so ao sc ac 0 52 #[.pointer (some ⟨w.heap.size + 1, 0, none⟩), .int .i64 ((0 : Nat) : Int)] f.re) := altL_all hna hns (f.flat.length + 1) f hw hok (by omega) 0 hs hst 0 (by omega) (by omega)
  have HT : Hid (TreeAt L w b so ao sc ac) := hT
  have hlen : (f.re.code 0 0).length = f.re.len := Mt.Re.code_len _ _ _
  clear hT hst hw hok
  unfold treeV
  go_enter Try.func35, Try.ntmps35
  go_wp2_with (refine store_blk 108 4 Try.sizeLy (by rfl) (.tmp 3) (.tmp 5) (by rfl) (w.heap.size + 1) (lyA b so ao sc ac) (by rfl) (by rfl) (by exact heap_b3 _ _ _) (by rfl) (by rfl) (by simp [lyA, Value.oneCell']) ?_; intro w2 r1 r2 r3 r4)
  have B2 : Below w.heap.size w w2 := (((Below.refl _ _).alloc (Nat.le_refl _) _).alloc (by simp) _).trans (r4 _ (by omega))
  have A2 := layer_new HT.out B2 r1
  have H1' := HA.out w2 none 0 [] A2 (by simp; omega)
  simp only [List.nil_append, List.length_nil] at H1'
  have H1 : Hid (Calls Try.prog 52 #[.pointer (some ⟨w.heap.size + 1, 0, none⟩), .int .i64 ((0 : Nat) : Int)] w2 _) := H1'
  have HB2 : Hid (Below w.heap.size w w2 ∧ LAt w.heap.size w2 (w.heap.size + 1) b so ao sc ac none 0 [] 0) := ⟨B2, A2⟩
  clear r1 r2 r3 r4 B2 A2 H1'
  go_wp2_with fail
  refine H1.out.mono ?_
  rintro e w3 ⟨rfl, co3, cc3, hA, hS⟩
  have H2 : Hid (Calls Try.prog 53 #[.pointer (some ⟨w.heap.size + 1, 0, none⟩), .agg (insA ⟨13, 0, 0, []⟩)] w3 _) := put_prog (x := ⟨13, 0, 0, []⟩) hA (by show (f.re.code 0 0).length ≤ _; omega)
  have HS3 : Hid (LStep (w.heap.size + 1) none co3 w2 w3) := hS
  clear hA hS
  unfold insA at H2
  go_wp2_with fail
  refine H2.out.mono ?_
  rintro e w4 ⟨rfl, q, cap, hA, hS⟩
  have c2 := hA.cells.2.2.1
  have HO : Hid (ownIns w4 w.heap.size (.slice (some ⟨q, 0, none⟩) (f.re.code 0 0 ++ [(⟨13, 0, 0, []⟩ : Mt.Ins)]).length cap) (f.re.code 0 0 ++ [⟨13, 0, 0, []⟩])) := hA.code
  have HB4 : Hid (Below w.heap.size w w4) := HB2.out.1.trans ((HS3.out.trans hS).low HB2.out.2 HB2.out.1.size)
  clear hA hS
  generalize hC : f.re.code 0 0 ++ [(⟨13, 0, 0, []⟩ : Mt.Ins)] = C at *
  go_wp2_with fail
  go_ret
  exact ⟨_, rfl, by rw [hC]; exact HO.out, HB4.out⟩

set_option maxRecDepth 100000 in
set_option maxHeartbeats 4000000 in
theorem Code_any (p : ByteArray) (w : World) (hm : p.size ≤ maxLen) : Calls Try.prog 19 #[.string p] w fun e w' => ∃ v, e = .returned (.tuple #[v, .int .i64 (Mt.codeR p).2]) ∧ ownIns w' w.heap.size v (Mt.codeR p).1 ∧ Below w.heap.size w w' := by
  have HC : Hid (Calls Try.prog 34 #[.string p] w (Reads p w)) := read_any p w hm
  by_cases h0 : (Mt.checkR p).1 = 0
  · have ht0 : (Mt.tokens p).2.1 = 0 := by
      unfold Mt.checkR at h0
      split at h0
      · rename_i x; exact absurd h0 x
      · rename_i x; simpa using x
    obtain ⟨f, hw, hok, hfl, hst, hs0, hla, hls, hc1, hc2⟩ := Mt.forest p ht0
    have h300 : f.re.len + 1 ≤ 300 := by
      unfold Mt.checkR at h0
      rw [if_neg (by omega)] at h0
      split at h0
      · simp at h0
      · rename_i x
        have := fun y => x (hc1.2 y)
        omega
    have hcr : Mt.codeR p = (f.re.code 0 0 ++ [⟨13, 0, 0, []⟩], 0) := by unfold Mt.codeR; rw [if_neg (by omega), hc2 h300]
    have hts := (Mt.tokens_small p).2
    rw [hfl] at hts
    rw [hcr]
    have HL : Hid (∀ (so ao : Option Addr) (sc ac L : Nat) (W : World), TreeAt L W (Mt.PB.start.run (Mt.tokens p).1) so ao sc ac → Calls Try.prog 35 #[treeV (Mt.PB.start.run (Mt.tokens p).1) so ao sc ac] W fun e w' => ∃ v, e = .returned v ∧ ownIns w' W.heap.size v (f.re.code 0 0 ++ [⟨13, 0, 0, []⟩]) ∧ Below W.heap.size W w') := fun so ao sc ac L W hT => Lay_any (by omega) (by omega) f hw hok (by omega) (by omega) hs0 hst hT
    have H0 : Hid ((Mt.checkR p).1 = 0) := h0
    clear hst hw hok hfl hc1 hc2 hcr h0 ht0
    generalize f.re.code 0 0 ++ [(⟨13, 0, 0, []⟩ : Mt.Ins)] = C at *
    go_enter Try.func19, Try.ntmps19
    go_wp2_with fail
    refine HC.out.mono ?_
    rintro e w1 ⟨_, hg, hb⟩
    obtain ⟨so, ao, sc, ac, rfl, hT⟩ := hg H0.out
    have HB1 : Hid (Below w.heap.size w w1 ∧ TreeAt w.heap.size w1 (Mt.PB.start.run (Mt.tokens p).1) so ao sc ac) := ⟨hb, hT⟩
    clear hb hg hT HC
    generalize Mt.PB.start.run (Mt.tokens p).1 = b at *
    unfold treeV
    unfold treeV at HL
    go_wp2_with (first | (refine store_blk 80 2 Try.sizeT (by rfl) (.tmp 4) (.tmp 10) (by rfl) w1.heap.size (treeA b so ao sc ac) (by rfl) (by rfl) (by exact heap_b1 _ _) (by rfl) (by rfl) (by simp [treeA, Value.oneCell']) ?_; intro w2 r1 r2 r3 r4) | (refine load_blk 80 2 Try.underlying80 rfl Try.sizeT (by rfl) (.tmp 4) (by rfl) w1.heap.size (by rfl) r1 (by rfl) ?_))
    have hb2 : Below w1.heap.size w1 w2 := ((Below.refl _ _).alloc (Nat.le_refl _) _).trans (r4 _ (Nat.le_refl _))
    have hsz := HB1.out.1.size
    have hsz2 := hb2.size
    have HB2 : Hid (Below w.heap.size w w2 ∧ w.heap.size ≤ w2.heap.size) := ⟨HB1.out.1.trans (hb2.mono hsz), by omega⟩
    have H2 := HL.out so ao sc ac _ w2 (HB1.out.2.below hb2)
    refine H2.mono ?_
    clear H2 r1 r2 r3 r4 hb2
    rintro e w3 ⟨v, rfl, ho, hb3⟩
    have HO : Hid (ownIns w3 w.heap.size v C ∧ Below w.heap.size w w3) := ⟨ho.base HB2.out.2, HB2.out.1.trans (hb3.mono HB2.out.2)⟩
    clear ho hb3
    go_wp2_with fail
    go_ret2
    exact ⟨_, rfl, HO.out.1, HO.out.2⟩
  · have hcr : Mt.codeR p = ([], (Mt.checkR p).1) := by unfold Mt.codeR; rw [if_pos h0]
    rw [hcr]
    have H0 : Hid ((Mt.checkR p).1 ≠ 0) := h0
    have m2 : ((Mt.checkR p).1 != 0) = true := by simpa using h0
    have HC' := HC.out
    unfold Reads at HC'
    have HCX : Hid (Calls Try.prog 34 #[.string p] w _) := HC'
    clear hcr h0 HC' HC
    generalize (Mt.checkR p).1 = E at *
    generalize (Mt.checkR p).2 = K at *
    go_enter Try.func19, Try.ntmps19
    go_wp2_with fail
    refine HCX.out.mono ?_
    rintro e w1 ⟨hg, _, hb⟩
    obtain rfl := hg H0.out
    have HB : Hid (Below w.heap.size w w1) := hb
    clear hb hg HCX
    go_wp2_with (refine store_blk 80 2 Try.sizeT (by rfl) (.tmp 4) (.tmp 10) (by rfl) w1.heap.size nil2 (by rfl) (by rfl) (by exact heap_b1 _ _) (by rfl) (by rfl) nil2_all ?_; intro w2 r1 r2 r3 r4; have R2 : Hid (Below w.heap.size w w2) := (HB.out.alloc (HB.out.size) _).trans (r4 _ HB.out.size); clear r1 r2 r3 r4)
    go_ret2
    exact ⟨_, rfl, World.ownsRow_nil _ _ _ _, R2.out⟩
end Go.Proofs.Ytebpgfodelggoab
/- Rows of numbers and of truths that a call makes and fills; code.Loops, code.Weight. -/
set_option linter.unusedVariables false
set_option linter.unusedSimpArgs false
namespace Go.Proofs.Ytebpgfodelggoab
open Go.RowKit

def rInts (w : World) (base : Nat) (v : Value) (b : List Int) : Prop := w.ownsRow base 3 1 v b.length (b.map (Value.int .i64))
def rBools (w : World) (base : Nat) (v : Value) (b : List Bool) : Prop := w.ownsRow base 4 1 v b.length (b.map Value.bool)
theorem Try.infoI : (Try.prog.info? 3).map (fun i => (i.zero, i.size, i.bytes)) = some (some (.int .i64 0), 1, 8) := by kernel_rfl
theorem Try.infoB : (Try.prog.info? 4).map (fun i => (i.zero, i.size, i.bytes)) = some (some (.bool false), 1, 1) := by kernel_rfl
theorem rInts.below {w w' : World} {base : Nat} {v : Value} {l : List Int} (h : rInts w base v l) (hb : Below w.heap.size w w') : rInts w' base v l := owns_below h hb
theorem rBools.below {w w' : World} {base : Nat} {v : Value} {l : List Bool} (h : rBools w base v l) (hb : Below w.heap.size w w') : rBools w' base v l := owns_below h hb
theorem rInts.made {w : World} {base : Nat} {v : Value} {n : Nat} (h : w.ownsRow base 3 1 v n (madeCells (Value.int .i64 0).cells (n * 1)).toList) : rInts w base v (List.replicate n 0) := by
  unfold rInts
  rw [List.length_replicate, List.map_replicate]
  have e : (madeCells (Value.int .i64 0).cells (n * 1)).toList = List.replicate n (Value.int .i64 0) := by
    rw [Nat.mul_one]; exact toList_madeCells_one _ _
  rw [e] at h; exact h
theorem rBools.made {w : World} {base : Nat} {v : Value} {n : Nat} (h : w.ownsRow base 4 1 v n (madeCells (Value.bool false).cells (n * 1)).toList) : rBools w base v (List.replicate n false) := by
  unfold rBools
  rw [List.length_replicate, List.map_replicate]
  have e : (madeCells (Value.bool false).cells (n * 1)).toList = List.replicate n (Value.bool false) := by
    rw [Nat.mul_one]; exact toList_madeCells_one _ _
  rw [e] at h; exact h
section
variable {w : World} {base g n cap : Nat}
theorem rInts.at {l : List Int} (h : rInts w base (.slice (some ⟨g, 0, none⟩) n cap) l) (i : Nat) (hi : i < l.length) (hn : n = l.length) : w.cell? ⟨g, i, none⟩ = some (.int .i64 (l.getD i 0)) ∧ w.frozen? ⟨g, i, none⟩ = false := by
  subst hn
  refine ⟨?_, World.ownsRow.frozenAt h i⟩
  rw [World.ownsRow.cellAt h i (by omega), List.getD_eq_getElem?_getD, List.getElem?_map, List.getElem?_eq_getElem hi]; rfl
theorem rBools.at {l : List Bool} (h : rBools w base (.slice (some ⟨g, 0, none⟩) n cap) l) (i : Nat) (hi : i < l.length) (hn : n = l.length) : w.cell? ⟨g, i, none⟩ = some (.bool (l.getD i false)) ∧ w.frozen? ⟨g, i, none⟩ = false := by
  subst hn
  refine ⟨?_, World.ownsRow.frozenAt h i⟩
  rw [World.ownsRow.cellAt h i (by omega), List.getD_eq_getElem?_getD, List.getElem?_map, List.getElem?_eq_getElem hi]; rfl
theorem rInts.set {l : List Int} (h : rInts w base (.slice (some ⟨g, 0, none⟩) n cap) l) (hn : n = l.length) (i : Nat) (v : Int) : rInts (w.setCell ⟨g, i, none⟩ (.int .i64 v)) base (.slice (some ⟨g, 0, none⟩) n cap) (l.set i v) := by
  subst hn
  unfold rInts
  rw [List.length_set, List.map_set]; exact (World.ownsRow.stored h i (.int .i64 v)).1
theorem rBools.set {l : List Bool} (h : rBools w base (.slice (some ⟨g, 0, none⟩) n cap) l) (hn : n = l.length) (i : Nat) (v : Bool) : rBools (w.setCell ⟨g, i, none⟩ (.bool v)) base (.slice (some ⟨g, 0, none⟩) n cap) (l.set i v) := by
  subst hn
  unfold rBools
  rw [List.length_set, List.map_set]; exact (World.ownsRow.stored h i (.bool v)).1
end
/-- A list that is filled so far. -/
def fill {α : Type} (f : Nat → α) (z : α) (k n : Nat) : List α := (List.range n).map fun i => if i < k then f i else z
theorem fill_len {α : Type} (f : Nat → α) (z : α) (k n : Nat) : (fill f z k n).length = n := by simp [fill]
theorem fill_zero {α : Type} (f : Nat → α) (z : α) (n : Nat) : fill f z 0 n = List.replicate n z := by
  unfold fill
  apply List.ext_getElem
  · simp
  · intro i h1 h2; simp
theorem fill_all {α : Type} (f : Nat → α) (z : α) (n : Nat) : fill f z n n = (List.range n).map f := by
  unfold fill
  apply List.map_congr_left
  intro i hi
  rw [if_pos (List.mem_range.1 hi)]
theorem fill_set {α : Type} (f : Nat → α) (z : α) (k n : Nat) : (fill f z k n).set k (f k) = fill f z (k + 1) n := by
  unfold fill
  apply List.ext_getElem
  · simp
  · intro i h1 h2
    rw [List.getElem_set]
    simp only [List.getElem_map, List.getElem_range]
    by_cases h : k = i
    · subst h; simp
    · rw [if_neg h]
      by_cases h3 : i < k
      · rw [if_pos h3, if_pos (by omega)]
      · rw [if_neg h3, if_neg (by omega)]
def loopList (c : List Mt.Ins) : List Int := (List.range c.length).map fun p => (Mt.loopsAt c p : Int)
theorem loopList_len (c : List Mt.Ins) : (loopList c).length = c.length := by simp [loopList]
theorem loopList_at (c : List Mt.Ins) (p : Nat) (h : p < c.length) : (loopList c).getD p 0 = (Mt.loopsAt c p : Int) := by
  unfold loopList
  rw [List.getD_eq_getElem?_getD, List.getElem?_map, List.getElem?_range h]; rfl

set_option maxRecDepth 100000 in
set_option maxHeartbeats 4000000 in
theorem Loops_any (c : List Mt.Ins) (hcl : ∀ k, (c.take k).countP Mt.isMark = (c.take k).countP Mt.isAgain + Mt.loopsAt c k) (hl : c.length ≤ 300) (g cap : Nat) (w : World) (h : ownIns w 0 (.slice (some ⟨g, 0, none⟩) c.length cap) c) :
    Calls Try.prog 49 #[.slice (some ⟨g, 0, none⟩) c.length cap] w fun e w' => e = .returned (.slice (some ⟨w.heap.size, 0, none⟩) c.length c.length) ∧ rInts w' w.heap.size (.slice (some ⟨w.heap.size, 0, none⟩) c.length c.length) (loopList c) ∧ Below w.heap.size w w' := by
  obtain ⟨i0, hi, hz0, hz1, hz2⟩ := info_parts Try.infoI
  have HC : Hid (∀ k j, k < c.length → j < 4 → w.cell? ⟨g, k * 4 + j, none⟩ = (insCells (c.getD k Mt.ins0))[j]?) := fun k j hk hj => by
    have h' := h
    unfold ownIns at h'
    rw [World.ownsRow.cellAt h' (k * 4 + j) (by omega), ins_flat_at c k j hk hj]
  have hg : g < w.heap.size := (World.ownsRow.lt h g rfl).2
  have HCL : Hid (∀ k, (c.take k).countP Mt.isMark = (c.take k).countP Mt.isAgain + Mt.loopsAt c k) := hcl
  clear h hcl
  go_enter Try.func49, Try.ntmps49
  go_wp2_with (first | (at_make; refine wpList_make_full _ rfl (.tmp 8) (.tmp 8) 51 rfl w.heap.size 3 i0 (.int .i64 0) 1 Try.underlying51 hi hz0 hz1 .i64 .i64 _ _ c.length rfl rfl rfl rfl (by rw [hz2]; omega) (by unfold maxLen; omega) (Nat.le_refl _) ?_; intro w1 hmk hgr))
  have hB1 : Below w.heap.size w w1 := (Below.refl _ _).grown hgr (Nat.le_refl _) (fun q hq => by simp at hq)
  have HM : Hid (rInts w1 w.heap.size (.slice (some ⟨w.heap.size, 0, none⟩) c.length c.length) (fill (fun p => (Mt.loopsAt c p : Int)) 0 0 c.length)) := by rw [fill_zero]; exact rInts.made hmk
  clear hmk hgr
  go_loopw [4, 12] (fun lo i wr => ∃ k : Nat, k ≤ c.length ∧ i = .int .i64 k ∧ lo = .int .i64 (Mt.loopsAt c k : Nat) ∧ rInts wr w.heap.size (.slice (some ⟨w.heap.size, 0, none⟩) c.length c.length) (fill (fun p => (Mt.loopsAt c p : Int)) 0 k c.length) ∧ Below w.heap.size w wr) (fun _ i _ => c.length - (intOf i).toNat)
  case atStart =>
    refine ⟨0, Nat.zero_le _, rfl, ?_, HM.out, hB1⟩
    have := HCL.out 0
    simp at this
    rw [← this]; rfl
  case round =>
    obtain ⟨k, hk, rfl, rfl, hown, hbr⟩ := hrel
    have hsz := hbr.size
    by_cases hlt : k < c.length
    · have hR : wr.rangeAt g (k * 4) (insCells (c.getD k Mt.ins0)) := fun j u hj => by
        by_cases h4 : j < 4
        · rw [(hbr.cell (p := ⟨g, k * 4 + j, none⟩) hg), HC.out k j hlt h4]; exact hj
        · rw [List.getElem?_eq_none (by rw [insC_len]; omega)] at hj; simp at hj
      have n1 := HCL.out k
      have n2 := HCL.out (k + 1)
      rw [Mt.count_next _ c k hlt, Mt.count_next _ c k hlt] at n2
      have bl := Mt.loopsAt_le c k
      have hk' : (k : Int) < (c.length : Int) := by omega
      generalize c.getD k Mt.ins0 = I at *
      have HI : Hid (((I.op == 4) = true ∧ Mt.loopsAt c (k + 1) = Mt.loopsAt c k + 1) ∨ ((I.op == 4) = false ∧ (I.op == 5) = true ∧ Mt.loopsAt c (k + 1) + 1 = Mt.loopsAt c k) ∨ ((I.op == 4) = false ∧ (I.op == 5) = false ∧ Mt.loopsAt c (k + 1) = Mt.loopsAt c k)) := by
        show _ ∨ _
        unfold Mt.isMark Mt.isAgain at *
        simp only [beq_iff_eq, beq_eq_false_iff_ne, decide_eq_true_eq] at *
        by_cases e4 : I.op = 4
        · rw [if_pos e4, if_neg (by omega)] at n2; exact Or.inl ⟨e4, by omega⟩
        · rw [if_neg e4] at n2
          by_cases e5 : I.op = 5
          · rw [if_pos e5] at n2; exact Or.inr (Or.inl ⟨e4, e5, by omega⟩)
          · rw [if_neg e5] at n2; exact Or.inr (Or.inr ⟨e4, e5, by omega⟩)
      clear n1 n2
      have HST : Hid (∀ w3 : World, (∀ q, q ≠ wr.heap.size → w3.heap[q]? = (wr.alloc (.cells (insA Mt.ins0) 70)).heap[q]?) → (∀ L, L ≤ wr.heap.size → Below L (wr.alloc (.cells (insA Mt.ins0) 70)) w3) → Below w.heap.size w w3 ∧ rInts w3 w.heap.size (.slice (some ⟨w.heap.size, 0, none⟩) c.length c.length) (fill (fun p => (Mt.loopsAt c p : Int)) 0 k c.length)) := fun w3 h2 h3 =>
        ⟨(hbr.alloc hsz _).trans (h3 _ hsz), hown.below (((Below.refl _ _).alloc (Nat.le_refl _) _).trans (h3 _ (Nat.le_refl _)))⟩
      have hwl : w.heap.size < wr.heap.size := (World.ownsRow.lt hown w.heap.size rfl).2
      clear hown hbr
      generalize hLk : Mt.loopsAt c k = lk at *
      rcases HI.out with ⟨e4, hn⟩ | ⟨e4, e5, hn⟩ | ⟨e4, e5, hn⟩
      all_goals
        have HN : Hid (_ = _) := hn
        clear hn
        go_upto_region 6 with (first | (refine wpList_load_mid (by rfl) 70 (.tmp 15) (by rfl) g (k * 4) (by rfl) (insCells I) _ hR Try.underlying70 rfl (by rw [Try.sizeIn]; rfl) ?_) | (refine store_blk 70 4 Try.sizeIn (by rfl) (.tmp 6) (.tmp 16) (by rfl) wr.heap.size (insA I) (by rfl) (by rfl) (by exact heap_b1 _ _) (by rfl) (by rfl) (insA_all I) ?_; intro w3 r1 r2 r3 r4))
        obtain ⟨B3, O3⟩ := HST.out w3 r2 r4
        obtain ⟨x1, x2⟩ := O3.at k (by rw [fill_len]; exact hlt) (by rw [fill_len])
        have O4 := O3.set (by rw [fill_len]) k (lk : Int)
        rw [← hLk] at O4
        rw [fill_set (fun p => (Mt.loopsAt c p : Int)) 0 k c.length] at O4
        rw [hLk] at O4
        have B4 := B3.setCell (p := ⟨w.heap.size, k, none⟩) (Nat.le_refl _) (.int .i64 (lk : Int))
        have t0 : (w3.setCell ⟨w.heap.size, k, none⟩ (.int .i64 (lk : Int))).cell? ⟨wr.heap.size, 0, none⟩ = some (.int .i64 I.op) := by
          rw [World.cell?_of_block (a := ⟨wr.heap.size, 0, none⟩) (Below.heap_setCell w3 ⟨w.heap.size, k, none⟩ _ wr.heap.size (by show wr.heap.size ≠ w.heap.size; omega))]
          exact (cell_block r1).1 0
        have HO4 : Hid (rInts (w3.setCell ⟨w.heap.size, k, none⟩ (.int .i64 (lk : Int))) w.heap.size (.slice (some ⟨w.heap.size, 0, none⟩) c.length c.length) (fill (fun p => (Mt.loopsAt c p : Int)) 0 (k + 1) c.length) ∧ Below w.heap.size w (w3.setCell ⟨w.heap.size, k, none⟩ (.int .i64 (lk : Int)))) := ⟨O4, B4⟩
        clear r1 r2 r3 r4 B3 O3 O4 B4 hR
        generalize (fill (fun p => (Mt.loopsAt c p : Int)) 0 k c.length).getD k 0 = zz at *
        go_upto_region 7 with fail
        generalize w3.setCell ⟨w.heap.size, k, none⟩ (.int .i64 (lk : Int)) = w4 at *
        clear x1 x2
        go_wp2_with fail
        go_roundw
        case rel => exact ⟨k + 1, by omega, by go_num, by have hn := HN.out; first | (rw [hn]; go_num) | (rw [← hn]; go_num) | (rw [hn]), HO4.out.1, HO4.out.2⟩
        case measure => simp [intOf]; omega
    · have hk2 : k = c.length := by omega
      subst hk2
      rw [fill_all] at hown
      have HBR : Hid (Below w.heap.size w wr) := hbr
      have HOW : Hid (rInts wr w.heap.size (.slice (some ⟨w.heap.size, 0, none⟩) c.length c.length) (loopList c)) := hown
      clear hbr hown
      go_wp2_with fail
      go_ret
      exact ⟨rfl, HOW.out, HBR.out⟩
end Go.Proofs.Ytebpgfodelggoab
