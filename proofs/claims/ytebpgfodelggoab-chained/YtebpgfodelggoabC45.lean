import Derived.Test.YtebpgfodelggoabC14
import Derived.Test.YtebpgfodelggoabC04
import Derived.Test.YtebpgfodelggoabC41
/- WHICH INSTRUCTIONS ARE CHOSEN, as the program goes: what stands in a run of its own is passed by. -/
set_option linter.unusedVariables false
namespace Mt

theorem subs_end : ∀ (r : Re) (p d : Int) (x : Ins), x ∈ r.code p d → x.op = 11 → x.y ≤ p + r.len
  | .eps, p, d, x, h, ho => by simp [Re.code] at h
  | .one s, p, d, x, h, ho => by simp [Re.code] at h; subst h; simp at ho
  | .back s, p, d, x, h, ho => by simp [Re.code] at h; subst h; simp at ho
  | .head, p, d, x, h, ho => by simp [Re.code] at h; subst h; simp at ho
  | .tail, p, d, x, h, ho => by simp [Re.code] at h; subst h; simp at ho
  | .cat a b, p, d, x, h, ho => by
    simp only [Re.code, List.mem_append, Re.len] at *
    rcases h with h | h
    · have := subs_end a _ _ x h ho; omega
    · have := subs_end b _ _ x h ho; omega
  | .alt a b, p, d, x, h, ho => by
    simp only [Re.code, List.mem_append, List.mem_cons, Re.len] at *
    rcases h with rfl | h | rfl | h
    · simp at ho
    · have := subs_end a _ _ x h ho; omega
    · simp at ho
    · have := subs_end b _ _ x h ho; omega
  | .cap k a, p, d, x, h, ho => by
    simp only [Re.code, List.mem_append, List.mem_cons, List.not_mem_nil, or_false, Re.len] at *
    rcases h with rfl | h | rfl
    · simp at ho
    · have := subs_end a _ _ x h ho; omega
    · simp at ho
  | .sub s a, p, d, x, h, ho => by
    simp only [Re.code, List.mem_append, List.mem_cons, List.not_mem_nil, or_false, Re.len] at *
    rcases h with rfl | h | rfl
    · dsimp only; omega
    · have := subs_end a _ _ x h ho; omega
    · simp at ho
  | .opt late a, p, d, x, h, ho => by
    simp only [Re.code, List.mem_cons, Re.len] at *
    rcases h with rfl | h
    · cases late <;> simp [spl] at ho
    · have := subs_end a _ _ x h ho; omega
  | .loop late a, p, d, x, h, ho => by
    simp only [Re.code, List.mem_append, List.mem_cons, List.not_mem_nil, or_false, Re.len] at *
    rcases h with rfl | rfl | h | rfl
    · cases late <;> simp [spl] at ho
    · simp at ho
    · have := subs_end a _ _ x h ho; omega
    · simp at ho

/-- Runs of their own lie in each other or apart. -/
def Nest (p : Int) (l : List Ins) : Prop := ∀ (i j : Nat) (x y : Ins), i < j → l[i]? = some x → l[j]? = some y → x.op = 11 → y.op = 11 → p + j < x.y → y.y ≤ x.y
theorem nest_app {p : Int} {a b : List Ins} (ha : Nest p a) (hb : Nest (p + a.length) b) (he : ∀ x ∈ a, x.op = 11 → x.y ≤ p + a.length) : Nest p (a ++ b) := by
  intro i j x y hij hx hy ox oy hl
  rcases get_app hx with ⟨h1, h2⟩ | ⟨h1, h2⟩
  · rcases get_app hy with ⟨g1, g2⟩ | ⟨g1, g2⟩
    · exact ha i j x y hij h2 g2 ox oy hl
    · have := he x (List.mem_of_getElem? h2) ox; omega
  · rcases get_app hy with ⟨g1, g2⟩ | ⟨g1, g2⟩
    · omega
    · exact hb _ _ x y (by omega) h2 g2 ox oy (by omega)
theorem nest_cons {p : Int} {c : Ins} {b : List Ins} (hb : Nest (p + 1) b) (he : c.op = 11 → ∀ y ∈ b, y.op = 11 → y.y ≤ c.y) : Nest p (c :: b) := by
  intro i j x y hij hx hy ox oy hl
  rcases get_cons hy with ⟨h1, h2⟩ | ⟨j', rfl, h2⟩
  · omega
  rcases get_cons hx with ⟨g1, rfl⟩ | ⟨i', rfl, g2⟩
  · exact he ox y (List.mem_of_getElem? h2) oy
  · exact hb i' j' x y (by omega) g2 h2 ox oy (by omega)
theorem nest_none {p : Int} {c : Ins} (h : c.op ≠ 11) : Nest p [c] := nest_cons (fun i j x y _ hx => by simp at hx) (fun e => absurd e h)
theorem code_nest : ∀ (r : Re) (p d : Int), Nest p (r.code p d)
  | .eps, p, d => fun i j x y _ hx => by simp [Re.code] at hx
  | .one s, p, d => nest_none (by simp)
  | .back s, p, d => nest_none (by simp)
  | .head, p, d => nest_none (by simp)
  | .tail, p, d => nest_none (by simp)
  | .cat a b, p, d => nest_app (code_nest a p d) (by rw [Re.code_len]; exact code_nest b _ d) (by rw [Re.code_len]; exact fun x hx ho => subs_end a p d x hx ho)
  | .alt a b, p, d => nest_cons (nest_app (code_nest a _ d) (nest_cons (by rw [Re.code_len, show p + 1 + (a.len : Int) + 1 = p + a.len + 2 by omega]; exact code_nest b _ d) (fun e => by simp at e)) (by rw [Re.code_len]; exact fun x hx ho => subs_end a _ d x hx ho)) (fun e => by simp at e)
  | .cap k a, p, d => nest_cons (nest_app (code_nest a _ d) (nest_none (by simp)) (by rw [Re.code_len]; exact fun x hx ho => subs_end a _ d x hx ho)) (fun e => by simp at e)
  | .sub s a, p, d => nest_cons (nest_app (code_nest a _ d) (nest_none (by simp)) (by rw [Re.code_len]; exact fun x hx ho => subs_end a _ d x hx ho)) (fun _ y hy oy => by
      rcases List.mem_append.1 hy with hy | hy
      · have := subs_end a _ d y hy oy; dsimp only; omega
      · simp at hy; subst hy; simp at oy)
  | .opt late a, p, d => nest_cons (code_nest a _ d) (fun e => by cases late <;> simp [spl] at e)
  | .loop late a, p, d => nest_cons (nest_cons (by rw [show p + 1 + 1 = p + 2 by omega]; exact nest_app (code_nest a _ _) (nest_none (by simp)) (by rw [Re.code_len]; exact fun x hx ho => subs_end a _ _ x hx ho)) (fun e => by simp at e)) (fun e => by cases late <;> simp [spl] at e)

/-- The number of the instruction behind the latest run of its own. -/
def bh (c : List Ins) : Nat → Int
  | 0 => 0
  | i + 1 => if (i : Int) < bh c i then bh c i else if (c.getD i ins0).op = 11 then (c.getD i ins0).y else bh c i
theorem bh_from (c : List Ins) : ∀ i, bh c i = 0 ∨ ∃ j, j < i ∧ (c.getD j ins0).op = 11 ∧ bh c i = (c.getD j ins0).y
  | 0 => .inl rfl
  | i + 1 => by
    have ih := bh_from c i
    unfold bh
    split
    · rcases ih with h | ⟨j, h1, h2⟩
      · exact .inl h
      · exact .inr ⟨j, by omega, h2⟩
    split
    · rename_i h; exact .inr ⟨i, by omega, h, rfl⟩
    · rcases ih with h | ⟨j, h1, h2⟩
      · exact .inl h
      · exact .inr ⟨j, by omega, h2⟩
theorem bh_to (c : List Ins) (hN : Nest 0 c) : ∀ i, i ≤ c.length → ∀ j, j < i → (c.getD j ins0).op = 11 → (i : Int) < (c.getD j ins0).y → (c.getD j ins0).y ≤ bh c i
  | 0, _, j, h, _, _ => by omega
  | i + 1, hi, j, hj, ho, hy => by
    by_cases hji : j < i
    · have := bh_to c hN i (by omega) j hji ho (by omega)
      rw [bh, if_pos (by omega)]; exact this
    · have e : j = i := by omega
      subst e
      rw [bh]
      split
      · rename_i hb
        rcases bh_from c j with h | ⟨k, h1, h2, h3⟩
        · omega
        · rw [h3] at hb ⊢
          refine hN k j _ _ h1 (by rw [List.getD_eq_getElem?_getD, List.getElem?_eq_getElem (show k < c.length by omega)]; rfl) (by rw [List.getD_eq_getElem?_getD, List.getElem?_eq_getElem (show j < c.length by omega)]; rfl) h2 ho (by omega)
      · first | exact Int.le_refl _ | (rw [if_pos ho]; exact Int.le_refl _)
theorem bh_inSub (c : List Ins) (hN : Nest 0 c) (i : Nat) (hi : i < c.length) : decide ((i : Int) < bh c i) = inSub c i := by
  unfold inSub
  rw [Bool.eq_iff_iff]
  simp only [decide_eq_true_eq, List.any_eq_true, isOver]
  constructor
  · intro h
    rcases bh_from c i with h0 | ⟨j, h1, h2, h3⟩
    · omega
    · refine ⟨c.getD j ins0, ?_, h2, by omega⟩
      rw [List.getD_eq_getElem?_getD, List.getElem?_eq_getElem (show j < c.length by omega)]
      simp only [Option.getD_some]
      rw [List.mem_take_iff_getElem]
      exact ⟨j, by omega, rfl⟩
  · rintro ⟨x, hx, ho, hy⟩
    rw [List.mem_take_iff_getElem] at hx
    obtain ⟨j, hj, rfl⟩ := hx
    have e : c.getD j ins0 = c[j] := by rw [List.getD_eq_getElem?_getD, List.getElem?_eq_getElem (show j < c.length by omega)]; rfl
    have := bh_to c hN i (by omega) j (by omega) (by rw [e]; exact ho) (by rw [e]; exact hy)
    rw [e] at this; omega
theorem pattern_nest (p : ByteArray) (h : (checkR p).1 = 0) : Nest 0 (codeR p).1 := by
  obtain ⟨f, _, _, _, _, _, hc, _⟩ := pattern_tree p h
  rw [hc]
  refine nest_app (code_nest f.re 0 0) (nest_none (by simp)) ?_
  rw [Re.code_len]; exact fun x hx ho => subs_end f.re 0 0 x hx ho
end Mt
/- code.Chosen: hasBack, pickMasked, pickHeads. -/
set_option linter.unusedVariables false
set_option linter.unusedSimpArgs false
namespace Go.Proofs.Ytebpgfodelggoab
open Go.RowKit

theorem code_range {w wr : World} {g cap : Nat} {c : List Mt.Ins} (h : ownIns w 0 (.slice (some ⟨g, 0, none⟩) c.length cap) c) (hb : Below w.heap.size w wr) (k : Nat) (hk : k < c.length) : wr.rangeAt g (k * 4) (insCells (c.getD k Mt.ins0)) := fun j u hj => by
  have h' := h
  unfold ownIns at h'
  by_cases h4 : j < 4
  · rw [hb.cell (p := ⟨g, k * 4 + j, none⟩) (World.ownsRow.lt h g rfl).2, World.ownsRow.cellAt h' (k * 4 + j) (by omega), ins_flat_at c k j hk h4]; exact hj
  · rw [List.getElem?_eq_none (by rw [insC_len]; omega)] at hj; simp at hj
/-- Behind the box of an instruction. -/
theorem box_ins {w wr w3 : World} {I : Mt.Ins} (hbr : Below w.heap.size w wr) (r1 : w3.heap[wr.heap.size]? = some (.cells (insA I) 70 (0, 0))) (r4 : ∀ L, L ≤ wr.heap.size → Below L (wr.alloc (.cells (insA Mt.ins0) 70)) w3) :
    w3.cell? ⟨wr.heap.size, 0, none⟩ = some (.int .i64 I.op) ∧ w3.cell? ⟨wr.heap.size, 1, none⟩ = some (.int .i64 I.x) ∧ w3.cell? ⟨wr.heap.size, 2, none⟩ = some (.int .i64 I.y) ∧ Below w.heap.size w w3 ∧ Below wr.heap.size wr w3 :=
  ⟨(cell_block r1).1 0, (cell_block r1).1 1, (cell_block r1).1 2, (hbr.alloc hbr.size _).trans (r4 _ hbr.size), ((Below.refl _ _).alloc (Nat.le_refl _) _).trans (r4 _ (Nat.le_refl _))⟩

set_option maxRecDepth 100000 in
set_option maxHeartbeats 4000000 in
theorem hasBack_any (c : List Mt.Ins) (hl : c.length ≤ 300) (g cap : Nat) (w : World) (h : ownIns w 0 (.slice (some ⟨g, 0, none⟩) c.length cap) c) :
    Calls Try.prog 55 #[.slice (some ⟨g, 0, none⟩) c.length cap] w fun e w' => e = .returned (.bool (Mt.hasBack c)) ∧ Below w.heap.size w w' := by
  have HI : Hid (ownIns w 0 (.slice (some ⟨g, 0, none⟩) c.length cap) c) := h
  clear h
  go_enter Try.func55, Try.ntmps55
  go_wp2_with fail
  go_loopw [7] (fun i wr => ∃ k : Nat, k ≤ c.length ∧ i = .int .i64 k ∧ (c.take k).any (fun i => decide (i.op = 8)) = false ∧ Below w.heap.size w wr) (fun i _ => c.length - (intOf i).toNat)
  case atStart => exact ⟨0, Nat.zero_le _, rfl, rfl, Below.refl _ _⟩
  case round =>
    obtain ⟨k, hk, rfl, hr, hbr⟩ := hrel
    have HR : Hid ((c.take k).any (fun i => decide (i.op = 8)) = false) := hr
    have HBR : Hid (Below w.heap.size w wr) := hbr
    clear hr
    by_cases hlt : k < c.length
    · have hR := code_range HI.out hbr k hlt
      have HN : Hid ((c.take (k + 1)).any (fun i => decide (i.op = 8)) = ((c.take k).any (fun i => decide (i.op = 8)) || decide ((c.getD k Mt.ins0).op = 8))) := Mt.any_take c _ k hlt
      have HH : Hid ((c.getD k Mt.ins0).op = 8 → Mt.hasBack c = true) := fun h8 => by
        have := Mt.any_of_take c (fun i => decide (i.op = 8)) k c.length hlt (Nat.le_refl _) (by simpa using h8)
        rwa [List.take_length] at this
      have hk' : (k : Int) < (c.length : Int) := by omega
      clear hbr
      generalize c.getD k Mt.ins0 = I at *
      go_upto_region 4 with (first | (refine wpList_load_mid (by rfl) 70 (.tmp 9) (by rfl) g (k * 4) (by rfl) (insCells I) _ hR Try.underlying70 rfl (by rw [Try.sizeIn]; rfl) ?_) | (refine store_blk 70 4 Try.sizeIn (by rfl) (.tmp 4) (.tmp 10) (by rfl) wr.heap.size (insA I) (by rfl) (by rfl) (by exact heap_b1 _ _) (by rfl) (by rfl) (insA_all I) ?_; intro w3 r1 r2 r3 r4))
      obtain ⟨x0, x1, x2, B3, _⟩ := box_ins HBR.out r1 r4
      have HB3 : Hid (Below w.heap.size w w3) := B3
      clear r1 r2 r3 r4 B3 hR x1 x2
      cases h8 : (I.op == 8)
      · have HNN : Hid ((c.take (k + 1)).any (fun i => decide (i.op = 8)) = false) := by
          show _ = _; rw [HN.out, HR.out, Bool.false_or]; simpa using h8
        go_wp2_with fail
        go_roundw
        case rel => exact ⟨k + 1, by omega, by go_num, HNN.out, HB3.out⟩
        case measure => simp [intOf]; omega
      · have HE : Hid (Mt.hasBack c = true) := HH.out (by simpa using h8)
        go_wp2_with fail
        go_ret
        exact ⟨ret_bool (by rw [HE.out]), HB3.out⟩
    · have HE : Hid (Mt.hasBack c = false) := by
        have := HR.out
        rwa [show k = c.length by omega, List.take_length] at this
      clear hbr
      go_wp2_with fail
      go_ret
      exact ⟨ret_bool (by rw [HE.out]), HBR.out⟩

theorem and_one (x : Nat) (h : x < 9223372036854775808) : bits .and .i64 (x : Int) 1 = ((x % 2 : Nat) : Int) := by
  unfold bits
  dsimp only
  have e1 : BitVec.ofInt IntKind.i64.bits (x : Int) = BitVec.ofNat 64 x := BitVec.ofInt_natCast 64 x
  have e2 : BitVec.ofInt IntKind.i64.bits 1 = BitVec.ofNat 64 1 := rfl
  rw [e1, e2]
  have e3 : (BitVec.ofNat 64 x &&& BitVec.ofNat 64 1).toNat = x % 2 := by
    rw [BitVec.toNat_and, BitVec.toNat_ofNat, BitVec.toNat_ofNat, Nat.mod_eq_of_lt (show x < 2 ^ 64 by omega), Nat.mod_eq_of_lt (show 1 < 2 ^ 64 by omega), Nat.and_one_is_mod]
  have e4 : IntKind.i64.wrap (((BitVec.ofNat 64 x &&& BitVec.ofNat 64 1).toNat : Nat) : Int) = ((x % 2 : Nat) : Int) := by
    rw [e3]
    have hm : x % 2 = 0 ∨ x % 2 = 1 := by omega
    rcases hm with hm | hm <;> rw [hm] <;> rfl
  exact e4
theorem bit_and (mask : Int) (hm0 : 0 ≤ mask) (hm1 : mask ≤ 4294967295) (k : Nat) : (bits .and .i64 (mask / 2 ^ k) 1 == 1) = Mt.bitOf mask k := by
  obtain ⟨M, rfl⟩ : ∃ M : Nat, mask = (M : Int) := ⟨mask.toNat, by omega⟩
  have e : (M : Int) / 2 ^ k = ((M / 2 ^ k : Nat) : Int) := by push_cast; rfl
  have hle : M / 2 ^ k ≤ M := Nat.div_le_self _ _
  unfold Mt.bitOf
  rw [e, and_one _ (by omega)]
  congr 1
set_option maxRecDepth 100000 in
set_option maxHeartbeats 4000000 in
theorem pickMasked_any (c : List Mt.Ins) (mask : Int) (hm0 : 0 ≤ mask) (hm1 : mask ≤ 4294967295) (hl : c.length ≤ 300) (g cap : Nat) (w : World) :
    Calls Try.prog 66 #[.slice (some ⟨g, 0, none⟩) c.length cap, .int .i64 mask] w fun e w' => e = .returned (.slice (some ⟨w.heap.size, 0, none⟩) c.length c.length) ∧ rBools w' w.heap.size (.slice (some ⟨w.heap.size, 0, none⟩) c.length c.length) ((List.range c.length).map fun p => Mt.bitOf mask (p % 32)) ∧ Below w.heap.size w w' := by
  obtain ⟨i0, hi, hz0, hz1, hz2⟩ := info_parts Try.infoB
  go_enter Try.func66, Try.ntmps66
  go_wp2_with (first | (at_make; refine wpList_make_full _ rfl (.tmp 8) (.tmp 8) 90 rfl w.heap.size 4 i0 (.bool false) 1 Try.underlying90 hi hz0 hz1 .i64 .i64 _ _ c.length rfl rfl rfl rfl (by rw [hz2]; omega) (by unfold maxLen; omega) (Nat.le_refl _) ?_; intro w1 hmk hgr))
  have hB1 : Below w.heap.size w w1 := (Below.refl _ _).grown hgr (Nat.le_refl _) (fun q hq => by simp at hq)
  have HM : Hid (rBools w1 w.heap.size (.slice (some ⟨w.heap.size, 0, none⟩) c.length c.length) (fill (fun p => Mt.bitOf mask (p % 32)) false 0 c.length)) := by rw [fill_zero]; exact rBools.made hmk
  clear hmk hgr
  go_loopw [12] (fun i wr => ∃ k : Nat, k ≤ c.length ∧ i = .int .i64 k ∧ rBools wr w.heap.size (.slice (some ⟨w.heap.size, 0, none⟩) c.length c.length) (fill (fun p => Mt.bitOf mask (p % 32)) false k c.length) ∧ Below w.heap.size w wr) (fun i _ => c.length - (intOf i).toNat)
  case atStart => exact ⟨0, Nat.zero_le _, rfl, HM.out, hB1⟩
  case round =>
    obtain ⟨k, hk, rfl, hown, hbr⟩ := hrel
    by_cases hlt : k < c.length
    · obtain ⟨x1, x2⟩ := hown.at k (by rw [fill_len]; exact hlt) (by rw [fill_len])
      have hk' : (k : Int) < (c.length : Int) := by omega
      have O4 := hown.set (by rw [fill_len]) k (Mt.bitOf mask (k % 32))
      rw [fill_set (fun p => Mt.bitOf mask (p % 32)) false k c.length] at O4
      have HO4 : Hid (rBools (wr.setCell ⟨w.heap.size, k, none⟩ (.bool (Mt.bitOf mask (k % 32)))) w.heap.size (.slice (some ⟨w.heap.size, 0, none⟩) c.length c.length) (fill (fun p => Mt.bitOf mask (p % 32)) false (k + 1) c.length) ∧ Below w.heap.size w (wr.setCell ⟨w.heap.size, k, none⟩ (.bool (Mt.bitOf mask (k % 32))))) := ⟨O4, hbr.setCell (p := ⟨w.heap.size, k, none⟩) (Nat.le_refl _) _⟩
      have HBA : Hid ((bits .and .i64 (mask / 2 ^ (k % 32)) 1 == 1) = Mt.bitOf mask (k % 32)) := bit_and mask hm0 hm1 _
      clear hown hbr O4
      generalize (fill (fun p => Mt.bitOf mask (p % 32)) false k c.length).getD k false = zz at *
      go_wp2_with fail
      go_roundw
      case rel => rw [HBA.out]; exact ⟨k + 1, by omega, by go_num, HO4.out⟩
      case measure => simp [intOf]; omega
    · have hk2 : k = c.length := by omega
      subst hk2
      rw [fill_all] at hown
      have HBR : Hid (Below w.heap.size w wr) := hbr
      have HOW : Hid (rBools wr w.heap.size (.slice (some ⟨w.heap.size, 0, none⟩) c.length c.length) ((List.range c.length).map fun p => Mt.bitOf mask (p % 32))) := hown
      clear hbr hown
      go_wp2_with fail
      go_ret
      exact ⟨rfl, HOW.out, HBR.out⟩

/-- The heads among the first k instructions. -/
def headsTo (c : List Mt.Ins) (k : Nat) : List Bool := (List.range c.length).map fun p : Nat => (c.take k).any (Mt.isHead (p : Int))
theorem headsTo_len (c : List Mt.Ins) (k : Nat) : (headsTo c k).length = c.length := by simp [headsTo]
theorem headsTo_next (c : List Mt.Ins) (k : Nat) (h : k < c.length) : ((c.getD k Mt.ins0).op ≠ 5 → headsTo c (k + 1) = headsTo c k) ∧ (∀ X : Nat, (c.getD k Mt.ins0).op = 5 → (c.getD k Mt.ins0).x = X → headsTo c (k + 1) = (headsTo c k).set X true) := by
  refine ⟨fun h5 => ?_, fun X h5 hX => ?_⟩
  · unfold headsTo
    apply List.map_congr_left
    intro p hp
    rw [Mt.any_take c _ k h]
    have : Mt.isHead (p : Int) (c.getD k Mt.ins0) = false := by unfold Mt.isHead; simp; intro e; exact absurd e h5
    rw [this, Bool.or_false]
  · unfold headsTo
    apply List.ext_getElem
    · simp
    · intro i h1 h2
      rw [List.getElem_set]
      simp only [List.getElem_map, List.getElem_range]
      rw [Mt.any_take c _ k h]
      by_cases e : X = i
      · rw [if_pos e]
        have : Mt.isHead (i : Int) (c.getD k Mt.ins0) = true := by unfold Mt.isHead; rw [decide_eq_true_eq]; exact ⟨h5, by rw [hX, e]⟩
        rw [this, Bool.or_true]
      · rw [if_neg e]
        have : Mt.isHead (i : Int) (c.getD k Mt.ins0) = false := by unfold Mt.isHead; rw [decide_eq_false_iff_not]; intro hh; rw [hX] at hh; omega
        rw [this, Bool.or_false]
set_option maxRecDepth 100000 in
set_option maxHeartbeats 4000000 in
theorem pickHeads_any (c : List Mt.Ins) (hok : Mt.codeOk c) (hl : c.length ≤ 300) (g cap : Nat) (w : World) (h : ownIns w 0 (.slice (some ⟨g, 0, none⟩) c.length cap) c) :
    Calls Try.prog 67 #[.slice (some ⟨g, 0, none⟩) c.length cap] w fun e w' => e = .returned (.slice (some ⟨w.heap.size, 0, none⟩) c.length c.length) ∧ rBools w' w.heap.size (.slice (some ⟨w.heap.size, 0, none⟩) c.length c.length) ((List.range c.length).map fun p : Nat => c.any (Mt.isHead (p : Int))) ∧ Below w.heap.size w w' := by
  obtain ⟨i0, hi, hz0, hz1, hz2⟩ := info_parts Try.infoB
  have HI : Hid (ownIns w 0 (.slice (some ⟨g, 0, none⟩) c.length cap) c) := h
  clear h
  go_enter Try.func67, Try.ntmps67
  go_wp2_with (first | (at_make; refine wpList_make_full _ rfl (.tmp 7) (.tmp 7) 90 rfl w.heap.size 4 i0 (.bool false) 1 Try.underlying90 hi hz0 hz1 .i64 .i64 _ _ c.length rfl rfl rfl rfl (by rw [hz2]; omega) (by unfold maxLen; omega) (Nat.le_refl _) ?_; intro w1 hmk hgr))
  have hB1 : Below w.heap.size w w1 := (Below.refl _ _).grown hgr (Nat.le_refl _) (fun q hq => by simp at hq)
  have HM : Hid (rBools w1 w.heap.size (.slice (some ⟨w.heap.size, 0, none⟩) c.length c.length) (headsTo c 0)) := by
    have : headsTo c 0 = List.replicate c.length false := by
      unfold headsTo; apply List.ext_getElem
      · simp
      · intro i h1 h2; simp
    rw [this]; exact rBools.made hmk
  clear hmk hgr
  go_loopw [11] (fun i wr => ∃ k : Nat, k ≤ c.length ∧ i = .int .i64 k ∧ rBools wr w.heap.size (.slice (some ⟨w.heap.size, 0, none⟩) c.length c.length) (headsTo c k) ∧ Below w.heap.size w wr) (fun i _ => c.length - (intOf i).toNat)
  case atStart => exact ⟨0, Nat.zero_le _, rfl, HM.out, hB1⟩
  case round =>
    obtain ⟨k, hk, rfl, hown, hbr⟩ := hrel
    by_cases hlt : k < c.length
    · have hR := code_range HI.out hbr k hlt
      have HN := headsTo_next c k hlt
      have hiok := hok k hlt
      have hk' : (k : Int) < (c.length : Int) := by omega
      have HBR : Hid (Below w.heap.size w wr) := hbr
      have HOW : Hid (rBools wr w.heap.size (.slice (some ⟨w.heap.size, 0, none⟩) c.length c.length) (headsTo c k)) := hown
      have hwl : w.heap.size < wr.heap.size := (World.ownsRow.lt hown w.heap.size rfl).2
      clear hbr hown
      generalize c.getD k Mt.ins0 = I at *
      have HNN : Hid ((I.op ≠ 5 → headsTo c (k + 1) = headsTo c k) ∧ (∀ X : Nat, I.op = 5 → I.x = X → headsTo c (k + 1) = (headsTo c k).set X true)) := HN
      have H5 : Hid (I.op = 5 → 0 ≤ I.x ∧ I.x < c.length) := fun e => by have := hiok.2.2.2.1 e; omega
      clear HN hiok
      go_upto_region 5 with (first | (refine wpList_load_mid (by rfl) 70 (.tmp 13) (by rfl) g (k * 4) (by rfl) (insCells I) _ hR Try.underlying70 rfl (by rw [Try.sizeIn]; rfl) ?_) | (refine store_blk 70 4 Try.sizeIn (by rfl) (.tmp 5) (.tmp 14) (by rfl) wr.heap.size (insA I) (by rfl) (by rfl) (by exact heap_b1 _ _) (by rfl) (by rfl) (insA_all I) ?_; intro w3 r1 r2 r3 r4))
      obtain ⟨x0, x1, x2, B3, B4⟩ := box_ins HBR.out r1 r4
      have HB3 : Hid (Below w.heap.size w w3) := B3
      have HO3 : Hid (rBools w3 w.heap.size (.slice (some ⟨w.heap.size, 0, none⟩) c.length c.length) (headsTo c k)) := HOW.out.below B4
      clear r1 r2 r3 r4 B3 B4 hR x2
      cases h5 : (I.op == 5)
      · have HQ : Hid (headsTo c (k + 1) = headsTo c k) := HNN.out.1 (by simpa using h5)
        go_wp2_with fail
        go_roundw
        case rel => exact ⟨k + 1, by omega, by go_num, by rw [HQ.out]; exact HO3.out, HB3.out⟩
        case measure => simp [intOf]; omega
      · have e5 : I.op = 5 := by simpa using h5
        have hx5 := H5.out e5
        obtain ⟨X, hX⟩ : ∃ X : Nat, I.x = (X : Int) := ⟨I.x.toNat, by omega⟩
        have HQ : Hid (headsTo c (k + 1) = (headsTo c k).set X true) := HNN.out.2 X e5 hX
        obtain ⟨z1, z2⟩ := HO3.out.at X (by rw [headsTo_len]; omega) (by rw [headsTo_len])
        have HO4 : Hid (rBools (w3.setCell ⟨w.heap.size, X, none⟩ (.bool true)) w.heap.size (.slice (some ⟨w.heap.size, 0, none⟩) c.length c.length) ((headsTo c k).set X true) ∧ Below w.heap.size w (w3.setCell ⟨w.heap.size, X, none⟩ (.bool true))) := ⟨HO3.out.set (by rw [headsTo_len]) X true, HB3.out.setCell (p := ⟨w.heap.size, X, none⟩) (Nat.le_refl _) _⟩
        rw [hX] at x1
        have hXl : (X : Int) < (c.length : Int) := by omega
        clear hx5 hX e5
        generalize (headsTo c k).getD X false = zz at *
        go_wp2_with fail
        go_roundw
        case rel => exact ⟨k + 1, by omega, by go_num, by rw [HQ.out]; exact HO4.out.1, HO4.out.2⟩
        case measure => simp [intOf]; omega
    · have hk2 : k = c.length := by omega
      subst hk2
      have e : headsTo c c.length = (List.range c.length).map fun p : Nat => c.any (Mt.isHead (p : Int)) := by unfold headsTo; rw [List.take_length]
      rw [e] at hown
      have HBR : Hid (Below w.heap.size w wr) := hbr
      have HOW : Hid (rBools wr w.heap.size (.slice (some ⟨w.heap.size, 0, none⟩) c.length c.length) ((List.range c.length).map fun p : Nat => c.any (Mt.isHead (p : Int)))) := hown
      clear hbr hown
      go_wp2_with fail
      go_ret
      exact ⟨rfl, HOW.out, HBR.out⟩
end Go.Proofs.Ytebpgfodelggoab
/- code.Chosen: leadsTo, pickJoins, pick. -/
set_option linter.unusedVariables false
set_option linter.unusedSimpArgs false
namespace Go.Proofs.Ytebpgfodelggoab
open Go.RowKit

/-- How many of the first k instructions lead to each. -/
def leadList (c : List Mt.Ins) (k : Nat) : List Int := (List.range c.length).map fun p : Nat => (Mt.leadsTo c (p : Int) k : Int)
theorem leadList_len (c : List Mt.Ins) (k : Nat) : (leadList c k).length = c.length := by simp [leadList]
theorem leadList_at (c : List Mt.Ins) (k p : Nat) (h : p < c.length) : (leadList c k).getD p 0 = (Mt.leadsTo c (p : Int) k : Int) := by
  unfold leadList
  rw [List.getD_eq_getElem?_getD, List.getElem?_map, List.getElem?_range h]; rfl
/-- One more at X, if X is there. -/
theorem leadList_bump (c : List Mt.Ins) (k : Nat) (hk : k < c.length) (S : Nat → Bool) (hS : ∀ p : Nat, p < c.length → Mt.leads c k (p : Int) = S p) : leadList c (k + 1) = (List.range c.length).map fun p : Nat => (Mt.leadsTo c (p : Int) k : Int) + if S p then 1 else 0 := by
  unfold leadList
  apply List.map_congr_left
  intro p hp
  rw [List.mem_range] at hp
  rw [Mt.leadsTo_next, hS p hp]
  split <;> simp
theorem list_set1 (f : Nat → Int) (n X : Nat) (v : Int) : ((List.range n).map f).set X v = (List.range n).map fun p => if p = X then v else f p := by
  apply List.ext_getElem
  · simp
  · intro i h1 h2
    rw [List.getElem_set]
    simp only [List.getElem_map, List.getElem_range]
    by_cases e : X = i
    · rw [if_pos e, if_pos e.symm]
    · rw [if_neg e, if_neg (fun h => e h.symm)]
theorem lead_one (c : List Mt.Ins) (k : Nat) (hk : k < c.length) (X : Nat) (hX : ∀ p : Nat, p < c.length → Mt.leads c k (p : Int) = decide (p = X)) : leadList c (k + 1) = (leadList c k).set X ((Mt.leadsTo c (X : Int) k : Int) + 1) := by
  rw [leadList_bump c k hk (fun p => decide (p = X)) hX]
  unfold leadList
  rw [list_set1]
  apply List.map_congr_left
  intro p _
  by_cases e : p = X
  · subst e; simp
  · simp [e]
theorem lead_two (c : List Mt.Ins) (k : Nat) (hk : k < c.length) (X Y : Nat) (hxy : Y ≠ X) (hX : ∀ p : Nat, p < c.length → Mt.leads c k (p : Int) = (decide (p = X) || decide (p = Y))) : leadList c (k + 1) = ((leadList c k).set X ((Mt.leadsTo c (X : Int) k : Int) + 1)).set Y ((Mt.leadsTo c (Y : Int) k : Int) + 1) := by
  rw [leadList_bump c k hk _ hX]
  unfold leadList
  rw [list_set1, list_set1]
  apply List.map_congr_left
  intro p _
  by_cases e : p = X
  · subst e
    have : ¬ p = Y := fun h => hxy h.symm
    simp [this]
  · by_cases e2 : p = Y
    · subst e2; simp
    · simp [e, e2]
theorem lead_none (c : List Mt.Ins) (k : Nat) (hk : k < c.length) (hX : ∀ p : Nat, p < c.length → Mt.leads c k (p : Int) = false) : leadList c (k + 1) = leadList c k := by
  rw [leadList_bump c k hk (fun _ => false) hX]
  unfold leadList
  apply List.map_congr_left
  intro p _
  simp
end Go.Proofs.Ytebpgfodelggoab
