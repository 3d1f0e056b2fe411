import Derived.Test.YtebpgfodelggoabC44
import Derived.Test.YtebpgfodelggoabC09
import Derived.Test.YtebpgfodelggoabC22
import Derived.Great.BuildSlice
import Derived.Test.YtebpgfodelggoabC17
import Derived.Test.YtebpgfodelggoabC49
import Derived.Test.YtebpgfodelggoabC48
/- nextFrom; lists of what is found. -/
set_option linter.unusedVariables false
set_option linter.unusedSimpArgs false
namespace Go.Proofs.Ytebpgfodelggoab
open Go.RowKit

theorem Try.infoFp : (Try.prog.info? 31).map (fun i => (i.zero, i.size, i.bytes)) = some (some (.agg (fpA Mt.fnd0)), 22, 176) := by kernel_rfl
def fpL (f : Mt.Fnd) : List Value := (fpA f).toList
theorem fpL_len (f : Mt.Fnd) (h : f.at'.length = 20) : (fpL f).length = 22 := by have := fpA_size f h; simpa [fpL] using this
theorem fpL_one (f : Mt.Fnd) : ∀ u ∈ fpL f, u.oneCell' = true := by
  have := fpA_all f
  intro u hu
  rw [Array.all_eq_true_iff_forall_mem] at this
  exact this u (by simpa [fpL] using hu)
def ownFps (w : World) (base : Nat) (v : Value) (l : List Mt.Fnd) : Prop := w.ownsRow base 31 22 v l.length (l.flatMap fpL)
set_option maxRecDepth 100000 in
theorem fill_fp (f : Mt.Fnd) (h : f.at'.length = 20) : Instr.fill (fun i => some (i * 22, 22)) ((Array.range (1 * 22)).map ((Value.agg (fpA Mt.fnd0)).cells[· % (Value.agg (fpA Mt.fnd0)).cells.size]!)) [(0, .agg (fpA f))] = some (fpA f) := by
  obtain ⟨a0, a1, a2, a3, a4, a5, a6, a7, a8, a9, a10, a11, a12, a13, a14, a15, a16, a17, a18, a19, e⟩ := twenty h
  obtain ⟨ok, l, st⟩ := f
  dsimp only at e
  subst e
  kernel_rfl
theorem wpList_build_fp {ops : Array Oper} {rest : List Oper} {o : Oper} {a : Act} {w : World} {Q : Exit → Act → World → Prop} (hg : o.guard = none) (x : Operand) (ho : o.op = .buildSlice 60 1 #[(0, x)]) (f : Mt.Fnd) (hf : f.at'.length = 20) (hx : a.eval x = .agg (fpA f))
    (h : wpList Try.prog ops Q rest (a.put o.dst (.slice (some ⟨w.heap.size, 0, none⟩) 1 1)) (w.alloc (.cells (fpL f).toArray 31))) : wpList Try.prog ops Q (o :: rest) a w := by
  obtain ⟨i0, hi, hz0, hz1, hz2⟩ := info_parts Try.infoFp
  refine wpList_buildSlice hg 60 31 1 _ ho (fpA f) i0 _ Try.underlying60 hi hz0 (by rw [hz1]; decide) (by rw [hz1]; decide) ?_ h
  rw [hz1]
  simp only [List.map_toArray, List.map_cons, List.map_nil, hx]
  exact fill_fp f hf
theorem own_fps_snoc {w : World} {base : Nat} {v : Value} {l : List Mt.Fnd} {t : Mt.Fnd} (h : w.ownsRow base 31 22 v (l.length + 1) (l.flatMap fpL ++ fpL t)) : ownFps w base v (l ++ [t]) := by
  unfold ownFps
  rw [List.length_append, List.flatMap_append]
  simpa using h
theorem own_fps_empty {w : World} {base g : Nat} (h : w.heap[g]? = some (.cells #[] 31 (0, 0))) (hb : base ≤ g) : ownFps w base (.slice (some ⟨g, 0, none⟩) 0 0) [] :=
  ⟨rfl, .inr ⟨g, 0, #[], rfl, hb, h, Nat.le_refl _, by unfold maxLen; omega, rfl, rfl⟩⟩

set_option maxRecDepth 100000 in
set_option maxHeartbeats 4000000 in
theorem nextFrom_any (f : Mt.Fnd) (x y : Nat) (h : f.at'.length = 20) (hx : f.at'.getD 0 0 = (x : Int)) (hy : f.at'.getD 1 0 = (y : Int)) (hy2 : y ≤ 1000) (w : World) :
    Calls Try.prog 54 #[.agg (fpA f)] w fun e w' => e = .returned (.int .i64 (Mt.nextFrom f : Nat)) ∧ Below w.heap.size w w' := by
  have hN : Mt.nextFrom f = if x = y then y + 1 else y := by
    unfold Mt.nextFrom
    rw [hx, hy]
    by_cases e : x = y
    · rw [if_pos (by omega), if_pos e]; simp
    · rw [if_neg (by omega), if_neg e]; simp
  rw [hN]
  obtain ⟨z, hz⟩ : ∃ z, z = w.alloc (.cells (fpA f) 31) := ⟨_, rfl⟩
  have q1 : z.heap[w.heap.size]? = some (.cells (fpA f) 31 (0, 0)) := by rw [hz]; exact heap_b1 _ _
  have HB : Hid (Below w.heap.size w z) := by rw [hz]; exact (Below.refl _ _).alloc (Nat.le_refl _) _
  have l1 : w.heap.size < z.heap.size := by rw [hz]; simp
  have c1 : z.cell? ⟨w.heap.size, 1, none⟩ = some (.int .i64 (x : Int)) := by rw [← hx]; exact ((cell_block q1).1 _).trans (fpA_get f h 0 (by omega))
  have c2 : z.cell? ⟨w.heap.size, 2, none⟩ = some (.int .i64 (y : Int)) := by rw [← hy]; exact ((cell_block q1).1 _).trans (fpA_get f h 1 (by omega))
  clear q1 h hx hy hN
  by_cases e : x = y
  · have m1 : ((x : Int) == (y : Int)) = true := by rw [e]; simp
    rw [if_pos e]
    clear e
    go_enter Try.func54, Try.ntmps54
    go_upto_region 1 with fail
    show Code.wp _ _ _ _ (w.alloc (.cells (fpA f) 31))
    rw [← hz]
    clear hz
    generalize hn : w.heap.size = n at *
    go_wp2_with fail
    go_ret
    exact ⟨by go_num, by rw [hn]; exact HB.out⟩
  · have m1 : ((x : Int) == (y : Int)) = false := by rw [beq_eq_false_iff_ne]; omega
    rw [if_neg e]
    clear e
    go_enter Try.func54, Try.ntmps54
    go_upto_region 1 with fail
    show Code.wp _ _ _ _ (w.alloc (.cells (fpA f) 31))
    rw [← hz]
    clear hz
    generalize hn : w.heap.size = n at *
    go_wp2_with fail
    go_ret
    exact ⟨rfl, by rw [hn]; exact HB.out⟩
end Go.Proofs.Ytebpgfodelggoab
/- matcherkeep: sameAll; inside of nothing. (Plain seats alone.) -/
set_option linter.unusedVariables false
set_option linter.unusedSimpArgs false
namespace Go.Proofs.Ytebpgfodelggoab
open Go.RowKit

theorem fps_len : ∀ (l : List Mt.Fnd), (∀ f ∈ l, f.at'.length = 20) → (l.flatMap fpL).length = l.length * 22
  | [], _ => rfl
  | f :: r, h => by
    rw [List.flatMap_cons, List.length_append, fps_len r (fun g hg => h g (List.mem_cons_of_mem _ hg)), fpL_len f (h f (List.mem_cons_self ..)), List.length_cons]; omega
theorem fps_get : ∀ (l : List Mt.Fnd), (∀ f ∈ l, f.at'.length = 20) → ∀ (k j : Nat), k < l.length → j < 22 → (l.flatMap fpL)[k * 22 + j]? = (fpL (l.getD k Mt.fnd0))[j]?
  | [], _, k, j, hk, _ => by simp at hk
  | f :: r, h, 0, j, hk, hj => by
    rw [List.flatMap_cons, List.getElem?_append_left (by rw [fpL_len f (h f (List.mem_cons_self ..))]; omega)]; simp
  | f :: r, h, k + 1, j, hk, hj => by
    have hl := fpL_len f (h f (List.mem_cons_self ..))
    rw [List.flatMap_cons, List.getElem?_append_right (by omega), hl, show (k + 1) * 22 + j - 22 = k * 22 + j by omega]
    rw [fps_get r (fun g hg => h g (List.mem_cons_of_mem _ hg)) k j (by simp at hk; omega) hj]; simp
theorem fps_cases {w : World} {base : Nat} {v : Value} {l : List Mt.Fnd} (h : ownFps w base v l) (hl : ∀ f ∈ l, f.at'.length = 20) :
    (l = [] ∧ ∃ ao cap, v = .slice ao 0 cap) ∨ (0 < l.length ∧ ∃ g cap, v = .slice (some ⟨g, 0, none⟩) l.length cap ∧ l.length ≤ cap ∧ g < w.heap.size ∧ ∀ k, k < l.length → w.rangeAt g (k * 22) (fpL (l.getD k Mt.fnd0))) := by
  by_cases h0 : l = []
  · left
    subst h0
    refine ⟨rfl, ?_⟩
    rcases h.2 with ⟨rfl, _⟩ | ⟨g, cap, cur, rfl, _⟩
    · exact ⟨_, _, rfl⟩
    · exact ⟨_, _, rfl⟩
  · right
    have hp : 0 < l.length := List.length_pos_iff.2 h0
    refine ⟨hp, ?_⟩
    have hh := owns_base h (Nat.zero_le _)
    rcases h.2 with ⟨rfl, hn⟩ | ⟨g, cap, cur, rfl, hb, hg, h1, h2, h3, h4⟩
    · omega
    · refine ⟨g, cap, rfl, h1, (Array.getElem?_eq_some_iff.1 hg).1, fun k hk j u hu => ?_⟩
      have hlen := fps_len l hl
      have hj : j < 22 := by
        have := (List.getElem?_eq_some_iff.1 hu).1
        have hm : (l.getD k Mt.fnd0).at'.length = 20 := hl _ (by rw [List.getD_eq_getElem?_getD, List.getElem?_eq_getElem hk]; exact List.getElem_mem hk)
        rw [fpL_len _ hm] at this; exact this
      have hc := World.ownsRow.cellAt hh (k * 22 + j) (by
        have : (k + 1) * 22 ≤ l.length * 22 := Nat.mul_le_mul_right _ hk
        rw [Nat.add_mul] at this; omega)
      rw [hc, fps_get l hl k j hk hj]; exact hu
theorem cellAt' {z w : World} (p : Addr) (h : z.heap[p.block]? = w.heap[p.block]?) : z.cell? p = w.cell? p := by unfold World.cell?; rw [h]

set_option maxRecDepth 100000 in
set_option maxHeartbeats 4000000 in
theorem inside_zero (T frm : Nat) (w : World) :
    Calls Try.prog 22 #[.agg (fpA Mt.fnd0), .int .i64 (frm : Int), .int .i64 (T : Int)] w fun e w' => e = .returned (.bool false) ∧ Below w.heap.size w w' := by
  obtain ⟨z, hz⟩ : ∃ z, z = w.alloc (.cells (fpA Mt.fnd0) 31) := ⟨_, rfl⟩
  have q1 : z.heap[w.heap.size]? = some (.cells (fpA Mt.fnd0) 31 (0, 0)) := by rw [hz]; exact heap_b1 _ _
  have HB : Hid (Below w.heap.size w z) := by rw [hz]; exact (Below.refl _ _).alloc (Nat.le_refl _) _
  have l1 : w.heap.size < z.heap.size := by rw [hz]; simp
  have c21 : z.cell? ⟨w.heap.size, 21, none⟩ = some (.int .i64 0) := ((cell_block q1).1 _).trans (fpA_steps _ rfl)
  clear q1
  go_enter Try.func22, Try.ntmps22
  go_upto_region 1 with fail
  show Code.wp _ _ _ _ (w.alloc (.cells (fpA Mt.fnd0) 31))
  rw [← hz]
  clear hz
  generalize hn : w.heap.size = n at *
  go_wp2_with fail
  go_ret
  exact ⟨rfl, by rw [hn]; exact HB.out⟩

set_option maxRecDepth 100000 in
set_option maxHeartbeats 4000000 in
theorem sameAll_true (c : List Mt.Fnd) (hc20 : ∀ f ∈ c, f.at'.length = 20) (va vb : Value) (w : World) (ha : ownFps w 0 va c) (hb : ownFps w 0 vb c) (hl : c.length ≤ 300) :
    Calls Try.prog 28 #[va, vb] w fun e w' => e = .returned (.bool true) ∧ Below w.heap.size w w' := by
  rcases fps_cases ha hc20 with ⟨rfl, ao, capa, rfl⟩ | ⟨hpos, ga, capa, rfl, hca, hga, hA⟩
  · rcases fps_cases hb hc20 with ⟨_, bo, capb, rfl⟩ | ⟨hpos, _⟩
    · clear ha hb
      go_enter Try.func28, Try.ntmps28
      go_wp2_with fail
      refine wp_loop_rounds 1 ?_
      rw [rounds_succ]
      go_wp2_with fail
      go_ret
      exact ⟨rfl, Below.refl _ _⟩
    · simp at hpos
  · rcases fps_cases hb hc20 with ⟨rfl, _⟩ | ⟨_, gb, capb, rfl, hcb, hgb, hB⟩
    · simp at hpos
    · have HA : Hid (∀ k, k < c.length → w.rangeAt ga (k * 22) (fpL (c.getD k Mt.fnd0))) := hA
      have HB : Hid (∀ k, k < c.length → w.rangeAt gb (k * 22) (fpL (c.getD k Mt.fnd0))) := hB
      have H20 : Hid (∀ f ∈ c, f.at'.length = 20) := hc20
      clear ha hb hA hB hc20
      go_enter Try.func28, Try.ntmps28
      go_wp2_with fail
      go_loopw [5] (fun i wr => ∃ k : Nat, k ≤ c.length ∧ i = .int .i64 k ∧ Below w.heap.size w wr) (fun i _ => c.length - (intOf i).toNat)
      case atStart => exact ⟨0, Nat.zero_le _, rfl, Below.refl _ _⟩
      case round =>
        obtain ⟨k, hk, rfl, hbr⟩ := hrel
        have hsz := hbr.size
        by_cases hlt : k < c.length
        · have hm : (c.getD k Mt.fnd0).at'.length = 20 := H20.out _ (by rw [List.getD_eq_getElem?_getD, List.getElem?_eq_getElem hlt]; exact List.getElem_mem hlt)
          have a0 := HA.out k hlt
          have b0 := HB.out k hlt
          generalize c.getD k Mt.fnd0 = f at *
          have ra : ∀ z : World, (∀ q, q < w.heap.size → z.heap[q]? = w.heap[q]?) → z.rangeAt ga (k * 22) (fpL f) := fun z hz j u hu => (cellAt' ⟨ga, k * 22 + j, none⟩ (hz ga hga)).trans (a0 j u hu)
          have rb : ∀ z : World, (∀ q, q < w.heap.size → z.heap[q]? = w.heap[q]?) → z.rangeAt gb (k * 22) (fpL f) := fun z hz j u hu => (cellAt' ⟨gb, k * 22 + j, none⟩ (hz gb hgb)).trans (b0 j u hu)
          have hst : (fpL f)[21]? = some (.int .i64 f.steps) := by have := fpA_steps f hm; simpa [fpL] using this
          have RS : Hid (∀ z : World, (∀ q, q < w.heap.size → z.heap[q]? = w.heap[q]?) → z.cell? ⟨ga, k * 22 + 21, none⟩ = some (.int .i64 f.steps) ∧ z.cell? ⟨gb, k * 22 + 21, none⟩ = some (.int .i64 f.steps)) := fun z hz => ⟨ra z hz 21 _ hst, rb z hz 21 _ hst⟩
          have KP : Hid (∀ z : World, Calls Try.prog 16 #[.agg (fpA f), .agg (fpA f)] z fun e w' => e = .returned (.bool true) ∧ Below z.heap.size z w') := fun z => alike_true f f hm rfl rfl z
          have hlen := fpL_len f hm
          have eA : (fpL f).toArray = fpA f := by simp [fpL]
          have i0 : (0 : Int) ≤ (k : Int) := by omega
          have i1 : (k : Int) < (c.length : Int) := by omega
          clear a0 b0 hst
          go_wp2_with fail
          refine wp_region_held_drew (S := fun z : World => ∀ q, q < w.heap.size → z.heap[q]? = w.heap[q]?) (by kernel_rfl) (fun q hq => hbr.block q hq) (fun hHeld => ?_)
          refine takeAt 0 18 (.slice (some ⟨ga, 0, none⟩) c.length capa) rfl rfl (by kernel_rfl) (by kernel_rfl) (by kernel_rfl) (fun _ _ _ h => h) (Or.inl ⟨by rfl, fun z hz => by clear hz hHeld ra rb; go_simp⟩) (by assumption) ?_
          simp only [Act.put, List.setIfInBounds_toArray, List.set_cons_zero, List.set_cons_succ]
          refine takeAt 1 19 (.int .i64 k) rfl rfl (by kernel_rfl) (by kernel_rfl) (by kernel_rfl) (fun _ _ _ h => h) (Or.inl ⟨by rfl, fun z hz => by clear hz hHeld ra rb; go_simp⟩) (by assumption) ?_
          simp only [Act.put, List.setIfInBounds_toArray, List.set_cons_zero, List.set_cons_succ]
          refine takeAt 2 20 (.pointer (some ⟨ga, k * 22, none⟩)) rfl rfl (by kernel_rfl) (by kernel_rfl) (by kernel_rfl) (fun _ _ _ h => h) (Or.inl ⟨by rfl, fun z hz => by clear hz hHeld ra rb; go_simp⟩) (by assumption) ?_
          simp only [Act.put, List.setIfInBounds_toArray, List.set_cons_zero, List.set_cons_succ]
          refine takeAt 3 21 (.agg (fpL f).toArray) rfl rfl (by kernel_rfl) (by kernel_rfl) (by kernel_rfl) (fun _ _ _ h => h) (yieldsIf_load_mid (by rfl) _ _ rfl _ _ rfl _ _ ra Try.underlying31 rfl (by rw [Try.sizeFd]; exact congrArg some hlen.symm)) (by assumption) ?_
          simp only [Act.put, List.setIfInBounds_toArray, List.set_cons_zero, List.set_cons_succ]
          refine takeAt 4 22 (.slice (some ⟨gb, 0, none⟩) c.length capb) rfl rfl (by kernel_rfl) (by kernel_rfl) (by kernel_rfl) (fun _ _ _ h => h) (Or.inl ⟨by rfl, fun z hz => by clear hz hHeld ra rb; go_simp⟩) (by assumption) ?_
          simp only [Act.put, List.setIfInBounds_toArray, List.set_cons_zero, List.set_cons_succ]
          refine takeAt 5 23 (.int .i64 k) rfl rfl (by kernel_rfl) (by kernel_rfl) (by kernel_rfl) (fun _ _ _ h => h) (Or.inl ⟨by rfl, fun z hz => by clear hz hHeld ra rb; go_simp⟩) (by assumption) ?_
          simp only [Act.put, List.setIfInBounds_toArray, List.set_cons_zero, List.set_cons_succ]
          refine takeAt 6 24 (.pointer (some ⟨gb, k * 22, none⟩)) rfl rfl (by kernel_rfl) (by kernel_rfl) (by kernel_rfl) (fun _ _ _ h => h) (Or.inl ⟨by rfl, fun z hz => by clear hz hHeld ra rb; go_simp⟩) (by assumption) ?_
          simp only [Act.put, List.setIfInBounds_toArray, List.set_cons_zero, List.set_cons_succ]
          refine takeAt 7 25 (.agg (fpL f).toArray) rfl rfl (by kernel_rfl) (by kernel_rfl) (by kernel_rfl) (fun _ _ _ h => h) (yieldsIf_load_mid (by rfl) _ _ rfl _ _ rfl _ _ rb Try.underlying31 rfl (by rw [Try.sizeFd]; exact congrArg some hlen.symm)) (by assumption) ?_
          simp only [Act.put, List.setIfInBounds_toArray, List.set_cons_zero, List.set_cons_succ]
          rw [eA]
          refine wpAnyH_ready (rs := [8]) (by kernel_rfl) (by simp) ?_
          refine AllReadyH.cons rfl (fun K hK => ?_) AllReadyH.nil
          clear ra rb eA
          have HH : Hid (∀ q, q < w.heap.size → wr.drew.heap[q]? = w.heap[q]?) := hHeld
          clear hHeld
          go_simp
          refine (KP.out wr.drew).mono ?_
          rintro e w9 ⟨rfl, hb9⟩
          have hS9 : ∀ q, q < w.heap.size → w9.heap[q]? = w.heap[q]? := fun q hq => (hb9.block q (by show q < wr.heap.size; omega)).trans (HH.out q hq)
          have B9 : Hid (Below w.heap.size w w9) := hbr.trans (((Below.refl _ _).drew).trans (hb9.mono hsz))
          have HS9 : Hid (∀ q, q < w.heap.size → w9.heap[q]? = w.heap[q]?) := hS9
          clear hb9 hbr
          go_simp
          refine hK.out _ _ hS9 (fun hHeld2 => ?_)
          clear hK K hS9
          refine takeAt 9 6 (.bool true) rfl rfl (by kernel_rfl) (by kernel_rfl) (by kernel_rfl) (fun _ _ _ h => h) (Or.inl ⟨by rfl, fun z hz => by clear hz hHeld2; go_simp⟩) (by assumption) ?_
          simp only [Act.put, List.setIfInBounds_toArray, List.set_cons_zero, List.set_cons_succ]
          refine wpAnyH_done (by kernel_rfl) ?_ _
          clear hHeld2
          obtain ⟨s1, s2⟩ := RS.out w9 HS9.out
          have lga : ga < w9.heap.size := Nat.lt_of_lt_of_le hga B9.out.size
          have lgb : gb < w9.heap.size := Nat.lt_of_lt_of_le hgb B9.out.size
          generalize f.steps = st at *
          have m1 : (st != st) = false := by simp
          go_wp2_with fail
          go_quiet (fail)
          go_wp2_with fail
          go_roundw
          case rel => exact ⟨k + 1, by omega, by go_num, by first | exact B9.out | exact below_drewN B9.out _⟩
          case measure => simp [intOf]; omega
        · go_wp2_with fail
          go_ret
          exact ⟨rfl, hbr⟩
end Go.Proofs.Ytebpgfodelggoab
/- FINDALL IS FIND AGAIN AND AGAIN: P11. -/
set_option linter.unusedVariables false
namespace Mt

def chainR (c : List Ins) (t : ByteArray) (policy mask room : Int) : Nat → Nat → Int → List Fnd → List Fnd × Int × Bool
  | 0, _, used, l => (l, used, true)
  | F + 1, frm, used, l =>
    if t.size < frm then (l, used, true)
    else if (searchAll c t policy mask room 10000 frm).2 then (l, used, false)
    else if (searchAll c t policy mask room 10000 frm).1.ok = false then (l, used + (searchAll c t policy mask room 10000 frm).1.steps, true)
    else chainR c t policy mask room F (nextFrom (searchAll c t policy mask room 10000 frm).1) (used + (searchAll c t policy mask room 10000 frm).1.steps) (l ++ [(searchAll c t policy mask room 10000 frm).1])
section
variable {c : List Ins} (hc : codeOk c) (hc0 : 0 < c.length) (t : ByteArray) (policy mask room : Int) (hr : 0 ≤ room ∧ room ≤ 5000)
include hc hc0 hr
theorem search_steps (b : Int) (hb : 0 ≤ b) (frm : Nat) (hf : frm ≤ t.size) (h : (searchAll c t policy mask room b frm).2 = false) : 0 ≤ (searchAll c t policy mask room b frm).1.steps ∧ (searchAll c t policy mask room b frm).1.steps ≤ b :=
  (search_in (envOf c t policy mask) hc hc0 b (t.size + 1 - frm) frm b.toNat (List.replicate (c.length * (t.size + 1) * 12) false) room (by show frm + (t.size + 1 - frm) ≤ t.size + 1; omega) hr (by omega) h).1
theorem chain_used : ∀ (F frm : Nat) (used : Int) (l : List Fnd), used ≤ (chainR c t policy mask room F frm used l).2.1
  | 0, frm, used, l => by simp [chainR]
  | F + 1, frm, used, l => by
    rw [chainR]
    split
    · exact Int.le_refl _
    rename_i h1
    split
    · exact Int.le_refl _
    rename_i h2
    have hs := search_steps hc hc0 t policy mask room hr 10000 (by omega) frm (by omega) (by simpa using h2)
    split
    · show used ≤ used + _; omega
    · have := chain_used F (nextFrom (searchAll c t policy mask room 10000 frm).1) (used + (searchAll c t policy mask room 10000 frm).1.steps) (l ++ [(searchAll c t policy mask room 10000 frm).1])
      omega
theorem all_chain (budget : Int) (hb : 0 ≤ budget ∧ budget ≤ 10000) : ∀ (F frm : Nat) (used : Int) (l : List Fnd), 0 ≤ used → used ≤ budget →
    allFrom c t policy mask room budget F frm used l = if (chainR c t policy mask room F frm used l).2.2 = true ∧ (chainR c t policy mask room F frm used l).2.1 ≤ budget then ((chainR c t policy mask room F frm used l).1, (chainR c t policy mask room F frm used l).2.1, 0) else ([], 0, 14)
  | 0, frm, used, l, h0, h1 => by rw [allFrom, chainR, if_pos ⟨rfl, h1⟩]
  | F + 1, frm, used, l, h0, h1 => by
    by_cases hf : t.size < frm
    · have e1 : chainR c t policy mask room (F + 1) frm used l = (l, used, true) := by rw [chainR, if_pos hf]
      rw [e1, allFrom, if_pos hf, if_pos ⟨rfl, h1⟩]
    have hb' : 0 ≤ budget - used ∧ budget - used ≤ 10000 := by omega
    cases hS : (searchAll c t policy mask room 10000 frm).2
    · have hs := search_steps hc hc0 t policy mask room hr 10000 (by omega) frm (by omega) hS
      have e1 : chainR c t policy mask room (F + 1) frm used l = if (searchAll c t policy mask room 10000 frm).1.ok = false then (l, used + (searchAll c t policy mask room 10000 frm).1.steps, true) else chainR c t policy mask room F (nextFrom (searchAll c t policy mask room 10000 frm).1) (used + (searchAll c t policy mask room 10000 frm).1.steps) (l ++ [(searchAll c t policy mask room 10000 frm).1]) := by
        rw [chainR, if_neg hf, hS]; rfl
      rw [e1]
      clear e1
      by_cases hle : (searchAll c t policy mask room 10000 frm).1.steps ≤ budget - used
      · have e2 : allFrom c t policy mask room budget (F + 1) frm used l = if (searchAll c t policy mask room 10000 frm).1.ok = false then (l, used + (searchAll c t policy mask room 10000 frm).1.steps, 0) else allFrom c t policy mask room budget F (nextFrom (searchAll c t policy mask room 10000 frm).1) (used + (searchAll c t policy mask room 10000 frm).1.steps) (l ++ [(searchAll c t policy mask room 10000 frm).1]) := by
          rw [allFrom, if_neg hf, budget_same (budget - used) hb' hS hle, hS]; rfl
        rw [e2]
        by_cases hok : (searchAll c t policy mask room 10000 frm).1.ok = false
        · rw [if_pos hok, if_pos hok, if_pos ⟨rfl, by show used + _ ≤ budget; omega⟩]
        · rw [if_neg hok, if_neg hok]
          exact all_chain budget hb F _ _ _ (by omega) (by omega)
      · have e2 : allFrom c t policy mask room budget (F + 1) frm used l = ([], 0, 14) := by
          rw [allFrom, if_neg hf, budget_less hc hc0 (by omega) hr (budget - used) hb' hS (by omega)]; rfl
        rw [e2]
        by_cases hok : (searchAll c t policy mask room 10000 frm).1.ok = false
        · rw [if_pos hok, if_neg (by intro h; have := h.2; dsimp only at this; omega)]
        · rw [if_neg hok]
          have hu := chain_used hc hc0 t policy mask room hr F (nextFrom (searchAll c t policy mask room 10000 frm).1) (used + (searchAll c t policy mask room 10000 frm).1.steps) (l ++ [(searchAll c t policy mask room 10000 frm).1])
          rw [if_neg (by intro h; have := h.2; omega)]
    · have e1 : chainR c t policy mask room (F + 1) frm used l = (l, used, false) := by rw [chainR, if_neg hf, hS]; rfl
      have e2 : allFrom c t policy mask room budget (F + 1) frm used l = ([], 0, 14) := by rw [allFrom, if_neg hf, budget_over (budget - used) hb' hS]; rfl
      rw [e1, e2, if_neg (by simp)]
end
theorem findAllR_err (p t : ByteArray) (policy mask room budget : Int) (h : (checkR p).1 ≠ 0) : findAllR p t policy mask room budget = ([], 0, (checkR p).1) := by
  unfold findAllR; rw [codeR_err, if_pos h]
theorem findAllR_ok (p t : ByteArray) (policy mask room budget : Int) (h : (checkR p).1 = 0) (hc : codeOk (codeR p).1) (hc0 : 0 < (codeR p).1.length) (hT : t.size ≤ 60) (ho : Opt policy mask room budget) :
    findAllR p t policy mask room budget = if (chainR (codeR p).1 t policy mask room (t.size + 2) 0 0 []).2.2 = true ∧ (chainR (codeR p).1 t policy mask room (t.size + 2) 0 0 []).2.1 ≤ budget then ((chainR (codeR p).1 t policy mask room (t.size + 2) 0 0 []).1, (chainR (codeR p).1 t policy mask room (t.size + 2) 0 0 []).2.1, 0) else ([], 0, 14) := by
  obtain ⟨h1, h2, h3, h4⟩ := ho
  have hm : mayFind t.size 0 policy mask room budget = 0 := by
    unfold mayFind maySelect
    rw [if_neg (by omega), if_pos ⟨by rw [decide_eq_true_eq]; omega, by omega⟩]
  unfold findAllR
  rw [codeR_err, if_neg (by omega), hm, if_neg (by omega)]
  exact all_chain hc hc0 t policy mask room (by omega) budget h4 (t.size + 2) 0 0 [] (by omega) h4.1
end Mt
/- SearchAll. -/
set_option linter.unusedVariables false
set_option linter.unusedSimpArgs false
namespace Go.Proofs.Ytebpgfodelggoab
open Go.RowKit

theorem blkHold {z z' : World} {L b : Nat} {A : Array Value} {t : TypeId} (h : z.heap[b]? = some (.cells A t (0, 0))) (hb : Below L z z') (hl : b < L) : z'.heap[b]? = some (.cells A t (0, 0)) := (hb.block b hl).trans h
theorem searchAll_len {c : List Mt.Ins} {A : Int → Mt.Att} (hK : Mt.Known c A) (t : ByteArray) (policy mask room b : Int) (frm : Nat) (hf : frm ≤ t.size) (hr : 0 ≤ room ∧ room ≤ 5000) : (Mt.searchAll c t policy mask room b frm).1.at'.length = 20 := by
  have key : ∀ (f p n : Nat) (kn : List Bool) (room : Int), (0 ≤ room ∧ room ≤ 5000) → p + f ≤ t.size + 1 → (Mt.search (Mt.envOf c t policy mask) b f p n kn room).1.at'.length = 20 := by
    intro f
    induction f with
    | zero => intro p n kn room _ _; simp [Mt.search, Mt.nowhere]
    | succ f ih =>
      intro p n kn room hr hpf
      have hg := Mt.look_good (Mt.envOf c t policy mask) hK.ok n n (Mt.startSt p) kn room (Nat.le_refl _) (Mt.startSt_good _ _ p hK.pos (by show p ≤ t.size; omega)) hr
      rw [Mt.search]
      split
      · rfl
      split
      · exact Mt.foundAt_len _ _ hg.2.2.2.1
      · exact ih (p + 1) _ _ _ hg.2.2.1 (by omega)
  exact key _ _ _ _ _ hr (by omega)
/-- What stands at the head of a round. -/
def AllAt (w1 : World) (c : List Mt.Ins) (text : ByteArray) (policy mask room budget : Int) (R : List Mt.Fnd × Int × Int) (v u i : Value) (wr : World) : Prop :=
  ∃ (F frm : Nat) (used : Int) (l : List Mt.Fnd), i = .int .i64 frm ∧ u = .int .i64 used ∧ frm ≤ text.size + 1 ∧ text.size + 2 ≤ frm + F ∧ l.length ≤ frm ∧ (0 ≤ used ∧ used ≤ budget) ∧ ownFps wr w1.heap.size v l ∧ Below w1.heap.size w1 wr
    ∧ R = Mt.allFrom c text policy mask room budget F frm used l

set_option maxRecDepth 100000 in
set_option maxHeartbeats 16000000 in
theorem SearchAll_any (E : Mt.Env) (A : Int → Mt.Att) (hT : TabCtx E) (hK : Mt.Known E.c A) (har : ∀ p, p < E.c.length → E.ar.getD p 0 = Mt.loopsAt E.c p) (policy mask : Int) (hEv : E = Mt.envOf E.c E.t policy mask) (g cap q nq cq : Nat) (room budget : Int) (hr : 0 ≤ room ∧ room ≤ 5000) (hb : 0 ≤ budget ∧ budget ≤ 10000) (ht60 : E.t.size ≤ 60) (w : World)
    (h : ownIns w 0 (.slice (some ⟨g, 0, none⟩) E.c.length cap) E.c) (hq : rInts w 0 (.slice (some ⟨q, 0, none⟩) nq cq) (Mt.numsTo E.inn E.c.length)) (hnq : nq = (Mt.numsTo E.inn E.c.length).length) (R : List Mt.Fnd × Int × Int) (hR : R = Mt.allFrom E.c E.t policy mask room budget (E.t.size + 2) 0 0 []) :
    Calls Try.prog 41 #[.agg #[.slice (some ⟨g, 0, none⟩) E.c.length cap, .slice (some ⟨q, 0, none⟩) nq cq, .string E.t, .int .i64 room], .int .i64 budget] w fun e w' => ∃ v, e = .returned (.tuple #[v, .int .i64 R.2.1, .int .i64 R.2.2]) ∧ ownFps w' w.heap.size v R.1 ∧ Below w.heap.size w w' := by
  obtain ⟨V, hV⟩ : ∃ V : Array Value, V = #[.slice (some ⟨g, 0, none⟩) E.c.length cap, .slice (some ⟨q, 0, none⟩) nq cq, .string E.t, .int .i64 room] := ⟨_, rfl⟩
  have KS : Hid (∀ (b : Int) (frm : Nat) (z : World), 0 ≤ b → b ≤ 10000 → frm ≤ E.t.size → Below w.heap.size w z → Calls Try.prog 31 #[.agg V, .int .i64 (frm : Int), .int .i64 b] z fun e w' => e = .returned (.tuple #[.agg (fpA (Mt.searchAll E.c E.t policy mask room b frm).1), .int .i64 (errOf (Mt.searchAll E.c E.t policy mask room b frm).2)]) ∧ Below z.heap.size z w') := fun b frm z h0 h1 hf hbz => by
    rw [hV]
    exact Search_any E A hT hK har g cap q nq cq frm room b hr ⟨h0, h1⟩ hf z (h.below hbz) (hq.below hbz) hnq (Mt.searchAll E.c E.t policy mask room b frm) (by unfold Mt.searchAll; rw [← hEv])
  have HLn : Hid (∀ (b : Int) (frm : Nat), frm ≤ E.t.size → (Mt.searchAll E.c E.t policy mask room b frm).1.at'.length = 20) := fun b frm hf => searchAll_len hK E.t policy mask room b frm hf hr
  have HIn : Hid (∀ (b : Int) (frm : Nat), 0 ≤ b → frm ≤ E.t.size → (Mt.searchAll E.c E.t policy mask room b frm).2 = false → (0 ≤ (Mt.searchAll E.c E.t policy mask room b frm).1.steps ∧ (Mt.searchAll E.c E.t policy mask room b frm).1.steps ≤ b) ∧ ((Mt.searchAll E.c E.t policy mask room b frm).1.ok = true → ∃ x y : Nat, (Mt.searchAll E.c E.t policy mask room b frm).1.at'.getD 0 0 = (x : Int) ∧ (Mt.searchAll E.c E.t policy mask room b frm).1.at'.getD 1 0 = (y : Int) ∧ frm ≤ x ∧ x ≤ y ∧ y ≤ E.t.size)) := fun b frm h0 hf ho => Mt.search_in (Mt.envOf E.c E.t policy mask) hK.ok hK.pos b (E.t.size + 1 - frm) frm b.toNat _ room (by show frm + (E.t.size + 1 - frm) ≤ E.t.size + 1; omega) hr (by omega) ho
  have hV2 : V[2]? = some (.string E.t) := by rw [hV]; rfl
  have hVs : V.size = 4 := by rw [hV]; rfl
  rw [← hV]
  have HV2 : Hid (V[2]? = some (.string E.t)) := hV2
  have HR : Hid (R = Mt.allFrom E.c E.t policy mask room budget (E.t.size + 2) 0 0 []) := hR
  clear hV hV2 hR hq hnq h hT hK har hEv
  generalize E.t = text at *
  generalize E.c = C at *
  clear E A
  obtain ⟨w1, hw1⟩ : ∃ w1, w1 = w.alloc (.cells V 72) := ⟨_, rfl⟩
  have T1 : Hid (w1.heap[w.heap.size]? = some (.cells V 72 (0, 0))) := by rw [hw1]; exact heap_b1 _ _
  have HB1 : Hid (Below w.heap.size w w1) := by rw [hw1]; exact (Below.refl _ _).alloc (Nat.le_refl _) _
  have HZ1 : Hid (w1.heap.size = w.heap.size + 1) := by rw [hw1]; show _ = _; simp
  go_enter Try.func41, Try.ntmps41
  go_upto_region 1 with fail
  show Code.wp _ _ _ _ (w.alloc (.cells V 72))
  rw [← hw1]
  clear hw1
  generalize hn : w.heap.size = n at *
  go_wp2_with fail
  obtain ⟨i0, hi, hz0, hz1, hz2⟩ := info_parts Try.infoFp
  have HIF : Hid (Try.prog.info? 31 = some i0 ∧ i0.zero = some (.agg (fpA Mt.fnd0)) ∧ i0.size = 22 ∧ i0.bytes = 176) := ⟨hi, hz0, hz1, hz2⟩
  clear hi hz0 hz1 hz2
  go_loopw [7, 8, 9] (fun v u i wr => AllAt w1 C text policy mask room budget R v u i wr) (fun _ _ i _ => text.size + 2 - (intOf i).toNat)
  case atStart => exact ⟨text.size + 2, 0, 0, [], rfl, rfl, by omega, by omega, by simp, ⟨by omega, hb.1⟩, own_fps_empty (heap_b1 _ _) (Nat.le_refl _), (Below.refl _ _).alloc (Nat.le_refl _) _, HR.out⟩
  case round =>
    clear HR
    obtain ⟨F, frm, used, l, rfl, rfl, hfr, hF, hll, hus, hown, hbr, hRa⟩ := hrel
    have HOW : Hid (ownFps wr w1.heap.size u7 l) := hown
    have HBR : Hid (Below w1.heap.size w1 wr) := hbr
    have HRA : Hid (R = Mt.allFrom C text policy mask room budget F frm used l) := hRa
    have TR : Hid (wr.heap[n]? = some (.cells V 72 (0, 0))) := blkHold T1.out hbr (by have := HZ1.out; omega)
    have c2 : wr.cell? ⟨n, 2, none⟩ = some (.string text) := ((cell_block TR.out).1 2).trans HV2.out
    have ln : n < wr.heap.size := (Array.getElem?_eq_some_iff.1 TR.out).1
    have HBW : Hid (Below n w wr) := HB1.out.trans (hbr.mono (by have := HZ1.out; omega))
    have hus0 := hus.1
    have hus1 := hus.2
    have hb0 := hb.1
    have hb1 := hb.2
    clear hown hbr hRa hus
    obtain ⟨F, rfl⟩ : ∃ F', F = F' + 1 := ⟨F - 1, by omega⟩
    by_cases hlt : text.size < frm
    · have HRR : Hid (R = (l, used, 0)) := by show _ = _; rw [HRA.out, Mt.allFrom, if_pos hlt]
      have d1 : decide ((frm : Int) ≤ (text.size : Int)) = false := by rw [decide_eq_false_iff_not]; omega
      have d2 : decide (frm ≤ text.size) = false := by rw [decide_eq_false_iff_not]; omega
      clear HRA hlt
      go_wp2_with fail
      go_ret3
      rw [HRR.out]
      exact ⟨_, rfl, owns_base HOW.out (by have := HZ1.out; omega), by first | exact HBW.out | (rw [hn]; exact HBW.out)⟩
    · have hfT : frm ≤ text.size := by omega
      have d1 : decide ((frm : Int) ≤ (text.size : Int)) = true := by rw [decide_eq_true_eq]; omega
      have d2 : decide (frm ≤ text.size) = true := by rw [decide_eq_true_eq]; omega
      have hRR := HRA.out
      rw [Mt.allFrom, if_neg hlt] at hRR
      have hS4 := HLn.out (budget - used) frm hfT
      have hS5 := HIn.out (budget - used) frm (by omega) hfT
      have hS6 := KS.out (budget - used) frm wr (by omega) (by omega) hfT HBW.out
      generalize Mt.searchAll C text policy mask room (budget - used) frm = S at *
      have HRR : Hid (R = _) := hRR
      have HL : Hid (S.1.at'.length = 20) := hS4
      have HI : Hid (S.2 = false → (0 ≤ S.1.steps ∧ S.1.steps ≤ budget - used) ∧ (S.1.ok = true → ∃ x y : Nat, S.1.at'.getD 0 0 = (x : Int) ∧ S.1.at'.getD 1 0 = (y : Int) ∧ frm ≤ x ∧ x ≤ y ∧ y ≤ text.size)) := hS5
      have HS6 : Hid (Calls Try.prog 31 #[.agg V, .int .i64 (frm : Int), .int .i64 (budget - used)] wr fun e w' => e = .returned (.tuple #[.agg (fpA S.1), .int .i64 (errOf S.2)]) ∧ Below wr.heap.size wr w') := hS6
      have zs := fpA_size S.1 hS4
      have za := fpA_all S.1
      clear hRR hS4 hS5 hS6 HRA hlt
      go_wp2_with (refine load_blk 72 4 Try.underlying72 rfl Try.sizeTk (by rfl) (.tmp 2) (by rfl) n (by rfl) TR.out hVs ?_)
      refine HS6.out.mono ?_
      rintro e w3 ⟨rfl, hb3⟩
      have HB3 : Hid (Below wr.heap.size wr w3) := hb3
      clear hb3 c2 HS6
      go_upto_region 6 with (refine store_blk 31 22 Try.sizeFd (by rfl) (.tmp 10) (.tmp 25) (by rfl) w3.heap.size (fpA S.1) (by rfl) (by rfl) (by exact heap_b1 _ _) (by rfl) zs za ?_; intro w4 r1 r2 r3 r4)
      have B4 : Below wr.heap.size wr w4 := HB3.out.trans ((((Below.refl _ _).alloc (Nat.le_refl _) _).trans (r4 _ (Nat.le_refl _))).mono HB3.out.size)
      have HB4 : Hid (Below wr.heap.size wr w4) := B4
      have V4 : Hid (w4.heap[w3.heap.size]? = some (.cells (fpA S.1) 31 (0, 0))) := r1
      have d0 : w4.cell? ⟨w3.heap.size, 0, none⟩ = some (.bool S.1.ok) := ((cell_block r1).1 _).trans (fpA_ok _)
      have d21 : w4.cell? ⟨w3.heap.size, 21, none⟩ = some (.int .i64 S.1.steps) := ((cell_block r1).1 _).trans (fpA_steps _ HL.out)
      have l4 : w3.heap.size < w4.heap.size := (Array.getElem?_eq_some_iff.1 r1).1
      have HS34 : Hid (wr.heap.size ≤ w3.heap.size) := HB3.out.size
      clear r1 r2 r3 r4 B4 HB3
      generalize hm3 : w3.heap.size = m at *
      have hcs : (S.2 = true) ∨ (S.2 = false ∧ S.1.ok = false) ∨ (S.2 = false ∧ S.1.ok = true) := by cases S.2 <;> cases S.1.ok <;> simp
      rcases hcs with ov | ⟨ov, ok⟩ | ⟨ov, ok⟩
      · have HRH : Hid (R = ([], 0, 14)) := by show _ = _; rw [HRR.out, ov]; rfl
        have HB5 : Hid (Below n w w4) := HBW.out.trans (HB4.out.mono (by omega))
        have he : (errOf S.2 != 0) = true := by rw [ov]; rfl
        have he2 : errOf S.2 = 14 := by rw [ov]; rfl
        rw [he2] at *
        clear HRR d0 d21
        go_wp2_with fail
        go_ret3
        rw [HRH.out]
        exact ⟨_, rfl, World.ownsRow_nil _ _ _ _, by first | exact HB5.out | (rw [hn]; exact HB5.out)⟩
      · have HRH : Hid (R = (l, used + S.1.steps, 0)) := by show _ = _; rw [HRR.out, ov, ok]; rfl
        have hst := (HI.out ov).1
        have hst0 := hst.1
        have hst1 := hst.2
        have he2 : errOf S.2 = 0 := by rw [ov]; rfl
        rw [he2] at *
        rw [ok] at d0
        have HB5 : Hid (Below n w w4) := HBW.out.trans (HB4.out.mono (by omega))
        have O5 : Hid (ownFps w4 w1.heap.size u7 l) := owns_below HOW.out HB4.out
        clear HRR hst
        generalize S.1.steps = st at *
        go_wp2_with fail
        go_ret3
        rw [HRH.out]
        exact ⟨_, rfl, owns_base O5.out (by have := HZ1.out; omega), by first | exact HB5.out | (rw [hn]; exact HB5.out)⟩
      · have HRH : Hid (R = Mt.allFrom C text policy mask room budget F (Mt.nextFrom S.1) (used + S.1.steps) (l ++ [S.1])) := by show _ = _; rw [HRR.out, ov, ok]; rfl
        have hst := HI.out ov
        have hst0 := hst.1.1
        have hst1 := hst.1.2
        obtain ⟨x, y, hx, hy, hxf, hxy, hyT⟩ := hst.2 ok
        have HNX : Hid (Mt.nextFrom S.1 ≤ text.size + 1 ∧ frm + 1 ≤ Mt.nextFrom S.1 ∧ frm ≤ Mt.nextFrom S.1) := by
          show _ ∧ _
          unfold Mt.nextFrom; rw [hx, hy]
          split
          · exact ⟨by omega, by omega, by omega⟩
          · exact ⟨by omega, by omega, by omega⟩
        have KN : Hid (∀ z : World, Calls Try.prog 54 #[.agg (fpA S.1)] z fun e w' => e = .returned (.int .i64 (Mt.nextFrom S.1 : Nat)) ∧ Below z.heap.size z w') := fun z => nextFrom_any S.1 x y HL.out hx hy (by omega) z
        have he2 : errOf S.2 = 0 := by rw [ov]; rfl
        rw [he2] at *
        rw [ok] at d0
        have O5 : Hid (w4.ownsRow w1.heap.size 31 22 u7 l.length (l.flatMap fpL)) := owns_below HOW.out HB4.out
        have hown7 : ∀ k, u7.ownBlock = some k → w1.heap.size ≤ k ∧ k < wr.heap.size := fun k hk => World.ownsRow.lt HOW.out k hk
        have HO7 : Hid (∀ k, u7.ownBlock = some k → w1.heap.size ≤ k ∧ k < wr.heap.size) := hown7
        have HFL : Hid ((fpL S.1).length = 1 * 22) := by show _ = _; rw [fpL_len _ HL.out]
        have hw4 : w1.heap.size ≤ w4.heap.size := by have := HBR.out.size; have := HB4.out.size; omega
        clear HRR hst hx hy hown7
        generalize hst' : S.1.steps = st at *
        generalize hnf : Mt.nextFrom S.1 = nf at *
        go_wp2_with (first | (refine load_blk 31 22 Try.underlying31 rfl Try.sizeFd (by rfl) (.tmp 10) (by rfl) m (by rfl) V4.out zs ?_) | (refine wpList_build_fp (by rfl) (.tmp 38) (by rfl) S.1 HL.out (by rfl) ?_) | (at_builtin; refine wpList_append_lies _ rfl _ _ 60 rfl w1.heap.size 31 i0 _ 22 176 Try.underlying60 HIF.out.1 HIF.out.2.1 HIF.out.2.2.1 HIF.out.2.2.2 rfl (by decide) _ l.length _ rfl (World.ownsRow.alloc O5.out _) ⟨w4.heap.size, 0, none⟩ 1 1 (fpL S.1) rfl HFL.out (news_cells _ _ _) (fpL_one _) (by decide) (by unfold maxLen; omega) (by omega) (by simp; omega) (w4.heap.size + 1) (by simp) ?_))
        intro q' cap' w5 hown5 hgrow hqq hqlt
        have O6 : Hid (ownFps w5 w1.heap.size (.slice (some ⟨q', 0, none⟩) (l.length + 1) cap') (l ++ [S.1])) := own_fps_snoc hown5
        have B5 : Hid (Below w1.heap.size w1 w5) := ((HBR.out.trans (HB4.out.mono HBR.out.size)).alloc (by omega) _).grown hgrow (by simp; omega) (fun k hk => (HO7.out k hk).1)
        have V5 : Hid (w5.heap[m]? = some (.cells (fpA S.1) 31 (0, 0))) := by
          have hm4 : m < w4.heap.size := l4
          have e1 : (w4.alloc (.cells (fpL S.1).toArray 31)).heap[m]? = some (.cells (fpA S.1) 31 (0, 0)) := (heap_old _ _ _ hm4).trans V4.out
          have := hgrow.block m (by simp; omega) (fun e => by have := (HO7.out m e.symm).2; have := HS34.out; omega)
          exact this.trans e1
        clear hown5 hgrow hqq hqlt d0 d21 l4
        go_wp2_with (refine load_blk 31 22 Try.underlying31 rfl Try.sizeFd (by rfl) (.tmp 10) (by rfl) m (by rfl) V5.out zs ?_)
        refine (KN.out _).mono ?_
        rintro e w6 ⟨rfl, hb6⟩
        have O7 : Hid (ownFps w6 w1.heap.size (.slice (some ⟨q', 0, none⟩) (l.length + 1) cap') (l ++ [S.1])) := owns_below O6.out hb6
        have B6 : Hid (Below w1.heap.size w1 w6) := B5.out.trans (hb6.mono B5.out.size)
        clear hb6
        obtain ⟨n1, n2, n3⟩ := HNX.out
        go_wp2_with fail
        go_roundw
        case rel => exact ⟨F, nf, used + st, l ++ [S.1], rfl, rfl, by omega, by omega, by rw [List.length_append]; simp; omega, ⟨by omega, by omega⟩, O7.out, B6.out, HRH.out⟩
        case measure => simp [intOf]; omega
end Go.Proofs.Ytebpgfodelggoab
