import Derived.Test.YtebpgfodelggoabC44
import Derived.Test.YtebpgfodelggoabC09
import Derived.Test.YtebpgfodelggoabC22
import Derived.Great.BuildSlice
import Derived.Test.YtebpgfodelggoabC17
/- nextFrom; lists of what is found. -/
set_option linter.unusedVariables false
set_option linter.unusedSimpArgs false
namespace Go.Proofs.Ytebpgfodelggoab
open Go.RowKit

theorem Try.infoFp : (Try.prog.info? 31).map (fun i => (i.zero, i.size, i.bytes)) = some (some (.agg (fpA Mt.fnd0)), 22, 176) := by kernel_rfl
def fpL (f : Mt.Fnd) : List Value := (fpA f).toList
theorem fpL_len (f : Mt.Fnd) (h : f.at'.length = 20) : (fpL f).length = 22 := by have := fpA_size f h; simpa [fpL] using this
theorem fpL_one (f : Mt.Fnd) : ∀ u ∈ fpL f, u.oneCell' = true := by
  have := fpA_all f
  intro u hu
  rw [Array.all_eq_true_iff_forall_mem] at this
  exact this u (by simpa [fpL] using hu)
def ownFps (w : World) (base : Nat) (v : Value) (l : List Mt.Fnd) : Prop := w.ownsRow base 31 22 v l.length (l.flatMap fpL)
set_option maxRecDepth 100000 in
theorem fill_fp (f : Mt.Fnd) (h : f.at'.length = 20) : Instr.fill (fun i => some (i * 22, 22)) ((Array.range (1 * 22)).map ((Value.agg (fpA Mt.fnd0)).cells[· % (Value.agg (fpA Mt.fnd0)).cells.size]!)) [(0, .agg (fpA f))] = some (fpA f) := by
  obtain ⟨a0, a1, a2, a3, a4, a5, a6, a7, a8, a9, a10, a11, a12, a13, a14, a15, a16, a17, a18, a19, e⟩ := twenty h
  obtain ⟨ok, l, st⟩ := f
  dsimp only at e
  subst e
  kernel_rfl
theorem wpList_build_fp {ops : Array Oper} {rest : List Oper} {o : Oper} {a : Act} {w : World} {Q : Exit → Act → World → Prop} (hg : o.guard = none) (x : Operand) (ho : o.op = .buildSlice 60 1 #[(0, x)]) (f : Mt.Fnd) (hf : f.at'.length = 20) (hx : a.eval x = .agg (fpA f))
    (h : wpList Try.prog ops Q rest (a.put o.dst (.slice (some ⟨w.heap.size, 0, none⟩) 1 1)) (w.alloc (.cells (fpL f).toArray 31))) : wpList Try.prog ops Q (o :: rest) a w := by
  obtain ⟨i0, hi, hz0, hz1, hz2⟩ := info_parts Try.infoFp
  refine wpList_buildSlice hg 60 31 1 _ ho (fpA f) i0 _ Try.underlying60 hi hz0 (by rw [hz1]; decide) (by rw [hz1]; decide) ?_ h
  rw [hz1]
  simp only [List.map_toArray, List.map_cons, List.map_nil, hx]
  exact fill_fp f hf
theorem own_fps_snoc {w : World} {base : Nat} {v : Value} {l : List Mt.Fnd} {t : Mt.Fnd} (h : w.ownsRow base 31 22 v (l.length + 1) (l.flatMap fpL ++ fpL t)) : ownFps w base v (l ++ [t]) := by
  unfold ownFps
  rw [List.length_append, List.flatMap_append]
  simpa using h
theorem own_fps_empty {w : World} {base g : Nat} (h : w.heap[g]? = some (.cells #[] 31 (0, 0))) (hb : base ≤ g) : ownFps w base (.slice (some ⟨g, 0, none⟩) 0 0) [] :=
  ⟨rfl, .inr ⟨g, 0, #[], rfl, hb, h, Nat.le_refl _, by unfold maxLen; omega, rfl, rfl⟩⟩

set_option maxRecDepth 100000 in
set_option maxHeartbeats 4000000 in
theorem nextFrom_any (f : Mt.Fnd) (x y : Nat) (h : f.at'.length = 20) (hx : f.at'.getD 0 0 = (x : Int)) (hy : f.at'.getD 1 0 = (y : Int)) (hy2 : y ≤ 1000) (w : World) :
    Calls Try.prog 54 #[.agg (fpA f)] w fun e w' => e = .returned (.int .i64 (Mt.nextFrom f : Nat)) ∧ Below w.heap.size w w' := by
  have hN : Mt.nextFrom f = if x = y then y + 1 else y := by
    unfold Mt.nextFrom
    rw [hx, hy]
    by_cases e : x = y
    · rw [if_pos (by omega), if_pos e]; simp
    · rw [if_neg (by omega), if_neg e]; simp
  rw [hN]
  obtain ⟨z, hz⟩ : ∃ z, z = w.alloc (.cells (fpA f) 31) := ⟨_, rfl⟩
  have q1 : z.heap[w.heap.size]? = some (.cells (fpA f) 31 (0, 0)) := by rw [hz]; exact heap_b1 _ _
  have HB : Hid (Below w.heap.size w z) := by rw [hz]; exact (Below.refl _ _).alloc (Nat.le_refl _) _
  have l1 : w.heap.size < z.heap.size := by rw [hz]; simp
  have c1 : z.cell? ⟨w.heap.size, 1, none⟩ = some (.int .i64 (x : Int)) := by rw [← hx]; exact ((cell_block q1).1 _).trans (fpA_get f h 0 (by omega))
  have c2 : z.cell? ⟨w.heap.size, 2, none⟩ = some (.int .i64 (y : Int)) := by rw [← hy]; exact ((cell_block q1).1 _).trans (fpA_get f h 1 (by omega))
  clear q1 h hx hy hN
  by_cases e : x = y
  · have m1 : ((x : Int) == (y : Int)) = true := by rw [e]; simp
    rw [if_pos e]
    clear e
    go_enter Try.func54, Try.ntmps54
    go_upto_region 1 with fail
    show Code.wp _ _ _ _ (w.alloc (.cells (fpA f) 31))
    rw [← hz]
    clear hz
    generalize hn : w.heap.size = n at *
    go_wp2_with fail
    go_ret
    exact ⟨by go_num, by rw [hn]; exact HB.out⟩
  · have m1 : ((x : Int) == (y : Int)) = false := by rw [beq_eq_false_iff_ne]; omega
    rw [if_neg e]
    clear e
    go_enter Try.func54, Try.ntmps54
    go_upto_region 1 with fail
    show Code.wp _ _ _ _ (w.alloc (.cells (fpA f) 31))
    rw [← hz]
    clear hz
    generalize hn : w.heap.size = n at *
    go_wp2_with fail
    go_ret
    exact ⟨rfl, by rw [hn]; exact HB.out⟩
end Go.Proofs.Ytebpgfodelggoab
/- matcherkeep: sameAll; inside of nothing. (Plain seats alone.) -/
set_option linter.unusedVariables false
set_option linter.unusedSimpArgs false
namespace Go.Proofs.Ytebpgfodelggoab
open Go.RowKit

theorem fps_len : ∀ (l : List Mt.Fnd), (∀ f ∈ l, f.at'.length = 20) → (l.flatMap fpL).length = l.length * 22
  | [], _ => rfl
  | f :: r, h => by
    rw [List.flatMap_cons, List.length_append, fps_len r (fun g hg => h g (List.mem_cons_of_mem _ hg)), fpL_len f (h f (List.mem_cons_self ..)), List.length_cons]; omega
theorem fps_get : ∀ (l : List Mt.Fnd), (∀ f ∈ l, f.at'.length = 20) → ∀ (k j : Nat), k < l.length → j < 22 → (l.flatMap fpL)[k * 22 + j]? = (fpL (l.getD k Mt.fnd0))[j]?
  | [], _, k, j, hk, _ => by simp at hk
  | f :: r, h, 0, j, hk, hj => by
    rw [List.flatMap_cons, List.getElem?_append_left (by rw [fpL_len f (h f (List.mem_cons_self ..))]; omega)]; simp
  | f :: r, h, k + 1, j, hk, hj => by
    have hl := fpL_len f (h f (List.mem_cons_self ..))
    rw [List.flatMap_cons, List.getElem?_append_right (by omega), hl, show (k + 1) * 22 + j - 22 = k * 22 + j by omega]
    rw [fps_get r (fun g hg => h g (List.mem_cons_of_mem _ hg)) k j (by simp at hk; omega) hj]; simp
theorem fps_cases {w : World} {base : Nat} {v : Value} {l : List Mt.Fnd} (h : ownFps w base v l) (hl : ∀ f ∈ l, f.at'.length = 20) :
    (l = [] ∧ ∃ ao cap, v = .slice ao 0 cap) ∨ (0 < l.length ∧ ∃ g cap, v = .slice (some ⟨g, 0, none⟩) l.length cap ∧ l.length ≤ cap ∧ g < w.heap.size ∧ ∀ k, k < l.length → w.rangeAt g (k * 22) (fpL (l.getD k Mt.fnd0))) := by
  by_cases h0 : l = []
  · left
    subst h0
    refine ⟨rfl, ?_⟩
    rcases h.2 with ⟨rfl, _⟩ | ⟨g, cap, cur, rfl, _⟩
    · exact ⟨_, _, rfl⟩
    · exact ⟨_, _, rfl⟩
  · right
    have hp : 0 < l.length := List.length_pos_iff.2 h0
    refine ⟨hp, ?_⟩
    have hh := owns_base h (Nat.zero_le _)
    rcases h.2 with ⟨rfl, hn⟩ | ⟨g, cap, cur, rfl, hb, hg, h1, h2, h3, h4⟩
    · omega
    · refine ⟨g, cap, rfl, h1, (Array.getElem?_eq_some_iff.1 hg).1, fun k hk j u hu => ?_⟩
      have hlen := fps_len l hl
      have hj : j < 22 := by
        have := (List.getElem?_eq_some_iff.1 hu).1
        have hm : (l.getD k Mt.fnd0).at'.length = 20 := hl _ (by rw [List.getD_eq_getElem?_getD, List.getElem?_eq_getElem hk]; exact List.getElem_mem hk)
        rw [fpL_len _ hm] at this; exact this
      have hc := World.ownsRow.cellAt hh (k * 22 + j) (by
        have : (k + 1) * 22 ≤ l.length * 22 := Nat.mul_le_mul_right _ hk
        rw [Nat.add_mul] at this; omega)
      rw [hc, fps_get l hl k j hk hj]; exact hu
theorem cellAt' {z w : World} (p : Addr) (h : z.heap[p.block]? = w.heap[p.block]?) : z.cell? p = w.cell? p := by unfold World.cell?; rw [h]

set_option maxRecDepth 100000 in
set_option maxHeartbeats 4000000 in
theorem inside_zero (T frm : Nat) (w : World) :
    Calls Try.prog 22 #[.agg (fpA Mt.fnd0), .int .i64 (frm : Int), .int .i64 (T : Int)] w fun e w' => e = .returned (.bool false) ∧ Below w.heap.size w w' := by
  obtain ⟨z, hz⟩ : ∃ z, z = w.alloc (.cells (fpA Mt.fnd0) 31) := ⟨_, rfl⟩
  have q1 : z.heap[w.heap.size]? = some (.cells (fpA Mt.fnd0) 31 (0, 0)) := by rw [hz]; exact heap_b1 _ _
  have HB : Hid (Below w.heap.size w z) := by rw [hz]; exact (Below.refl _ _).alloc (Nat.le_refl _) _
  have l1 : w.heap.size < z.heap.size := by rw [hz]; simp
  have c21 : z.cell? ⟨w.heap.size, 21, none⟩ = some (.int .i64 0) := ((cell_block q1).1 _).trans (fpA_steps _ rfl)
  clear q1
  go_enter Try.func22, Try.ntmps22
  go_upto_region 1 with fail
  show Code.wp _ _ _ _ (w.alloc (.cells (fpA Mt.fnd0) 31))
  rw [← hz]
  clear hz
  generalize hn : w.heap.size = n at *
  go_wp2_with fail
  go_ret
  exact ⟨rfl, by rw [hn]; exact HB.out⟩

set_option maxRecDepth 100000 in
set_option maxHeartbeats 4000000 in
theorem sameAll_true (c : List Mt.Fnd) (hc20 : ∀ f ∈ c, f.at'.length = 20) (va vb : Value) (w : World) (ha : ownFps w 0 va c) (hb : ownFps w 0 vb c) (hl : c.length ≤ 300) :
    Calls Try.prog 28 #[va, vb] w fun e w' => e = .returned (.bool true) ∧ Below w.heap.size w w' := by
  rcases fps_cases ha hc20 with ⟨rfl, ao, capa, rfl⟩ | ⟨hpos, ga, capa, rfl, hca, hga, hA⟩
  · rcases fps_cases hb hc20 with ⟨_, bo, capb, rfl⟩ | ⟨hpos, _⟩
    · clear ha hb
      go_enter Try.func28, Try.ntmps28
      go_wp2_with fail
      refine wp_loop_rounds 1 ?_
      rw [rounds_succ]
      go_wp2_with fail
      go_ret
      exact ⟨rfl, Below.refl _ _⟩
    · simp at hpos
  · rcases fps_cases hb hc20 with ⟨rfl, _⟩ | ⟨_, gb, capb, rfl, hcb, hgb, hB⟩
    · simp at hpos
    · have HA : Hid (∀ k, k < c.length → w.rangeAt ga (k * 22) (fpL (c.getD k Mt.fnd0))) := hA
      have HB : Hid (∀ k, k < c.length → w.rangeAt gb (k * 22) (fpL (c.getD k Mt.fnd0))) := hB
      have H20 : Hid (∀ f ∈ c, f.at'.length = 20) := hc20
      clear ha hb hA hB hc20
      go_enter Try.func28, Try.ntmps28
      go_wp2_with fail
      go_loopw [5] (fun i wr => ∃ k : Nat, k ≤ c.length ∧ i = .int .i64 k ∧ Below w.heap.size w wr) (fun i _ => c.length - (intOf i).toNat)
      case atStart => exact ⟨0, Nat.zero_le _, rfl, Below.refl _ _⟩
      case round =>
        obtain ⟨k, hk, rfl, hbr⟩ := hrel
        have hsz := hbr.size
        by_cases hlt : k < c.length
        · have hm : (c.getD k Mt.fnd0).at'.length = 20 := H20.out _ (by rw [List.getD_eq_getElem?_getD, List.getElem?_eq_getElem hlt]; exact List.getElem_mem hlt)
          have a0 := HA.out k hlt
          have b0 := HB.out k hlt
          generalize c.getD k Mt.fnd0 = f at *
          have ra : ∀ z : World, (∀ q, q < w.heap.size → z.heap[q]? = w.heap[q]?) → z.rangeAt ga (k * 22) (fpL f) := fun z hz j u hu => (cellAt' ⟨ga, k * 22 + j, none⟩ (hz ga hga)).trans (a0 j u hu)
          have rb : ∀ z : World, (∀ q, q < w.heap.size → z.heap[q]? = w.heap[q]?) → z.rangeAt gb (k * 22) (fpL f) := fun z hz j u hu => (cellAt' ⟨gb, k * 22 + j, none⟩ (hz gb hgb)).trans (b0 j u hu)
          have hst : (fpL f)[21]? = some (.int .i64 f.steps) := by have := fpA_steps f hm; simpa [fpL] using this
          have RS : Hid (∀ z : World, (∀ q, q < w.heap.size → z.heap[q]? = w.heap[q]?) → z.cell? ⟨ga, k * 22 + 21, none⟩ = some (.int .i64 f.steps) ∧ z.cell? ⟨gb, k * 22 + 21, none⟩ = some (.int .i64 f.steps)) := fun z hz => ⟨ra z hz 21 _ hst, rb z hz 21 _ hst⟩
          have KP : Hid (∀ z : World, Calls Try.prog 16 #[.agg (fpA f), .agg (fpA f)] z fun e w' => e = .returned (.bool true) ∧ Below z.heap.size z w') := fun z => alike_true f f hm rfl rfl z
          have hlen := fpL_len f hm
          have eA : (fpL f).toArray = fpA f := by simp [fpL]
          have i0 : (0 : Int) ≤ (k : Int) := by omega
          have i1 : (k : Int) < (c.length : Int) := by omega
          clear a0 b0 hst
          go_wp2_with fail
          refine wp_region_held_drew (S := fun z : World => ∀ q, q < w.heap.size → z.heap[q]? = w.heap[q]?) (by kernel_rfl) (fun q hq => hbr.block q hq) (fun hHeld => ?_)
          refine takeAt 0 18 (.slice (some ⟨ga, 0, none⟩) c.length capa) rfl rfl (by kernel_rfl) (by kernel_rfl) (by kernel_rfl) (fun _ _ _ h => h) (Or.inl ⟨by rfl, fun z hz => by clear hz hHeld ra rb; go_simp⟩) (by assumption) ?_
          simp only [Act.put, List.setIfInBounds_toArray, List.set_cons_zero, List.set_cons_succ]
          refine takeAt 1 19 (.int .i64 k) rfl rfl (by kernel_rfl) (by kernel_rfl) (by kernel_rfl) (fun _ _ _ h => h) (Or.inl ⟨by rfl, fun z hz => by clear hz hHeld ra rb; go_simp⟩) (by assumption) ?_
          simp only [Act.put, List.setIfInBounds_toArray, List.set_cons_zero, List.set_cons_succ]
          refine takeAt 2 20 (.pointer (some ⟨ga, k * 22, none⟩)) rfl rfl (by kernel_rfl) (by kernel_rfl) (by kernel_rfl) (fun _ _ _ h => h) (Or.inl ⟨by rfl, fun z hz => by clear hz hHeld ra rb; go_simp⟩) (by assumption) ?_
          simp only [Act.put, List.setIfInBounds_toArray, List.set_cons_zero, List.set_cons_succ]
          refine takeAt 3 21 (.agg (fpL f).toArray) rfl rfl (by kernel_rfl) (by kernel_rfl) (by kernel_rfl) (fun _ _ _ h => h) (yieldsIf_load_mid (by rfl) _ _ rfl _ _ rfl _ _ ra Try.underlying31 rfl (by rw [Try.sizeFd]; exact congrArg some hlen.symm)) (by assumption) ?_
          simp only [Act.put, List.setIfInBounds_toArray, List.set_cons_zero, List.set_cons_succ]
          refine takeAt 4 22 (.slice (some ⟨gb, 0, none⟩) c.length capb) rfl rfl (by kernel_rfl) (by kernel_rfl) (by kernel_rfl) (fun _ _ _ h => h) (Or.inl ⟨by rfl, fun z hz => by clear hz hHeld ra rb; go_simp⟩) (by assumption) ?_
          simp only [Act.put, List.setIfInBounds_toArray, List.set_cons_zero, List.set_cons_succ]
          refine takeAt 5 23 (.int .i64 k) rfl rfl (by kernel_rfl) (by kernel_rfl) (by kernel_rfl) (fun _ _ _ h => h) (Or.inl ⟨by rfl, fun z hz => by clear hz hHeld ra rb; go_simp⟩) (by assumption) ?_
          simp only [Act.put, List.setIfInBounds_toArray, List.set_cons_zero, List.set_cons_succ]
          refine takeAt 6 24 (.pointer (some ⟨gb, k * 22, none⟩)) rfl rfl (by kernel_rfl) (by kernel_rfl) (by kernel_rfl) (fun _ _ _ h => h) (Or.inl ⟨by rfl, fun z hz => by clear hz hHeld ra rb; go_simp⟩) (by assumption) ?_
          simp only [Act.put, List.setIfInBounds_toArray, List.set_cons_zero, List.set_cons_succ]
          refine takeAt 7 25 (.agg (fpL f).toArray) rfl rfl (by kernel_rfl) (by kernel_rfl) (by kernel_rfl) (fun _ _ _ h => h) (yieldsIf_load_mid (by rfl) _ _ rfl _ _ rfl _ _ rb Try.underlying31 rfl (by rw [Try.sizeFd]; exact congrArg some hlen.symm)) (by assumption) ?_
          simp only [Act.put, List.setIfInBounds_toArray, List.set_cons_zero, List.set_cons_succ]
          rw [eA]
          refine wpAnyH_ready (rs := [8]) (by kernel_rfl) (by simp) ?_
          refine AllReadyH.cons rfl (fun K hK => ?_) AllReadyH.nil
          clear ra rb eA
          have HH : Hid (∀ q, q < w.heap.size → wr.drew.heap[q]? = w.heap[q]?) := hHeld
          clear hHeld
          go_simp
          refine (KP.out wr.drew).mono ?_
          rintro e w9 ⟨rfl, hb9⟩
          have hS9 : ∀ q, q < w.heap.size → w9.heap[q]? = w.heap[q]? := fun q hq => (hb9.block q (by show q < wr.heap.size; omega)).trans (HH.out q hq)
          have B9 : Hid (Below w.heap.size w w9) := hbr.trans (((Below.refl _ _).drew).trans (hb9.mono hsz))
          have HS9 : Hid (∀ q, q < w.heap.size → w9.heap[q]? = w.heap[q]?) := hS9
          clear hb9 hbr
          go_simp
          refine hK.out _ _ hS9 (fun hHeld2 => ?_)
          clear hK K hS9
          refine takeAt 9 6 (.bool true) rfl rfl (by kernel_rfl) (by kernel_rfl) (by kernel_rfl) (fun _ _ _ h => h) (Or.inl ⟨by rfl, fun z hz => by clear hz hHeld2; go_simp⟩) (by assumption) ?_
          simp only [Act.put, List.setIfInBounds_toArray, List.set_cons_zero, List.set_cons_succ]
          refine wpAnyH_done (by kernel_rfl) ?_ _
          clear hHeld2
          obtain ⟨s1, s2⟩ := RS.out w9 HS9.out
          have lga : ga < w9.heap.size := Nat.lt_of_lt_of_le hga B9.out.size
          have lgb : gb < w9.heap.size := Nat.lt_of_lt_of_le hgb B9.out.size
          generalize f.steps = st at *
          have m1 : (st != st) = false := by simp
          go_wp2_with fail
          go_quiet (fail)
          go_wp2_with fail
          go_roundw
          case rel => exact ⟨k + 1, by omega, by go_num, by first | exact B9.out | exact below_drewN B9.out _⟩
          case measure => simp [intOf]; omega
        · go_wp2_with fail
          go_ret
          exact ⟨rfl, hbr⟩
end Go.Proofs.Ytebpgfodelggoab
