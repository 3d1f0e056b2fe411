import Derived.Test.YtebpgfodelggoaaC45
/- Lay; matcher.Code. -/
set_option linter.unusedVariables false
set_option linter.unusedSimpArgs false
namespace Go.Proofs.Ytebpgfodelggoaa
open Go.RowKit

theorem Try.sizeLy : (Try.prog.info? 78).map (·.size) = some 4 := by kernel_rfl
def lyA (b : Mt.PB) (so ao : Option Addr) (sc ac : Nat) : Array Value := #[.slice so b.seqs.length sc, .slice ao b.atoms.length ac, .slice none 0 0, .int .i64 0]
theorem layer_new {w w2 : World} {b : Mt.PB} {so ao : Option Addr} {sc ac L0 : Nat} (h : TreeAt L0 w b so ao sc ac) (hb : Below w.heap.size w w2) (hg : w2.heap[w.heap.size + 1]? = some (.cells (lyA b so ao sc ac) 78 (0, 0))) :
    LAt w.heap.size w2 (w.heap.size + 1) b so ao sc ac none 0 [] 0 := by
  have ls : ∀ k, blk so = some k → k < w.heap.size := fun k hk => (World.ownsRow.lt h.seqs k (by rw [ownBlock_blk]; exact hk)).2
  have la : ∀ k, blk ao = some k → k < w.heap.size := fun k hk => (World.ownsRow.lt h.atoms k (by rw [ownBlock_blk]; exact hk)).2
  exact ⟨hg, by omega, (h.below hb).lower (Nat.zero_le _), World.ownsRow_nil _ _ _ _, by simp [blk], fun e => by have := ls _ e; omega, fun e => by have := la _ e; omega, fun q hq => by simp [blk] at hq⟩

set_option maxRecDepth 100000 in
set_option maxHeartbeats 2000000 in
theorem Lay_any {b : Mt.PB} {so ao : Option Addr} {sc ac : Nat} (hna : b.atoms.length ≤ 1000) (hns : b.seqs.length ≤ 1000) (f : Mt.Fs) (hw : f.wf) (hok : f.ok) (hfl : f.flat.length ≤ 1000) (hre : f.re.len ≤ 900) (hs : 0 < b.seqs.length) (hst : Mt.standsF b 0 0 f (b.sAt 0).first (b.sAt 0).next) {L : Nat} {w : World} (hT : TreeAt L w b so ao sc ac) :
    Calls Try.prog 30 #[treeV b so ao sc ac] w fun e w' => ∃ v, e = .returned v ∧ ownIns w' w.heap.size v (f.re.code 0 0 ++ [⟨13, 0, 0, []⟩]) ∧ Below w.heap.size w w' := by
  have HA : Hid (Lays w.heap.size (w.heap.size + 1) b so ao sc ac 0 38 #[.pointer (some ⟨w.heap.size + 1, 0, none⟩), .int .i64 ((0 : Nat) : Int)] f.re) := altL_all hna hns (f.flat.length + 1) f hw hok (by omega) 0 hs hst 0 (by omega) (by omega)
  have HT : Hid (TreeAt L w b so ao sc ac) := hT
  have hlen : (f.re.code 0 0).length = f.re.len := Mt.Re.code_len _ _ _
  clear hT hst hw hok
  unfold treeV
  go_enter Try.func30, Try.ntmps30
  go_wp2_with (refine store_blk 78 4 Try.sizeLy (by rfl) (.tmp 3) (.tmp 5) (by rfl) (w.heap.size + 1) (lyA b so ao sc ac) (by rfl) (by rfl) (by exact heap_b3 _ _ _) (by rfl) (by rfl) (by simp [lyA, Value.oneCell']) ?_; intro w2 r1 r2 r3 r4)
  have B2 : Below w.heap.size w w2 := (((Below.refl _ _).alloc (Nat.le_refl _) _).alloc (by simp) _).trans (r4 _ (by omega))
  have A2 := layer_new HT.out B2 r1
  have H1' := HA.out w2 none 0 [] A2 (by simp; omega)
  simp only [List.nil_append, List.length_nil] at H1'
  have H1 : Hid (Calls Try.prog 38 #[.pointer (some ⟨w.heap.size + 1, 0, none⟩), .int .i64 ((0 : Nat) : Int)] w2 _) := H1'
  have HB2 : Hid (Below w.heap.size w w2 ∧ LAt w.heap.size w2 (w.heap.size + 1) b so ao sc ac none 0 [] 0) := ⟨B2, A2⟩
  clear r1 r2 r3 r4 B2 A2 H1'
  go_wp2_with fail
  refine H1.out.mono ?_
  rintro e w3 ⟨rfl, co3, cc3, hA, hS⟩
  have H2 : Hid (Calls Try.prog 39 #[.pointer (some ⟨w.heap.size + 1, 0, none⟩), .agg (insA ⟨13, 0, 0, []⟩)] w3 _) := put_prog (x := ⟨13, 0, 0, []⟩) hA (by show (f.re.code 0 0).length ≤ _; omega)
  have HS3 : Hid (LStep (w.heap.size + 1) none co3 w2 w3) := hS
  clear hA hS
  unfold insA at H2
  go_wp2_with fail
  refine H2.out.mono ?_
  rintro e w4 ⟨rfl, q, cap, hA, hS⟩
  have c2 := hA.cells.2.2.1
  have HO : Hid (ownIns w4 w.heap.size (.slice (some ⟨q, 0, none⟩) (f.re.code 0 0 ++ [(⟨13, 0, 0, []⟩ : Mt.Ins)]).length cap) (f.re.code 0 0 ++ [⟨13, 0, 0, []⟩])) := hA.code
  have HB4 : Hid (Below w.heap.size w w4) := HB2.out.1.trans ((HS3.out.trans hS).low HB2.out.2 HB2.out.1.size)
  clear hA hS
  generalize hC : f.re.code 0 0 ++ [(⟨13, 0, 0, []⟩ : Mt.Ins)] = C at *
  go_wp2_with fail
  go_ret
  exact ⟨_, rfl, by rw [hC]; exact HO.out, HB4.out⟩

set_option maxRecDepth 100000 in
set_option maxHeartbeats 4000000 in
theorem Code_any (p : ByteArray) (w : World) (hm : p.size ≤ maxLen) : Calls Try.prog 12 #[.string p] w fun e w' => ∃ v, e = .returned (.tuple #[v, .int .i64 (Mt.codeR p).2]) ∧ ownIns w' w.heap.size v (Mt.codeR p).1 ∧ Below w.heap.size w w' := by
  have HC : Hid (Calls Try.prog 29 #[.string p] w (Reads p w)) := read_any p w hm
  by_cases h0 : (Mt.checkR p).1 = 0
  · have ht0 : (Mt.tokens p).2.1 = 0 := by
      unfold Mt.checkR at h0
      split at h0
      · rename_i x; exact absurd h0 x
      · rename_i x; simpa using x
    obtain ⟨f, hw, hok, hfl, hst, hs0, hla, hls, hc1, hc2⟩ := Mt.forest p ht0
    have h300 : f.re.len + 1 ≤ 300 := by
      unfold Mt.checkR at h0
      rw [if_neg (by omega)] at h0
      split at h0
      · simp at h0
      · rename_i x
        have := fun y => x (hc1.2 y)
        omega
    have hcr : Mt.codeR p = (f.re.code 0 0 ++ [⟨13, 0, 0, []⟩], 0) := by unfold Mt.codeR; rw [if_neg (by omega), hc2 h300]
    have hts := (Mt.tokens_small p).2
    rw [hfl] at hts
    rw [hcr]
    have HL : Hid (∀ (so ao : Option Addr) (sc ac L : Nat) (W : World), TreeAt L W (Mt.PB.start.run (Mt.tokens p).1) so ao sc ac → Calls Try.prog 30 #[treeV (Mt.PB.start.run (Mt.tokens p).1) so ao sc ac] W fun e w' => ∃ v, e = .returned v ∧ ownIns w' W.heap.size v (f.re.code 0 0 ++ [⟨13, 0, 0, []⟩]) ∧ Below W.heap.size W w') := fun so ao sc ac L W hT => Lay_any (by omega) (by omega) f hw hok (by omega) (by omega) hs0 hst hT
    have H0 : Hid ((Mt.checkR p).1 = 0) := h0
    clear hst hw hok hfl hc1 hc2 hcr h0 ht0
    generalize f.re.code 0 0 ++ [(⟨13, 0, 0, []⟩ : Mt.Ins)] = C at *
    go_enter Try.func12, Try.ntmps12
    go_wp2_with fail
    refine HC.out.mono ?_
    rintro e w1 ⟨_, hg, hb⟩
    obtain ⟨so, ao, sc, ac, rfl, hT⟩ := hg H0.out
    have HB1 : Hid (Below w.heap.size w w1 ∧ TreeAt w.heap.size w1 (Mt.PB.start.run (Mt.tokens p).1) so ao sc ac) := ⟨hb, hT⟩
    clear hb hg hT HC
    generalize Mt.PB.start.run (Mt.tokens p).1 = b at *
    unfold treeV
    unfold treeV at HL
    go_wp2_with (first | (refine store_blk 62 2 Try.sizeT (by rfl) (.tmp 4) (.tmp 10) (by rfl) w1.heap.size (treeA b so ao sc ac) (by rfl) (by rfl) (by exact heap_b1 _ _) (by rfl) (by rfl) (by simp [treeA, Value.oneCell']) ?_; intro w2 r1 r2 r3 r4) | (refine load_blk 62 2 Try.underlying62 rfl Try.sizeT (by rfl) (.tmp 4) (by rfl) w1.heap.size (by rfl) r1 (by rfl) ?_))
    have hb2 : Below w1.heap.size w1 w2 := ((Below.refl _ _).alloc (Nat.le_refl _) _).trans (r4 _ (Nat.le_refl _))
    have hsz := HB1.out.1.size
    have hsz2 := hb2.size
    have HB2 : Hid (Below w.heap.size w w2 ∧ w.heap.size ≤ w2.heap.size) := ⟨HB1.out.1.trans (hb2.mono hsz), by omega⟩
    have H2 := HL.out so ao sc ac _ w2 (HB1.out.2.below hb2)
    refine H2.mono ?_
    clear H2 r1 r2 r3 r4 hb2
    rintro e w3 ⟨v, rfl, ho, hb3⟩
    have HO : Hid (ownIns w3 w.heap.size v C ∧ Below w.heap.size w w3) := ⟨ho.base HB2.out.2, HB2.out.1.trans (hb3.mono HB2.out.2)⟩
    clear ho hb3
    go_wp2_with fail
    go_ret2
    exact ⟨_, rfl, HO.out.1, HO.out.2⟩
  · have hcr : Mt.codeR p = ([], (Mt.checkR p).1) := by unfold Mt.codeR; rw [if_pos h0]
    rw [hcr]
    have H0 : Hid ((Mt.checkR p).1 ≠ 0) := h0
    have m2 : ((Mt.checkR p).1 != 0) = true := by simpa using h0
    have HC' := HC.out
    unfold Reads at HC'
    have HCX : Hid (Calls Try.prog 29 #[.string p] w _) := HC'
    clear hcr h0 HC' HC
    generalize (Mt.checkR p).1 = E at *
    generalize (Mt.checkR p).2 = K at *
    go_enter Try.func12, Try.ntmps12
    go_wp2_with fail
    refine HCX.out.mono ?_
    rintro e w1 ⟨hg, _, hb⟩
    obtain rfl := hg H0.out
    have HB : Hid (Below w.heap.size w w1) := hb
    clear hb hg HCX
    go_wp2_with (refine store_blk 62 2 Try.sizeT (by rfl) (.tmp 4) (.tmp 10) (by rfl) w1.heap.size nil2 (by rfl) (by rfl) (by exact heap_b1 _ _) (by rfl) (by rfl) nil2_all ?_; intro w2 r1 r2 r3 r4; have R2 : Hid (Below w.heap.size w w2) := (HB.out.alloc (HB.out.size) _).trans (r4 _ HB.out.size); clear r1 r2 r3 r4)
    go_ret2
    exact ⟨_, rfl, World.ownsRow_nil _ _ _ _, R2.out⟩
end Go.Proofs.Ytebpgfodelggoaa
