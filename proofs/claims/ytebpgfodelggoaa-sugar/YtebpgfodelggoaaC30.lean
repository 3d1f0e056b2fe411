import Derived.Test.YtebpgfodelggoaaC29
set_option linter.unusedVariables false
set_option linter.unusedSimpArgs false
namespace Mt
def PB.start0 : PB := ⟨[], [], 0, -1, [], 0, List.replicate 10 false⟩
theorem start_new : PB.start0.newSeq = PB.start := rfl
theorem rel_ok {b : PB} {l : List Tok} {stk : List Nat} (h : b.Rel l stk) (hl : l.length ≤ 64) : b.atoms.length ≤ 64 ∧ b.seqs.length ≤ 65 ∧ b.opn.length ≤ 64 ∧ (0 < b.opn.length → b.top < b.atoms.length ∧ ∃ nu hm : Nat, (b.aAt b.top).num = nu ∧ nu ≤ 9 ∧ (b.aAt b.top).home = hm) := by
  have h1 := h.al
  have h2 := h.sl
  have h3 := h.len
  have h4 := h.op
  have h5 := opened_bd l
  refine ⟨by omega, by omega, by omega, fun hp => ?_⟩
  have ht : b.top = b.opn.getD (stk.length - 1) 0 := by unfold PB.top; rw [getLastD_at _ _ hp, h3]
  have T := h.tops (stk.length - 1) (by omega)
  rw [← ht] at T
  obtain ⟨hm, e1, e2⟩ := h.homes b.top T.1
  have n := h.nums b.top T.1
  exact ⟨T.1, (b.aAt b.top).num.toNat, hm, by omega, by omega, e1⟩
/-- The end of reading. -/
theorem readOn_end (p : ByteArray) (l : List Tok) (k : Int) (h0 : 0 ≤ k) (h : k = p.size) : readOn p l k = (l, 0, k) := by
  rw [readOn_step p l k h0 (by omega), if_pos (by omega)]
theorem readOn_bad1 (p : ByteArray) (l : List Tok) (k : Int) (h0 : 0 ≤ k) (h : k < p.size) (h2 : (nextT p k).2 ≠ 0) : readOn p l k = ([], (nextT p k).2, k) := by
  rw [readOn_step p l k h0 (by omega), if_neg (by omega), if_pos h2]
theorem readOn_bad2 (p : ByteArray) (l : List Tok) (k : Int) (h0 : 0 ≤ k) (h : k < p.size) (h2 : (nextT p k).2 = 0) (h3 : may l (nextT p k).1 ≠ 0) : readOn p l k = ([], may l (nextT p k).1, k) := by
  rw [readOn_step p l k h0 (by omega), if_neg (by omega), if_neg (by omega), if_pos h3]
theorem readOn_go (p : ByteArray) (l : List Tok) (k : Int) (h0 : 0 ≤ k) (h : k < p.size) (h2 : (nextT p k).2 = 0) (h3 : may l (nextT p k).1 = 0) : readOn p l k = readOn p (l ++ [joined l (nextT p k).1]) (nextT p k).1.to := by
  rw [readOn_step p l k h0 (by omega), if_neg (by omega), if_neg (by omega), if_neg (by omega)]
/-- What stands behind the tokens that were read. -/
structure Read (p : ByteArray) (k : Nat) (b : PB) (l : List Tok) : Prop where
  le : k ≤ p.size
  len : l.length ≤ k
  run : b = PB.start.run l
  rel : ∃ stk, b.Rel l stk
  val : Valid l
  on : readOn p l k = readOn p [] 0
theorem read_start (p : ByteArray) : Read p 0 PB.start [] := ⟨by omega, by simp, rfl, ⟨[], rel_start⟩, by intro k hk; simp at hk, rfl⟩
theorem read_next {p : ByteArray} {k : Nat} {b : PB} {l : List Tok} (h : Read p k b l) (hk : k < p.size) (h2 : (nextT p k).2 = 0) (h3 : may l (nextT p k).1 = 0) : ∃ m : Nat, (nextT p k).1.to = m ∧ k < m ∧ Read p m (b.next (ptok (nextT p k).1)) (l ++ [joined l (nextT p k).1]) := by
  have ht := nextT_to p k (by omega) (by omega) h2
  obtain ⟨m, hm⟩ := Int.eq_ofNat_of_zero_le (show 0 ≤ (nextT p k).1.to by omega)
  have hg := nextT_G p k h2
  obtain ⟨stk, hr⟩ := h.rel
  refine ⟨m, hm, by omega, by omega, by simp; have := h.len; omega, ?_, rel_next hr h.val hg h3, valid_next h.val hg h3, ?_⟩
  · rw [PB.run_app, ← h.run]; show _ = b.next (ptok (joined l (nextT p k).1)); rw [ptok_joined]
  · rw [← h.on, readOn_go p l k (by omega) (by omega) h2 h3, hm]
end Mt
namespace Go.Proofs.Ytebpgfodelggoaa
open Go.RowKit
theorem bok_read {p : ByteArray} {k : Nat} {b : Mt.PB} {l : List Mt.Tok} (h : Mt.Read p k b l) (hp : p.size ≤ 64) : BOk b := by
  obtain ⟨stk, hr⟩ := h.rel
  have hl := h.len
  have hk := h.le
  obtain ⟨a1, a2, a3, a4⟩ := Mt.rel_ok hr (by omega)
  exact ⟨by omega, by omega, by omega, hr.sq, hr.la, a4⟩
/-- A token is taken: by its sort. -/
theorem take_any {L : Nat} {w : World} {g : Nat} {b : Mt.PB} {so ao oo : Option Addr} {sc ac oc : Nat} {p : ByteArray} {k : Nat} {l : List Mt.Tok} (h : BAt L w g b so ao oo sc ac oc) (hR : Mt.Read p k b l) (hp : p.size ≤ 64) (t : Mt.Tok) (hg : Mt.tokG t) :
    Calls Try.prog 49 #[.pointer (some ⟨g, 0, none⟩), ptV (Mt.ptok t)] w (Takes L w g so ao oo (Mt.may l t) (b.next (Mt.ptok t))) := by
  have hO := bok_read hR hp
  obtain ⟨stk, hr⟩ := hR.rel
  rw [← Mt.err_same hr (Mt.nums_valid hR.val) hg]
  obtain ⟨⟨k1, k2⟩, g2, g3, g4, g5⟩ := hg
  have hk : t.kind = 1 ∨ t.kind = 2 ∨ t.kind = 3 ∨ t.kind = 4 ∨ t.kind = 5 ∨ t.kind = 6 ∨ t.kind = 7 ∨ t.kind = 8 := by omega
  rcases hk with e | e | e | e | e | e | e | e
  · exact take_leaf _ h hO (by rw [Mt.ptok_kind, e]; decide)
  · obtain ⟨n1, n2⟩ := g3 e
    exact take_back _ h hO (by rw [Mt.ptok_kind, e]; decide) t.n.toNat (by simp [Mt.ptok, e]; omega) (by omega)
  · exact take_leaf _ h hO (by rw [Mt.ptok_kind, e]; decide)
  · exact take_leaf _ h hO (by rw [Mt.ptok_kind, e]; decide)
  · exact take_bar _ h hO (by rw [Mt.ptok_kind, e]; decide)
  · exact take_open _ h hO (by rw [Mt.ptok_kind, e]; decide)
  · exact take_close _ h hO (by rw [Mt.ptok_kind, e]; decide)
  · exact take_rep _ h hO (by rw [Mt.ptok_kind, e]; decide)

theorem Try.sizeB : (Try.prog.info? 100).map (·.size) = some 16 := by kernel_rfl
theorem Try.sizeT : (Try.prog.info? 62).map (·.size) = some 2 := by kernel_rfl

set_option maxRecDepth 100000 in
set_option maxHeartbeats 4000000 in
theorem Build_long (p : ByteArray) (w : World) (hp : 64 < p.size) (hm : p.size ≤ maxLen) :
    Calls Try.prog 36 #[.string p] w fun e w' => e = .returned (.tuple #[.agg #[.slice none 0 0, .slice none 0 0], .int .i64 1, .int .i64 0]) ∧ Below w.heap.size w w' := by
  have b1 : decide (64 < (p.size : Int)) = true := by simp; omega
  have b2 : decide (64 < p.size) = true := by simp; omega
  have hm' : p.size ≤ 9223372036854775807 := by unfold maxLen at hm; omega
  go_enter Try.func36, Try.ntmps36
  go_wp2_with fail
  go_returns
  exact ⟨rfl, by go_grown⟩

end Go.Proofs.Ytebpgfodelggoaa
