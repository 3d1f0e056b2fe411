import Derived.Test.YtebpgfodelggoaaC17
import Derived.Test.YtebpgfodelggoaaC49
import Derived.Test.YtebpgfodelggoaaC52
import Derived.Test.YtebpgfodelggoaaC48
import Derived.Test.YtebpgfodelggoaaC41
import Derived.Test.YtebpgfodelggoaaC09
/- What Find answers in the laws of the table. -/
set_option linter.unusedVariables false
set_option linter.unusedSimpArgs false
namespace Go.Proofs.Ytebpgfodelggoaa
open Go.RowKit

theorem pick_opt (P M R : Int) : Mt.Opt (pickI P 5) (pickI M 4294967296) (pickI R 5001) 10000 := by
  have h1 := pickI_in P 5 (by omega)
  have h2 := pickI_in M 4294967296 (by omega)
  have h3 := pickI_in R 5001 (by omega)
  exact ⟨h1, h2, h3, by omega, by omega⟩
theorem find_whole (p t : ByteArray) (frm : Nat) (policy mask room budget : Int) (h : (Mt.checkR p).1 = 0) (hT : t.size ≤ 60) (hf : frm ≤ t.size) (ho : Mt.Opt policy mask room budget) : WholeOk t.size frm (Mt.findR p t frm policy mask room budget).1 (Mt.findR p t frm policy mask room budget).2 := by
  rw [Mt.findR_ok p t frm policy mask room budget h hT hf ho]
  obtain ⟨A, hK⟩ := Mt.pattern_known p h
  obtain ⟨o1, o2, o3, o4⟩ := ho
  cases e : (Mt.searchAll (Mt.codeR p).1 t policy mask room budget frm).2
  · exact .inr ⟨rfl, Mt.searchAll_inside hK.ok hK.pos t policy mask room budget frm hf (by omega) (by omega) e⟩
  · exact .inl ⟨rfl, rfl⟩
theorem find_alike (p t : ByteArray) (frm : Nat) (p1 m1 r1 p2 m2 r2 : Int) (h : (Mt.checkR p).1 = 0) (hT : t.size ≤ 60) (hf : frm ≤ t.size) (o1 : Mt.Opt p1 m1 r1 10000) (o2 : Mt.Opt p2 m2 r2 10000) (e1 : (Mt.findR p t frm p1 m1 r1 10000).2 = 0) (e2 : (Mt.findR p t frm p2 m2 r2 10000).2 = 0) :
    (Mt.findR p t frm p2 m2 r2 10000).1.at' = (Mt.findR p t frm p1 m1 r1 10000).1.at' ∧ (Mt.findR p t frm p2 m2 r2 10000).1.ok = (Mt.findR p t frm p1 m1 r1 10000).1.ok := by
  obtain ⟨A, hK⟩ := Mt.pattern_kn p h
  rw [Mt.findR_ok p t frm p1 m1 r1 10000 h hT hf o1] at e1 ⊢
  rw [Mt.findR_ok p t frm p2 m2 r2 10000 h hT hf o2] at e2 ⊢
  cases s1 : (Mt.searchAll (Mt.codeR p).1 t p1 m1 r1 10000 frm).2
  · cases s2 : (Mt.searchAll (Mt.codeR p).1 t p2 m2 r2 10000 frm).2
    · obtain ⟨a, b⟩ := Mt.table_alike hK t p1 m1 r1 10000 p2 m2 r2 10000 frm (by omega) (by unfold Mt.InR; have := o1.2.2.1; omega) (by unfold Mt.InR; have := o2.2.2.1; omega) (by omega) (by omega) s1 s2
      exact ⟨b.symm, a.symm⟩
    · rw [s2] at e2; simp at e2
  · rw [s1] at e1; simp at e1
/-- The second search takes no more steps. -/
def NoMore (F G : Mt.Fnd × Int) : Prop := F.2 = 0 → G.2 = 0 ∧ G.1.steps ≤ F.1.steps
theorem find_less (p t : ByteArray) (frm : Nat) (P M R : Int) (h : (Mt.checkR p).1 = 0) (hT : t.size ≤ 60) (hf : frm ≤ t.size) (o : Mt.Opt P M R 10000) : NoMore (Mt.findR p t frm 0 0 0 10000) (Mt.findR p t frm P M R 10000) := by
  intro e1
  obtain ⟨A, hK⟩ := Mt.pattern_kn p h
  rw [Mt.findR_ok p t frm 0 0 0 10000 h hT hf ⟨by omega, by omega, by omega, by omega, by omega⟩] at e1 ⊢
  rw [Mt.findR_ok p t frm P M R 10000 h hT hf o]
  cases s1 : (Mt.searchAll (Mt.codeR p).1 t 0 0 0 10000 frm).2
  · obtain ⟨a, b, c, d⟩ := Mt.table_less hK t 0 0 P M R 10000 frm (by omega) (by unfold Mt.InR; have := o.2.2.1; omega) s1
    rw [a]
    exact ⟨rfl, d⟩
  · rw [s1] at e1; simp at e1
theorem find_room (p t : ByteArray) (frm : Nat) (P M R R' : Int) (h : (Mt.checkR p).1 = 0) (hT : t.size ≤ 60) (hf : frm ≤ t.size) (o : Mt.Opt P M R 10000) (o' : Mt.Opt P M R' 10000) (hR : R ≤ R') : NoMore (Mt.findR p t frm P M R 10000) (Mt.findR p t frm P M R' 10000) := by
  intro e1
  obtain ⟨A, hK⟩ := Mt.pattern_kn p h
  rw [Mt.findR_ok p t frm P M R 10000 h hT hf o] at e1 ⊢
  rw [Mt.findR_ok p t frm P M R' 10000 h hT hf o']
  cases s1 : (Mt.searchAll (Mt.codeR p).1 t P M R 10000 frm).2
  · obtain ⟨a, d⟩ := Mt.room_less hK t P M R R' 10000 frm (by omega) (by unfold Mt.InR; have := o.2.2.1; omega) (by unfold Mt.InR; have := o'.2.2.1; omega) hR s1
    rw [a]
    exact ⟨rfl, d⟩
  · rw [s1] at e1; simp at e1
theorem find_bounded (p t : ByteArray) (frm : Nat) (P M R b : Int) (h : (Mt.checkR p).1 = 0) (hT : t.size ≤ 60) (hf : frm ≤ t.size) (o : Mt.Opt P M R 10000) (hb : 0 ≤ b ∧ b ≤ 10000) :
    ((Mt.findR p t frm P M R 10000).2 = 14 → Mt.findR p t frm P M R b = (Mt.fnd0, 14)) ∧ ((Mt.findR p t frm P M R 10000).2 = 0 → Mt.findR p t frm P M R b = if b < (Mt.findR p t frm P M R 10000).1.steps then (Mt.fnd0, 14) else ((Mt.findR p t frm P M R 10000).1, 0)) := by
  obtain ⟨A, hK⟩ := Mt.pattern_known p h
  have o' : Mt.Opt P M R b := ⟨o.1, o.2.1, o.2.2.1, hb.1, hb.2⟩
  have hr := o.2.2.1
  rw [Mt.findR_ok p t frm P M R 10000 h hT hf o, Mt.findR_ok p t frm P M R b h hT hf o']
  cases s1 : (Mt.searchAll (Mt.codeR p).1 t P M R 10000 frm).2
  · refine ⟨fun e => by simp at e, fun _ => ?_⟩
    simp only [Bool.false_eq_true, if_false]
    by_cases hs : b < (Mt.searchAll (Mt.codeR p).1 t P M R 10000 frm).1.steps
    · rw [if_pos hs, Mt.budget_less hK.ok hK.pos hf (by omega) b hb s1 hs]; rfl
    · rw [if_neg hs, Mt.budget_same b hb s1 (by omega), s1]; rfl
  · refine ⟨fun _ => ?_, fun e => by simp at e⟩
    rw [Mt.budget_over b hb s1]; rfl
end Go.Proofs.Ytebpgfodelggoaa
/- matcherkeep: bounded. (Plain seats alone.) -/
set_option linter.unusedVariables false
set_option linter.unusedSimpArgs false
namespace Go.Proofs.Ytebpgfodelggoaa
open Go.RowKit

theorem blk_keep {z z' : World} {b : Nat} {A : Array Value} {t : TypeId} (h : z.heap[b]? = some (.cells A t (0, 0))) (hb : Below z.heap.size z z') : z'.heap[b]? = some (.cells A t (0, 0)) := (hb.block b (Array.getElem?_eq_some_iff.1 h).1).trans h
theorem blk_lt {z : World} {b : Nat} {A : Array Value} {t : TypeId} (h : z.heap[b]? = some (.cells A t (0, 0))) : b < z.heap.size := (Array.getElem?_eq_some_iff.1 h).1
set_option maxRecDepth 100000 in
set_option maxHeartbeats 8000000 in
theorem bounded_true (p t : ByteArray) (frm : Int) (P M R B0 b : Int) (f : Mt.Fnd) (hm : p.size ≤ maxLen) (hmt : t.size ≤ maxLen) (h20 : f.at'.length = 20)
    (hfind : Mt.findR p t frm P M R b = if b < f.steps then (Mt.fnd0, 14) else (f, 0)) (w : World) :
    Calls Try.prog 27 #[.string p, .string t, .int .i64 frm, .agg #[.int .i64 P, .int .i64 M, .int .i64 R, .int .i64 B0], .agg (fpA f), .int .i64 b] w fun e w' => e = .returned (.bool true) ∧ Below w.heap.size w w' := by
  have KF : Hid (∀ z : World, Calls Try.prog 15 #[.string p, .string t, .int .i64 frm, .agg #[.int .i64 P, .int .i64 M, .int .i64 R, .int .i64 b]] z fun e w' => e = .returned (.tuple #[.agg (fpA (Mt.findR p t frm P M R b).1), .int .i64 (Mt.findR p t frm P M R b).2]) ∧ Below z.heap.size z w') := fun z => Find_any p t frm P M R b z hm hmt
  obtain ⟨V, er, hV, her, hcase⟩ : ∃ V er, V = fpA (Mt.findR p t frm P M R b).1 ∧ er = (Mt.findR p t frm P M R b).2 ∧ ((b < f.steps ∧ V = fpA Mt.fnd0 ∧ er = 14) ∨ (¬ b < f.steps ∧ V = fpA f ∧ er = 0)) := by
    refine ⟨_, _, rfl, rfl, ?_⟩
    rw [hfind]
    by_cases hlt : b < f.steps
    · rw [if_pos hlt]; exact .inl ⟨hlt, rfl, rfl⟩
    · rw [if_neg hlt]; exact .inr ⟨hlt, rfl, rfl⟩
  rw [← hV, ← her] at KF
  have HCS : Hid ((b < f.steps ∧ V = fpA Mt.fnd0 ∧ er = 14) ∨ (¬ b < f.steps ∧ V = fpA f ∧ er = 0)) := hcase
  clear hfind hm hmt hV her
  have KE : Hid (∀ z : World, Calls Try.prog 26 #[.agg (fpA Mt.fnd0)] z fun e w' => e = .returned (.bool true) ∧ Below z.heap.size z w') := fun z => empty_true z
  have KA : Hid (∀ z : World, Calls Try.prog 35 #[.agg (fpA f), .agg (fpA f)] z fun e w' => e = .returned (.bool true) ∧ Below z.heap.size z w') := fun z => alike_true f f h20 rfl rfl z
  have hsz := fpA_size f h20
  have hst := fpA_steps f h20
  have hsz0 := fpA_size Mt.fnd0 rfl
  have hall := fpA_all f
  have hall0 := fpA_all Mt.fnd0
  have hszV : V.size = 22 := by rcases hcase with ⟨_, h, _⟩ | ⟨_, h, _⟩ <;> rw [h] <;> assumption
  have hallV : V.all (·.oneCell') = true := by rcases hcase with ⟨_, h, _⟩ | ⟨_, h, _⟩ <;> rw [h] <;> assumption
  clear hcase
  have HST : Hid ((fpA f)[21]? = some (.int .i64 f.steps)) := hst
  clear hst h20
  obtain ⟨z, hz⟩ : ∃ z, z = (w.alloc (.cells #[.int .i64 P, .int .i64 M, .int .i64 R, .int .i64 B0] 43)).alloc (.cells (fpA f) 39) := ⟨_, rfl⟩
  have Q1 : Hid (z.heap[w.heap.size]? = some (.cells #[.int .i64 P, .int .i64 M, .int .i64 R, .int .i64 B0] 43 (0, 0))) := by rw [hz]; exact heap_b2 _ _ _
  have Q2 : Hid (z.heap[w.heap.size + 1]? = some (.cells (fpA f) 39 (0, 0))) := by rw [hz]; exact heap_b3 _ _ _
  have HB : Hid (Below w.heap.size w z) := by rw [hz]; exact ((Below.refl _ _).alloc (Nat.le_refl _) _).alloc (by simp) _
  go_enter Try.func27, Try.ntmps27
  go_upto_region 1 with fail
  show Code.wp _ _ _ _ ((w.alloc (.cells #[.int .i64 P, .int .i64 M, .int .i64 R, .int .i64 B0] 43)).alloc (.cells (fpA f) 39))
  rw [← hz]
  clear hz
  have T1 := Q1.out
  generalize hn : w.heap.size = n at *
  generalize hF : fpA f = F at *
  generalize hF0 : fpA Mt.fnd0 = F0 at *
  generalize hS : f.steps = S at *
  have HT1 : Hid (z.heap[n]? = some (.cells #[.int .i64 P, .int .i64 M, .int .i64 R, .int .i64 B0] 43 (0, 0))) := T1
  have c3 : z.cell? ⟨n, 3, none⟩ = some (.int .i64 B0) := (cell_block T1).1 3
  have f3 : z.frozen? ⟨n, 3, none⟩ = false := (cell_block T1).2 3
  clear T1
  go_upto_region 2 with fail
  have T1 := HT1.out
  obtain ⟨z2, hz2⟩ : ∃ z2, z2 = z.setCell ⟨n, 3, none⟩ (.int .i64 b) := ⟨_, rfl⟩
  have U1 : z2.heap[n]? = some (.cells #[.int .i64 P, .int .i64 M, .int .i64 R, .int .i64 b] 43 (0, 0)) := by rw [hz2]; exact Go.heap_setCell_same z n 3 _ _ _ T1
  have U2 : Hid (z2.heap[n + 1]? = some (.cells F 39 (0, 0))) := by show _ = _; rw [hz2, Below.heap_setCell _ _ _ _ (by simp)]; exact Q2.out
  have HB2 : Hid (Below n w z2) := by show Below _ _ _; rw [hz2]; exact HB.out.trans ((below_setCells n [.int .i64 b] 3 z n (Nat.le_refl _)).1)
  rw [← hz2]
  clear hz2 T1 HT1 Q1 Q2 HB c3 f3
  go_wp2_with (refine load_blk 43 4 Try.underlying43 rfl Try.sizeOp4 (by rfl) (.tmp 9) (by rfl) n (by rfl) U1 (by rfl) ?_)
  refine (KF.out _).mono ?_
  rintro e w3 ⟨rfl, hb3⟩
  have V2 : Hid (w3.heap[n + 1]? = some (.cells F 39 (0, 0))) := blk_keep U2.out hb3
  have HB3 : Hid (Below n w w3) := HB2.out.trans (hb3.mono (Nat.le_of_lt (blk_lt U1)))
  clear U1 U2 HB2 hb3
  go_upto_region 3 with (refine store_blk 39 22 Try.sizeFd (by rfl) (.tmp 13) (.tmp 25) (by rfl) w3.heap.size V (by rfl) (by rfl) (by exact heap_b1 _ _) (by rfl) hszV hallV ?_; intro w4 r1 r2 r3 r4)
  have B4 : Below w3.heap.size w3 w4 := ((Below.refl _ _).alloc (Nat.le_refl _) _).trans (r4 _ (Nat.le_refl _))
  have X2 : w4.heap[n + 1]? = some (.cells F 39 (0, 0)) := blk_keep V2.out B4
  have lw := blk_lt V2.out
  have HB4 : Hid (Below n w w4) := HB3.out.trans (B4.mono (by omega))
  have c21 : w4.cell? ⟨n + 1, 21, none⟩ = some (.int .i64 S) := ((cell_block X2).1 _).trans HST.out
  have hl1 : n + 1 < w4.heap.size := blk_lt X2
  have hl2 : w3.heap.size < w4.heap.size := blk_lt r1
  have HR1 : Hid (w4.heap[w3.heap.size]? = some (.cells V 39 (0, 0))) := r1
  have HX2 : Hid (w4.heap[n + 1]? = some (.cells F 39 (0, 0))) := X2
  have HNM : Hid (n < w4.heap.size) := by show _ < _; omega
  clear r2 r3 r4 B4 V2 HB3 lw
  generalize hm3 : w3.heap.size = m at *
  rcases HCS.out with ⟨hlt, rfl, rfl⟩ | ⟨hlt, rfl, rfl⟩
  · have d1 : decide (b < S) = true := by rw [decide_eq_true_eq]; exact hlt
    clear hlt HCS
    go_wp2_with (refine load_blk 39 22 Try.underlying39 rfl Try.sizeFd (by rfl) (.tmp 13) (by rfl) m (by rfl) r1 hszV ?_)
    refine (KE.out _).mono ?_
    rintro e w5 ⟨rfl, hb5⟩
    have HB5 : Hid (Below n w w5) := HB4.out.trans (hb5.mono (Nat.le_of_lt HNM.out))
    clear hb5 r1 X2 c21 hl1 hl2
    go_wp2_with fail
    go_ret
    exact ⟨rfl, by rw [hn]; exact HB5.out⟩
  · have d1 : decide (b < S) = false := by rw [decide_eq_false_iff_not]; omega
    clear hlt HCS
    go_wp2_with (first | (refine load_blk 39 22 Try.underlying39 rfl Try.sizeFd (by rfl) (.tmp 13) (by rfl) m (by rfl) r1 hszV ?_) | (refine load_blk 39 22 Try.underlying39 rfl Try.sizeFd (by rfl) (.tmp 10) (by rfl) (n + 1) (by rfl) X2 hsz ?_))
    refine (KA.out _).mono ?_
    rintro e w5 ⟨rfl, hb5⟩
    have HB5 : Hid (Below n w w5) := HB4.out.trans (hb5.mono (Nat.le_of_lt HNM.out))
    have a1 : w5.cell? ⟨n + 1, 21, none⟩ = some (.int .i64 S) := ((cell_block (blk_keep HX2.out hb5)).1 _).trans HST.out
    have a2 : w5.cell? ⟨m, 21, none⟩ = some (.int .i64 S) := ((cell_block (blk_keep HR1.out hb5)).1 _).trans HST.out
    have k1 := blk_lt (blk_keep HX2.out hb5)
    have k2 := blk_lt (blk_keep HR1.out hb5)
    clear hb5 r1 X2 c21 hl1 hl2
    have m1 : (S == S) = true := by simp
    go_wp2_with fail
    go_ret
    exact ⟨rfl, by rw [hn]; exact HB5.out⟩
end Go.Proofs.Ytebpgfodelggoaa
/- matcherkeep: some. (Plain seats alone.) -/
set_option linter.unusedVariables false
set_option linter.unusedSimpArgs false
namespace Go.Proofs.Ytebpgfodelggoaa
open Go.RowKit

def someB (p : ByteArray) (n : Nat) : ByteArray := if n < p.size then p.extract 0 n else p
theorem someB_size (p : ByteArray) (n : Nat) : (someB p n).size ≤ n ∧ (someB p n).size ≤ p.size := by
  unfold someB
  split
  · simp [ByteArray.size_extract]; omega
  · omega
set_option maxRecDepth 100000 in
set_option maxHeartbeats 1000000 in
theorem some_any (p : ByteArray) (n : Nat) (w : World) (hm : p.size ≤ maxLen) (hn : n ≤ 1000) : Calls Try.prog 7 #[.string p, .int .i64 (n : Int)] w fun e w' => e = .returned (.string (someB p n)) ∧ w = w' := by
  unfold maxLen at hm
  unfold someB
  by_cases h : n < p.size
  · have d1 : decide ((n : Int) < (p.size : Int)) = true := by simpa using h
    rw [if_pos h]
    go_enter Try.func7, Try.ntmps7
    go_wp2_with fail
    go_ret
    exact ⟨rfl, rfl⟩
  · have d1 : decide ((n : Int) < (p.size : Int)) = false := by simpa using h
    rw [if_neg h]
    go_enter Try.func7, Try.ntmps7
    go_wp2_with fail
    go_ret
    exact ⟨rfl, rfl⟩

end Go.Proofs.Ytebpgfodelggoaa
/- matcherkeep: checked. (Plain seats alone.) -/
set_option linter.unusedVariables false
set_option linter.unusedSimpArgs false
namespace Go.Proofs.Ytebpgfodelggoaa
open Go.RowKit

theorem ins_two {w : World} {base : Nat} {v : Value} {l : List Mt.Ins} (h : ownIns w base v l) :
    (l = [] ∧ ∃ ao cap, v = .slice ao 0 cap) ∨
    (0 < l.length ∧ ∃ g cap, v = .slice (some ⟨g, 0, none⟩) l.length cap ∧ l.length ≤ cap ∧ g < w.heap.size ∧ base ≤ g ∧ ∀ k j, k < l.length → j < 4 → w.cell? ⟨g, k * 4 + j, none⟩ = (insCells (l.getD k Mt.ins0))[j]?) := by
  by_cases h0 : l = []
  · left
    subst h0
    refine ⟨rfl, ?_⟩
    rcases h.2 with ⟨rfl, _⟩ | ⟨g, cap, cur, rfl, _⟩
    · exact ⟨_, _, rfl⟩
    · exact ⟨_, _, rfl⟩
  · right
    have hp : 0 < l.length := List.length_pos_iff.2 h0
    refine ⟨hp, ?_⟩
    rcases h.2 with ⟨rfl, hn⟩ | ⟨g, cap, cur, rfl, hb, hg, h1, h2, h3, h4⟩
    · omega
    · refine ⟨g, cap, rfl, h1, (Array.getElem?_eq_some_iff.1 hg).1, hb, fun k j hk hj => ?_⟩
      have hc := World.ownsRow.cellAt (g := g) (cap := cap) h (k * 4 + j) (by omega)
      rw [hc, ins_flat_at l k j hk hj]

theorem checkR_code (p : ByteArray) : (Mt.codeR p).2 = (Mt.checkR p).1 ∧ ((Mt.checkR p).1 ≠ 0 → (Mt.codeR p).1 = []) ∧ ((Mt.checkR p).1 = 0 → ∃ c, (Mt.codeR p).1 = c ++ [⟨13, 0, 0, []⟩]) := by
  refine ⟨?_, fun h => by unfold Mt.codeR; rw [if_pos h], fun h => ?_⟩
  · unfold Mt.codeR
    split
    · rfl
    · rename_i x; simp at x; simp [x]
  · obtain ⟨f, _, _, _, _, _, hc, _⟩ := Mt.pattern_tree p h
    exact ⟨_, hc⟩

set_option maxRecDepth 100000 in
set_option maxHeartbeats 4000000 in
theorem checked_any (p : ByteArray) (w : World) (hm : p.size ≤ maxLen) : Calls Try.prog 8 #[.string p] w fun e w' => e = .returned (.tuple #[.int .i64 (Mt.checkR p).1, .bool true]) ∧ Below w.heap.size w w' := by
  have K1 : Hid (Calls Try.prog 28 #[.string p] w fun e w' => e = .returned (.tuple #[.int .i64 (Mt.checkR p).1, .int .i64 (Mt.checkR p).2]) ∧ Below w.heap.size w w') := Check_any p w hm
  have K2 : Hid (∀ z : World, Calls Try.prog 12 #[.string p] z fun e w' => ∃ v, e = .returned (.tuple #[v, .int .i64 (Mt.codeR p).2]) ∧ ownIns w' z.heap.size v (Mt.codeR p).1 ∧ Below z.heap.size z w') := fun z => Code_any p z hm
  obtain ⟨h1, h2, h3⟩ := checkR_code p
  have hl := (Mt.codeR_fit p).2
  have HE : Hid ((Mt.codeR p).2 = (Mt.checkR p).1) := h1
  have H2 : Hid ((Mt.checkR p).1 ≠ 0 → (Mt.codeR p).1 = []) := h2
  have H3 : Hid ((Mt.checkR p).1 = 0 → ∃ c, (Mt.codeR p).1 = c ++ [⟨13, 0, 0, []⟩]) := h3
  rw [HE.out] at K2
  clear h1 h2 h3 HE
  generalize (Mt.codeR p).1 = C at *
  generalize (Mt.checkR p).2 = P at *
  generalize (Mt.checkR p).1 = E at *
  go_enter Try.func8, Try.ntmps8
  go_wp2_with fail
  refine K1.out.mono ?_
  rintro e w1 ⟨rfl, hb1⟩
  have HB1 : Hid (Below w.heap.size w w1) := hb1
  clear hb1
  go_wp2_with fail
  refine (K2.out w1).mono ?_
  rintro e w2 ⟨v, rfl, ho, hb2⟩
  have HB2 : Hid (Below w.heap.size w w2) := HB1.out.trans (hb2.mono HB1.out.size)
  clear hb2
  by_cases hE : E = 0
  · obtain ⟨c, hc⟩ := H3.out hE
    rcases ins_two ho with ⟨e0, _⟩ | ⟨hpos, g, cap, rfl, hcap, hg, hgb, hcell⟩
    · rw [hc] at e0; simp at e0
    have hn : C.length = c.length + 1 := by rw [hc]; simp
    have c0 := hcell c.length 0 (by omega) (by omega)
    have e13 : C.getD c.length Mt.ins0 = ⟨13, 0, 0, []⟩ := by rw [hc, List.getD_eq_getElem?_getD, List.getElem?_append_right (Nat.le_refl _)]; simp
    rw [e13] at c0
    change w2.cell? ⟨g, c.length * 4, none⟩ = some (.int .i64 13) at c0
    have m0 : (E != 0) = false := by simpa using hE
    have m1 : (E != E) = false := by simp
    rw [hn] at hl hcap hpos ⊢
    clear ho hcell hc e13 H2 H3 K1 K2
    have hL : c.length + 1 ≤ 300 := hl
    generalize c.length = n at *
    subst hE
    have g1 : decide ((0 : Int) < (n : Int) + 1) = true := by rw [decide_eq_true_eq]; omega
    have g2 : decide (0 < n + 1) = true := by simp
    have i1 : (n : Int) < (n : Int) + 1 := by omega
    have i0 : (0 : Int) ≤ (n : Int) := by omega
    have i2 : (n : Int) + 1 - 1 = n := by omega
    go_wp2_with fail
    go_quiet (fail)
    go_wp2_with fail
    go_ret2
    exact ⟨rfl, below_drewN HB2.out _⟩
  · have hC := H2.out hE
    have m0 : (E != 0) = true := by simpa using hE
    have m1 : (E != E) = false := by simp
    subst hC
    rcases ins_two ho with ⟨_, ao, cap, rfl⟩ | ⟨hpos, _⟩
    · clear ho H2 H3 K1 K2
      go_wp2_with fail
      go_ret2
      exact ⟨rfl, HB2.out⟩
    · simp at hpos
end Go.Proofs.Ytebpgfodelggoaa
/- matcherkeep: Budgeted. (Plain seats alone.) -/
set_option linter.unusedVariables false
set_option linter.unusedSimpArgs false
namespace Go.Proofs.Ytebpgfodelggoaa
open Go.RowKit

set_option maxRecDepth 100000 in
set_option maxHeartbeats 16000000 in
theorem Budgeted_any (p t : ByteArray) (fr P M R B : Int) (w : World) (hm : p.size ≤ maxLen) (hmt : t.size ≤ maxLen) (hfr : I64 fr) (hP : I64 P) (hM : I64 M) (hR : I64 R) (hB : I64 B) :
    Calls Try.prog 6 #[.string p, .string t, .int .i64 fr, .agg #[.int .i64 P, .int .i64 M, .int .i64 R, .int .i64 B]] w fun e w' => e = .returned (.bool true) ∧ Below w.heap.size w w' := by
  have hs := someB_size t 60
  have K0 : Hid (∀ z : World, Calls Try.prog 7 #[.string t, .int .i64 60] z fun e w' => e = .returned (.string (someB t 60)) ∧ z = w') := fun z => some_any t 60 z hmt (by omega)
  generalize hX : someB t 60 = X at *
  have hXm : X.size ≤ maxLen := by unfold maxLen; omega
  have K1 : Hid (∀ z : World, Calls Try.prog 22 #[.int .i64 fr, .int .i64 ((X.size : Int) + 1)] z fun e w' => e = .returned (.int .i64 (pickI fr (X.size + 1))) ∧ z = w') := fun z => kpick_any fr (X.size + 1) z hfr (by omega) (by omega)
  have K2 : Hid (∀ z : World, Calls Try.prog 22 #[.int .i64 B, .int .i64 10001] z fun e w' => e = .returned (.int .i64 (pickI B 10001)) ∧ z = w') := fun z => kpick_any B 10001 z hB (by omega) (by omega)
  have K3 : Hid (∀ z : World, Calls Try.prog 8 #[.string p] z fun e w' => e = .returned (.tuple #[.int .i64 (Mt.checkR p).1, .bool true]) ∧ Below z.heap.size z w') := fun z => checked_any p z hm
  have K4 : Hid (∀ z : World, Calls Try.prog 16 #[.int .i64 P, .int .i64 M, .int .i64 R] z fun e w' => e = .returned (.agg #[.int .i64 (pickI P 5), .int .i64 (pickI M 4294967296), .int .i64 (pickI R 5001), .int .i64 10000]) ∧ Below z.heap.size z w') := fun z => kset_any P M R z hP hM hR
  have hopt := pick_opt P M R
  have hbi := pickI_in B 10001 (by omega)
  have hfi := pickI_in fr (X.size + 1) (by omega)
  obtain ⟨F, hF⟩ : ∃ F : Nat, pickI fr (X.size + 1) = (F : Int) := ⟨(pickI fr (X.size + 1)).toNat, by omega⟩
  rw [hF] at hfi K1
  clear hF
  generalize pickI P 5 = P' at *
  generalize pickI M 4294967296 = M' at *
  generalize pickI R 5001 = R' at *
  generalize pickI B 10001 = b at *
  have hFX : F ≤ X.size := by omega
  obtain ⟨SA, hSA⟩ : ∃ SA : Array Value, SA = #[.int .i64 P', .int .i64 M', .int .i64 R', .int .i64 10000] := ⟨_, rfl⟩
  rw [← hSA] at K4
  have hsa : SA.size = 4 := by rw [hSA]; rfl
  have hsl : SA.all (·.oneCell') = true := by rw [hSA]; kernel_rfl
  have HSB : Hid (∀ c : Int, SA.setIfInBounds 3 (.int .i64 c) = #[.int .i64 P', .int .i64 M', .int .i64 R', .int .i64 c]) := fun c => by rw [hSA]; rfl
  have hs3 : SA[3]? = some (.int .i64 10000) := by rw [hSA]; rfl
  have HSA : Hid (SA = #[.int .i64 P', .int .i64 M', .int .i64 R', .int .i64 10000]) := hSA
  have HS3 : Hid (SA[3]? = some (.int .i64 10000)) := hs3
  clear hs3 hSA
  -- what Find answers
  have K5 : Hid (∀ (c : Int) (z : World), Calls Try.prog 15 #[.string p, .string X, .int .i64 (F : Int), .agg #[.int .i64 P', .int .i64 M', .int .i64 R', .int .i64 c]] z fun e w' => e = .returned (.tuple #[.agg (fpA (Mt.findR p X F P' M' R' c).1), .int .i64 (Mt.findR p X F P' M' R' c).2]) ∧ Below z.heap.size z w') := fun c z => Find_any p X F P' M' R' c z hm hXm
  have HER : Hid ((Mt.checkR p).1 ≠ 0 → Mt.findR p X F P' M' R' 10000 = (Mt.fnd0, (Mt.checkR p).1)) := fun h => Mt.findR_err p X F P' M' R' 10000 h
  have HWH : Hid ((Mt.checkR p).1 = 0 → WholeOk X.size F (Mt.findR p X F P' M' R' 10000).1 (Mt.findR p X F P' M' R' 10000).2) := fun h => find_whole p X F P' M' R' 10000 h hs.1 hFX hopt
  have HBO : Hid ((Mt.checkR p).1 = 0 → ∀ c, 0 ≤ c ∧ c ≤ 10000 → ((Mt.findR p X F P' M' R' 10000).2 = 14 → Mt.findR p X F P' M' R' c = (Mt.fnd0, 14)) ∧ ((Mt.findR p X F P' M' R' 10000).2 = 0 → Mt.findR p X F P' M' R' c = if c < (Mt.findR p X F P' M' R' 10000).1.steps then (Mt.fnd0, 14) else ((Mt.findR p X F P' M' R' 10000).1, 0))) := fun h c hc => find_bounded p X F P' M' R' c h hs.1 hFX hopt hc
  have KBD : Hid (∀ (c : Int) (f : Mt.Fnd) (z : World), f.at'.length = 20 → Mt.findR p X F P' M' R' c = (if c < f.steps then (Mt.fnd0, 14) else (f, 0)) → Calls Try.prog 27 #[.string p, .string X, .int .i64 (F : Int), .agg SA, .agg (fpA f), .int .i64 c] z fun e w' => e = .returned (.bool true) ∧ Below z.heap.size z w') := fun c f z h1 h2 => by rw [HSA.out]; exact bounded_true p X F P' M' R' 10000 c f hm hXm h1 h2 z
  have H20 : Hid ((Mt.findR p X F P' M' R' 10000).1.at'.length = 20) := by
    show _ = _
    by_cases h : (Mt.checkR p).1 = 0
    · exact (HWH.out h).len
    · rw [HER.out h]; rfl
  have hX60 := hs.1
  have hsz0 := fpA_size Mt.fnd0 rfl
  have hall0 := fpA_all Mt.fnd0
  have HBI : Hid (0 ≤ b ∧ b ≤ 10000) := ⟨hbi.1, by omega⟩
  clear hm hmt hfr hP hM hR hB hs hXm hopt hbi hfi
  obtain ⟨z, hz⟩ : ∃ z, z = w.alloc (.cells #[.int .i64 P, .int .i64 M, .int .i64 R, .int .i64 B] 43) := ⟨_, rfl⟩
  have T1 : z.heap[w.heap.size]? = some (.cells #[.int .i64 P, .int .i64 M, .int .i64 R, .int .i64 B] 43 (0, 0)) := by rw [hz]; exact heap_b1 _ _
  have HB0 : Hid (Below w.heap.size w z) := by rw [hz]; exact (Below.refl _ _).alloc (Nat.le_refl _) _
  have x0 : (0 : Int) ≤ (X.size : Int) := by omega
  have x1 : (X.size : Int) + 1 ≤ 61 := by omega
  go_enter Try.func6, Try.ntmps6
  go_upto_region 1 with fail
  show Code.wp _ _ _ _ (w.alloc (.cells #[.int .i64 P, .int .i64 M, .int .i64 R, .int .i64 B] 43))
  rw [← hz]
  clear hz
  generalize hn : w.heap.size = n at *
  have c3 : z.cell? ⟨n, 3, none⟩ = some (.int .i64 B) := (cell_block T1).1 3
  have hlz : n < z.heap.size := blk_lt T1
  have HT1 : Hid (z.heap[n]? = some (.cells #[.int .i64 P, .int .i64 M, .int .i64 R, .int .i64 B] 43 (0, 0))) := T1
  clear T1
  go_wp2_with fail
  refine (K0.out _).mono ?_
  rintro e w' ⟨rfl, rfl⟩
  go_wp2_with fail
  refine (K1.out _).mono ?_
  rintro e w' ⟨rfl, rfl⟩
  go_wp2_with fail
  refine (K2.out _).mono ?_
  rintro e w' ⟨rfl, rfl⟩
  go_wp2_with fail
  refine (K3.out _).mono ?_
  rintro e w1 ⟨rfl, hb1⟩
  have T2 := blk_keep HT1.out hb1
  have c0 : w1.cell? ⟨n, 0, none⟩ = some (.int .i64 P) := (cell_block T2).1 0
  have c1 : w1.cell? ⟨n, 1, none⟩ = some (.int .i64 M) := (cell_block T2).1 1
  have c2 : w1.cell? ⟨n, 2, none⟩ = some (.int .i64 R) := (cell_block T2).1 2
  have hl1 : n < w1.heap.size := blk_lt T2
  have HB1 : Hid (Below n w w1) := HB0.out.trans (hb1.mono (Nat.le_of_lt hlz))
  have HT2 : Hid (w1.heap[n]? = some (.cells #[.int .i64 P, .int .i64 M, .int .i64 R, .int .i64 B] 43 (0, 0))) := T2
  have HL1 : Hid (n < w1.heap.size) := hl1
  clear hb1 T2 c3 hlz HT1 HB0
  go_wp2_with fail
  refine (K4.out _).mono ?_
  rintro e w2 ⟨rfl, hb2⟩
  have T3 := blk_keep HT2.out hb2
  have HB2 : Hid (Below n w w2) := HB1.out.trans (hb2.mono (Nat.le_of_lt HL1.out))
  have HT3 : Hid (w2.heap[n]? = some (.cells #[.int .i64 P, .int .i64 M, .int .i64 R, .int .i64 B] 43 (0, 0))) := T3
  clear hb2 T3 c0 c1 c2 hl1 HT2 HB1 HL1
  go_upto_region 6 with (refine store_blk 43 4 Try.sizeOp4 (by rfl) (.tmp 7) (.tmp 43) (by rfl) n SA (by rfl) (by rfl) HT3.out (by rfl) hsa hsl ?_; intro w3 r1 r2 r3 r4)
  have HB3 : Hid (Below n w w3) := HB2.out.trans (r4 n (Nat.le_refl _))
  have HT4 : Hid (w3.heap[n]? = some (.cells SA 43 (0, 0))) := r1
  clear r1 r2 r3 r4 HT3 HB2
  have K5H : Hid (∀ z : World, Calls Try.prog 15 #[.string p, .string X, .int .i64 (F : Int), .agg SA] z fun e w' => e = .returned (.tuple #[.agg (fpA (Mt.findR p X F P' M' R' 10000).1), .int .i64 (Mt.findR p X F P' M' R' 10000).2]) ∧ Below z.heap.size z w') := by rw [HSA.out]; exact K5.out 10000
  generalize hG : Mt.findR p X F P' M' R' 10000 = G at *
  have hsz := fpA_size G.1 H20.out
  have hall := fpA_all G.1
  have hst := fpA_steps G.1 H20.out
  have HST : Hid ((fpA G.1)[21]? = some (.int .i64 G.1.steps)) := hst
  clear hst hG
  generalize (Mt.checkR p).1 = E at *
  go_wp2_with (refine load_blk 43 4 Try.underlying43 rfl Try.sizeOp4 (by rfl) (.tmp 7) (by rfl) n (by rfl) HT4.out hsa ?_)
  refine (K5H.out _).mono ?_
  rintro e w4 ⟨rfl, hb4⟩
  have HT5 : Hid (w4.heap[n]? = some (.cells SA 43 (0, 0))) := blk_keep HT4.out hb4
  have HB4 : Hid (Below n w w4) := HB3.out.trans (hb4.mono (Nat.le_of_lt (blk_lt HT4.out)))
  clear hb4 HT4 HB3 K5H
  go_upto_region 7 with (refine store_blk 39 22 Try.sizeFd (by rfl) (.tmp 12) (.tmp 50) (by rfl) w4.heap.size (fpA G.1) (by rfl) (by rfl) (by exact heap_b1 _ _) (by rfl) hsz hall ?_; intro w5 s1 s2 s3 s4)
  have B5 : Below w4.heap.size w4 w5 := ((Below.refl _ _).alloc (Nat.le_refl _) _).trans (s4 _ (Nat.le_refl _))
  have HT6 : Hid (w5.heap[n]? = some (.cells SA 43 (0, 0))) := blk_keep HT5.out B5
  have HB5 : Hid (Below n w w5) := HB4.out.trans (B5.mono (Nat.le_of_lt (blk_lt HT5.out)))
  have HF6 : Hid (w5.heap[w4.heap.size]? = some (.cells (fpA G.1) 39 (0, 0))) := s1
  have HNM : Hid (n < w4.heap.size) := blk_lt HT5.out
  clear s1 s2 s3 s4 B5 HT5 HB4
  generalize hm4 : w4.heap.size = m at *
  go_wp2_with fail
  refine (works_any _).mono ?_
  rintro e w6 ⟨rfl, hb6⟩
  have HT7 : Hid (w6.heap[n]? = some (.cells SA 43 (0, 0))) := blk_keep HT6.out hb6
  have HF7 : Hid (w6.heap[m]? = some (.cells (fpA G.1) 39 (0, 0))) := blk_keep HF6.out hb6
  have HB6 : Hid (Below n w w6) := HB5.out.trans (hb6.mono (Nat.le_of_lt (blk_lt HT6.out)))
  clear hb6 HT6 HF6 HB5
  by_cases hE : E = 0
  · have m0 : (E != 0) = false := by simpa using hE
    have hWO := HWH.out hE
    have HBO2 := HBO.out hE
    have HBO3 : Hid (∀ c : Int, _) := HBO2
    have KW : Hid (∀ z : World, Calls Try.prog 25 #[.agg (fpA G.1), .int .i64 G.2, .int .i64 (F : Int), .int .i64 (X.size : Int)] z fun r w' => r = .returned (.bool true) ∧ Below z.heap.size z w') := fun z => whole_true X.size F G.1 G.2 hWO hX60 hFX z
    have HWO : Hid (WholeOk X.size F G.1 G.2) := hWO
    clear hE HWH HBO HER hWO HBO2
    go_wp2_with (refine load_blk 39 22 Try.underlying39 rfl Try.sizeFd (by rfl) (.tmp 12) (by rfl) m (by rfl) HF7.out hsz ?_)
    refine (KW.out _).mono ?_
    rintro e w7 ⟨rfl, hb7⟩
    have HT8 : Hid (w7.heap[n]? = some (.cells SA 43 (0, 0))) := blk_keep HT7.out hb7
    have HF8 : Hid (w7.heap[m]? = some (.cells (fpA G.1) 39 (0, 0))) := blk_keep HF7.out hb7
    have HB7 : Hid (Below n w w7) := HB6.out.trans (hb7.mono (Nat.le_of_lt (blk_lt HT7.out)))
    clear hb7 HT7 HF7 HB6 KW
    rcases HWO.out with ⟨h14, hf0⟩ | ⟨h0, hin⟩
    · have h9 := (HBO3.out b HBI.out).1 h14
      have K6 := K5.out b
      rw [h9] at K6
      have K6H : Hid (∀ z : World, _) := K6
      have g14 : (G.2 == 14) = true := by simpa using h14
      have KE : Hid (∀ z : World, Calls Try.prog 26 #[.agg (fpA Mt.fnd0)] z fun e w' => e = .returned (.bool true) ∧ Below z.heap.size z w') := fun z => empty_true z
      clear h9 K6 K5 HBO3 HWO KBD h14 hf0
      dsimp only at K6H
      generalize fpA Mt.fnd0 = F0 at *
      have c3 : w7.cell? ⟨n, 3, none⟩ = some (.int .i64 10000) := ((cell_block HT8.out).1 3).trans HS3.out
      have f3 : w7.frozen? ⟨n, 3, none⟩ = false := (cell_block HT8.out).2 3
      go_upto_region 17 with fail
      have T8 := HT8.out
      obtain ⟨w8, hz8⟩ : ∃ w8, w8 = w7.setCell ⟨n, 3, none⟩ (.int .i64 b) := ⟨_, rfl⟩
      have HT9 : Hid (w8.heap[n]? = some (.cells #[.int .i64 P', .int .i64 M', .int .i64 R', .int .i64 b] 43 (0, 0))) := by show _ = _; rw [hz8, ← HSB.out b]; exact Go.heap_setCell_same w7 n 3 _ _ _ T8
      have HB8 : Hid (Below n w w8) := by show Below _ _ _; rw [hz8]; exact HB7.out.trans ((below_setCells n [.int .i64 b] 3 w7 n (Nat.le_refl _)).1)
      rw [← hz8]
      clear hz8 T8 HT8 HF8 HB7 c3 f3
      go_wp2_with (refine load_blk 43 4 Try.underlying43 rfl Try.sizeOp4 (by rfl) (.tmp 7) (by rfl) n (by rfl) HT9.out (by rfl) ?_)
      refine (K6H.out _).mono ?_
      rintro e w9 ⟨rfl, hb9⟩
      have HB9 : Hid (Below n w w9) := HB8.out.trans (hb9.mono (Nat.le_of_lt (blk_lt HT9.out)))
      have HN9 : Hid (n < w9.heap.size) := Nat.lt_of_lt_of_le (blk_lt HT9.out) hb9.size
      clear hb9 HT9 HB8
      go_upto_region 18 with (refine store_blk 39 22 Try.sizeFd (by rfl) (.tmp 16) (.tmp 83) (by rfl) w9.heap.size F0 (by rfl) (by rfl) (by exact heap_b1 _ _) (by rfl) hsz0 hall0 ?_; intro w10 s1 s2 s3 s4)
      have B10 : Below w9.heap.size w9 w10 := ((Below.refl _ _).alloc (Nat.le_refl _) _).trans (s4 _ (Nat.le_refl _))
      have HB10 : Hid (Below n w w10) := HB9.out.trans (B10.mono (Nat.le_of_lt HN9.out))
      have HN10 : Hid (n < w10.heap.size) := Nat.lt_of_lt_of_le HN9.out B10.size
      clear s2 s3 s4 B10
      generalize hm9 : w9.heap.size = m9 at *
      go_wp2_with (refine load_blk 39 22 Try.underlying39 rfl Try.sizeFd (by rfl) (.tmp 16) (by rfl) m9 (by rfl) s1 hsz0 ?_)
      refine (KE.out _).mono ?_
      rintro e w11 ⟨rfl, hb11⟩
      have HB11 : Hid (Below n w w11) := HB10.out.trans (hb11.mono (Nat.le_of_lt HN10.out))
      clear hb11 s1
      go_wp2_with fail
      go_ret
      exact ⟨rfl, by rw [hn]; exact HB11.out⟩
    · have g14 : (G.2 == 14) = false := by rw [h0]; rfl
      have s1 := hin.steps1
      have s2 := hin.steps2
      have hq := fun c hc => (HBO3.out c hc).2 h0
      have B1 : Hid (∀ z : World, Calls Try.prog 27 #[.string p, .string X, .int .i64 (F : Int), .agg SA, .agg (fpA G.1), .int .i64 G.1.steps] z fun e w' => e = .returned (.bool true) ∧ Below z.heap.size z w') := fun z => KBD.out G.1.steps G.1 z H20.out (hq _ (by omega))
      have B2 : Hid (∀ z : World, Calls Try.prog 27 #[.string p, .string X, .int .i64 (F : Int), .agg SA, .agg (fpA G.1), .int .i64 (G.1.steps - 1)] z fun e w' => e = .returned (.bool true) ∧ Below z.heap.size z w') := fun z => KBD.out (G.1.steps - 1) G.1 z H20.out (hq _ (by omega))
      have B3 : Hid (∀ z : World, Calls Try.prog 27 #[.string p, .string X, .int .i64 (F : Int), .agg SA, .agg (fpA G.1), .int .i64 b] z fun e w' => e = .returned (.bool true) ∧ Below z.heap.size z w') := fun z => KBD.out b G.1 z H20.out (hq _ HBI.out)
      clear hq hin h0 K5 HBO3 HWO KBD
      generalize hfa : fpA G.1 = FA at *
      generalize G.1.steps = S at *
      generalize G.2 = e2 at *
      have c8 : w7.cell? ⟨m, 21, none⟩ = some (.int .i64 S) := ((cell_block HF8.out).1 _).trans HST.out
      have l8 := blk_lt HF8.out
      go_wp2_with (first | (refine load_blk 43 4 Try.underlying43 rfl Try.sizeOp4 (by rfl) (.tmp 7) (by rfl) n (by rfl) HT8.out hsa ?_) | (refine load_blk 39 22 Try.underlying39 rfl Try.sizeFd (by rfl) (.tmp 12) (by rfl) m (by rfl) HF8.out hsz ?_))
      refine (B1.out _).mono ?_
      rintro e w8 ⟨rfl, hb8⟩
      have HT9 : Hid (w8.heap[n]? = some (.cells SA 43 (0, 0))) := blk_keep HT8.out hb8
      have HF9 : Hid (w8.heap[m]? = some (.cells FA 39 (0, 0))) := blk_keep HF8.out hb8
      have HB8 : Hid (Below n w w8) := HB7.out.trans (hb8.mono (Nat.le_of_lt (blk_lt HT8.out)))
      have c9 : w8.cell? ⟨m, 21, none⟩ = some (.int .i64 S) := ((cell_block HF9.out).1 _).trans HST.out
      have l9 := blk_lt HF9.out
      clear hb8 HT8 HF8 HB7 c8 l8
      go_wp2_with (first | (refine load_blk 43 4 Try.underlying43 rfl Try.sizeOp4 (by rfl) (.tmp 7) (by rfl) n (by rfl) HT9.out hsa ?_) | (refine load_blk 39 22 Try.underlying39 rfl Try.sizeFd (by rfl) (.tmp 12) (by rfl) m (by rfl) HF9.out hsz ?_))
      refine (B2.out _).mono ?_
      rintro e w9 ⟨rfl, hb9⟩
      have HT10 : Hid (w9.heap[n]? = some (.cells SA 43 (0, 0))) := blk_keep HT9.out hb9
      have HF10 : Hid (w9.heap[m]? = some (.cells FA 39 (0, 0))) := blk_keep HF9.out hb9
      have HB9 : Hid (Below n w w9) := HB8.out.trans (hb9.mono (Nat.le_of_lt (blk_lt HT9.out)))
      clear hb9 HT9 HF9 HB8 c9 l9
      go_wp2_with (first | (refine load_blk 43 4 Try.underlying43 rfl Try.sizeOp4 (by rfl) (.tmp 7) (by rfl) n (by rfl) HT10.out hsa ?_) | (refine load_blk 39 22 Try.underlying39 rfl Try.sizeFd (by rfl) (.tmp 12) (by rfl) m (by rfl) HF10.out hsz ?_))
      refine (B3.out _).mono ?_
      rintro e w10 ⟨rfl, hb10⟩
      have HB10 : Hid (Below n w w10) := HB9.out.trans (hb10.mono (Nat.le_of_lt (blk_lt HT10.out)))
      clear hb10 HT10 HF10 HB9
      go_wp2_with fail
      go_ret
      exact ⟨rfl, by rw [hn]; exact HB10.out⟩
  · have m0 : (E != 0) = true := by simpa using hE
    have hGe := HER.out hE
    have KR : Hid (∀ z : World, Calls Try.prog 24 #[.agg (fpA G.1), .int .i64 G.2, .int .i64 E] z fun r w' => r = .returned (.bool true) ∧ Below z.heap.size z w') := by
      rw [hGe]; exact fun z => refused_true E z
    clear hE HER HWH HBO hGe K5 KBD
    go_wp2_with (refine load_blk 39 22 Try.underlying39 rfl Try.sizeFd (by rfl) (.tmp 12) (by rfl) m (by rfl) HF7.out hsz ?_)
    refine (KR.out _).mono ?_
    rintro e w7 ⟨rfl, hb7⟩
    have HB7 : Hid (Below n w w7) := HB6.out.trans (hb7.mono (Nat.le_of_lt (blk_lt HT7.out)))
    clear hb7
    go_wp2_with fail
    go_ret
    exact ⟨rfl, by rw [hn]; exact HB7.out⟩
end Go.Proofs.Ytebpgfodelggoaa
/- The law Budgeted: P6. (Plain seats alone.) -/
set_option linter.unusedVariables false
namespace Go.Proofs.Ytebpgfodelggoaa
open Go.ChangeShapes Go.WideShapes Go.ChangeAt Go.RowKit Go.ChangeMaps

set_option maxRecDepth 100000 in
theorem budgeted_contract (H : Type) (enc : TypeId × Value → H) (W : World) (base : Nat) (args : Array Value) (ds gs : List (DataW H)) (before : List MemPlace)
    (hval : ∀ (j : Nat) t v, Try.f6.params[j]? = some t → args[j]? = some v → Value.okWide Try.prog W .any base t v)
    (hW : DataW.Whole enc Try.prog Try.f6.params.toList Rows.budgetedSpec.vars false W args.toList ds gs before) :
    Calls Try.prog 6 args W fun e W' => ∃ v, e = .returned v ∧ Rows.budgetedSpec.post enc Try.prog Try.f6 false true false false W args v W' := by
  have hW' := hW
  obtain ⟨p, q, hA0, hV, rfl, hfz, hnd⟩ := hW
  have hA : DataW.TrodAll enc Try.prog W 0 (fun _ => true) true Try.f6.params.toList args.toList ds p := hA0
  rw [Try.params6] at hA hval
  obtain ⟨v0, v1, v2, v3, d0, d1, d2, d3, p0, p1, p2, p3, rfl, rfl, rfl, h0, h1, h2, h3⟩ := trodAll_four hA
  obtain ⟨rfl, rfl⟩ := trodVars_none hV
  obtain ⟨x, rfl, rfl, rfl, hx⟩ := open_string Try.underlying9 (hval 0 9 v0 rfl rfl) h0
  obtain ⟨y, rfl, rfl, rfl, hy⟩ := open_string Try.underlying9 (hval 1 9 v1 rfl rfl) h1
  obtain ⟨n, rfl, rfl, rfl, hn⟩ := open_int Try.underlying3 (hval 2 3 v2 rfl rfl) h2
  obtain ⟨a, b, c, e, rfl, rfl, rfl, ho⟩ := opt_open (hval 3 43 v3 rfl rfl) h3
  clear hA0
  simp only [List.append_nil] at hW'
  refine (Budgeted_any x y n a b c e W hx hy (wf_i64 hn) (wf_i64 ho.1) (wf_i64 ho.2.1) (wf_i64 ho.2.2.1) (wf_i64 ho.2.2.2)).mono fun e W' ⟨he, hb⟩ => ?_
  subst he
  exact ⟨_, rfl, post_below (pa := []) (pv := []) hW' (fun _ _ _ => trodAll_cons_mk (shut_bool Try.underlying4 _) trodAll_mk0) (fun sp hsp => trodAll_cons_mk (shut_string Try.underlying9 hx) (trodAll_cons_mk (shut_string Try.underlying9 hy) (trodAll_cons_mk (shut_int Try.underlying3 hn) (trodAll_cons_mk (opt_shut ho) trodAll_mk0)))) (fun _ _ => rfl) rfl hb (ok_one (by kernel_rfl) rfl (okWide_bool_mk Try.underlying4 _))⟩

set_option maxRecDepth 100000 in
theorem budgeted_lifted (os : Os) (started : os.Started) (H : Type) (enc : TypeId × Value → H) :
    ReturnsInHanded {} Try.checked os 6 .any (Rows.budgetedSpec.pre6 enc Try.prog Try.f6 Rows.budgetedRow.domain false) (Rows.budgetedSpec.post enc Try.prog Try.f6 false true false false) := by
  refine returnsInHanded_of_change (C := Try.checked) Try.ownK started (by kernel_rfl) Try.func6
    (ChangeSpec.witness6 (enc := enc) (C := Try.checked) false ⟨#[], #[.string ⟨#[]⟩, .string ⟨#[]⟩, .int .i64 0, .agg #[.int .i64 0, .int .i64 0, .int .i64 0, .int .i64 0]], []⟩ 8 (by kernel_rfl) (by kernel_rfl) (by kernel_rfl) (by kernel_rfl)) ?_
  intro W base args ds gs before hval hW _ _
  exact budgeted_contract H enc W base args ds gs before hval hW

theorem budgeted_holds : Rows.BudgetedSaid :=
  OpenClaim.holds_of_wide 6 Try.f6 rfl rfl rfl rfl rfl rfl rfl ⟨rfl, rfl, rfl, rfl, rfl⟩ rfl rfl rfl rfl rfl (by kernel_rfl) Try.func6 (by kernel_rfl)
    (of_decide_eq_true (by kernel_rfl)) (by unfold Func.isWrapper; first | (rw [if_pos (by decide +kernel)]; kernel_rfl) | (rw [if_neg (by decide +kernel)]; exact ⟨rfl, rfl⟩))
    (fun os started H enc _ => budgeted_lifted os started H enc)
end Go.Proofs.Ytebpgfodelggoaa
