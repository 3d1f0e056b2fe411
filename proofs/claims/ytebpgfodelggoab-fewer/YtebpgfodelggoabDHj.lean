import Derived.Test.YtebpgfodelggoabC53
/- matcherkeep: noMore, Fewer. (Plain seats alone.) -/
set_option linter.unusedVariables false
set_option linter.unusedSimpArgs false
namespace Go.Proofs.Ytebpgfodelggoab
open Go.RowKit

set_option maxRecDepth 100000 in
set_option maxHeartbeats 4000000 in
theorem noMore_true (F G : Mt.Fnd × Int) (h : NoMore F G) (h1 : F.1.at'.length = 20) (h2 : G.1.at'.length = 20) (w : World) :
    Calls Try.prog 17 #[.agg (fpA F.1), .int .i64 F.2, .agg (fpA G.1), .int .i64 G.2] w fun e w' => e = .returned (.bool true) ∧ Below w.heap.size w w' := by
  obtain ⟨z, hz⟩ : ∃ z, z = (w.alloc (.cells (fpA F.1) 31)).alloc (.cells (fpA G.1) 31) := ⟨_, rfl⟩
  have q1 : z.heap[w.heap.size]? = some (.cells (fpA F.1) 31 (0, 0)) := by rw [hz]; exact heap_b2 _ _ _
  have q2 : z.heap[w.heap.size + 1]? = some (.cells (fpA G.1) 31 (0, 0)) := by rw [hz]; exact heap_b3 _ _ _
  have HB : Hid (Below w.heap.size w z) := by rw [hz]; exact ((Below.refl _ _).alloc (Nat.le_refl _) _).alloc (by simp) _
  have l1 : w.heap.size + 1 < z.heap.size := blkLt q2
  have l2 : w.heap.size < z.heap.size := by omega
  have c1 : z.cell? ⟨w.heap.size, 21, none⟩ = some (.int .i64 F.1.steps) := ((cell_block q1).1 _).trans (fpA_steps _ h1)
  have c2 : z.cell? ⟨w.heap.size + 1, 21, none⟩ = some (.int .i64 G.1.steps) := ((cell_block q2).1 _).trans (fpA_steps _ h2)
  clear q1 q2 h1 h2
  go_enter Try.func17, Try.ntmps17
  go_upto_region 1 with fail
  show Code.wp _ _ _ _ ((w.alloc (.cells (fpA F.1) 31)).alloc (.cells (fpA G.1) 31))
  rw [← hz]
  clear hz
  generalize hn : w.heap.size = n at *
  by_cases e : F.2 = 0
  · obtain ⟨e2, e3⟩ := h e
    have m1 : (F.2 != 0) = false := by simpa using e
    have m2 : (G.2 == 0) = true := by simpa using e2
    have m3 : decide (G.1.steps ≤ F.1.steps) = true := by rw [decide_eq_true_eq]; exact e3
    clear e e2 e3 h
    generalize F.1.steps = S at *
    generalize G.1.steps = S2 at *
    generalize F.2 = x at *
    generalize G.2 = y at *
    go_wp2_with fail
    go_ret
    exact ⟨rfl, by rw [hn]; exact HB.out⟩
  · have m1 : (F.2 != 0) = true := by simpa using e
    clear e h
    go_wp2_with fail
    go_ret
    exact ⟨rfl, by rw [hn]; exact HB.out⟩

set_option maxRecDepth 100000 in
set_option maxHeartbeats 16000000 in
theorem Fewer_any (p t : ByteArray) (fr P M R B Q : Int) (w : World) (hm : p.size ≤ maxLen) (hmt : t.size ≤ maxLen) (hfr : I64 fr) (hP : I64 P) (hM : I64 M) (hR : I64 R) (hQ : I64 Q) :
    Calls Try.prog 4 #[.string p, .string t, .int .i64 fr, .agg #[.int .i64 P, .int .i64 M, .int .i64 R, .int .i64 B], .int .i64 Q] w fun e w' => e = .returned (.bool true) ∧ Below w.heap.size w w' := by
  have hs := someB_size t 60
  have K0 : Hid (∀ z : World, Calls Try.prog 8 #[.string t, .int .i64 60] z fun e w' => e = .returned (.string (someB t 60)) ∧ z = w') := fun z => some_any t 60 z hmt (by omega)
  generalize hX : someB t 60 = X at *
  have hXm : X.size ≤ maxLen := by unfold maxLen; omega
  have K1 : Hid (∀ z : World, Calls Try.prog 9 #[.int .i64 fr, .int .i64 ((X.size : Int) + 1)] z fun e w' => e = .returned (.int .i64 (pickI fr (X.size + 1))) ∧ z = w') := fun z => kpick_any fr (X.size + 1) z hfr (by omega) (by omega)
  have K3 : Hid (∀ z : World, Calls Try.prog 10 #[.string p] z fun e w' => e = .returned (.tuple #[.int .i64 (Mt.checkR p).1, .bool true]) ∧ Below z.heap.size z w') := fun z => checked_any p z hm
  have K4 : Hid (∀ z : World, Calls Try.prog 12 #[.int .i64 P, .int .i64 M, .int .i64 R] z fun e w' => e = .returned (.agg #[.int .i64 (pickI P 5), .int .i64 (pickI M 4294967296), .int .i64 (pickI R 5001), .int .i64 10000]) ∧ Below z.heap.size z w') := fun z => kset_any P M R z hP hM hR
  have K5 : Hid (∀ z : World, Calls Try.prog 12 #[.int .i64 0, .int .i64 0, .int .i64 0] z fun e w' => e = .returned (.agg #[.int .i64 0, .int .i64 0, .int .i64 0, .int .i64 10000]) ∧ Below z.heap.size z w') := fun z => kset_any 0 0 0 z ⟨by omega, by omega⟩ ⟨by omega, by omega⟩ ⟨by omega, by omega⟩
  have o1 := pick_opt P M R
  have hri := pickI_in R 5001 (by omega)
  have hfi := pickI_in fr (X.size + 1) (by omega)
  obtain ⟨F, hF⟩ : ∃ F : Nat, pickI fr (X.size + 1) = (F : Int) := ⟨(pickI fr (X.size + 1)).toNat, by omega⟩
  rw [hF] at hfi K1
  clear hF
  generalize pickI P 5 = p1 at *
  generalize pickI M 4294967296 = m1 at *
  generalize pickI R 5001 = r1 at *
  obtain ⟨N, hN⟩ : ∃ N : Nat, 5001 - r1 = (N : Int) := ⟨(5001 - r1).toNat, by omega⟩
  have hqi := pickI_in Q N (by omega)
  have K2 : Hid (∀ z : World, Calls Try.prog 9 #[.int .i64 Q, .int .i64 (5001 - r1)] z fun e w' => e = .returned (.int .i64 (pickI Q N)) ∧ z = w') := fun z => by rw [hN]; exact kpick_any Q N z hQ (by omega) (by omega)
  generalize pickI Q N = q1 at *
  have o0 : Mt.Opt 0 0 0 10000 := ⟨by omega, by omega, by omega, by omega, by omega⟩
  have o2 : Mt.Opt p1 m1 (r1 + q1) 10000 := ⟨o1.1, o1.2.1, by omega, by omega, by omega⟩
  have hFX : F ≤ X.size := by omega
  have K6 : Hid (∀ z : World, Calls Try.prog 11 #[.string p, .string X, .int .i64 (F : Int), .agg #[.int .i64 0, .int .i64 0, .int .i64 0, .int .i64 10000]] z fun e w' => e = .returned (.tuple #[.agg (fpA (Mt.findR p X F 0 0 0 10000).1), .int .i64 (Mt.findR p X F 0 0 0 10000).2]) ∧ Below z.heap.size z w') := fun z => Find_any p X F 0 0 0 10000 z hm hXm
  have K7 : Hid (∀ z : World, Calls Try.prog 11 #[.string p, .string X, .int .i64 (F : Int), .agg #[.int .i64 p1, .int .i64 m1, .int .i64 r1, .int .i64 10000]] z fun e w' => e = .returned (.tuple #[.agg (fpA (Mt.findR p X F p1 m1 r1 10000).1), .int .i64 (Mt.findR p X F p1 m1 r1 10000).2]) ∧ Below z.heap.size z w') := fun z => Find_any p X F p1 m1 r1 10000 z hm hXm
  have K8 : Hid (∀ z : World, Calls Try.prog 11 #[.string p, .string X, .int .i64 (F : Int), .agg #[.int .i64 p1, .int .i64 m1, .int .i64 (r1 + q1), .int .i64 10000]] z fun e w' => e = .returned (.tuple #[.agg (fpA (Mt.findR p X F p1 m1 (r1 + q1) 10000).1), .int .i64 (Mt.findR p X F p1 m1 (r1 + q1) 10000).2]) ∧ Below z.heap.size z w') := fun z => Find_any p X F p1 m1 (r1 + q1) 10000 z hm hXm
  have HER : Hid ((Mt.checkR p).1 ≠ 0 → Mt.findR p X F 0 0 0 10000 = (Mt.fnd0, (Mt.checkR p).1)) := fun h => Mt.findR_err p X F 0 0 0 10000 h
  have HWH : Hid ((Mt.checkR p).1 = 0 → WholeOk X.size F (Mt.findR p X F 0 0 0 10000).1 (Mt.findR p X F 0 0 0 10000).2 ∧ WholeOk X.size F (Mt.findR p X F p1 m1 r1 10000).1 (Mt.findR p X F p1 m1 r1 10000).2 ∧ WholeOk X.size F (Mt.findR p X F p1 m1 (r1 + q1) 10000).1 (Mt.findR p X F p1 m1 (r1 + q1) 10000).2) := fun h => ⟨find_whole p X F 0 0 0 10000 h hs.1 hFX o0, find_whole p X F p1 m1 r1 10000 h hs.1 hFX o1, find_whole p X F p1 m1 (r1 + q1) 10000 h hs.1 hFX o2⟩
  have HLE : Hid ((Mt.checkR p).1 = 0 → NoMore (Mt.findR p X F 0 0 0 10000) (Mt.findR p X F p1 m1 r1 10000) ∧ NoMore (Mt.findR p X F p1 m1 r1 10000) (Mt.findR p X F p1 m1 (r1 + q1) 10000)) := fun h => ⟨find_less p X F p1 m1 r1 h hs.1 hFX o1, find_room p X F p1 m1 r1 (r1 + q1) h hs.1 hFX o1 o2 (by omega)⟩
  have L0 := find_len p X F 0 0 0 hs.1 hFX o0
  have L1 := find_len p X F p1 m1 r1 hs.1 hFX o1
  have L2 := find_len p X F p1 m1 (r1 + q1) hs.1 hFX o2
  have hX60 := hs.1
  obtain ⟨SA, hSA⟩ : ∃ SA : Array Value, SA = #[.int .i64 p1, .int .i64 m1, .int .i64 r1, .int .i64 10000] := ⟨_, rfl⟩
  rw [← hSA] at K4 K7
  have hsa : SA.size = 4 := by rw [hSA]; rfl
  have hsl : SA.all (·.oneCell') = true := by rw [hSA]; kernel_rfl
  have HSB : Hid (SA.setIfInBounds 2 (.int .i64 (r1 + q1)) = #[.int .i64 p1, .int .i64 m1, .int .i64 (r1 + q1), .int .i64 10000]) := by show _ = _; rw [hSA]; rfl
  have hs2 : SA[2]? = some (.int .i64 r1) := by rw [hSA]; rfl
  have HS2 : Hid (SA[2]? = some (.int .i64 r1)) := hs2
  have HRQ : Hid (0 ≤ r1 ∧ r1 < 5001 ∧ 0 ≤ q1 ∧ r1 + q1 < 5001) := ⟨hri.1, hri.2, hqi.1, by omega⟩
  clear hm hmt hfr hP hM hR hQ hs hXm o0 o1 o2 hfi hs2 hSA hri hqi hN
  generalize Mt.findR p X F 0 0 0 10000 = G0 at *
  generalize Mt.findR p X F p1 m1 r1 10000 = G1 at *
  generalize Mt.findR p X F p1 m1 (r1 + q1) 10000 = G2 at *
  have z0 := fpA_size G0.1 L0
  have z1 := fpA_size G1.1 L1
  have z2 := fpA_size G2.1 L2
  have a0 := fpA_all G0.1
  have a1 := fpA_all G1.1
  have a2 := fpA_all G2.1
  have HL : Hid (G0.1.at'.length = 20 ∧ G1.1.at'.length = 20 ∧ G2.1.at'.length = 20) := ⟨L0, L1, L2⟩
  clear L0 L1 L2
  generalize (Mt.checkR p).1 = E at *
  obtain ⟨z, hz⟩ : ∃ z, z = w.alloc (.cells #[.int .i64 P, .int .i64 M, .int .i64 R, .int .i64 B] 23) := ⟨_, rfl⟩
  have T1 : Hid (z.heap[w.heap.size]? = some (.cells #[.int .i64 P, .int .i64 M, .int .i64 R, .int .i64 B] 23 (0, 0))) := by rw [hz]; exact heap_b1 _ _
  have HB0 : Hid (Below w.heap.size w z) := by rw [hz]; exact (Below.refl _ _).alloc (Nat.le_refl _) _
  have x0 : (0 : Int) ≤ (X.size : Int) := by omega
  have x1 : (X.size : Int) + 1 ≤ 61 := by omega
  go_enter Try.func4, Try.ntmps4
  go_upto_region 1 with fail
  show Code.wp _ _ _ _ (w.alloc (.cells #[.int .i64 P, .int .i64 M, .int .i64 R, .int .i64 B] 23))
  rw [← hz]
  clear hz
  generalize hn : w.heap.size = n at *
  go_wp2_with fail
  refine (K0.out _).mono ?_
  rintro e w' ⟨rfl, rfl⟩
  go_wp2_with fail
  refine (K1.out _).mono ?_
  rintro e w' ⟨rfl, rfl⟩
  go_wp2_with fail
  refine (K3.out _).mono ?_
  rintro e w1 ⟨rfl, hb1⟩
  have T2 : Hid _ := blkKeep T1.out hb1
  have HB1 : Hid (Below n w w1) := HB0.out.trans (hb1.mono (Nat.le_of_lt (blkLt T1.out)))
  clear hb1 T1 HB0
  go_wp2_with fail
  refine (works_any _).mono ?_
  rintro e w2 ⟨rfl, hb2⟩
  have T3 : Hid _ := blkKeep T2.out hb2
  have c0 : w2.cell? ⟨n, 0, none⟩ = some (.int .i64 P) := (cell_block T3.out).1 0
  have c1 : w2.cell? ⟨n, 1, none⟩ = some (.int .i64 M) := (cell_block T3.out).1 1
  have c2 : w2.cell? ⟨n, 2, none⟩ = some (.int .i64 R) := (cell_block T3.out).1 2
  have hl2 : n < w2.heap.size := blkLt T3.out
  have HB2 : Hid (Below n w w2) := HB1.out.trans (hb2.mono (Nat.le_of_lt (blkLt T2.out)))
  clear hb2 T2 HB1
  go_wp2_with fail
  refine (K4.out _).mono ?_
  rintro e w3 ⟨rfl, hb3⟩
  have T4 : Hid _ := blkKeep T3.out hb3
  have HB3 : Hid (Below n w w3) := HB2.out.trans (hb3.mono (Nat.le_of_lt (blkLt T3.out)))
  clear hb3 T3 HB2 c0 c1 c2 hl2
  go_upto_region 8 with (refine store_blk 23 4 Try.sizeOp4 (by rfl) (.tmp 8) (.tmp 50) (by rfl) n SA (by rfl) (by rfl) T4.out (by rfl) hsa hsl ?_; intro w4 s1 s2 s3 s4)
  have T5 : Hid (w4.heap[n]? = some (.cells SA 23 (0, 0))) := s1
  have HB4 : Hid (Below n w w4) := HB3.out.trans (s4 n (Nat.le_refl _))
  clear s1 s2 s3 s4 T4 HB3
  go_wp2_with fail
  refine (K5.out _).mono ?_
  rintro e w5 ⟨rfl, hb5⟩
  have T6 : Hid _ := blkKeep T5.out hb5
  have HB5 : Hid (Below n w w5) := HB4.out.trans (hb5.mono (Nat.le_of_lt (blkLt T5.out)))
  clear hb5 T5 HB4
  go_wp2_with fail
  refine (K6.out _).mono ?_
  rintro e w6 ⟨rfl, hb6⟩
  have T7 : Hid _ := blkKeep T6.out hb6
  have HB6 : Hid (Below n w w6) := HB5.out.trans (hb6.mono (Nat.le_of_lt (blkLt T6.out)))
  clear hb6 T6 HB5
  go_upto_region 9 with (refine store_blk 31 22 Try.sizeFd (by rfl) (.tmp 14) (.tmp 57) (by rfl) w6.heap.size (fpA G0.1) (by rfl) (by rfl) (by exact heap_b1 _ _) (by rfl) z0 a0 ?_; intro w7 s1 s2 s3 s4)
  have B7 : Below w6.heap.size w6 w7 := ((Below.refl _ _).alloc (Nat.le_refl _) _).trans (s4 _ (Nat.le_refl _))
  have T8 : Hid _ := blkKeep T7.out B7
  have A8 : Hid (w7.heap[w6.heap.size]? = some (.cells (fpA G0.1) 31 (0, 0))) := s1
  have HB7 : Hid (Below n w w7) := HB6.out.trans (B7.mono (Nat.le_of_lt (blkLt T7.out)))
  have HK0 : Hid (n < w6.heap.size) := blkLt T7.out
  clear s1 s2 s3 s4 B7 T7 HB6
  generalize hm6 : w6.heap.size = k0 at *
  by_cases hE : E = 0
  · have m0 : (E != 0) = false := by simpa using hE
    obtain ⟨q0, q2, q3⟩ := HWH.out hE
    obtain ⟨u1, u2⟩ := HLE.out hE
    have KW0 : Hid (∀ z : World, Calls Try.prog 15 #[.agg (fpA G0.1), .int .i64 G0.2, .int .i64 (F : Int), .int .i64 (X.size : Int)] z fun r w' => r = .returned (.bool true) ∧ Below z.heap.size z w') := fun z => whole_true X.size F G0.1 G0.2 q0 hX60 hFX z
    have KW1 : Hid (∀ z : World, Calls Try.prog 15 #[.agg (fpA G1.1), .int .i64 G1.2, .int .i64 (F : Int), .int .i64 (X.size : Int)] z fun r w' => r = .returned (.bool true) ∧ Below z.heap.size z w') := fun z => whole_true X.size F G1.1 G1.2 q2 hX60 hFX z
    have KW2 : Hid (∀ z : World, Calls Try.prog 15 #[.agg (fpA G2.1), .int .i64 G2.2, .int .i64 (F : Int), .int .i64 (X.size : Int)] z fun r w' => r = .returned (.bool true) ∧ Below z.heap.size z w') := fun z => whole_true X.size F G2.1 G2.2 q3 hX60 hFX z
    have KN1 : Hid (∀ z : World, Calls Try.prog 17 #[.agg (fpA G0.1), .int .i64 G0.2, .agg (fpA G1.1), .int .i64 G1.2] z fun r w' => r = .returned (.bool true) ∧ Below z.heap.size z w') := fun z => noMore_true G0 G1 u1 HL.out.1 HL.out.2.1 z
    have KN2 : Hid (∀ z : World, Calls Try.prog 17 #[.agg (fpA G1.1), .int .i64 G1.2, .agg (fpA G2.1), .int .i64 G2.2] z fun r w' => r = .returned (.bool true) ∧ Below z.heap.size z w') := fun z => noMore_true G1 G2 u2 HL.out.2.1 HL.out.2.2 z
    clear hE HER HWH HLE q0 q2 q3 u1 u2
    go_wp2_with (refine load_blk 23 4 Try.underlying23 rfl Try.sizeOp4 (by rfl) (.tmp 8) (by rfl) n (by rfl) T8.out hsa ?_)
    refine (K7.out _).mono ?_
    rintro e w8 ⟨rfl, hb8⟩
    have T9 : Hid _ := blkKeep T8.out hb8
    have A9 : Hid _ := blkKeep A8.out hb8
    have HB8 : Hid (Below n w w8) := HB7.out.trans (hb8.mono (Nat.le_of_lt (blkLt T8.out)))
    clear hb8 T8 A8 HB7
    go_upto_region 12 with (refine store_blk 31 22 Try.sizeFd (by rfl) (.tmp 16) (.tmp 71) (by rfl) w8.heap.size (fpA G1.1) (by rfl) (by rfl) (by exact heap_b1 _ _) (by rfl) z1 a1 ?_; intro w9 s1 s2 s3 s4)
    have B9 : Below w8.heap.size w8 w9 := ((Below.refl _ _).alloc (Nat.le_refl _) _).trans (s4 _ (Nat.le_refl _))
    have T10 := blkKeep T9.out B9
    have A10 : Hid _ := blkKeep A9.out B9
    have C10 : Hid (w9.heap[w8.heap.size]? = some (.cells (fpA G1.1) 31 (0, 0))) := s1
    have HB9 : Hid (Below n w w9) := HB8.out.trans (B9.mono (Nat.le_of_lt (blkLt T9.out)))
    have c2 : w9.cell? ⟨n, 2, none⟩ = some (.int .i64 r1) := ((cell_block T10).1 2).trans HS2.out
    have f2 : w9.frozen? ⟨n, 2, none⟩ = false := (cell_block T10).2 2
    have hl9 : n < w9.heap.size := blkLt T10
    have HT10 : Hid (w9.heap[n]? = some (.cells SA 23 (0, 0))) := T10
    have HK1 : Hid (n < w8.heap.size) := blkLt T9.out
    clear s1 s2 s3 s4 B9 T9 A9 HB8 T10
    generalize hm8 : w8.heap.size = k1 at *
    obtain ⟨y0, y1, y2, y3⟩ := HRQ.out
    go_cut [] (fun wx => wx = w9.drew.setCell ⟨n, 2, none⟩ (.int .i64 (r1 + q1)))
    case first =>
      refine wp_region_held_drew (S := fun _ : World => True) (by kernel_rfl) trivial (fun hH => ?_)
      refine takeAt 0 73 (.pointer (some ⟨n, 2, none⟩)) rfl rfl (by kernel_rfl) (by kernel_rfl) (by kernel_rfl) (fun _ _ _ h => h) (Or.inl ⟨by rfl, fun z hz => by clear hz; go_simp⟩) trivial ?_
      simp only [Act.put, List.setIfInBounds_toArray, List.set_cons_zero, List.set_cons_succ]
      refine takeAt 2 75 (.int .i64 Q) rfl rfl (by kernel_rfl) (by kernel_rfl) (by kernel_rfl) (fun _ _ _ h => h) (Or.inl ⟨by rfl, fun z hz => by clear hz; go_simp⟩) trivial ?_
      simp only [Act.put, List.setIfInBounds_toArray, List.set_cons_zero, List.set_cons_succ]
      refine takeAt 3 76 (.pointer (some ⟨n, 2, none⟩)) rfl rfl (by kernel_rfl) (by kernel_rfl) (by kernel_rfl) (fun _ _ _ h => h) (Or.inl ⟨by rfl, fun z hz => by clear hz; go_simp⟩) trivial ?_
      simp only [Act.put, List.setIfInBounds_toArray, List.set_cons_zero, List.set_cons_succ]
      refine wpAnyH_ready (rs := [1, 4]) (by kernel_rfl) (by simp) ?_
      refine AllReadyH.cons rfl (fun K hK => ?_) (AllReadyH.cons rfl (fun K hK => ?_) AllReadyH.nil)
      · go_simp
        refine hK.out _ _ trivial (fun hH2 => ?_)
        clear hK K
        refine wpAnyH_ready (rs := [4]) (by kernel_rfl) (by simp) ?_
        refine AllReadyH.cons rfl (fun K hK => ?_) AllReadyH.nil
        go_simp
        refine hK.out _ _ trivial (fun hH2 => ?_)
        clear hK K
        refine takeAt 5 78 (.int .i64 (5001 - r1)) rfl rfl (by kernel_rfl) (by kernel_rfl) (by kernel_rfl) (fun _ _ _ h => h) (Or.inl ⟨by rfl, fun z hz => by clear hz; go_simp; rw [IntKind.wrap_i64]; omega⟩) trivial ?_
        simp only [Act.put, List.setIfInBounds_toArray, List.set_cons_zero, List.set_cons_succ]
        refine wpAnyH_ready (rs := [6]) (by kernel_rfl) (by simp) ?_
        refine AllReadyH.cons rfl (fun K hK => ?_) AllReadyH.nil
        go_simp
        refine (K2.out _).mono ?_
        rintro e w' ⟨rfl, rfl⟩
        go_simp
        refine hK.out _ _ trivial (fun hH3 => ?_)
        clear hK K
        refine takeAt 7 80 (.int .i64 (r1 + q1)) rfl rfl (by kernel_rfl) (by kernel_rfl) (by kernel_rfl) (fun _ _ _ h => h) (Or.inl ⟨by rfl, fun z hz => by clear hz; go_simp; rw [IntKind.wrap_i64]; omega⟩) trivial ?_
        simp only [Act.put, List.setIfInBounds_toArray, List.set_cons_zero, List.set_cons_succ]
        refine takeAt 8 81 (.pointer (some ⟨n, 2, none⟩)) rfl rfl (by kernel_rfl) (by kernel_rfl) (by kernel_rfl) (fun _ _ _ h => h) (Or.inl ⟨by rfl, fun z hz => by clear hz; go_simp⟩) trivial ?_
        simp only [Act.put, List.setIfInBounds_toArray, List.set_cons_zero, List.set_cons_succ]
        refine wpAnyH_ready (rs := [9]) (by kernel_rfl) (by simp) ?_
        refine AllReadyH.cons rfl (fun K hK => ?_) AllReadyH.nil
        go_simp
        refine hK.out _ _ trivial (fun hH4 => ?_)
        clear hK K
        refine wpAnyH_done (by kernel_rfl) ?_ _
        go_wp2_with fail
        go_meet
        case rel => rfl
      · go_simp
        refine hK.out _ _ trivial (fun hH2 => ?_)
        clear hK K
        refine takeAt 5 78 (.int .i64 (5001 - r1)) rfl rfl (by kernel_rfl) (by kernel_rfl) (by kernel_rfl) (fun _ _ _ h => h) (Or.inl ⟨by rfl, fun z hz => by clear hz; go_simp; rw [IntKind.wrap_i64]; omega⟩) trivial ?_
        simp only [Act.put, List.setIfInBounds_toArray, List.set_cons_zero, List.set_cons_succ]
        refine wpAnyH_ready (rs := [1, 6]) (by kernel_rfl) (by simp) ?_
        refine AllReadyH.cons rfl (fun K hK => ?_) (AllReadyH.cons rfl (fun K hK => ?_) AllReadyH.nil)
        · go_simp
          refine hK.out _ _ trivial (fun hH2 => ?_)
          clear hK K
          refine wpAnyH_ready (rs := [6]) (by kernel_rfl) (by simp) ?_
          refine AllReadyH.cons rfl (fun K hK => ?_) AllReadyH.nil
          go_simp
          refine (K2.out _).mono ?_
          rintro e w' ⟨rfl, rfl⟩
          go_simp
          refine hK.out _ _ trivial (fun hH3 => ?_)
          clear hK K
          refine takeAt 7 80 (.int .i64 (r1 + q1)) rfl rfl (by kernel_rfl) (by kernel_rfl) (by kernel_rfl) (fun _ _ _ h => h) (Or.inl ⟨by rfl, fun z hz => by clear hz; go_simp; rw [IntKind.wrap_i64]; omega⟩) trivial ?_
          simp only [Act.put, List.setIfInBounds_toArray, List.set_cons_zero, List.set_cons_succ]
          refine takeAt 8 81 (.pointer (some ⟨n, 2, none⟩)) rfl rfl (by kernel_rfl) (by kernel_rfl) (by kernel_rfl) (fun _ _ _ h => h) (Or.inl ⟨by rfl, fun z hz => by clear hz; go_simp⟩) trivial ?_
          simp only [Act.put, List.setIfInBounds_toArray, List.set_cons_zero, List.set_cons_succ]
          refine wpAnyH_ready (rs := [9]) (by kernel_rfl) (by simp) ?_
          refine AllReadyH.cons rfl (fun K hK => ?_) AllReadyH.nil
          go_simp
          refine hK.out _ _ trivial (fun hH4 => ?_)
          clear hK K
          refine wpAnyH_done (by kernel_rfl) ?_ _
          go_wp2_with fail
          go_meet
          case rel => rfl
        · go_simp
          refine (K2.out _).mono ?_
          rintro e w' ⟨rfl, rfl⟩
          go_simp
          refine hK.out _ _ trivial (fun hH3 => ?_)
          clear hK K
          refine wpAnyH_ready (rs := [1]) (by kernel_rfl) (by simp) ?_
          refine AllReadyH.cons rfl (fun K hK => ?_) AllReadyH.nil
          go_simp
          refine hK.out _ _ trivial (fun hH2 => ?_)
          clear hK K
          refine takeAt 7 80 (.int .i64 (r1 + q1)) rfl rfl (by kernel_rfl) (by kernel_rfl) (by kernel_rfl) (fun _ _ _ h => h) (Or.inl ⟨by rfl, fun z hz => by clear hz; go_simp; rw [IntKind.wrap_i64]; omega⟩) trivial ?_
          simp only [Act.put, List.setIfInBounds_toArray, List.set_cons_zero, List.set_cons_succ]
          refine takeAt 8 81 (.pointer (some ⟨n, 2, none⟩)) rfl rfl (by kernel_rfl) (by kernel_rfl) (by kernel_rfl) (fun _ _ _ h => h) (Or.inl ⟨by rfl, fun z hz => by clear hz; go_simp⟩) trivial ?_
          simp only [Act.put, List.setIfInBounds_toArray, List.set_cons_zero, List.set_cons_succ]
          refine wpAnyH_ready (rs := [9]) (by kernel_rfl) (by simp) ?_
          refine AllReadyH.cons rfl (fun K hK => ?_) AllReadyH.nil
          go_simp
          refine hK.out _ _ trivial (fun hH4 => ?_)
          clear hK K
          refine wpAnyH_done (by kernel_rfl) ?_ _
          go_wp2_with fail
          go_meet
          case rel => rfl
    case rest =>
      have T11 : Hid (wc.heap[n]? = some (.cells #[.int .i64 p1, .int .i64 m1, .int .i64 (r1 + q1), .int .i64 10000] 23 (0, 0))) := by show _ = _; rw [hcut, ← HSB.out]; exact Go.heap_setCell_same w9.drew n 2 _ _ _ HT10.out
      have A11 : Hid (wc.heap[k0]? = some (.cells (fpA G0.1) 31 (0, 0))) := by show _ = _; rw [hcut, Below.heap_setCell _ _ _ _ (by have := HK0.out; show k0 ≠ n; omega)]; exact A10.out
      have C11 : Hid (wc.heap[k1]? = some (.cells (fpA G1.1) 31 (0, 0))) := by show _ = _; rw [hcut, Below.heap_setCell _ _ _ _ (by have := HK1.out; show k1 ≠ n; omega)]; exact C10.out
      have HB10 : Hid (Below n w wc) := by show Below _ _ _; rw [hcut]; exact (HB9.out.trans (Below.refl _ _).drew).trans ((below_setCells n [.int .i64 (r1 + q1)] 2 w9.drew n (Nat.le_refl _)).1)
      clear hcut HT10 A10 C10 HB9 c2 f2 hl9 HSB HS2 y0 y1 y2 y3
      go_wp2_with (refine load_blk 23 4 Try.underlying23 rfl Try.sizeOp4 (by rfl) (.tmp 8) (by rfl) n (by rfl) T11.out (by rfl) ?_)
      refine (K8.out _).mono ?_
      rintro e w10 ⟨rfl, hb10⟩
      have A12 : Hid _ := blkKeep A11.out hb10
      have C12 : Hid _ := blkKeep C11.out hb10
      have HB11 : Hid (Below n w w10) := HB10.out.trans (hb10.mono (Nat.le_of_lt (blkLt T11.out)))
      have HN10 : Hid (n < w10.heap.size) := Nat.lt_of_lt_of_le (blkLt T11.out) hb10.size
      clear hb10 A11 C11 T11 HB10
      go_upto_region 14 with (refine store_blk 31 22 Try.sizeFd (by rfl) (.tmp 18) (.tmp 88) (by rfl) w10.heap.size (fpA G2.1) (by rfl) (by rfl) (by exact heap_b1 _ _) (by rfl) z2 a2 ?_; intro w11 s1 s2 s3 s4)
      have B11 : Below w10.heap.size w10 w11 := ((Below.refl _ _).alloc (Nat.le_refl _) _).trans (s4 _ (Nat.le_refl _))
      have A13 : Hid _ := blkKeep A12.out B11
      have C13 : Hid _ := blkKeep C12.out B11
      have D13 : Hid (w11.heap[w10.heap.size]? = some (.cells (fpA G2.1) 31 (0, 0))) := s1
      have HB12 : Hid (Below n w w11) := HB11.out.trans (B11.mono (Nat.le_of_lt HN10.out))
      have HN11 : Hid (n < w11.heap.size) := Nat.lt_of_lt_of_le HN10.out B11.size
      clear s1 s2 s3 s4 B11 A12 C12 HB11 HN10
      generalize hm10 : w10.heap.size = k2 at *
      go_wp2_with (refine load_blk 31 22 Try.underlying31 rfl Try.sizeFd (by rfl) (.tmp 14) (by rfl) k0 (by rfl) A13.out z0 ?_)
      refine (KW0.out _).mono ?_
      rintro e w12 ⟨rfl, hb⟩
      have A14 : Hid _ := blkKeep A13.out hb
      have C14 : Hid _ := blkKeep C13.out hb
      have D14 : Hid _ := blkKeep D13.out hb
      have HB13 : Hid (Below n w w12) := HB12.out.trans (hb.mono (Nat.le_of_lt HN11.out))
      have HN12 : Hid (n < w12.heap.size) := Nat.lt_of_lt_of_le HN11.out hb.size
      clear hb A13 C13 D13 HB12 HN11
      go_wp2_with (refine load_blk 31 22 Try.underlying31 rfl Try.sizeFd (by rfl) (.tmp 16) (by rfl) k1 (by rfl) C14.out z1 ?_)
      refine (KW1.out _).mono ?_
      rintro e w13 ⟨rfl, hb⟩
      have A15 : Hid _ := blkKeep A14.out hb
      have C15 : Hid _ := blkKeep C14.out hb
      have D15 : Hid _ := blkKeep D14.out hb
      have HB14 : Hid (Below n w w13) := HB13.out.trans (hb.mono (Nat.le_of_lt HN12.out))
      have HN13 : Hid (n < w13.heap.size) := Nat.lt_of_lt_of_le HN12.out hb.size
      clear hb A14 C14 D14 HB13 HN12
      go_wp2_with (refine load_blk 31 22 Try.underlying31 rfl Try.sizeFd (by rfl) (.tmp 18) (by rfl) k2 (by rfl) D15.out z2 ?_)
      refine (KW2.out _).mono ?_
      rintro e w14 ⟨rfl, hb⟩
      have A16 : Hid _ := blkKeep A15.out hb
      have C16 : Hid _ := blkKeep C15.out hb
      have D16 : Hid _ := blkKeep D15.out hb
      have HB15 : Hid (Below n w w14) := HB14.out.trans (hb.mono (Nat.le_of_lt HN13.out))
      have HN14 : Hid (n < w14.heap.size) := Nat.lt_of_lt_of_le HN13.out hb.size
      clear hb A15 C15 D15 HB14 HN13
      go_wp2_with (first | (refine load_blk 31 22 Try.underlying31 rfl Try.sizeFd (by rfl) (.tmp 14) (by rfl) k0 (by rfl) A16.out z0 ?_) | (refine load_blk 31 22 Try.underlying31 rfl Try.sizeFd (by rfl) (.tmp 16) (by rfl) k1 (by rfl) C16.out z1 ?_))
      refine (KN1.out _).mono ?_
      rintro e w15 ⟨rfl, hb⟩
      have A17 : Hid _ := blkKeep A16.out hb
      have C17 : Hid _ := blkKeep C16.out hb
      have D17 : Hid _ := blkKeep D16.out hb
      have HB16 : Hid (Below n w w15) := HB15.out.trans (hb.mono (Nat.le_of_lt HN14.out))
      have HN15 : Hid (n < w15.heap.size) := Nat.lt_of_lt_of_le HN14.out hb.size
      clear hb A16 C16 D16 HB15 HN14
      go_wp2_with (first | (refine load_blk 31 22 Try.underlying31 rfl Try.sizeFd (by rfl) (.tmp 16) (by rfl) k1 (by rfl) C17.out z1 ?_) | (refine load_blk 31 22 Try.underlying31 rfl Try.sizeFd (by rfl) (.tmp 18) (by rfl) k2 (by rfl) D17.out z2 ?_))
      refine (KN2.out _).mono ?_
      rintro e w16 ⟨rfl, hb⟩
      have A18 : Hid _ := blkKeep A17.out hb
      have HB17 : Hid (Below n w w16) := HB16.out.trans (hb.mono (Nat.le_of_lt HN15.out))
      have HN16 : Hid (n < w16.heap.size) := Nat.lt_of_lt_of_le HN15.out hb.size
      clear hb A17 HB16 HN15
      go_wp2_with fail
      go_ret
      exact ⟨rfl, by rw [hn]; exact HB17.out⟩
  · have m0 : (E != 0) = true := by simpa using hE
    have q0 := HER.out hE
    have KR : Hid (∀ z : World, Calls Try.prog 14 #[.agg (fpA G0.1), .int .i64 G0.2, .int .i64 E] z fun r w' => r = .returned (.bool true) ∧ Below z.heap.size z w') := by rw [q0]; exact fun z => refused_true E z
    clear hE HER HWH HLE q0
    go_wp2_with (refine load_blk 31 22 Try.underlying31 rfl Try.sizeFd (by rfl) (.tmp 14) (by rfl) k0 (by rfl) A8.out z0 ?_)
    refine (KR.out _).mono ?_
    rintro e w8 ⟨rfl, hb8⟩
    have HB8 : Hid (Below n w w8) := HB7.out.trans (hb8.mono (Nat.le_of_lt (blkLt T8.out)))
    clear hb8
    go_wp2_with fail
    go_ret
    exact ⟨rfl, by rw [hn]; exact HB8.out⟩
end Go.Proofs.Ytebpgfodelggoab
