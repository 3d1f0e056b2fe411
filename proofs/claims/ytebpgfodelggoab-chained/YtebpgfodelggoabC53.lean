import Derived.Test.YtebpgfodelggoabC49
import Derived.Test.YtebpgfodelggoabC52
import Derived.Test.YtebpgfodelggoabC09
/- matcherkeep: Alike. (Plain seats alone.) -/
set_option linter.unusedVariables false
set_option linter.unusedSimpArgs false
namespace Go.Proofs.Ytebpgfodelggoab
open Go.RowKit

theorem blkKeep {z z' : World} {b : Nat} {A : Array Value} {t : TypeId} (h : z.heap[b]? = some (.cells A t (0, 0))) (hb : Below z.heap.size z z') : z'.heap[b]? = some (.cells A t (0, 0)) := (hb.block b (Array.getElem?_eq_some_iff.1 h).1).trans h
theorem blkLt {z : World} {b : Nat} {A : Array Value} {t : TypeId} (h : z.heap[b]? = some (.cells A t (0, 0))) : b < z.heap.size := (Array.getElem?_eq_some_iff.1 h).1
/-- The length of what Find answers. -/
theorem find_len (p t : ByteArray) (frm : Nat) (P M R : Int) (hT : t.size ≤ 60) (hf : frm ≤ t.size) (ho : Mt.Opt P M R 10000) : (Mt.findR p t frm P M R 10000).1.at'.length = 20 := by
  by_cases h : (Mt.checkR p).1 = 0
  · exact (find_whole p t frm P M R 10000 h hT hf ho).len
  · rw [Mt.findR_err p t frm P M R 10000 h]; rfl
set_option maxRecDepth 100000 in
set_option maxHeartbeats 16000000 in
theorem Alike_any (p t : ByteArray) (fr P M R B P2 M2 R2 B2 : Int) (w : World) (hm : p.size ≤ maxLen) (hmt : t.size ≤ maxLen) (hfr : I64 fr) (hP : I64 P) (hM : I64 M) (hR : I64 R) (hP2 : I64 P2) (hM2 : I64 M2) (hR2 : I64 R2) :
    Calls Try.prog 3 #[.string p, .string t, .int .i64 fr, .agg #[.int .i64 P, .int .i64 M, .int .i64 R, .int .i64 B], .agg #[.int .i64 P2, .int .i64 M2, .int .i64 R2, .int .i64 B2]] w fun e w' => e = .returned (.bool true) ∧ Below w.heap.size w w' := by
  have hs := someB_size t 60
  have K0 : Hid (∀ z : World, Calls Try.prog 8 #[.string t, .int .i64 60] z fun e w' => e = .returned (.string (someB t 60)) ∧ z = w') := fun z => some_any t 60 z hmt (by omega)
  generalize hX : someB t 60 = X at *
  have hXm : X.size ≤ maxLen := by unfold maxLen; omega
  have K1 : Hid (∀ z : World, Calls Try.prog 9 #[.int .i64 fr, .int .i64 ((X.size : Int) + 1)] z fun e w' => e = .returned (.int .i64 (pickI fr (X.size + 1))) ∧ z = w') := fun z => kpick_any fr (X.size + 1) z hfr (by omega) (by omega)
  have K3 : Hid (∀ z : World, Calls Try.prog 10 #[.string p] z fun e w' => e = .returned (.tuple #[.int .i64 (Mt.checkR p).1, .bool true]) ∧ Below z.heap.size z w') := fun z => checked_any p z hm
  have K4 : Hid (∀ z : World, Calls Try.prog 12 #[.int .i64 P, .int .i64 M, .int .i64 R] z fun e w' => e = .returned (.agg #[.int .i64 (pickI P 5), .int .i64 (pickI M 4294967296), .int .i64 (pickI R 5001), .int .i64 10000]) ∧ Below z.heap.size z w') := fun z => kset_any P M R z hP hM hR
  have K5 : Hid (∀ z : World, Calls Try.prog 12 #[.int .i64 P2, .int .i64 M2, .int .i64 R2] z fun e w' => e = .returned (.agg #[.int .i64 (pickI P2 5), .int .i64 (pickI M2 4294967296), .int .i64 (pickI R2 5001), .int .i64 10000]) ∧ Below z.heap.size z w') := fun z => kset_any P2 M2 R2 z hP2 hM2 hR2
  have o1 := pick_opt P M R
  have o2 := pick_opt P2 M2 R2
  have hfi := pickI_in fr (X.size + 1) (by omega)
  obtain ⟨F, hF⟩ : ∃ F : Nat, pickI fr (X.size + 1) = (F : Int) := ⟨(pickI fr (X.size + 1)).toNat, by omega⟩
  rw [hF] at hfi K1
  clear hF
  generalize pickI P 5 = p1 at *
  generalize pickI M 4294967296 = m1 at *
  generalize pickI R 5001 = r1 at *
  generalize pickI P2 5 = p2 at *
  generalize pickI M2 4294967296 = m2 at *
  generalize pickI R2 5001 = r2 at *
  have hFX : F ≤ X.size := by omega
  have K6 : Hid (∀ z : World, Calls Try.prog 11 #[.string p, .string X, .int .i64 (F : Int), .agg #[.int .i64 p1, .int .i64 m1, .int .i64 r1, .int .i64 10000]] z fun e w' => e = .returned (.tuple #[.agg (fpA (Mt.findR p X F p1 m1 r1 10000).1), .int .i64 (Mt.findR p X F p1 m1 r1 10000).2]) ∧ Below z.heap.size z w') := fun z => Find_any p X F p1 m1 r1 10000 z hm hXm
  have K7 : Hid (∀ z : World, Calls Try.prog 11 #[.string p, .string X, .int .i64 (F : Int), .agg #[.int .i64 p2, .int .i64 m2, .int .i64 r2, .int .i64 10000]] z fun e w' => e = .returned (.tuple #[.agg (fpA (Mt.findR p X F p2 m2 r2 10000).1), .int .i64 (Mt.findR p X F p2 m2 r2 10000).2]) ∧ Below z.heap.size z w') := fun z => Find_any p X F p2 m2 r2 10000 z hm hXm
  have HER : Hid ((Mt.checkR p).1 ≠ 0 → Mt.findR p X F p1 m1 r1 10000 = (Mt.fnd0, (Mt.checkR p).1) ∧ Mt.findR p X F p2 m2 r2 10000 = (Mt.fnd0, (Mt.checkR p).1)) := fun h => ⟨Mt.findR_err p X F p1 m1 r1 10000 h, Mt.findR_err p X F p2 m2 r2 10000 h⟩
  have HWH : Hid ((Mt.checkR p).1 = 0 → WholeOk X.size F (Mt.findR p X F p1 m1 r1 10000).1 (Mt.findR p X F p1 m1 r1 10000).2 ∧ WholeOk X.size F (Mt.findR p X F p2 m2 r2 10000).1 (Mt.findR p X F p2 m2 r2 10000).2) := fun h => ⟨find_whole p X F p1 m1 r1 10000 h hs.1 hFX o1, find_whole p X F p2 m2 r2 10000 h hs.1 hFX o2⟩
  have HAL : Hid ((Mt.checkR p).1 = 0 → (Mt.findR p X F p1 m1 r1 10000).2 = 0 → (Mt.findR p X F p2 m2 r2 10000).2 = 0 → (Mt.findR p X F p2 m2 r2 10000).1.at' = (Mt.findR p X F p1 m1 r1 10000).1.at' ∧ (Mt.findR p X F p2 m2 r2 10000).1.ok = (Mt.findR p X F p1 m1 r1 10000).1.ok) := fun h e1 e2 => find_alike p X F p1 m1 r1 p2 m2 r2 h hs.1 hFX o1 o2 e1 e2
  have L1 := find_len p X F p1 m1 r1 hs.1 hFX o1
  have L2 := find_len p X F p2 m2 r2 hs.1 hFX o2
  have hX60 := hs.1
  clear hm hmt hfr hP hM hR hP2 hM2 hR2 hs hXm o1 o2 hfi
  generalize Mt.findR p X F p1 m1 r1 10000 = G1 at *
  generalize Mt.findR p X F p2 m2 r2 10000 = G2 at *
  have z1 := fpA_size G1.1 L1
  have z2 := fpA_size G2.1 L2
  have a1 := fpA_all G1.1
  have a2 := fpA_all G2.1
  have HL1 : Hid (G1.1.at'.length = 20) := L1
  clear L1 L2
  generalize (Mt.checkR p).1 = E at *
  obtain ⟨z, hz⟩ : ∃ z, z = (w.alloc (.cells #[.int .i64 P, .int .i64 M, .int .i64 R, .int .i64 B] 23)).alloc (.cells #[.int .i64 P2, .int .i64 M2, .int .i64 R2, .int .i64 B2] 23) := ⟨_, rfl⟩
  have T1 : Hid (z.heap[w.heap.size]? = some (.cells #[.int .i64 P, .int .i64 M, .int .i64 R, .int .i64 B] 23 (0, 0))) := by rw [hz]; exact heap_b2 _ _ _
  have T2 : Hid (z.heap[w.heap.size + 1]? = some (.cells #[.int .i64 P2, .int .i64 M2, .int .i64 R2, .int .i64 B2] 23 (0, 0))) := by rw [hz]; exact heap_b3 _ _ _
  have HB0 : Hid (Below w.heap.size w z) := by rw [hz]; exact ((Below.refl _ _).alloc (Nat.le_refl _) _).alloc (by simp) _
  have x0 : (0 : Int) ≤ (X.size : Int) := by omega
  have x1 : (X.size : Int) + 1 ≤ 61 := by omega
  go_enter Try.func3, Try.ntmps3
  go_upto_region 1 with fail
  show Code.wp _ _ _ _ ((w.alloc (.cells #[.int .i64 P, .int .i64 M, .int .i64 R, .int .i64 B] 23)).alloc (.cells #[.int .i64 P2, .int .i64 M2, .int .i64 R2, .int .i64 B2] 23))
  rw [← hz]
  clear hz
  generalize hn : w.heap.size = n at *
  go_wp2_with fail
  refine (K0.out _).mono ?_
  rintro e w' ⟨rfl, rfl⟩
  go_wp2_with fail
  refine (K1.out _).mono ?_
  rintro e w' ⟨rfl, rfl⟩
  go_wp2_with fail
  refine (K3.out _).mono ?_
  rintro e w1 ⟨rfl, hb1⟩
  have U1 := blkKeep T1.out hb1
  have U2 : Hid _ := blkKeep T2.out hb1
  have c0 : w1.cell? ⟨n, 0, none⟩ = some (.int .i64 P) := (cell_block U1).1 0
  have c1 : w1.cell? ⟨n, 1, none⟩ = some (.int .i64 M) := (cell_block U1).1 1
  have c2 : w1.cell? ⟨n, 2, none⟩ = some (.int .i64 R) := (cell_block U1).1 2
  have hl1 : n < w1.heap.size := blkLt U1
  have HN1 : Hid (n < w1.heap.size) := hl1
  have HB1 : Hid (Below n w w1) := HB0.out.trans (hb1.mono (Nat.le_of_lt (blkLt T1.out)))
  clear hb1 U1 T1 T2 HB0
  go_wp2_with fail
  refine (K4.out _).mono ?_
  rintro e w2 ⟨rfl, hb2⟩
  have V2 : Hid _ := blkKeep U2.out hb2
  have HB2 : Hid (Below n w w2) := HB1.out.trans (hb2.mono (Nat.le_of_lt HN1.out))
  have HN2 : Hid (n < w2.heap.size) := Nat.lt_of_lt_of_le HN1.out hb2.size
  clear hb2 U2 c0 c1 c2 hl1 HB1 HN1
  go_wp2_with fail
  refine (K6.out _).mono ?_
  rintro e w3 ⟨rfl, hb3⟩
  have X2 : Hid _ := blkKeep V2.out hb3
  have HB3 : Hid (Below n w w3) := HB2.out.trans (hb3.mono (Nat.le_of_lt HN2.out))
  have HN3 : Hid (n < w3.heap.size) := Nat.lt_of_lt_of_le HN2.out hb3.size
  clear hb3 V2 HB2 HN2
  go_upto_region 5 with (refine store_blk 31 22 Try.sizeFd (by rfl) (.tmp 13) (.tmp 46) (by rfl) w3.heap.size (fpA G1.1) (by rfl) (by rfl) (by exact heap_b1 _ _) (by rfl) z1 a1 ?_; intro w4 s1 s2 s3 s4)
  have B4 : Below w3.heap.size w3 w4 := ((Below.refl _ _).alloc (Nat.le_refl _) _).trans (s4 _ (Nat.le_refl _))
  have Y2 := blkKeep X2.out B4
  have F1 : Hid (w4.heap[w3.heap.size]? = some (.cells (fpA G1.1) 31 (0, 0))) := s1
  have HB4 : Hid (Below n w w4) := HB3.out.trans (B4.mono (Nat.le_of_lt HN3.out))
  have HN4 : Hid (n < w4.heap.size) := Nat.lt_of_lt_of_le HN3.out B4.size
  have c0 : w4.cell? ⟨n + 1, 0, none⟩ = some (.int .i64 P2) := (cell_block Y2).1 0
  have c1 : w4.cell? ⟨n + 1, 1, none⟩ = some (.int .i64 M2) := (cell_block Y2).1 1
  have c2 : w4.cell? ⟨n + 1, 2, none⟩ = some (.int .i64 R2) := (cell_block Y2).1 2
  have hl4 : n + 1 < w4.heap.size := blkLt Y2
  clear s1 s2 s3 s4 B4 X2 HB3 HN3 Y2
  generalize hm3 : w3.heap.size = m at *
  go_wp2_with fail
  refine (K5.out _).mono ?_
  rintro e w5 ⟨rfl, hb5⟩
  have F2 : Hid _ := blkKeep F1.out hb5
  have HB5 : Hid (Below n w w5) := HB4.out.trans (hb5.mono (Nat.le_of_lt HN4.out))
  have HN5 : Hid (n < w5.heap.size) := Nat.lt_of_lt_of_le HN4.out hb5.size
  clear hb5 F1 HB4 HN4 c0 c1 c2 hl4
  go_wp2_with fail
  refine (K7.out _).mono ?_
  rintro e w6 ⟨rfl, hb6⟩
  have F3 : Hid _ := blkKeep F2.out hb6
  have HB6 : Hid (Below n w w6) := HB5.out.trans (hb6.mono (Nat.le_of_lt HN5.out))
  have HN6 : Hid (n < w6.heap.size) := Nat.lt_of_lt_of_le HN5.out hb6.size
  clear hb6 F2 HB5 HN5
  go_upto_region 6 with (refine store_blk 31 22 Try.sizeFd (by rfl) (.tmp 15) (.tmp 60) (by rfl) w6.heap.size (fpA G2.1) (by rfl) (by rfl) (by exact heap_b1 _ _) (by rfl) z2 a2 ?_; intro w7 s1 s2 s3 s4)
  have B7 : Below w6.heap.size w6 w7 := ((Below.refl _ _).alloc (Nat.le_refl _) _).trans (s4 _ (Nat.le_refl _))
  have F4 : Hid _ := blkKeep F3.out B7
  have E4 : Hid (w7.heap[w6.heap.size]? = some (.cells (fpA G2.1) 31 (0, 0))) := s1
  have HB7 : Hid (Below n w w7) := HB6.out.trans (B7.mono (Nat.le_of_lt HN6.out))
  have HN7 : Hid (n < w7.heap.size) := Nat.lt_of_lt_of_le HN6.out B7.size
  clear s1 s2 s3 s4 B7 F3 HB6 HN6
  generalize hm6 : w6.heap.size = k at *
  go_wp2_with fail
  refine (works_any _).mono ?_
  rintro e w8 ⟨rfl, hb8⟩
  have F5 : Hid _ := blkKeep F4.out hb8
  have E5 : Hid _ := blkKeep E4.out hb8
  have HB8 : Hid (Below n w w8) := HB7.out.trans (hb8.mono (Nat.le_of_lt HN7.out))
  have HN8 : Hid (n < w8.heap.size) := Nat.lt_of_lt_of_le HN7.out hb8.size
  clear hb8 F4 E4 HB7 HN7
  by_cases hE : E = 0
  · have m0 : (E != 0) = false := by simpa using hE
    obtain ⟨q1, q2⟩ := HWH.out hE
    have HAL2 : Hid (G1.2 = 0 → G2.2 = 0 → G2.1.at' = G1.1.at' ∧ G2.1.ok = G1.1.ok) := HAL.out hE
    have KW1 : Hid (∀ z : World, Calls Try.prog 15 #[.agg (fpA G1.1), .int .i64 G1.2, .int .i64 (F : Int), .int .i64 (X.size : Int)] z fun r w' => r = .returned (.bool true) ∧ Below z.heap.size z w') := fun z => whole_true X.size F G1.1 G1.2 q1 hX60 hFX z
    have KW2 : Hid (∀ z : World, Calls Try.prog 15 #[.agg (fpA G2.1), .int .i64 G2.2, .int .i64 (F : Int), .int .i64 (X.size : Int)] z fun r w' => r = .returned (.bool true) ∧ Below z.heap.size z w') := fun z => whole_true X.size F G2.1 G2.2 q2 hX60 hFX z
    clear hE HER HWH HAL q1 q2
    go_wp2_with (refine load_blk 31 22 Try.underlying31 rfl Try.sizeFd (by rfl) (.tmp 13) (by rfl) m (by rfl) F5.out z1 ?_)
    refine (KW1.out _).mono ?_
    rintro e w9 ⟨rfl, hb9⟩
    have F6 : Hid _ := blkKeep F5.out hb9
    have E6 : Hid _ := blkKeep E5.out hb9
    have HB9 : Hid (Below n w w9) := HB8.out.trans (hb9.mono (Nat.le_of_lt HN8.out))
    have HN9 : Hid (n < w9.heap.size) := Nat.lt_of_lt_of_le HN8.out hb9.size
    clear hb9 F5 E5 HB8 HN8
    go_wp2_with (refine load_blk 31 22 Try.underlying31 rfl Try.sizeFd (by rfl) (.tmp 15) (by rfl) k (by rfl) E6.out z2 ?_)
    refine (KW2.out _).mono ?_
    rintro e w10 ⟨rfl, hb10⟩
    have F7 : Hid _ := blkKeep F6.out hb10
    have E7 : Hid _ := blkKeep E6.out hb10
    have HB10 : Hid (Below n w w10) := HB9.out.trans (hb10.mono (Nat.le_of_lt HN9.out))
    have HN10 : Hid (n < w10.heap.size) := Nat.lt_of_lt_of_le HN9.out hb10.size
    clear hb10 F6 E6 HB9 HN9
    by_cases e1 : G1.2 = 0
    · by_cases e2 : G2.2 = 0
      · obtain ⟨q1, q2⟩ := HAL2.out e1 e2
        have KA : Hid (∀ z : World, Calls Try.prog 16 #[.agg (fpA G1.1), .agg (fpA G2.1)] z fun e w' => e = .returned (.bool true) ∧ Below z.heap.size z w') := fun z => alike_true G1.1 G2.1 HL1.out q1 q2 z
        have g1 : (G1.2 == 0) = true := by simpa using e1
        have g2 : (G2.2 == 0) = true := by simpa using e2
        clear q1 q2 e1 e2 HAL2
        go_wp2_with (first | (refine load_blk 31 22 Try.underlying31 rfl Try.sizeFd (by rfl) (.tmp 13) (by rfl) m (by rfl) F7.out z1 ?_) | (refine load_blk 31 22 Try.underlying31 rfl Try.sizeFd (by rfl) (.tmp 15) (by rfl) k (by rfl) E7.out z2 ?_))
        refine (KA.out _).mono ?_
        rintro e w11 ⟨rfl, hb11⟩
        have HB11 : Hid (Below n w w11) := HB10.out.trans (hb11.mono (Nat.le_of_lt HN10.out))
        clear hb11
        go_wp2_with fail
        go_ret
        exact ⟨rfl, by rw [hn]; exact HB11.out⟩
      · have g1 : (G1.2 == 0) = true := by simpa using e1
        have g2 : (G2.2 == 0) = false := by simpa using e2
        clear e1 e2 HAL2
        go_wp2_with fail
        go_ret
        exact ⟨rfl, by rw [hn]; exact HB10.out⟩
    · have g1 : (G1.2 == 0) = false := by simpa using e1
      clear e1 HAL2
      go_wp2_with fail
      go_ret
      exact ⟨rfl, by rw [hn]; exact HB10.out⟩
  · have m0 : (E != 0) = true := by simpa using hE
    obtain ⟨q1, q2⟩ := HER.out hE
    have KR1 : Hid (∀ z : World, Calls Try.prog 14 #[.agg (fpA G1.1), .int .i64 G1.2, .int .i64 E] z fun r w' => r = .returned (.bool true) ∧ Below z.heap.size z w') := by rw [q1]; exact fun z => refused_true E z
    have KR2 : Hid (∀ z : World, Calls Try.prog 14 #[.agg (fpA G2.1), .int .i64 G2.2, .int .i64 E] z fun r w' => r = .returned (.bool true) ∧ Below z.heap.size z w') := by rw [q2]; exact fun z => refused_true E z
    clear hE HER HWH HAL q1 q2
    go_wp2_with (refine load_blk 31 22 Try.underlying31 rfl Try.sizeFd (by rfl) (.tmp 13) (by rfl) m (by rfl) F5.out z1 ?_)
    refine (KR1.out _).mono ?_
    rintro e w9 ⟨rfl, hb9⟩
    have E6 : Hid _ := blkKeep E5.out hb9
    have HB9 : Hid (Below n w w9) := HB8.out.trans (hb9.mono (Nat.le_of_lt HN8.out))
    have HN9 : Hid (n < w9.heap.size) := Nat.lt_of_lt_of_le HN8.out hb9.size
    clear hb9 F5 E5 HB8 HN8
    go_wp2_with (refine load_blk 31 22 Try.underlying31 rfl Try.sizeFd (by rfl) (.tmp 15) (by rfl) k (by rfl) E6.out z2 ?_)
    refine (KR2.out _).mono ?_
    rintro e w10 ⟨rfl, hb10⟩
    have HB10 : Hid (Below n w w10) := HB9.out.trans (hb10.mono (Nat.le_of_lt HN9.out))
    clear hb10 E6 HB9 HN9
    go_wp2_with fail
    go_ret
    exact ⟨rfl, by rw [hn]; exact HB10.out⟩
end Go.Proofs.Ytebpgfodelggoab
/- The law Alike: P9. (Plain seats alone.) -/
set_option linter.unusedVariables false
namespace Go.Proofs.Ytebpgfodelggoab
open Go.ChangeShapes Go.WideShapes Go.ChangeAt Go.RowKit Go.ChangeMaps

set_option maxRecDepth 100000 in
theorem alike_contract (H : Type) (enc : TypeId × Value → H) (W : World) (base : Nat) (args : Array Value) (ds gs : List (DataW H)) (before : List MemPlace)
    (hval : ∀ (j : Nat) t v, Try.f3.params[j]? = some t → args[j]? = some v → Value.okWide Try.prog W .any base t v)
    (hW : DataW.Whole enc Try.prog Try.f3.params.toList Rows.alikeSpec.vars false W args.toList ds gs before) :
    Calls Try.prog 3 args W fun e W' => ∃ v, e = .returned v ∧ Rows.alikeSpec.post enc Try.prog Try.f3 false true false false W args v W' := by
  have hW' := hW
  obtain ⟨p, q, hA0, hV, rfl, hfz, hnd⟩ := hW
  have hA : DataW.TrodAll enc Try.prog W 0 (fun _ => true) true Try.f3.params.toList args.toList ds p := hA0
  rw [Try.params3] at hA hval
  obtain ⟨v0, v1, v2, v3, v4, d0, d1, d2, d3, d4, p0, p1, p2, p3, p4, rfl, rfl, rfl, h0, h1, h2, h3, h4⟩ := trodAll_five hA
  obtain ⟨rfl, rfl⟩ := trodVars_none hV
  obtain ⟨x0, rfl, rfl, rfl, g0⟩ := open_string Try.underlying9 (hval 0 9 v0 rfl rfl) h0
  obtain ⟨x1, rfl, rfl, rfl, g1⟩ := open_string Try.underlying9 (hval 1 9 v1 rfl rfl) h1
  obtain ⟨x2, rfl, rfl, rfl, g2⟩ := open_int Try.underlying3 (hval 2 3 v2 rfl rfl) h2
  obtain ⟨a3, b3, c3, e3, rfl, rfl, rfl, g3⟩ := opt_open (hval 3 23 v3 rfl rfl) h3
  obtain ⟨a4, b4, c4, e4, rfl, rfl, rfl, g4⟩ := opt_open (hval 4 23 v4 rfl rfl) h4
  clear hA0
  simp only [List.append_nil] at hW'
  refine (Alike_any x0 x1 x2 a3 b3 c3 e3 a4 b4 c4 e4 W g0 g1 (wf_i64 g2) (wf_i64 g3.1) (wf_i64 g3.2.1) (wf_i64 g3.2.2.1) (wf_i64 g4.1) (wf_i64 g4.2.1) (wf_i64 g4.2.2.1)).mono fun e W' ⟨he, hb⟩ => ?_
  subst he
  exact ⟨_, rfl, post_below (pa := []) (pv := []) hW' (fun _ _ _ => trodAll_cons_mk (shut_bool Try.underlying4 _) trodAll_mk0) (fun sp hsp => trodAll_cons_mk (shut_string Try.underlying9 g0) (trodAll_cons_mk (shut_string Try.underlying9 g1) (trodAll_cons_mk (shut_int Try.underlying3 g2) (trodAll_cons_mk (opt_shut g3) (trodAll_cons_mk (opt_shut g4) trodAll_mk0))))) (fun _ _ => rfl) rfl hb (ok_one (by kernel_rfl) rfl (okWide_bool_mk Try.underlying4 _))⟩

set_option maxRecDepth 100000 in
theorem alike_lifted (os : Os) (started : os.Started) (H : Type) (enc : TypeId × Value → H) :
    ReturnsInHanded {} Try.checked os 3 .any (Rows.alikeSpec.pre6 enc Try.prog Try.f3 Rows.alikeRow.domain false) (Rows.alikeSpec.post enc Try.prog Try.f3 false true false false) := by
  refine returnsInHanded_of_change (C := Try.checked) Try.ownK started (by kernel_rfl) Try.func3
    (ChangeSpec.witness6 (enc := enc) (C := Try.checked) false ⟨#[], #[.string ⟨#[]⟩, .string ⟨#[]⟩, .int .i64 0, .agg #[.int .i64 0, .int .i64 0, .int .i64 0, .int .i64 0], .agg #[.int .i64 0, .int .i64 0, .int .i64 0, .int .i64 0]], []⟩ 8 (by kernel_rfl) (by kernel_rfl) (by kernel_rfl) (by kernel_rfl)) ?_
  intro W base args ds gs before hval hW _ _
  exact alike_contract H enc W base args ds gs before hval hW

theorem alike_holds : Rows.AlikeSaid :=
  OpenClaim.holds_of_wide 3 Try.f3 rfl rfl rfl rfl rfl rfl rfl ⟨rfl, rfl, rfl, rfl, rfl⟩ rfl rfl rfl rfl rfl (by kernel_rfl) Try.func3 (by kernel_rfl)
    (of_decide_eq_true (by kernel_rfl)) (by unfold Func.isWrapper; first | (rw [if_pos (by decide +kernel)]; kernel_rfl) | (rw [if_neg (by decide +kernel)]; exact ⟨rfl, rfl⟩))
    (fun os started H enc _ => alike_lifted os started H enc)
end Go.Proofs.Ytebpgfodelggoab
