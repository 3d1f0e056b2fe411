import Derived.Test.YtebpgfodelggoabC37
import Derived.Test.YtebpgfodelggoabC06
/- layAtom. -/
set_option linter.unusedVariables false
set_option linter.unusedSimpArgs false
namespace Go.Proofs.Ytebpgfodelggoab
open Go.RowKit

section
variable {L : Nat} {g : Nat} {b : Mt.PB} {so ao : Option Addr} {sc ac : Nat} {d : Int}
set_option maxRecDepth 100000 in
set_option maxHeartbeats 2000000 in
theorem layAtom_grp (A : Mt.PA) (X : Mt.Re) (hk : A.tok.kind = 2) (hX : Lays L g b so ao sc ac d 108 #[.pointer (some ⟨g, 0, none⟩), .agg (paC A).toArray] X) :
    Lays L g b so ao sc ac d 102 #[.pointer (some ⟨g, 0, none⟩), .agg (paC A).toArray] X := by
  intro w co cc c h hn
  obtain ⟨hB, hW, hS⟩ := Bx.new h A
  have HC : Hid (Calls Try.prog 108 #[.pointer (some ⟨g, 0, none⟩), .agg (paC A).toArray] (w.alloc (.cells (paC A).toArray 142)) _) := hX _ _ _ _ hW hn
  have a0 := hB.cell 0
  change _ = some (Value.int .i64 A.tok.kind) at a0
  rw [hk] at a0
  have HBK := hB.bk
  have HS : Hid (LStep g co co w (w.alloc (.cells (paC A).toArray 142))) := hS
  clear hB hW hS h hk hX
  go_enter Try.func102, Try.ntmps102
  go_upto_region 1 with fail
  generalize w.alloc (.cells (paC A).toArray 142) = W at *
  go_wp2_with (refine load_blk 142 20 Try.underlying142 rfl Try.sizeAt (by rfl) (.tmp 3) (by rfl) w.heap.size (by rfl) HBK (by rfl) ?_)
  refine HC.out.mono ?_
  rintro e w3 ⟨rfl, hD⟩
  have HD : Hid _ := done_trans HS.out hD
  clear hD
  go_wp2_with fail
  go_returns
  exact ⟨rfl, HD.out⟩

theorem put_done {w W : World} {co : Option Addr} {cc : Nat} {c : List Mt.Ins} (hW : LAt L W g b so ao sc ac co cc c d) (hS : LStep g co co w W) (x : Mt.Ins) (hn : c.length ≤ 1000000) :
    Calls Try.prog 53 #[.pointer (some ⟨g, 0, none⟩), .agg (insA x)] W fun e w' => e = .returned (.int .i64 c.length) ∧ LDone L g b so ao sc ac d co w (c ++ [x]) w' := by
  refine (put_prog x hW hn).mono ?_
  rintro e w1 ⟨rfl, q1, cap1, hA, hS1⟩
  exact ⟨rfl, _, _, hA, hS.trans hS1⟩

set_option maxRecDepth 100000 in
set_option maxHeartbeats 2000000 in
theorem layAtom_leaf (A : Mt.PA) (t : Mt.Tok) (hk : Mt.leafK t) (ht : A.tok = Mt.ptok t) :
    Lays L g b so ao sc ac d 102 #[.pointer (some ⟨g, 0, none⟩), .agg (paC A).toArray] (Mt.leafRe t) := by
  intro w co cc c h hn
  have hn' : c.length ≤ 1000000 := by omega
  obtain ⟨hB, hW, hS⟩ := Bx.new h A
  have HC : Hid (∀ x, Calls Try.prog 53 #[.pointer (some ⟨g, 0, none⟩), .agg (insA x)] (w.alloc (.cells (paC A).toArray 142)) fun e w' => e = .returned (.int .i64 c.length) ∧ LDone L g b so ao sc ac d co w (c ++ [x]) w') := fun x => put_done hW hS x hn'
  have a0 := hB.cell 0
  change _ = some (Value.int .i64 A.tok.kind) at a0
  have a3 := hB.cell 3
  change _ = some (Value.int .i64 A.tok.number) at a3
  have a7 := hB.cell 7
  change _ = some (Value.string ⟨A.tok.set.toArray⟩) at a7
  rw [ht] at a0 a3 a7
  clear hB hW hS h hn
  rcases hk with hk | hk | hk | hk
  · have e0 : (Mt.ptok t).kind = 5 := by rw [Mt.ptok_kind, hk]; rfl
    have e1 : (Mt.ptok t).set = t.set := rfl
    have e2 : Mt.leafRe t = .one t.set := by unfold Mt.leafRe; rw [if_pos hk]
    rw [e0] at a0
    rw [e1] at a7
    rw [e2]
    have HC' := HC.out ⟨1, 0, 0, t.set⟩
    unfold insA at HC'
    have H : Hid _ := HC'
    clear HC HC' e0 e1 e2 a3
    go_enter Try.func102, Try.ntmps102
    go_upto_region 1 with fail
    generalize w.alloc (.cells (paC A).toArray 142) = W at *
    go_wp2_with fail
    refine Calls.mono H.out ?_
    rintro e w3 ⟨rfl, hD⟩
    have HD : Hid _ := hD
    clear hD
    go_wp2_with fail
    go_returns
    exact ⟨rfl, HD.out⟩
  · have e0 : (Mt.ptok t).kind = 6 := by rw [Mt.ptok_kind, hk]; rfl
    have e1 : (Mt.ptok t).number = t.n := by simp [Mt.ptok, hk]
    have e2 : Mt.leafRe t = .back t.n := by unfold Mt.leafRe; rw [if_neg (by omega), if_pos hk]
    rw [e0] at a0
    rw [e1] at a3
    rw [e2]
    have HC' := HC.out ⟨8, t.n, 0, []⟩
    unfold insA at HC'
    have H : Hid _ := HC'
    clear HC HC' e0 e1 e2 a7
    go_enter Try.func102, Try.ntmps102
    go_upto_region 1 with fail
    generalize w.alloc (.cells (paC A).toArray 142) = W at *
    go_wp2_with fail
    refine Calls.mono H.out ?_
    rintro e w3 ⟨rfl, hD⟩
    have HD : Hid _ := hD
    clear hD
    go_wp2_with fail
    go_returns
    exact ⟨rfl, HD.out⟩
  · have e0 : (Mt.ptok t).kind = 7 := by rw [Mt.ptok_kind, hk]; rfl
    have e2 : Mt.leafRe t = .head := by unfold Mt.leafRe; rw [if_neg (by omega), if_neg (by omega), if_pos hk]
    rw [e0] at a0
    rw [e2]
    have HC' := HC.out ⟨9, 0, 0, []⟩
    unfold insA at HC'
    have H : Hid _ := HC'
    clear HC HC' e0 e2 a7 a3
    go_enter Try.func102, Try.ntmps102
    go_upto_region 1 with fail
    generalize w.alloc (.cells (paC A).toArray 142) = W at *
    go_wp2_with fail
    refine Calls.mono H.out ?_
    rintro e w3 ⟨rfl, hD⟩
    have HD : Hid _ := hD
    clear hD
    go_wp2_with fail
    go_returns
    exact ⟨rfl, HD.out⟩
  · have e0 : (Mt.ptok t).kind = 8 := by rw [Mt.ptok_kind, hk]; rfl
    have e2 : Mt.leafRe t = .tail := by unfold Mt.leafRe; rw [if_neg (by omega), if_neg (by omega), if_neg (by omega)]
    rw [e0] at a0
    rw [e2]
    have HC' := HC.out ⟨10, 0, 0, []⟩
    unfold insA at HC'
    have H : Hid _ := HC'
    clear HC HC' e0 e2 a7 a3
    go_enter Try.func102, Try.ntmps102
    go_upto_region 1 with fail
    generalize w.alloc (.cells (paC A).toArray 142) = W at *
    go_wp2_with fail
    refine Calls.mono H.out ?_
    rintro e w3 ⟨rfl, hD⟩
    have HD : Hid _ := hD
    clear hD
    go_wp2_with fail
    go_returns
    exact ⟨rfl, HD.out⟩
end
end Go.Proofs.Ytebpgfodelggoab
/- layTimes, layLoop. -/
set_option linter.unusedVariables false
set_option linter.unusedSimpArgs false
namespace Mt
theorem timesA_snoc (x : Re) (d : Int) : ∀ (k : Nat) (p : Int), (timesA x (k + 1)).code p d = (timesA x k).code p d ++ x.code (p + (k * x.len : Nat)) d
  | 0, p => by simp [timesA, Re.code]
  | k + 1, p => by
    have ih := timesA_snoc x d k (p + x.len)
    have e1 : (timesA x (k + 1 + 1)).code p d = x.code p d ++ (timesA x (k + 1)).code (p + x.len) d := rfl
    have e2 : (timesA x (k + 1)).code p d = x.code p d ++ (timesA x k).code (p + x.len) d := rfl
    rw [e1, e2, ih, List.append_assoc, Nat.add_mul]
    congr 3
    push_cast; omega
theorem timesA_none (x : Re) (h : x.len = 0) (k : Nat) (p d : Int) : (timesA x k).code p d = [] := by
  rw [← List.length_eq_zero_iff, Re.code_len, timesA_len, h, Nat.mul_zero]
end Mt
namespace Go.Proofs.Ytebpgfodelggoab
open Go.RowKit

section
variable {L : Nat} {g : Nat} {b : Mt.PB} {so ao : Option Addr} {sc ac : Nat} {d : Int}
set_option maxRecDepth 100000 in
set_option maxHeartbeats 2000000 in
theorem layLoop_prog (A : Mt.PA) (x : Mt.Re) (hd0 : 0 ≤ d) (hd : d ≤ 1000) (hX : Lays L g b so ao sc ac (d + 1) 102 #[.pointer (some ⟨g, 0, none⟩), .agg (paC A).toArray] x) :
    Lays L g b so ao sc ac d 110 #[.pointer (some ⟨g, 0, none⟩), .agg (paC A).toArray] (.loop (decide (A.rep.mood = 2)) x) := by
  intro w co cc c h hn
  have hn' : c.length + x.len + 3 ≤ 1000 := by simp only [Mt.Re.len] at hn; omega
  obtain ⟨hB, hW, hS⟩ := Bx.new h A
  have HP : Hid (Calls Try.prog 53 #[.pointer (some ⟨g, 0, none⟩), .agg (insA ⟨2, 0, 0, []⟩)] (w.alloc (.cells (paC A).toArray 142)) _) := put_prog (x := ⟨2, 0, 0, []⟩) hW (by omega)
  have HX : Hid (Lays L g b so ao sc ac (d + 1) 102 #[.pointer (some ⟨g, 0, none⟩), .agg (paC A).toArray] x) := hX
  have HS : Hid (LStep g co co w (w.alloc (.cells (paC A).toArray 142)) ∧ Bx (w.alloc (.cells (paC A).toArray 142)) g co w.heap.size A) := ⟨hS, hB⟩
  have l1 : (c ++ [(⟨2, 0, 0, []⟩ : Mt.Ins)]).length = c.length + 1 := by simp
  have l2 : (c ++ [(⟨2, 0, 0, []⟩ : Mt.Ins)] ++ [(⟨4, d, 0, []⟩ : Mt.Ins)]).length = c.length + 2 := by simp
  have l3 : ∀ z : Int, (c ++ [(⟨2, 0, 0, []⟩ : Mt.Ins)] ++ [(⟨4, d, 0, []⟩ : Mt.Ins)] ++ x.code z (d + 1)).length = c.length + 2 + x.len := fun z => by rw [List.length_append, l2, Mt.Re.code_len]
  have l4 : ∀ z : Int, (c ++ [(⟨2, 0, 0, []⟩ : Mt.Ins)] ++ [(⟨4, d, 0, []⟩ : Mt.Ins)] ++ x.code z (d + 1) ++ [(⟨5, c.length, d, []⟩ : Mt.Ins)]).length = c.length + 3 + x.len := fun z => by rw [List.length_append, l3]; simp; omega
  have HE : Hid (c ++ (Mt.Re.loop (decide (A.rep.mood = 2)) x).code c.length d = (c ++ [(⟨2, 0, 0, []⟩ : Mt.Ins)] ++ [(⟨4, d, 0, []⟩ : Mt.Ins)] ++ x.code ((c.length + 2 : Nat) : Int) (d + 1) ++ [(⟨5, c.length, d, []⟩ : Mt.Ins)]).set c.length (Mt.spl ((c.length : Int) + 1) ((c.length + 3 + x.len : Nat) : Int) (decide (A.rep.mood = 2)))) := by
    show _ = _
    rw [show c ++ [(⟨2, 0, 0, []⟩ : Mt.Ins)] ++ [(⟨4, d, 0, []⟩ : Mt.Ins)] ++ x.code ((c.length + 2 : Nat) : Int) (d + 1) ++ [(⟨5, c.length, d, []⟩ : Mt.Ins)] = c ++ [(⟨2, 0, 0, []⟩ : Mt.Ins)] ++ ([(⟨4, d, 0, []⟩ : Mt.Ins)] ++ x.code ((c.length + 2 : Nat) : Int) (d + 1) ++ [(⟨5, c.length, d, []⟩ : Mt.Ins)]) by simp, set_mid]
    simp [Mt.Re.code]; congr 1; omega
  rw [HE.out]
  clear hB hW hS h hX hn HE
  unfold insA at HP
  go_enter Try.func110, Try.ntmps110
  go_upto_region 1 with fail
  generalize w.alloc (.cells (paC A).toArray 142) = W at *
  go_wp2_with fail
  refine HP.out.mono ?_
  rintro e w1 ⟨rfl, q1, cap1, hA, hS⟩
  have H2 : Hid (Calls Try.prog 53 #[.pointer (some ⟨g, 0, none⟩), .agg (insA ⟨4, d, 0, []⟩)] w1 _) := put_prog (x := ⟨4, d, 0, []⟩) hA (by rw [l1]; omega)
  have c3 := hA.cells.2.2.2.1
  have HS1 : Hid (LStep g co (some ⟨q1, 0, none⟩) w w1 ∧ Bx w1 g (some ⟨q1, 0, none⟩) w.heap.size A) := ⟨HS.out.1.trans hS, HS.out.2.step hS⟩
  clear hA hS
  unfold insA at H2
  go_wp2_with fail
  refine H2.out.mono ?_
  rintro e w2 ⟨rfl, q2, cap2, hA, hS⟩
  have M2 := hA.loopsSet (d + 1)
  have S2 := hS.set (p := ⟨g, 3, none⟩) (Or.inl rfl) (.int .i64 (d + 1))
  have B2 := HS1.out.2.step S2
  have H3 : Hid (Calls Try.prog 102 #[.pointer (some ⟨g, 0, none⟩), .agg (paC A).toArray] (w2.setCell ⟨g, 3, none⟩ (.int .i64 (d + 1))) _) := HX.out _ _ _ _ M2 (by rw [l2]; omega)
  have HS2 : Hid (LStep g co (some ⟨q2, 0, none⟩) w (w2.setCell ⟨g, 3, none⟩ (.int .i64 (d + 1))) ∧ Bx (w2.setCell ⟨g, 3, none⟩ (.int .i64 (d + 1))) g (some ⟨q2, 0, none⟩) w.heap.size A) := ⟨HS1.out.1.trans S2, B2⟩
  have d3 := hA.cells.2.2.2.1
  have f3 := hA.cells.2.2.2.2 3
  have HBK := B2.bk
  clear hA hS M2 S2 B2
  go_wp2_with (refine load_blk 142 20 Try.underlying142 rfl Try.sizeAt (by rfl) (.tmp 3) (by rfl) w.heap.size (by rfl) HBK (by rfl) ?_)
  refine H3.out.mono ?_
  rintro e w3 ⟨rfl, co3, cc3, hA, hS⟩
  rw [l2] at hA
  have H4 : Hid (Calls Try.prog 53 #[.pointer (some ⟨g, 0, none⟩), .agg (insA ⟨5, c.length, d, []⟩)] w3 _) := put_prog (x := ⟨5, c.length, d, []⟩) hA (by rw [l3]; omega)
  have HS3 : Hid (LStep g co co3 w w3 ∧ Bx w3 g co3 w.heap.size A) := ⟨HS2.out.1.trans hS, HS2.out.2.step hS⟩
  clear hA hS HBK
  unfold insA at H4
  go_wp2_with fail
  refine H4.out.mono ?_
  rintro e w4 ⟨rfl, q4, cap4, hA, hS⟩
  have M4 := hA.loopsSet d
  have S4 := hS.set (p := ⟨g, 3, none⟩) (Or.inl rfl) (.int .i64 d)
  have B4 := HS3.out.2.step S4
  have H5' := aim_prog c.length A.rep.mood M4 (by rw [l4]; omega) (by rw [l4]; omega)
  rw [l4] at H5'
  have H5 : Hid (Calls Try.prog 113 #[.pointer (some ⟨g, 0, none⟩), .int .i64 ((c.length : Nat) : Int), .int .i64 A.rep.mood] (w4.setCell ⟨g, 3, none⟩ (.int .i64 d)) _) := H5'
  have HS4 : Hid (LStep g co (some ⟨q4, 0, none⟩) w (w4.setCell ⟨g, 3, none⟩ (.int .i64 d))) := HS3.out.1.trans S4
  have e3 := hA.cells.2.2.2.1
  have g3 := hA.cells.2.2.2.2 3
  have b15 := (HS3.out.2.step hS).cell 15
  change _ = some (Value.int .i64 A.rep.mood) at b15
  have ngw : w.heap.size ≠ g := B4.ng
  clear hA hS M4 S4 B4 H5'
  go_wp2_with fail
  refine H5.out.mono ?_
  rintro e w5 ⟨rfl, hA, hS⟩
  have HD : Hid (LDone L g b so ao sc ac d co w ((c ++ [(⟨2, 0, 0, []⟩ : Mt.Ins)] ++ [(⟨4, d, 0, []⟩ : Mt.Ins)] ++ x.code ((c.length + 2 : Nat) : Int) (d + 1) ++ [(⟨5, c.length, d, []⟩ : Mt.Ins)]).set c.length (Mt.spl ((c.length : Int) + 1) ((c.length + 3 + x.len : Nat) : Int) (decide (A.rep.mood = 2)))) w5) := ⟨_, _, hA, HS4.out.trans hS⟩
  clear hA hS
  go_wp2_with fail
  go_returns
  exact ⟨rfl, HD.out⟩

set_option maxRecDepth 100000 in
set_option maxHeartbeats 2000000 in
theorem layTimes_prog (A : Mt.PA) (x : Mt.Re) (N : Nat) (hN : N ≤ 1000) (hX : Lays L g b so ao sc ac d 102 #[.pointer (some ⟨g, 0, none⟩), .agg (paC A).toArray] x) :
    Lays L g b so ao sc ac d 109 #[.pointer (some ⟨g, 0, none⟩), .agg (paC A).toArray, .int .i64 (N : Int)] (Mt.timesA x N) := by
  intro w co cc c h hn
  rw [Mt.timesA_len] at hn
  obtain ⟨hB, hW, hS⟩ := Bx.new h A
  have HX : Hid (Lays L g b so ao sc ac d 102 #[.pointer (some ⟨g, 0, none⟩), .agg (paC A).toArray] x) := hX
  have HS : Hid (LStep g co co w (w.alloc (.cells (paC A).toArray 142)) ∧ Bx (w.alloc (.cells (paC A).toArray 142)) g co w.heap.size A ∧ LAt L (w.alloc (.cells (paC A).toArray 142)) g b so ao sc ac co cc c d) := ⟨hS, hB, hW⟩
  have HN : Hid (c.length + N * x.len ≤ 1000) := hn
  clear hB hW hS h hX hn
  go_enter Try.func109, Try.ntmps109
  go_upto_region 1 with fail
  generalize w.alloc (.cells (paC A).toArray 142) = W at *
  go_wp2_with fail
  go_loopw [6] (fun i wr => ∃ (k : Nat) (cor : Option Addr) (ccr : Nat), k ≤ N ∧ i = .int .i64 k ∧ LAt L wr g b so ao sc ac cor ccr (c ++ (Mt.timesA x k).code c.length d) d ∧ LStep g co cor w wr ∧ Bx wr g cor w.heap.size A) (fun i _ => N - (intOf i).toNat)
  case atStart => exact ⟨0, co, cc, Nat.zero_le _, rfl, by simpa [Mt.timesA, Mt.Re.code] using HS.out.2.2, HS.out.1, HS.out.2.1⟩
  case round =>
    obtain ⟨k, cor, ccr, hk, rfl, hA, hSr, hBr⟩ := hrel
    by_cases hlt : k < N
    · have hkN : (k : Int) < (N : Int) := by omega
      have hm : (k + 1) * x.len ≤ N * x.len := Nat.mul_le_mul_right _ (by omega)
      have hm' : (k + 1) * x.len = k * x.len + x.len := by rw [Nat.add_mul, Nat.one_mul]
      have hl : (c ++ (Mt.timesA x k).code c.length d).length = c.length + k * x.len := by rw [List.length_append, Mt.Re.code_len, Mt.timesA_len]
      have hNo := HN.out
      have H1 : Hid (Calls Try.prog 102 #[.pointer (some ⟨g, 0, none⟩), .agg (paC A).toArray] wr _) := HX.out _ _ _ _ hA (by rw [hl]; omega)
      have c2 := hA.cells.2.2.1
      rw [hl] at c2
      have HBK := hBr.bk
      have HSr : Hid (LStep g co cor w wr ∧ Bx wr g cor w.heap.size A) := ⟨hSr, hBr⟩
      have HSN : Hid (c ++ (Mt.timesA x k).code c.length d ++ x.code ((c.length + k * x.len : Nat) : Int) d = c ++ (Mt.timesA x (k + 1)).code c.length d) := by
        show _ = _; rw [Mt.timesA_snoc, List.append_assoc]; simp
      clear hA hSr hBr
      generalize hM : c.length + k * x.len = M at *
      go_wp2_with (refine load_blk 142 20 Try.underlying142 rfl Try.sizeAt (by rfl) (.tmp 4) (by rfl) w.heap.size (by rfl) HBK (by rfl) ?_)
      refine H1.out.mono ?_
      rintro e w1 ⟨rfl, co1, cc1, hA, hS⟩
      rw [hl, HSN.out] at hA
      have d2 := hA.cells.2.2.1
      have hl1 : (c ++ (Mt.timesA x (k + 1)).code c.length d).length = M + x.len := by rw [List.length_append, Mt.Re.code_len, Mt.timesA_len]; omega
      rw [hl1] at d2
      have HA1 : Hid (LAt L w1 g b so ao sc ac co1 cc1 (c ++ (Mt.timesA x (k + 1)).code c.length d) d ∧ LStep g co co1 w w1 ∧ Bx w1 g co1 w.heap.size A) := ⟨hA, HSr.out.1.trans hS, HSr.out.2.step hS⟩
      clear hA hS HBK
      by_cases hz : x.len = 0
      · rw [hz] at d2
        go_wp2_with fail
        go_returns
        refine ⟨rfl, co1, cc1, ?_, HA1.out.2.1⟩
        have := HA1.out.1
        rw [Mt.timesA_none x hz] at this ⊢
        exact this
      · have bt : (((M + x.len : Nat) : Int) == (M : Int)) = false := by simp; omega
        go_wp2_with fail
        go_roundw
        case measure => show N - ((k : Int) + 1).toNat < N - (k : Int).toNat; omega
        case rel => exact ⟨k + 1, co1, cc1, by omega, by go_num, HA1.out.1, HA1.out.2.1, HA1.out.2.2⟩
    · have ek : k = N := by omega
      subst ek
      have HD : Hid (LDone L g b so ao sc ac d co w (c ++ (Mt.timesA x k).code c.length d) wr) := ⟨_, _, hA, hSr⟩
      clear hA hSr hBr
      go_wp2_with fail
      go_returns
      exact ⟨rfl, HD.out⟩
end
end Go.Proofs.Ytebpgfodelggoab
/- What layOptional lays, plainly: first raw splits, then aimed ones. -/
set_option linter.unusedVariables false
namespace Mt
/-- n atoms x, the i-th with the split f i before it. -/
def optM (x : Re) (d : Int) (f : Nat → Ins) : Nat → Nat → Int → List Ins
  | 0, _, _ => []
  | n + 1, i, p => f i :: (x.code (p + 1) d ++ optM x d f n (i + 1) (p + ((x.len + 1 : Nat) : Int)))
theorem optM_len (x : Re) (d : Int) (f : Nat → Ins) : ∀ (n i : Nat) (p : Int), (optM x d f n i p).length = n * (x.len + 1)
  | 0, _, _ => by simp [optM]
  | n + 1, i, p => by rw [optM, List.length_cons, List.length_append, Re.code_len, optM_len x d f n, Nat.add_mul]; omega
theorem optM_congr (x : Re) (d : Int) (f f' : Nat → Ins) : ∀ (n i : Nat) (p : Int), (∀ m, i ≤ m → m < i + n → f m = f' m) → optM x d f n i p = optM x d f' n i p
  | 0, _, _, _ => rfl
  | n + 1, i, p, h => by rw [optM, optM, h i (Nat.le_refl _) (by omega), optM_congr x d f f' n (i + 1) _ (fun m h1 h2 => h m (by omega) (by omega))]
theorem optM_snoc (x : Re) (d : Int) (f : Nat → Ins) : ∀ (n i : Nat) (p : Int), optM x d f (n + 1) i p = optM x d f n i p ++ [f (i + n)] ++ x.code (p + ((n * (x.len + 1) : Nat) : Int) + 1) d
  | 0, i, p => by simp [optM]
  | n + 1, i, p => by
    rw [optM, optM_snoc x d f n (i + 1), optM, Nat.add_mul]
    simp only [List.cons_append, List.append_assoc]
    rw [show i + 1 + n = i + (n + 1) by omega, show p + ((x.len + 1 : Nat) : Int) + ((n * (x.len + 1) : Nat) : Int) + 1 = p + ((n * (x.len + 1) + 1 * (x.len + 1) : Nat) : Int) + 1 by push_cast; omega]
theorem optM_set (x : Re) (d : Int) (f : Nat → Ins) (v : Ins) : ∀ (n j i : Nat) (p : Int), j < n → (optM x d f n i p).set (j * (x.len + 1)) v = optM x d (fun m => if m = i + j then v else f m) n i p
  | 0, _, _, _, h => by omega
  | n + 1, 0, i, p, h => by
    rw [optM, optM, Nat.zero_mul, List.set_cons_zero, if_pos (by omega), optM_congr x d f (fun m => if m = i + 0 then v else f m) n (i + 1) _ (fun m h1 h2 => by rw [if_neg (by omega)])]
  | n + 1, j + 1, i, p, h => by
    rw [optM, optM, if_neg (by omega), Nat.add_mul, Nat.one_mul, show j * (x.len + 1) + (x.len + 1) = (x.len + j * (x.len + 1)) + 1 by omega, List.set_cons_succ, List.set_append_right _ _ (by rw [Re.code_len]; omega), Re.code_len,
      show x.len + j * (x.len + 1) - x.len = j * (x.len + 1) by omega, optM_set x d f v n j (i + 1) _ (by omega)]
    rw [show i + 1 + j = i + (j + 1) by omega]
theorem optM_optA (x : Re) (d : Int) (late : Bool) (f : Nat → Ins) : ∀ (n i : Nat) (p : Int), (∀ m, m < n → f (i + m) = spl (p + ((m * (x.len + 1) : Nat) : Int) + 1) (p + ((n * (x.len + 1) : Nat) : Int)) late) → optM x d f n i p = (optA x late n).code p d
  | 0, _, _, _ => rfl
  | n + 1, i, p, h => by
    rw [optM, optA, Re.code, Re.code]
    have h0 := h 0 (by omega)
    rw [Nat.add_zero] at h0
    rw [h0, Re.len, optA_len]
    have e1 : p + ((0 * (x.len + 1) : Nat) : Int) + 1 = p + 1 := by simp
    have e2 : p + (((n + 1) * (x.len + 1) : Nat) : Int) = p + ((x.len + n * (x.len + 1) : Nat) : Int) + 1 := by rw [Nat.add_mul]; push_cast; omega
    have e3 : p + ((x.len + 1 : Nat) : Int) = p + 1 + (x.len : Int) := by push_cast; omega
    rw [e1, e2, optM_optA x d late f n (i + 1) _ (fun m hm => ?_), e3]
    have := h (m + 1) (by omega)
    rw [show i + 1 + m = i + (m + 1) by omega, this]
    have e4 : p + (((m + 1) * (x.len + 1) : Nat) : Int) = p + ((x.len + 1 : Nat) : Int) + ((m * (x.len + 1) : Nat) : Int) := by rw [Nat.add_mul]; push_cast; omega
    have e5 : p + (((n + 1) * (x.len + 1) : Nat) : Int) = p + ((x.len + 1 : Nat) : Int) + ((n * (x.len + 1) : Nat) : Int) := by rw [Nat.add_mul]; push_cast; omega
    rw [e4, e5]
def splitsL (p m : Nat) (k : Nat) : List Nat := (List.range k).map fun i => p + i * m
theorem splitsL_len (p m k : Nat) : (splitsL p m k).length = k := by simp [splitsL]
theorem splitsL_next (p m k : Nat) : splitsL p m (k + 1) = splitsL p m k ++ [p + k * m] := by simp [splitsL, List.range_succ]
theorem splitsL_at (p m k j : Nat) (h : j < k) : (splitsL p m k)[j]? = some (p + j * m) := by simp [splitsL, h]
end Mt
