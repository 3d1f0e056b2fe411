import Derived.Test.YtebpgfodelggoaaC34
import Derived.Test.YtebpgfodelggoaaC05
import Derived.Deep.AppendLies
/- layTimes, layLoop. -/
set_option linter.unusedVariables false
set_option linter.unusedSimpArgs false
namespace Mt
theorem timesA_snoc (x : Re) (d : Int) : ∀ (k : Nat) (p : Int), (timesA x (k + 1)).code p d = (timesA x k).code p d ++ x.code (p + (k * x.len : Nat)) d
  | 0, p => by simp [timesA, Re.code]
  | k + 1, p => by
    have ih := timesA_snoc x d k (p + x.len)
    have e1 : (timesA x (k + 1 + 1)).code p d = x.code p d ++ (timesA x (k + 1)).code (p + x.len) d := rfl
    have e2 : (timesA x (k + 1)).code p d = x.code p d ++ (timesA x k).code (p + x.len) d := rfl
    rw [e1, e2, ih, List.append_assoc, Nat.add_mul]
    congr 3
    push_cast; omega
theorem timesA_none (x : Re) (h : x.len = 0) (k : Nat) (p d : Int) : (timesA x k).code p d = [] := by
  rw [← List.length_eq_zero_iff, Re.code_len, timesA_len, h, Nat.mul_zero]
end Mt
namespace Go.Proofs.Ytebpgfodelggoaa
open Go.RowKit

section
variable {L : Nat} {g : Nat} {b : Mt.PB} {so ao : Option Addr} {sc ac : Nat} {d : Int}
set_option maxRecDepth 100000 in
set_option maxHeartbeats 2000000 in
theorem layLoop_prog (A : Mt.PA) (x : Mt.Re) (hd0 : 0 ≤ d) (hd : d ≤ 1000) (hX : Lays L g b so ao sc ac (d + 1) 92 #[.pointer (some ⟨g, 0, none⟩), .agg (paC A).toArray] x) :
    Lays L g b so ao sc ac d 103 #[.pointer (some ⟨g, 0, none⟩), .agg (paC A).toArray] (.loop (decide (A.rep.mood = 2)) x) := by
  intro w co cc c h hn
  have hn' : c.length + x.len + 3 ≤ 1000 := by simp only [Mt.Re.len] at hn; omega
  obtain ⟨hB, hW, hS⟩ := Bx.new h A
  have HP : Hid (Calls Try.prog 39 #[.pointer (some ⟨g, 0, none⟩), .agg (insA ⟨2, 0, 0, []⟩)] (w.alloc (.cells (paC A).toArray 125)) _) := put_prog (x := ⟨2, 0, 0, []⟩) hW (by omega)
  have HX : Hid (Lays L g b so ao sc ac (d + 1) 92 #[.pointer (some ⟨g, 0, none⟩), .agg (paC A).toArray] x) := hX
  have HS : Hid (LStep g co co w (w.alloc (.cells (paC A).toArray 125)) ∧ Bx (w.alloc (.cells (paC A).toArray 125)) g co w.heap.size A) := ⟨hS, hB⟩
  have l1 : (c ++ [(⟨2, 0, 0, []⟩ : Mt.Ins)]).length = c.length + 1 := by simp
  have l2 : (c ++ [(⟨2, 0, 0, []⟩ : Mt.Ins)] ++ [(⟨4, d, 0, []⟩ : Mt.Ins)]).length = c.length + 2 := by simp
  have l3 : ∀ z : Int, (c ++ [(⟨2, 0, 0, []⟩ : Mt.Ins)] ++ [(⟨4, d, 0, []⟩ : Mt.Ins)] ++ x.code z (d + 1)).length = c.length + 2 + x.len := fun z => by rw [List.length_append, l2, Mt.Re.code_len]
  have l4 : ∀ z : Int, (c ++ [(⟨2, 0, 0, []⟩ : Mt.Ins)] ++ [(⟨4, d, 0, []⟩ : Mt.Ins)] ++ x.code z (d + 1) ++ [(⟨5, c.length, d, []⟩ : Mt.Ins)]).length = c.length + 3 + x.len := fun z => by rw [List.length_append, l3]; simp; omega
  have HE : Hid (c ++ (Mt.Re.loop (decide (A.rep.mood = 2)) x).code c.length d = (c ++ [(⟨2, 0, 0, []⟩ : Mt.Ins)] ++ [(⟨4, d, 0, []⟩ : Mt.Ins)] ++ x.code ((c.length + 2 : Nat) : Int) (d + 1) ++ [(⟨5, c.length, d, []⟩ : Mt.Ins)]).set c.length (Mt.spl ((c.length : Int) + 1) ((c.length + 3 + x.len : Nat) : Int) (decide (A.rep.mood = 2)))) := by
    show _ = _
    rw [show c ++ [(⟨2, 0, 0, []⟩ : Mt.Ins)] ++ [(⟨4, d, 0, []⟩ : Mt.Ins)] ++ x.code ((c.length + 2 : Nat) : Int) (d + 1) ++ [(⟨5, c.length, d, []⟩ : Mt.Ins)] = c ++ [(⟨2, 0, 0, []⟩ : Mt.Ins)] ++ ([(⟨4, d, 0, []⟩ : Mt.Ins)] ++ x.code ((c.length + 2 : Nat) : Int) (d + 1) ++ [(⟨5, c.length, d, []⟩ : Mt.Ins)]) by simp, set_mid]
    simp [Mt.Re.code]; congr 1; omega
  rw [HE.out]
  clear hB hW hS h hX hn HE
  unfold insA at HP
  go_enter Try.func103, Try.ntmps103
  go_upto_region 1 with fail
  generalize w.alloc (.cells (paC A).toArray 125) = W at *
  go_wp2_with fail
  refine HP.out.mono ?_
  rintro e w1 ⟨rfl, q1, cap1, hA, hS⟩
  have H2 : Hid (Calls Try.prog 39 #[.pointer (some ⟨g, 0, none⟩), .agg (insA ⟨4, d, 0, []⟩)] w1 _) := put_prog (x := ⟨4, d, 0, []⟩) hA (by rw [l1]; omega)
  have c3 := hA.cells.2.2.2.1
  have HS1 : Hid (LStep g co (some ⟨q1, 0, none⟩) w w1 ∧ Bx w1 g (some ⟨q1, 0, none⟩) w.heap.size A) := ⟨HS.out.1.trans hS, HS.out.2.step hS⟩
  clear hA hS
  unfold insA at H2
  go_wp2_with fail
  refine H2.out.mono ?_
  rintro e w2 ⟨rfl, q2, cap2, hA, hS⟩
  have M2 := hA.loopsSet (d + 1)
  have S2 := hS.set (p := ⟨g, 3, none⟩) (Or.inl rfl) (.int .i64 (d + 1))
  have B2 := HS1.out.2.step S2
  have H3 : Hid (Calls Try.prog 92 #[.pointer (some ⟨g, 0, none⟩), .agg (paC A).toArray] (w2.setCell ⟨g, 3, none⟩ (.int .i64 (d + 1))) _) := HX.out _ _ _ _ M2 (by rw [l2]; omega)
  have HS2 : Hid (LStep g co (some ⟨q2, 0, none⟩) w (w2.setCell ⟨g, 3, none⟩ (.int .i64 (d + 1))) ∧ Bx (w2.setCell ⟨g, 3, none⟩ (.int .i64 (d + 1))) g (some ⟨q2, 0, none⟩) w.heap.size A) := ⟨HS1.out.1.trans S2, B2⟩
  have d3 := hA.cells.2.2.2.1
  have f3 := hA.cells.2.2.2.2 3
  have HBK := B2.bk
  clear hA hS M2 S2 B2
  go_wp2_with (refine load_blk 125 20 Try.underlying125 rfl Try.sizeAt (by rfl) (.tmp 3) (by rfl) w.heap.size (by rfl) HBK (by rfl) ?_)
  refine H3.out.mono ?_
  rintro e w3 ⟨rfl, co3, cc3, hA, hS⟩
  rw [l2] at hA
  have H4 : Hid (Calls Try.prog 39 #[.pointer (some ⟨g, 0, none⟩), .agg (insA ⟨5, c.length, d, []⟩)] w3 _) := put_prog (x := ⟨5, c.length, d, []⟩) hA (by rw [l3]; omega)
  have HS3 : Hid (LStep g co co3 w w3 ∧ Bx w3 g co3 w.heap.size A) := ⟨HS2.out.1.trans hS, HS2.out.2.step hS⟩
  clear hA hS HBK
  unfold insA at H4
  go_wp2_with fail
  refine H4.out.mono ?_
  rintro e w4 ⟨rfl, q4, cap4, hA, hS⟩
  have M4 := hA.loopsSet d
  have S4 := hS.set (p := ⟨g, 3, none⟩) (Or.inl rfl) (.int .i64 d)
  have B4 := HS3.out.2.step S4
  have H5' := aim_prog c.length A.rep.mood M4 (by rw [l4]; omega) (by rw [l4]; omega)
  rw [l4] at H5'
  have H5 : Hid (Calls Try.prog 106 #[.pointer (some ⟨g, 0, none⟩), .int .i64 ((c.length : Nat) : Int), .int .i64 A.rep.mood] (w4.setCell ⟨g, 3, none⟩ (.int .i64 d)) _) := H5'
  have HS4 : Hid (LStep g co (some ⟨q4, 0, none⟩) w (w4.setCell ⟨g, 3, none⟩ (.int .i64 d))) := HS3.out.1.trans S4
  have e3 := hA.cells.2.2.2.1
  have g3 := hA.cells.2.2.2.2 3
  have b15 := (HS3.out.2.step hS).cell 15
  change _ = some (Value.int .i64 A.rep.mood) at b15
  have ngw : w.heap.size ≠ g := B4.ng
  clear hA hS M4 S4 B4 H5'
  go_wp2_with fail
  refine H5.out.mono ?_
  rintro e w5 ⟨rfl, hA, hS⟩
  have HD : Hid (LDone L g b so ao sc ac d co w ((c ++ [(⟨2, 0, 0, []⟩ : Mt.Ins)] ++ [(⟨4, d, 0, []⟩ : Mt.Ins)] ++ x.code ((c.length + 2 : Nat) : Int) (d + 1) ++ [(⟨5, c.length, d, []⟩ : Mt.Ins)]).set c.length (Mt.spl ((c.length : Int) + 1) ((c.length + 3 + x.len : Nat) : Int) (decide (A.rep.mood = 2)))) w5) := ⟨_, _, hA, HS4.out.trans hS⟩
  clear hA hS
  go_wp2_with fail
  go_returns
  exact ⟨rfl, HD.out⟩

set_option maxRecDepth 100000 in
set_option maxHeartbeats 2000000 in
theorem layTimes_prog (A : Mt.PA) (x : Mt.Re) (N : Nat) (hN : N ≤ 1000) (hX : Lays L g b so ao sc ac d 92 #[.pointer (some ⟨g, 0, none⟩), .agg (paC A).toArray] x) :
    Lays L g b so ao sc ac d 102 #[.pointer (some ⟨g, 0, none⟩), .agg (paC A).toArray, .int .i64 (N : Int)] (Mt.timesA x N) := by
  intro w co cc c h hn
  rw [Mt.timesA_len] at hn
  obtain ⟨hB, hW, hS⟩ := Bx.new h A
  have HX : Hid (Lays L g b so ao sc ac d 92 #[.pointer (some ⟨g, 0, none⟩), .agg (paC A).toArray] x) := hX
  have HS : Hid (LStep g co co w (w.alloc (.cells (paC A).toArray 125)) ∧ Bx (w.alloc (.cells (paC A).toArray 125)) g co w.heap.size A ∧ LAt L (w.alloc (.cells (paC A).toArray 125)) g b so ao sc ac co cc c d) := ⟨hS, hB, hW⟩
  have HN : Hid (c.length + N * x.len ≤ 1000) := hn
  clear hB hW hS h hX hn
  go_enter Try.func102, Try.ntmps102
  go_upto_region 1 with fail
  generalize w.alloc (.cells (paC A).toArray 125) = W at *
  go_wp2_with fail
  go_loopw [6] (fun i wr => ∃ (k : Nat) (cor : Option Addr) (ccr : Nat), k ≤ N ∧ i = .int .i64 k ∧ LAt L wr g b so ao sc ac cor ccr (c ++ (Mt.timesA x k).code c.length d) d ∧ LStep g co cor w wr ∧ Bx wr g cor w.heap.size A) (fun i _ => N - (intOf i).toNat)
  case atStart => exact ⟨0, co, cc, Nat.zero_le _, rfl, by simpa [Mt.timesA, Mt.Re.code] using HS.out.2.2, HS.out.1, HS.out.2.1⟩
  case round =>
    obtain ⟨k, cor, ccr, hk, rfl, hA, hSr, hBr⟩ := hrel
    by_cases hlt : k < N
    · have hkN : (k : Int) < (N : Int) := by omega
      have hm : (k + 1) * x.len ≤ N * x.len := Nat.mul_le_mul_right _ (by omega)
      have hm' : (k + 1) * x.len = k * x.len + x.len := by rw [Nat.add_mul, Nat.one_mul]
      have hl : (c ++ (Mt.timesA x k).code c.length d).length = c.length + k * x.len := by rw [List.length_append, Mt.Re.code_len, Mt.timesA_len]
      have hNo := HN.out
      have H1 : Hid (Calls Try.prog 92 #[.pointer (some ⟨g, 0, none⟩), .agg (paC A).toArray] wr _) := HX.out _ _ _ _ hA (by rw [hl]; omega)
      have c2 := hA.cells.2.2.1
      rw [hl] at c2
      have HBK := hBr.bk
      have HSr : Hid (LStep g co cor w wr ∧ Bx wr g cor w.heap.size A) := ⟨hSr, hBr⟩
      have HSN : Hid (c ++ (Mt.timesA x k).code c.length d ++ x.code ((c.length + k * x.len : Nat) : Int) d = c ++ (Mt.timesA x (k + 1)).code c.length d) := by
        show _ = _; rw [Mt.timesA_snoc, List.append_assoc]; simp
      clear hA hSr hBr
      generalize hM : c.length + k * x.len = M at *
      go_wp2_with (refine load_blk 125 20 Try.underlying125 rfl Try.sizeAt (by rfl) (.tmp 4) (by rfl) w.heap.size (by rfl) HBK (by rfl) ?_)
      refine H1.out.mono ?_
      rintro e w1 ⟨rfl, co1, cc1, hA, hS⟩
      rw [hl, HSN.out] at hA
      have d2 := hA.cells.2.2.1
      have hl1 : (c ++ (Mt.timesA x (k + 1)).code c.length d).length = M + x.len := by rw [List.length_append, Mt.Re.code_len, Mt.timesA_len]; omega
      rw [hl1] at d2
      have HA1 : Hid (LAt L w1 g b so ao sc ac co1 cc1 (c ++ (Mt.timesA x (k + 1)).code c.length d) d ∧ LStep g co co1 w w1 ∧ Bx w1 g co1 w.heap.size A) := ⟨hA, HSr.out.1.trans hS, HSr.out.2.step hS⟩
      clear hA hS HBK
      by_cases hz : x.len = 0
      · rw [hz] at d2
        go_wp2_with fail
        go_returns
        refine ⟨rfl, co1, cc1, ?_, HA1.out.2.1⟩
        have := HA1.out.1
        rw [Mt.timesA_none x hz] at this ⊢
        exact this
      · have bt : (((M + x.len : Nat) : Int) == (M : Int)) = false := by simp; omega
        go_wp2_with fail
        go_roundw
        case measure => show N - ((k : Int) + 1).toNat < N - (k : Int).toNat; omega
        case rel => exact ⟨k + 1, co1, cc1, by omega, by go_num, HA1.out.1, HA1.out.2.1, HA1.out.2.2⟩
    · have ek : k = N := by omega
      subst ek
      have HD : Hid (LDone L g b so ao sc ac d co w (c ++ (Mt.timesA x k).code c.length d) wr) := ⟨_, _, hA, hSr⟩
      clear hA hSr hBr
      go_wp2_with fail
      go_returns
      exact ⟨rfl, HD.out⟩
end
end Go.Proofs.Ytebpgfodelggoaa
/- What layOptional lays, plainly: first raw splits, then aimed ones. -/
set_option linter.unusedVariables false
namespace Mt
/-- n atoms x, the i-th with the split f i before it. -/
def optM (x : Re) (d : Int) (f : Nat → Ins) : Nat → Nat → Int → List Ins
  | 0, _, _ => []
  | n + 1, i, p => f i :: (x.code (p + 1) d ++ optM x d f n (i + 1) (p + ((x.len + 1 : Nat) : Int)))
theorem optM_len (x : Re) (d : Int) (f : Nat → Ins) : ∀ (n i : Nat) (p : Int), (optM x d f n i p).length = n * (x.len + 1)
  | 0, _, _ => by simp [optM]
  | n + 1, i, p => by rw [optM, List.length_cons, List.length_append, Re.code_len, optM_len x d f n, Nat.add_mul]; omega
theorem optM_congr (x : Re) (d : Int) (f f' : Nat → Ins) : ∀ (n i : Nat) (p : Int), (∀ m, i ≤ m → m < i + n → f m = f' m) → optM x d f n i p = optM x d f' n i p
  | 0, _, _, _ => rfl
  | n + 1, i, p, h => by rw [optM, optM, h i (Nat.le_refl _) (by omega), optM_congr x d f f' n (i + 1) _ (fun m h1 h2 => h m (by omega) (by omega))]
theorem optM_snoc (x : Re) (d : Int) (f : Nat → Ins) : ∀ (n i : Nat) (p : Int), optM x d f (n + 1) i p = optM x d f n i p ++ [f (i + n)] ++ x.code (p + ((n * (x.len + 1) : Nat) : Int) + 1) d
  | 0, i, p => by simp [optM]
  | n + 1, i, p => by
    rw [optM, optM_snoc x d f n (i + 1), optM, Nat.add_mul]
    simp only [List.cons_append, List.append_assoc]
    rw [show i + 1 + n = i + (n + 1) by omega, show p + ((x.len + 1 : Nat) : Int) + ((n * (x.len + 1) : Nat) : Int) + 1 = p + ((n * (x.len + 1) + 1 * (x.len + 1) : Nat) : Int) + 1 by push_cast; omega]
theorem optM_set (x : Re) (d : Int) (f : Nat → Ins) (v : Ins) : ∀ (n j i : Nat) (p : Int), j < n → (optM x d f n i p).set (j * (x.len + 1)) v = optM x d (fun m => if m = i + j then v else f m) n i p
  | 0, _, _, _, h => by omega
  | n + 1, 0, i, p, h => by
    rw [optM, optM, Nat.zero_mul, List.set_cons_zero, if_pos (by omega), optM_congr x d f (fun m => if m = i + 0 then v else f m) n (i + 1) _ (fun m h1 h2 => by rw [if_neg (by omega)])]
  | n + 1, j + 1, i, p, h => by
    rw [optM, optM, if_neg (by omega), Nat.add_mul, Nat.one_mul, show j * (x.len + 1) + (x.len + 1) = (x.len + j * (x.len + 1)) + 1 by omega, List.set_cons_succ, List.set_append_right _ _ (by rw [Re.code_len]; omega), Re.code_len,
      show x.len + j * (x.len + 1) - x.len = j * (x.len + 1) by omega, optM_set x d f v n j (i + 1) _ (by omega)]
    rw [show i + 1 + j = i + (j + 1) by omega]
theorem optM_optA (x : Re) (d : Int) (late : Bool) (f : Nat → Ins) : ∀ (n i : Nat) (p : Int), (∀ m, m < n → f (i + m) = spl (p + ((m * (x.len + 1) : Nat) : Int) + 1) (p + ((n * (x.len + 1) : Nat) : Int)) late) → optM x d f n i p = (optA x late n).code p d
  | 0, _, _, _ => rfl
  | n + 1, i, p, h => by
    rw [optM, optA, Re.code, Re.code]
    have h0 := h 0 (by omega)
    rw [Nat.add_zero] at h0
    rw [h0, Re.len, optA_len]
    have e1 : p + ((0 * (x.len + 1) : Nat) : Int) + 1 = p + 1 := by simp
    have e2 : p + (((n + 1) * (x.len + 1) : Nat) : Int) = p + ((x.len + n * (x.len + 1) : Nat) : Int) + 1 := by rw [Nat.add_mul]; push_cast; omega
    have e3 : p + ((x.len + 1 : Nat) : Int) = p + 1 + (x.len : Int) := by push_cast; omega
    rw [e1, e2, optM_optA x d late f n (i + 1) _ (fun m hm => ?_), e3]
    have := h (m + 1) (by omega)
    rw [show i + 1 + m = i + (m + 1) by omega, this]
    have e4 : p + (((m + 1) * (x.len + 1) : Nat) : Int) = p + ((x.len + 1 : Nat) : Int) + ((m * (x.len + 1) : Nat) : Int) := by rw [Nat.add_mul]; push_cast; omega
    have e5 : p + (((n + 1) * (x.len + 1) : Nat) : Int) = p + ((x.len + 1 : Nat) : Int) + ((n * (x.len + 1) : Nat) : Int) := by rw [Nat.add_mul]; push_cast; omega
    rw [e4, e5]
def splitsL (p m : Nat) (k : Nat) : List Nat := (List.range k).map fun i => p + i * m
theorem splitsL_len (p m k : Nat) : (splitsL p m k).length = k := by simp [splitsL]
theorem splitsL_next (p m k : Nat) : splitsL p m (k + 1) = splitsL p m k ++ [p + k * m] := by simp [splitsL, List.range_succ]
theorem splitsL_at (p m k j : Nat) (h : j < k) : (splitsL p m k)[j]? = some (p + j * m) := by simp [splitsL, h]
end Mt
/- layOptional. -/
set_option linter.unusedVariables false
set_option linter.unusedSimpArgs false
namespace Go.Proofs.Ytebpgfodelggoaa
open Go.RowKit

/-- The list of the splits. -/
structure SpAt (W : World) (base g : Nat) (co : Option Addr) (sp : Option Addr) (scap : Nat) (l : List Nat) : Prop where
  row : W.ownsRow base 3 1 (.slice sp l.length scap) l.length (opL l)
  ap : ∀ q, blk sp = some q → q ≠ g ∧ blk co ≠ some q
section
variable {W W' : World} {base g : Nat} {co co' sp : Option Addr} {scap : Nat} {l : List Nat}
theorem SpAt.lt (h : SpAt W base g co sp scap l) (q : Nat) (hq : blk sp = some q) : base ≤ q ∧ q < W.heap.size := World.ownsRow.lt h.row q (by rw [ownBlock_blk]; exact hq)
theorem SpAt.step (h : SpAt W base g co sp scap l) (s : LStep g co co' W W') : SpAt W' base g co' sp scap l :=
  ⟨row_keep h.row (fun q hq => s.block q (h.lt q hq).2 (h.ap q hq).1 (h.ap q hq).2), fun q hq => ⟨(h.ap q hq).1, fun e => (h.ap q hq).2 (s.sub q (h.lt q hq).2 e)⟩⟩
end
theorem LAt.grown {L : Nat} {w w1 : World} {g : Nat} {b : Mt.PB} {so ao : Option Addr} {sc ac : Nat} {co : Option Addr} {cc : Nat} {c : List Mt.Ins} {d : Int} {r : Option Nat} (h : LAt L w g b so ao sc ac co cc c d) (hg : w.grownBy w1 r) (hr : ∀ q, r = some q → q ≠ g ∧ blk co ≠ some q ∧ blk so ≠ some q ∧ blk ao ≠ some q) : LAt L w1 g b so ao sc ac co cc c d := by
  obtain ⟨l1, l2, l3, l4⟩ := h.lt
  exact ⟨by rw [hg.block g l1 (fun e => (hr g e.symm).1 rfl)]; exact h.cell, h.lo, ⟨row_keep h.tree.seqs (fun q hq => hg.block q (l3 q hq) (fun e => (hr q e.symm).2.2.1 hq)), row_keep h.tree.atoms (fun q hq => hg.block q (l4 q hq) (fun e => (hr q e.symm).2.2.2 hq))⟩, row_keep h.code (fun q hq => hg.block q (l2 q hq).2 (fun e => (hr q e.symm).2.1 hq)), h.ap⟩
theorem LStep.grown {w w1 w2 : World} {g : Nat} {co co1 : Option Addr} {r : Option Nat} (h : LStep g co co1 w w1) (hg : w1.grownBy w2 r) (hr : ∀ q, r = some q → w.heap.size ≤ q) : LStep g co co1 w w2 :=
  ⟨hg.os.trans h.os, hg.tape.trans h.tape, hg.output.trans h.output, Nat.le_trans h.size hg.size, fun k hk h1 h2 => (hg.block k (Nat.lt_of_lt_of_le hk h.size) (fun e => by have := hr k e.symm; omega)).trans (h.block k hk h1 h2), h.sub⟩
/-- A split's number behind the list. -/
theorem splits_mem {L : Nat} {w w1 w2 : World} {g : Nat} {b : Mt.PB} {so ao : Option Addr} {sc ac : Nat} {co co1 sp : Option Addr} {cc1 scap : Nat} {c1 : List Mt.Ins} {d : Int} {l : List Nat} {n q cap : Nat} {A : Mt.PA}
    (hA : LAt L w1 g b so ao sc ac co1 cc1 c1 d) (hS : LStep g co co1 w w1) (hB : Bx w1 g co1 w.heap.size A) (hP : SpAt w1 (w.heap.size + 1) g co1 sp scap l) (ho : ∀ q, blk so = some q ∨ blk ao = some q → q < w.heap.size) {E : Array Value} {te : TypeId}
    (hg : (w1.alloc (.cells E te)).grownBy w2 (blk sp)) (hq : blk sp = some q ∨ q = w1.heap.size + 1) (hown : w2.ownsRow (w.heap.size + 1) 3 1 (.slice (some ⟨q, 0, none⟩) (l.length + 1) cap) (l.length + 1) (opL l ++ [.int .i64 (n : Int)])) :
    LAt L w2 g b so ao sc ac co1 cc1 c1 d ∧ LStep g co co1 w w2 ∧ Bx w2 g co1 w.heap.size A ∧ SpAt w2 (w.heap.size + 1) g co1 (some ⟨q, 0, none⟩) cap (l ++ [n]) := by
  have h1 := hA.below ((Below.refl w1.heap.size w1).alloc (Nat.le_refl _) (.cells E te))
  have hb1 : Below w1.heap.size w1 (w1.alloc (.cells E te)) := (Below.refl w1.heap.size w1).alloc (Nat.le_refl _) (.cells E te)
  have hB1 := hB.step (LStep.below hb1 (co := co1))
  have hw := hB.lt
  have hgl := hA.lt
  refine ⟨h1.grown hg (fun q hq => ?_), ((hS.trans (LStep.below hb1)).grown hg (fun q hq => by have := (hP.lt q hq).1; omega)), ⟨?_, hB.ng, hB.nc⟩, ⟨?_, fun k hk => ?_⟩⟩
  · have := hP.lt q hq
    exact ⟨(hP.ap q hq).1, (hP.ap q hq).2, fun e => by have := ho q (Or.inl e); omega, fun e => by have := ho q (Or.inr e); omega⟩
  · rw [hg.block _ hB1.lt (fun e => by have := (hP.lt _ e.symm).1; omega)]; exact hB1.bk
  · have e1 : (l ++ [n]).length = l.length + 1 := by simp
    have e2 : opL (l ++ [n]) = opL l ++ [.int .i64 (n : Int)] := by simp [opL]
    rw [e1, e2]; exact hown
  · simp [blk] at hk
    subst hk
    rcases hq with hq | hq
    · exact hP.ap _ hq
    · subst hq
      exact ⟨fun e => by have := hgl.1; omega, fun e => by have := (hgl.2.1 _ e).2; omega⟩

theorem SpAt.cell {W : World} {base g : Nat} {co sp : Option Addr} {scap : Nat} {l : List Nat} (h : SpAt W base g co sp scap l) (j : Nat) (hj : j < l.length) : ∃ q, sp = some ⟨q, 0, none⟩ ∧ q < W.heap.size ∧ l.length ≤ scap ∧ W.cell? ⟨q, j, none⟩ = some (.int .i64 ((l.getD j 0 : Nat) : Int)) := by
  obtain ⟨gs, cap, hv, _, hlt⟩ := World.ownsRow.form h.row (by omega)
  simp only [Value.slice.injEq] at hv
  obtain ⟨rfl, _, rfl⟩ := hv
  rcases h.row.2 with ⟨e, _⟩ | ⟨g', cap', cur, hv, _, _, hc, _⟩
  · simp at e
  · simp only [Value.slice.injEq] at hv
    refine ⟨gs, rfl, hlt, by omega, ?_⟩
    rw [World.ownsRow.cellAt h.row j (by omega)]
    simp [opL, List.getD_eq_getElem?_getD, List.getElem?_eq_getElem hj]
/-- The code when j of the k splits are aimed. -/
def optN (x : Mt.Re) (d : Int) (p k : Nat) (late : Bool) (j : Nat) : List Mt.Ins :=
  Mt.optM x d (fun m => if m < j then Mt.spl (((p + m * (x.len + 1) : Nat) : Int) + 1) ((p + k * (x.len + 1) : Nat) : Int) late else ⟨2, 0, 0, []⟩) k 0 p
theorem optN_start (x : Mt.Re) (d : Int) (p k : Nat) (late : Bool) : optN x d p k late 0 = Mt.optM x d (fun _ => ⟨2, 0, 0, []⟩) k 0 p :=
  Mt.optM_congr _ _ _ _ _ _ _ (fun m h1 h2 => by rw [if_neg (by omega)])
theorem optN_next (x : Mt.Re) (d : Int) (c : List Mt.Ins) (k : Nat) (late : Bool) (j : Nat) (hj : j < k) : (c ++ optN x d c.length k late j).set (c.length + j * (x.len + 1)) (Mt.spl (((c.length + j * (x.len + 1) : Nat) : Int) + 1) ((c.length + k * (x.len + 1) : Nat) : Int) late) = c ++ optN x d c.length k late (j + 1) := by
  rw [List.set_append_right _ _ (by omega), Nat.add_sub_cancel_left]
  unfold optN
  rw [Mt.optM_set x d _ _ k j 0 _ hj]
  congr 1
  refine Mt.optM_congr _ _ _ _ _ _ _ (fun m h1 h2 => ?_)
  rw [Nat.zero_add]
  by_cases e : m = j
  · subst e; rw [if_pos rfl, if_pos (by omega)]
  · rw [if_neg e]
    by_cases e2 : m < j
    · rw [if_pos e2, if_pos (by omega)]
    · rw [if_neg e2, if_neg (by omega)]
theorem optN_end (x : Mt.Re) (d : Int) (p k : Nat) (late : Bool) : optN x d p k late k = (Mt.optA x late k).code p d := by
  unfold optN
  refine Mt.optM_optA _ _ _ _ _ _ _ (fun m hm => ?_)
  rw [Nat.zero_add, if_pos hm]
  push_cast
  rfl

section
variable {L : Nat} {g : Nat} {b : Mt.PB} {so ao : Option Addr} {sc ac : Nat} {d : Int}
set_option maxRecDepth 100000 in
set_option maxHeartbeats 4000000 in
theorem layOptional_prog (A : Mt.PA) (x : Mt.Re) (N : Nat) (hN : N ≤ 1000) (hX : Lays L g b so ao sc ac d 92 #[.pointer (some ⟨g, 0, none⟩), .agg (paC A).toArray] x) :
    Lays L g b so ao sc ac d 104 #[.pointer (some ⟨g, 0, none⟩), .agg (paC A).toArray, .int .i64 (N : Int)] (Mt.optA x (decide (A.rep.mood = 2)) N) := by
  intro w co cc c h hn
  obtain ⟨i0, hi, hz0, hz1, hz2⟩ := info_parts Try.infoInt
  rw [Mt.optA_len] at hn
  obtain ⟨hB, hW, hS⟩ := Bx.new h A
  have HX : Hid (Lays L g b so ao sc ac d 92 #[.pointer (some ⟨g, 0, none⟩), .agg (paC A).toArray] x) := hX
  have HS : Hid (LStep g co co w (w.alloc (.cells (paC A).toArray 125)) ∧ Bx (w.alloc (.cells (paC A).toArray 125)) g co w.heap.size A ∧ LAt L (w.alloc (.cells (paC A).toArray 125)) g b so ao sc ac co cc c d) := ⟨hS, hB, hW⟩
  have HN : Hid (c.length + N * (x.len + 1) ≤ 1000) := hn
  have HO : Hid (∀ q, blk so = some q ∨ blk ao = some q → q < w.heap.size) := fun q hq => hq.elim (h.lt.2.2.1 q) (h.lt.2.2.2 q)
  clear hB hW hS h hX hn
  go_enter Try.func104, Try.ntmps104
  go_upto_region 1 with fail
  generalize w.alloc (.cells (paC A).toArray 125) = W at *
  go_wp2_with fail
  go_loopw [6, 7] (fun u i wr => ∃ (k : Nat) (cor sp : Option Addr) (ccr scap : Nat), k ≤ N ∧ i = .int .i64 k ∧ u = .slice sp k scap ∧ LAt L wr g b so ao sc ac cor ccr (c ++ Mt.optM x d (fun _ => ⟨2, 0, 0, []⟩) k 0 c.length) d ∧ LStep g co cor w wr ∧ Bx wr g cor w.heap.size A ∧ SpAt wr (w.heap.size + 1) g cor sp scap (Mt.splitsL c.length (x.len + 1) k)) (fun _ i _ => N - (intOf i).toNat)
  case atStart => exact ⟨0, co, none, cc, 0, Nat.zero_le _, rfl, rfl, by simpa [Mt.optM] using HS.out.2.2, HS.out.1, HS.out.2.1, World.ownsRow_nil _ _ _ _, fun q hq => by simp [blk] at hq⟩
  case round =>
    obtain ⟨k, cor, sp, ccr, scap, hk, rfl, rfl, hA, hSr, hBr, hPr⟩ := hrel
    by_cases hlt : k < N
    · have hkN : (k : Int) < (N : Int) := by omega
      have hm : (k + 1) * (x.len + 1) ≤ N * (x.len + 1) := Nat.mul_le_mul_right _ (by omega)
      have hm' : (k + 1) * (x.len + 1) = k * (x.len + 1) + (x.len + 1) := by rw [Nat.add_mul, Nat.one_mul]
      have hl : (c ++ Mt.optM x d (fun _ => ⟨2, 0, 0, []⟩) k 0 c.length).length = c.length + k * (x.len + 1) := by rw [List.length_append, Mt.optM_len]
      have hNo := HN.out
      have hM1 : c.length + k * (x.len + 1) + x.len + 1 ≤ 1000 := by omega
      have H1 := put_prog (x := ⟨2, 0, 0, []⟩) hA (by rw [hl]; omega)
      rw [hl] at H1
      have H1' : Hid (Calls Try.prog 39 #[.pointer (some ⟨g, 0, none⟩), .agg (insA ⟨2, 0, 0, []⟩)] wr _) := H1
      have HSr : Hid (LStep g co cor w wr ∧ Bx wr g cor w.heap.size A ∧ SpAt wr (w.heap.size + 1) g cor sp scap (Mt.splitsL c.length (x.len + 1) k)) := ⟨hSr, hBr, hPr⟩
      have HSN : Hid (c ++ Mt.optM x d (fun _ => ⟨2, 0, 0, []⟩) k 0 c.length ++ [⟨2, 0, 0, []⟩] ++ x.code ((c.length + k * (x.len + 1) + 1 : Nat) : Int) d = c ++ Mt.optM x d (fun _ => ⟨2, 0, 0, []⟩) (k + 1) 0 c.length) := by
        show _ = _; rw [Mt.optM_snoc, List.append_assoc, List.append_assoc]; simp
      have hl2 : (c ++ Mt.optM x d (fun _ => ⟨2, 0, 0, []⟩) k 0 c.length ++ [(⟨2, 0, 0, []⟩ : Mt.Ins)]).length = c.length + k * (x.len + 1) + 1 := by rw [List.length_append, hl]; rfl
      have HSL : Hid (Mt.splitsL c.length (x.len + 1) (k + 1) = Mt.splitsL c.length (x.len + 1) k ++ [c.length + k * (x.len + 1)]) := Mt.splitsL_next _ _ _
      have hsl := Mt.splitsL_len c.length (x.len + 1) k
      clear hA hSr hBr hPr hl H1
      generalize c.length + k * (x.len + 1) = M at *
      unfold insA at H1'
      go_wp2_with fail
      refine H1'.out.mono ?_
      rintro e w1 ⟨rfl, q1, cap1, hA, hS⟩
      have S1 : Hid (LAt L w1 g b so ao sc ac (some ⟨q1, 0, none⟩) cap1 (c ++ Mt.optM x d (fun _ => ⟨2, 0, 0, []⟩) k 0 c.length ++ [⟨2, 0, 0, []⟩]) d ∧ LStep g co (some ⟨q1, 0, none⟩) w w1 ∧ Bx w1 g (some ⟨q1, 0, none⟩) w.heap.size A ∧ SpAt w1 (w.heap.size + 1) g (some ⟨q1, 0, none⟩) sp scap (Mt.splitsL c.length (x.len + 1) k)) := ⟨hA, HSr.out.1.trans hS, HSr.out.2.1.step hS, HSr.out.2.2.step hS⟩
      have HR : Hid (w1.ownsRow (w.heap.size + 1) 3 1 (.slice sp k scap) k (opL (Mt.splitsL c.length (x.len + 1) k))) := by
        have := S1.out.2.2.2.row; rw [hsl] at this; exact this
      have hsz1 : w.heap.size < w1.heap.size := S1.out.2.2.1.lt
      clear hA hS
      go_wp2_with (at_builtin; refine wpList_append_lies _ rfl _ _ 67 rfl (w.heap.size + 1) 3 i0 _ 1 8 Try.underlying67 hi hz0 hz1 hz2 rfl (by decide) _ k _ rfl (World.ownsRow.alloc HR.out _) ⟨w1.heap.size, 0, none⟩ 1 1 [.int .i64 (M : Int)] rfl rfl (news_cells _ _ _) (by simp [Value.oneCell']) (by decide) (by unfold maxLen; omega) (by omega) (by simp; omega) (w1.heap.size + 1) (by simp) ?_)
      intro q cap w2 hown hgrow hq hqlt
      rw [ownBlock_blk] at hgrow hq
      have hMM := splits_mem S1.out.1 S1.out.2.1 S1.out.2.2.1 S1.out.2.2.2 HO.out (n := M) hgrow hq (by rw [hsl]; exact hown)
      rw [← HSL.out] at hMM
      have H3 : Hid (Calls Try.prog 92 #[.pointer (some ⟨g, 0, none⟩), .agg (paC A).toArray] w2 _) := HX.out _ _ _ _ hMM.1 (by rw [hl2]; omega)
      have HBK := hMM.2.2.1.bk
      have S2 : Hid (LStep g co (some ⟨q1, 0, none⟩) w w2 ∧ Bx w2 g (some ⟨q1, 0, none⟩) w.heap.size A ∧ SpAt w2 (w.heap.size + 1) g (some ⟨q1, 0, none⟩) (some ⟨q, 0, none⟩) cap (Mt.splitsL c.length (x.len + 1) (k + 1))) := hMM.2
      clear hown hgrow hq hqlt hMM HR S1
      go_wp2_with (refine load_blk 125 20 Try.underlying125 rfl Try.sizeAt (by rfl) (.tmp 4) (by rfl) w.heap.size (by rfl) HBK (by rfl) ?_)
      refine H3.out.mono ?_
      rintro e w3 ⟨rfl, co3, cc3, hA, hS⟩
      rw [hl2, HSN.out] at hA
      have S3 : Hid (LAt L w3 g b so ao sc ac co3 cc3 (c ++ Mt.optM x d (fun _ => ⟨2, 0, 0, []⟩) (k + 1) 0 c.length) d ∧ LStep g co co3 w w3 ∧ Bx w3 g co3 w.heap.size A ∧ SpAt w3 (w.heap.size + 1) g co3 (some ⟨q, 0, none⟩) cap (Mt.splitsL c.length (x.len + 1) (k + 1))) := ⟨hA, S2.out.1.trans hS, S2.out.2.1.step hS, S2.out.2.2.step hS⟩
      clear hA hS HBK
      go_wp2_with fail
      go_roundw
      case measure => show N - ((k : Int) + 1).toNat < N - (k : Int).toNat; omega
      case rel => exact ⟨k + 1, co3, some ⟨q, 0, none⟩, cc3, cap, by omega, by go_num, rfl, S3.out⟩
    · have ek : k = N := by omega
      subst ek
      have HA0 : Hid (LAt L wr g b so ao sc ac cor ccr (c ++ Mt.optM x d (fun _ => ⟨2, 0, 0, []⟩) k 0 c.length) d ∧ LStep g co cor w wr ∧ Bx wr g cor w.heap.size A ∧ SpAt wr (w.heap.size + 1) g cor sp scap (Mt.splitsL c.length (x.len + 1) k)) := ⟨hA, hSr, hBr, hPr⟩
      clear hA hSr hBr hPr HS HX
      have HCN := optN_start x d c.length k (decide (A.rep.mood = 2))
      rename World => wz
      go_wp2_with fail
      go_loopw [28] (fun i wr => ∃ (j : Nat), j ≤ k ∧ i = .int .i64 j ∧ LAt L wr g b so ao sc ac cor ccr (c ++ optN x d c.length k (decide (A.rep.mood = 2)) j) d ∧ LStep g co cor w wr ∧ Bx wr g cor w.heap.size A ∧ SpAt wr (w.heap.size + 1) g cor sp scap (Mt.splitsL c.length (x.len + 1) k)) (fun i _ => k - (intOf i).toNat)
      case atStart => exact ⟨0, Nat.zero_le _, rfl, by rw [HCN]; exact HA0.out.1, HA0.out.2⟩
      case round =>
        obtain ⟨j, hj, rfl, hA, hSr, hBr, hPr⟩ := hrel
        by_cases hlt2 : j < k
        · have hjk : (j : Int) < (k : Int) := by omega
          have hm : (j + 1) * (x.len + 1) ≤ k * (x.len + 1) := Nat.mul_le_mul_right _ (by omega)
          have hm' : (j + 1) * (x.len + 1) = j * (x.len + 1) + (x.len + 1) := by rw [Nat.add_mul, Nat.one_mul]
          have hNo := HN.out
          have hl : (c ++ optN x d c.length k (decide (A.rep.mood = 2)) j).length = c.length + k * (x.len + 1) := by rw [List.length_append]; unfold optN; rw [Mt.optM_len]
          obtain ⟨qs, hsp, hqs, hsc, hcell⟩ := hPr.cell j (by rw [Mt.splitsL_len]; exact hlt2)
          rw [Mt.splitsL_len] at hsc
          subst hsp
          rw [List.getD_eq_getElem?_getD, Mt.splitsL_at _ _ _ _ hlt2, Option.getD_some] at hcell
          have b15 := hBr.cell 15
          change _ = some (Value.int .i64 A.rep.mood) at b15
          have H1 := aim_prog (c.length + j * (x.len + 1)) A.rep.mood hA (by rw [hl]; omega) (by rw [hl]; omega)
          rw [hl, optN_next x d c k (decide (A.rep.mood = 2)) j hlt2] at H1
          have H1' : Hid (Calls Try.prog 106 #[.pointer (some ⟨g, 0, none⟩), .int .i64 ((c.length + j * (x.len + 1) : Nat) : Int), .int .i64 A.rep.mood] wr _) := H1
          have HSr : Hid (LStep g co cor w wr ∧ Bx wr g cor w.heap.size A ∧ SpAt wr (w.heap.size + 1) g cor (some ⟨qs, 0, none⟩) scap (Mt.splitsL c.length (x.len + 1) k)) := ⟨hSr, hBr, hPr⟩
          clear hA hSr hBr hPr H1 HA0
          generalize c.length + j * (x.len + 1) = M at *
          go_wp2_with fail
          refine H1'.out.mono ?_
          rintro e w3 ⟨rfl, hA, hS⟩
          have S3 : Hid (LAt L w3 g b so ao sc ac cor ccr (c ++ optN x d c.length k (decide (A.rep.mood = 2)) (j + 1)) d ∧ LStep g co cor w w3 ∧ Bx w3 g cor w.heap.size A ∧ SpAt w3 (w.heap.size + 1) g cor (some ⟨qs, 0, none⟩) scap (Mt.splitsL c.length (x.len + 1) k)) := ⟨hA, HSr.out.1.trans hS, HSr.out.2.1.step hS, HSr.out.2.2.step hS⟩
          clear hA hS
          go_wp2_with fail
          go_roundw
          case measure => show k - ((j : Int) + 1).toNat < k - (j : Int).toNat; omega
          case rel => exact ⟨j + 1, by omega, by go_num, S3.out⟩
        · have ek : j = k := by omega
          subst ek
          rw [optN_end] at hA
          have HD : Hid (LDone L g b so ao sc ac d co w (c ++ (Mt.optA x (decide (A.rep.mood = 2)) j).code c.length d) wr) := ⟨_, _, hA, hSr⟩
          clear hA hSr hBr hPr
          go_wp2_with fail
          go_returns
          exact ⟨rfl, HD.out⟩
end
end Go.Proofs.Ytebpgfodelggoaa
