import Derived.Test.YtebpgfodelggoaaC35
/- layRepeat, layPart. -/
set_option linter.unusedVariables false
set_option linter.unusedSimpArgs false
namespace Mt
/-- What layRepeat lays. -/
def repR (x : Re) (q : Tok) : Re := if q.m = -1 then .cat (timesA x q.n.toNat) (.loop (decide (q.how = 1)) x) else .cat (timesA x q.n.toNat) (optA x (decide (q.how = 1)) (q.m - q.n).toNat)
theorem repA_code (x : Re) (q : Tok) (h : repOk' q) (p d : Int) : (repA x q).code p d = (if q.how = 2 then Re.sub 0 (repR x q) else repR x q).code p d ∧ (repA x q).len = (if q.how = 2 then Re.sub 0 (repR x q) else repR x q).len := by
  obtain ⟨h1, h2, h3, h4, h5, h6, h7⟩ := h
  have key : ∀ p d : Int, (let c1 := if 0 < q.n ∨ 0 < q.m then (if q.n < q.m then Re.cat (timesA x q.n.toNat) (optA x (decide (q.how = 1)) (q.m - q.n).toNat) else timesA x q.n.toNat) else Re.eps
      if q.m < 0 then Re.cat c1 (.loop (decide (q.how = 1)) x) else c1).code p d = (repR x q).code p d := by
    intro p d
    dsimp only
    unfold repR
    by_cases c : q.m = -1
    · rw [if_pos (show q.m < 0 by omega), if_pos c]
      by_cases a : 0 < q.n ∨ 0 < q.m
      · rw [if_pos a, if_neg (by omega)]
      · rw [if_neg a, show q.n.toNat = 0 by omega]; rfl
    · rw [if_neg (show ¬ q.m < 0 by omega), if_neg c]
      by_cases a : 0 < q.n ∨ 0 < q.m
      · rw [if_pos a]
        by_cases e : q.n < q.m
        · rw [if_pos e]
        · rw [if_neg e, show (q.m - q.n).toNat = 0 by omega]; simp [optA, Re.code]
      · rw [if_neg a, show q.n.toNat = 0 by omega, show (q.m - q.n).toNat = 0 by omega]; rfl
  have key2 := key p d
  unfold repA
  dsimp only at key key2 ⊢
  generalize (if q.m < 0 then (if 0 < q.n ∨ 0 < q.m then (if q.n < q.m then Re.cat (timesA x q.n.toNat) (optA x (decide (q.how = 1)) (q.m - q.n).toNat) else timesA x q.n.toNat) else Re.eps).cat (Re.loop (decide (q.how = 1)) x) else (if 0 < q.n ∨ 0 < q.m then (if q.n < q.m then Re.cat (timesA x q.n.toNat) (optA x (decide (q.how = 1)) (q.m - q.n).toNat) else timesA x q.n.toNat) else Re.eps)) = Z at *
  have kl : Z.len = (repR x q).len := by rw [← Re.code_len Z 0 0, ← Re.code_len (repR x q) 0 0, key]
  by_cases e : q.how = 2
  · rw [if_pos e, if_pos e]
    exact ⟨by simp only [Re.code]; rw [key, kl], by simp only [Re.len]; rw [kl]⟩
  · rw [if_neg e, if_neg e]
    exact ⟨key2, kl⟩
end Mt
namespace Go.Proofs.Ytebpgfodelggoaa
open Go.RowKit

section
variable {L : Nat} {g : Nat} {b : Mt.PB} {so ao : Option Addr} {sc ac : Nat} {d : Int}
theorem Lays.congr {fn : Nat} {args : Array Value} {X Y : Mt.Re} (h : Lays L g b so ao sc ac d fn args X) (hl : X.len = Y.len) (hc : ∀ p, X.code p d = Y.code p d) : Lays L g b so ao sc ac d fn args Y := by
  intro w co cc c hA hn
  have := h w co cc c hA (by omega)
  rw [hc] at this
  exact this

set_option maxRecDepth 100000 in
set_option maxHeartbeats 2000000 in
theorem layRepeat_prog (A : Mt.PA) (x : Mt.Re) (q : Mt.Tok) (hq : q.kind = 8) (hok : Mt.repOk' q) (hr : A.rep = Mt.ptok q) (hd0 : 0 ≤ d) (hd : d ≤ 1000) (hX : Lays L g b so ao sc ac d 92 #[.pointer (some ⟨g, 0, none⟩), .agg (paC A).toArray] x) (hX1 : Lays L g b so ao sc ac (d + 1) 92 #[.pointer (some ⟨g, 0, none⟩), .agg (paC A).toArray] x) :
    Lays L g b so ao sc ac d 93 #[.pointer (some ⟨g, 0, none⟩), .agg (paC A).toArray] (Mt.repR x q) := by
  intro w co cc c h hn
  obtain ⟨o1, o2, o3, o4, o5, o6, o7⟩ := hok
  have e13 : A.rep.least = q.n := by rw [hr]; simp [Mt.ptok, hq]
  have e14 : A.rep.most = q.m := by rw [hr]; simp [Mt.ptok, hq]
  have e15 : decide (A.rep.mood = 2) = decide (q.how = 1) := by
    have : A.rep.mood = q.how + 1 := by rw [hr]; simp [Mt.ptok, hq]
    rw [this]; congr 1; apply propext; omega
  obtain ⟨N, hN⟩ := Int.eq_ofNat_of_zero_le o1
  have hNt : q.n.toNat = N := by omega
  have HT : Hid (Lays L g b so ao sc ac d 102 #[.pointer (some ⟨g, 0, none⟩), .agg (paC A).toArray, .int .i64 (N : Int)] (Mt.timesA x N)) := layTimes_prog A x N (by omega) hX
  obtain ⟨hB, hW, hS⟩ := Bx.new h A
  have hlt : ∀ z : Int, (c ++ (Mt.timesA x N).code z d).length = c.length + (Mt.timesA x N).len := fun z => by rw [List.length_append, Mt.Re.code_len]
  have b13 := hB.cell 13
  change _ = some (Value.int .i64 A.rep.least) at b13
  rw [e13, hN] at b13
  have HBK := hB.bk
  have HS : Hid (LStep g co co w (w.alloc (.cells (paC A).toArray 125)) ∧ Bx (w.alloc (.cells (paC A).toArray 125)) g co w.heap.size A) := ⟨hS, hB⟩
  by_cases hm : q.m = -1
  · have HL : Hid (Lays L g b so ao sc ac d 103 #[.pointer (some ⟨g, 0, none⟩), .agg (paC A).toArray] (.loop (decide (q.how = 1)) x)) := by
      show Lays _ _ _ _ _ _ _ _ _ _ _; rw [← e15]; exact layLoop_prog A x hd0 hd hX1
    have eR : Mt.repR x q = .cat (Mt.timesA x N) (.loop (decide (q.how = 1)) x) := by unfold Mt.repR; rw [if_pos hm, hNt]
    rw [eR] at hn ⊢
    have hn2 : c.length + (Mt.timesA x N).len + (Mt.Re.loop (decide (q.how = 1)) x).len ≤ 1000 := by simp only [Mt.Re.len] at hn ⊢; omega
    have H1 : Hid (Calls Try.prog 102 #[.pointer (some ⟨g, 0, none⟩), .agg (paC A).toArray, .int .i64 (N : Int)] (w.alloc (.cells (paC A).toArray 125)) _) := HT.out _ _ _ _ hW (by omega)
    have HM : Hid (A.rep.most = -1) := by show _ = _; rw [e14, hm]
    have HE : Hid (c ++ (Mt.Re.cat (Mt.timesA x N) (.loop (decide (q.how = 1)) x)).code c.length d = c ++ (Mt.timesA x N).code c.length d ++ (Mt.Re.loop (decide (q.how = 1)) x).code ((c.length + (Mt.timesA x N).len : Nat) : Int) d) := by
      show _ = _; rw [Mt.Re.code, List.append_assoc]; push_cast; rfl
    rw [HE.out]
    clear hB hW hS h hX hX1 hn e13 e14 e15 eR HE hr hN hNt
    generalize hRL : Mt.Re.loop (decide (q.how = 1)) x = RL at *
    generalize hRT : Mt.timesA x N = RT at *
    clear hRL hRT
    go_enter Try.func93, Try.ntmps93
    go_upto_region 1 with fail
    generalize w.alloc (.cells (paC A).toArray 125) = W at *
    go_wp2_with (refine load_blk 125 20 Try.underlying125 rfl Try.sizeAt (by rfl) (.tmp 3) (by rfl) w.heap.size (by rfl) HBK (by rfl) ?_)
    refine H1.out.mono ?_
    rintro e w1 ⟨rfl, co1, cc1, hA, hS⟩
    have H2' := HL.out _ _ _ _ hA (by rw [hlt]; omega)
    rw [hlt] at H2'
    have H2 : Hid (Calls Try.prog 103 #[.pointer (some ⟨g, 0, none⟩), .agg (paC A).toArray] w1 _) := H2'
    have B1 := HS.out.2.step hS
    have b14 := B1.cell 14
    change _ = some (Value.int .i64 A.rep.most) at b14
    rw [HM.out] at b14
    have HBK1 := B1.bk
    have S1 : Hid (LStep g co co1 w w1) := HS.out.1.trans hS
    clear hA hS B1 H2' HBK HS
    go_wp2_with (refine load_blk 125 20 Try.underlying125 rfl Try.sizeAt (by rfl) (.tmp 3) (by rfl) w.heap.size (by rfl) HBK1 (by rfl) ?_)
    refine H2.out.mono ?_
    rintro e w3 ⟨rfl, hD⟩
    have HD : Hid _ := done_trans S1.out hD
    clear hD
    go_wp2_with fail
    go_returns
    exact ⟨rfl, HD.out⟩
  · obtain ⟨M, hM⟩ := Int.eq_ofNat_of_zero_le (show 0 ≤ q.m by omega)
    have hMt : (q.m - q.n).toNat = M - N := by omega
    have hNM : N ≤ M := by omega
    have HL : Hid (Lays L g b so ao sc ac d 104 #[.pointer (some ⟨g, 0, none⟩), .agg (paC A).toArray, .int .i64 ((M - N : Nat) : Int)] (Mt.optA x (decide (q.how = 1)) (M - N))) := by
      show Lays _ _ _ _ _ _ _ _ _ _ _; rw [← e15]; exact layOptional_prog A x (M - N) (by omega) hX
    have eR : Mt.repR x q = .cat (Mt.timesA x N) (Mt.optA x (decide (q.how = 1)) (M - N)) := by unfold Mt.repR; rw [if_neg hm, hNt, hMt]
    rw [eR] at hn ⊢
    have hn2 : c.length + (Mt.timesA x N).len + (Mt.optA x (decide (q.how = 1)) (M - N)).len ≤ 1000 := by simp only [Mt.Re.len] at hn ⊢; omega
    have H1 : Hid (Calls Try.prog 102 #[.pointer (some ⟨g, 0, none⟩), .agg (paC A).toArray, .int .i64 (N : Int)] (w.alloc (.cells (paC A).toArray 125)) _) := HT.out _ _ _ _ hW (by omega)
    have HM : Hid (A.rep.most = (M : Int) ∧ A.rep.least = (N : Int)) := ⟨by rw [e14, hM], by rw [e13, hN]⟩
    have HE : Hid (c ++ (Mt.Re.cat (Mt.timesA x N) (Mt.optA x (decide (q.how = 1)) (M - N))).code c.length d = c ++ (Mt.timesA x N).code c.length d ++ (Mt.optA x (decide (q.how = 1)) (M - N)).code ((c.length + (Mt.timesA x N).len : Nat) : Int) d) := by
      show _ = _; rw [Mt.Re.code, List.append_assoc]; push_cast; rfl
    rw [HE.out]
    have hM20 : M ≤ 20 := by omega
    have bt : ((M : Int) == -1) = false := by simp
    have hsub : (M : Int) - (N : Int) = ((M - N : Nat) : Int) := by omega
    rw [← hsub] at HL
    clear hB hW hS h hX hX1 hn e13 e14 e15 eR HE hr hN hNt hMt hm hM
    generalize hRL : Mt.optA x (decide (q.how = 1)) (M - N) = RL at *
    generalize hRT : Mt.timesA x N = RT at *
    clear hRL hRT hsub
    go_enter Try.func93, Try.ntmps93
    go_upto_region 1 with fail
    generalize w.alloc (.cells (paC A).toArray 125) = W at *
    go_wp2_with (refine load_blk 125 20 Try.underlying125 rfl Try.sizeAt (by rfl) (.tmp 3) (by rfl) w.heap.size (by rfl) HBK (by rfl) ?_)
    refine H1.out.mono ?_
    rintro e w1 ⟨rfl, co1, cc1, hA, hS⟩
    have H2' := HL.out _ _ _ _ hA (by rw [hlt]; omega)
    rw [hlt] at H2'
    have H2 : Hid (Calls Try.prog 104 #[.pointer (some ⟨g, 0, none⟩), .agg (paC A).toArray, .int .i64 ((M : Int) - (N : Int))] w1 _) := H2'
    have B1 := HS.out.2.step hS
    have b14 := B1.cell 14
    change _ = some (Value.int .i64 A.rep.most) at b14
    rw [HM.out.1] at b14
    have d13 := B1.cell 13
    change _ = some (Value.int .i64 A.rep.least) at d13
    rw [HM.out.2] at d13
    have HBK1 := B1.bk
    have S1 : Hid (LStep g co co1 w w1) := HS.out.1.trans hS
    clear hA hS B1 H2' HBK HS
    go_wp2_with (refine load_blk 125 20 Try.underlying125 rfl Try.sizeAt (by rfl) (.tmp 3) (by rfl) w.heap.size (by rfl) HBK1 (by rfl) ?_)
    refine H2.out.mono ?_
    rintro e w3 ⟨rfl, hD⟩
    have HD : Hid _ := done_trans S1.out hD
    clear hD
    go_wp2_with fail
    go_returns
    exact ⟨rfl, HD.out⟩
end
end Go.Proofs.Ytebpgfodelggoaa
/- layPart. -/
set_option linter.unusedVariables false
set_option linter.unusedSimpArgs false
namespace Go.Proofs.Ytebpgfodelggoaa
open Go.RowKit

section
variable {L : Nat} {g : Nat} {b : Mt.PB} {so ao : Option Addr} {sc ac : Nat} {d : Int}
set_option maxRecDepth 100000 in
set_option maxHeartbeats 2000000 in
theorem layPart_one (A : Mt.PA) (x : Mt.Re) (hk : A.rep.kind = 0) (hX : Lays L g b so ao sc ac d 92 #[.pointer (some ⟨g, 0, none⟩), .agg (paC A).toArray] x) :
    Lays L g b so ao sc ac d 73 #[.pointer (some ⟨g, 0, none⟩), .agg (paC A).toArray] x := by
  intro w co cc c h hn
  obtain ⟨hB, hW, hS⟩ := Bx.new h A
  have HC : Hid (Calls Try.prog 92 #[.pointer (some ⟨g, 0, none⟩), .agg (paC A).toArray] (w.alloc (.cells (paC A).toArray 125)) _) := hX _ _ _ _ hW hn
  have a9 := hB.cell 9
  change _ = some (Value.int .i64 A.rep.kind) at a9
  rw [hk] at a9
  have HBK := hB.bk
  have HS : Hid (LStep g co co w (w.alloc (.cells (paC A).toArray 125))) := hS
  clear hB hW hS h hk hX
  go_enter Try.func73, Try.ntmps73
  go_upto_region 1 with fail
  generalize w.alloc (.cells (paC A).toArray 125) = W at *
  go_wp2_with (refine load_blk 125 20 Try.underlying125 rfl Try.sizeAt (by rfl) (.tmp 3) (by rfl) w.heap.size (by rfl) HBK (by rfl) ?_)
  refine HC.out.mono ?_
  rintro e w3 ⟨rfl, hD⟩
  have HD : Hid _ := done_trans HS.out hD
  clear hD
  go_wp2_with fail
  go_returns
  exact ⟨rfl, HD.out⟩

set_option maxRecDepth 100000 in
set_option maxHeartbeats 2000000 in
theorem layPart_rep (A : Mt.PA) (X : Mt.Re) (hk : A.rep.kind = 4) (hm : (A.rep.mood != 3) = true) (hX : Lays L g b so ao sc ac d 93 #[.pointer (some ⟨g, 0, none⟩), .agg (paC A).toArray] X) :
    Lays L g b so ao sc ac d 73 #[.pointer (some ⟨g, 0, none⟩), .agg (paC A).toArray] X := by
  intro w co cc c h hn
  obtain ⟨hB, hW, hS⟩ := Bx.new h A
  have HC : Hid (Calls Try.prog 93 #[.pointer (some ⟨g, 0, none⟩), .agg (paC A).toArray] (w.alloc (.cells (paC A).toArray 125)) _) := hX _ _ _ _ hW hn
  have a9 := hB.cell 9
  change _ = some (Value.int .i64 A.rep.kind) at a9
  rw [hk] at a9
  have a15 := hB.cell 15
  change _ = some (Value.int .i64 A.rep.mood) at a15
  have HBK := hB.bk
  have HS : Hid (LStep g co co w (w.alloc (.cells (paC A).toArray 125))) := hS
  clear hB hW hS h hk hX
  go_enter Try.func73, Try.ntmps73
  go_upto_region 1 with fail
  generalize w.alloc (.cells (paC A).toArray 125) = W at *
  go_wp2_with (refine load_blk 125 20 Try.underlying125 rfl Try.sizeAt (by rfl) (.tmp 3) (by rfl) w.heap.size (by rfl) HBK (by rfl) ?_)
  refine HC.out.mono ?_
  rintro e w3 ⟨rfl, hD⟩
  have HD : Hid _ := done_trans HS.out hD
  clear hD
  go_wp2_with fail
  go_returns
  exact ⟨rfl, HD.out⟩

set_option maxRecDepth 100000 in
set_option maxHeartbeats 2000000 in
theorem layPart_poss (A : Mt.PA) (X : Mt.Re) (hk : A.rep.kind = 4) (hm : A.rep.mood = 3) (hX : Lays L g b so ao sc ac d 93 #[.pointer (some ⟨g, 0, none⟩), .agg (paC A).toArray] X) :
    Lays L g b so ao sc ac d 73 #[.pointer (some ⟨g, 0, none⟩), .agg (paC A).toArray] (.sub 0 X) := by
  intro w co cc c h hn
  have hn' : c.length + X.len + 2 ≤ 1000 := by simp only [Mt.Re.len] at hn; omega
  obtain ⟨hB, hW, hS⟩ := Bx.new h A
  have HP : Hid (Calls Try.prog 39 #[.pointer (some ⟨g, 0, none⟩), .agg (insA ⟨11, 0, 0, []⟩)] (w.alloc (.cells (paC A).toArray 125)) _) := put_prog (x := ⟨11, 0, 0, []⟩) hW (by omega)
  have HX : Hid (Lays L g b so ao sc ac d 93 #[.pointer (some ⟨g, 0, none⟩), .agg (paC A).toArray] X) := hX
  have HE : Hid (c ++ (Mt.Re.sub 0 X).code c.length d = (c ++ [(⟨11, 0, 0, []⟩ : Mt.Ins)] ++ X.code ((c.length + 1 : Nat) : Int) d).set c.length ⟨11, 0, (c.length + 1 + X.len : Nat) + 1, []⟩ ++ [⟨12, 0, 0, []⟩]) := by
    show _ = _; rw [set_mid]; simp [Mt.Re.code]; omega
  rw [HE.out]
  have hl : (c ++ [(⟨11, 0, 0, []⟩ : Mt.Ins)]).length = c.length + 1 := by simp
  have hl2 : ∀ z : Int, (c ++ [(⟨11, 0, 0, []⟩ : Mt.Ins)] ++ X.code z d).length = c.length + 1 + X.len := fun z => by rw [List.length_append, hl, Mt.Re.code_len]
  have a9 := hB.cell 9
  change _ = some (Value.int .i64 A.rep.kind) at a9
  rw [hk] at a9
  have a15 := hB.cell 15
  change _ = some (Value.int .i64 A.rep.mood) at a15
  rw [hm] at a15
  have HS0 : Hid (LStep g co co w (w.alloc (.cells (paC A).toArray 125)) ∧ Bx (w.alloc (.cells (paC A).toArray 125)) g co w.heap.size A) := ⟨hS, hB⟩
  clear hB hW hS h hk hX hm hn
  unfold insA at HP
  go_enter Try.func73, Try.ntmps73
  go_upto_region 1 with fail
  generalize w.alloc (.cells (paC A).toArray 125) = W at *
  go_wp2_with fail
  refine HP.out.mono ?_
  rintro e w1 ⟨rfl, q1, cap1, hA, hS⟩
  have H1 : Hid (Calls Try.prog 93 #[.pointer (some ⟨g, 0, none⟩), .agg (paC A).toArray] w1 _) := HX.out w1 _ _ _ hA (by rw [hl]; omega)
  have HS : Hid (LStep g co (some ⟨q1, 0, none⟩) w w1) := HS0.out.1.trans hS
  have HBK := (HS0.out.2.step hS).bk
  clear hA hS HS0
  go_wp2_with (refine load_blk 125 20 Try.underlying125 rfl Try.sizeAt (by rfl) (.tmp 3) (by rfl) w.heap.size (by rfl) HBK (by rfl) ?_)
  refine H1.out.mono ?_
  rintro e w2 ⟨rfl, co2, cc2, hA, hS⟩
  rw [hl] at hA
  have H2 := endSub_prog c.length hA (by rw [hl2]; omega) (by rw [hl2]; omega)
  rw [get_mid, hl2] at H2
  have H2' : Hid (Calls Try.prog 94 #[.pointer (some ⟨g, 0, none⟩), .int .i64 ((c.length : Nat) : Int)] w2 _) := H2
  have HS2 : Hid (LStep g co co2 w w2) := HS.out.trans hS
  clear hA hS H2 HBK
  go_wp2_with fail
  refine H2'.out.mono ?_
  rintro e w3 ⟨rfl, hD⟩
  have HD : Hid _ := done_trans HS2.out hD
  clear hD
  go_wp2_with fail
  go_returns
  exact ⟨rfl, HD.out⟩

theorem layPart_prog (A : Mt.PA) (x : Mt.Re) (r : Option Mt.Tok) (hr : A.rep = Mt.rp r) (hk : Mt.repK r) (hok : Mt.repsOk r) (hd0 : 0 ≤ d) (hd : d ≤ 1000) (hX : Lays L g b so ao sc ac d 92 #[.pointer (some ⟨g, 0, none⟩), .agg (paC A).toArray] x) (hX1 : Lays L g b so ao sc ac (d + 1) 92 #[.pointer (some ⟨g, 0, none⟩), .agg (paC A).toArray] x) :
    Lays L g b so ao sc ac d 73 #[.pointer (some ⟨g, 0, none⟩), .agg (paC A).toArray] (Mt.part r x) := by
  cases r with
  | none => exact layPart_one A x (by rw [hr]; rfl) hX
  | some q =>
    have hq := hk q rfl
    have ho := hok q rfl
    have hr' : A.rep = Mt.ptok q := hr
    have hR := layRepeat_prog A x q hq ho hr' hd0 hd hX hX1
    have k4 : A.rep.kind = 4 := by rw [hr', Mt.ptok_kind, hq]; rfl
    have km : A.rep.mood = q.how + 1 := by rw [hr']; simp [Mt.ptok, hq]
    show Lays L g b so ao sc ac d _ _ (Mt.repA x q)
    have hc := fun p => Mt.repA_code x q ho p d
    by_cases e : q.how = 2
    · simp only [if_pos e] at hc
      exact (layPart_poss A _ k4 (by rw [km, e]; rfl) hR).congr (hc 0).2.symm (fun p => (hc p).1.symm)
    · simp only [if_neg e] at hc
      exact (layPart_rep A _ k4 (by rw [km]; simp; omega) hR).congr (hc 0).2.symm (fun p => (hc p).1.symm)
end
end Go.Proofs.Ytebpgfodelggoaa
