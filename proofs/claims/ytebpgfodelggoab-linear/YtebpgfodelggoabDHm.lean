import Derived.Test.YtebpgfodelggoabC49
import Derived.Test.YtebpgfodelggoabC53
import Derived.Test.YtebpgfodelggoabC52
import Derived.Test.YtebpgfodelggoabDSo
import Derived.Test.YtebpgfodelggoabC09
/- matcherkeep: straight, weighs, Linear. (Plain seats alone.) -/
set_option linter.unusedVariables false
set_option linter.unusedSimpArgs false
namespace Go.Proofs.Ytebpgfodelggoab
open Go.RowKit

set_option maxRecDepth 100000 in
set_option maxHeartbeats 1000000 in
theorem some_far (p : ByteArray) (n : Nat) (w : World) (hm : p.size ≤ maxLen) (hn : n ≤ 100000) : Calls Try.prog 8 #[.string p, .int .i64 (n : Int)] w fun e w' => e = .returned (.string (someB p n)) ∧ w = w' := by
  unfold maxLen at hm
  unfold someB
  by_cases h : n < p.size
  · have d1 : decide ((n : Int) < (p.size : Int)) = true := by simpa using h
    rw [if_pos h]
    go_enter Try.func8, Try.ntmps8
    go_wp2_with fail
    go_ret
    exact ⟨rfl, rfl⟩
  · have d1 : decide ((n : Int) < (p.size : Int)) = false := by simpa using h
    rw [if_neg h]
    go_enter Try.func8, Try.ntmps8
    go_wp2_with fail
    go_ret
    exact ⟨rfl, rfl⟩

def StrSays (c : List Mt.Ins) (e : Ending) : Prop := ∃ b, e = .returned (.bool b) ∧ (b = true → ∀ q, q < c.length → (c.getD q Mt.ins0).op ≠ 8 ∧ (c.getD q Mt.ins0).op ≠ 11)
set_option maxRecDepth 100000 in
set_option maxHeartbeats 4000000 in
theorem straight_any (c : List Mt.Ins) (v : Value) (w : World) (h : ownIns w 0 v c) (hl : c.length ≤ 300) (hp : 0 < c.length) : Calls Try.prog 21 #[v] w fun e w' => StrSays c e ∧ w = w' := by
  rcases ins_two h with ⟨rfl, _⟩ | ⟨_, g, cap, rfl, hcap, hg, _, hA⟩
  · simp at hp
  have HA : Hid (∀ k, k < c.length → w.cell? ⟨g, k * 4, none⟩ = some (.int .i64 (c.getD k Mt.ins0).op)) := fun k hk => hA k 0 hk (by omega)
  clear h hA
  go_enter Try.func21, Try.ntmps21
  go_wp2_with fail
  go_loop [3] (fun i => ∃ k : Nat, k ≤ c.length ∧ i = .int .i64 k ∧ ∀ q, q < k → (c.getD q Mt.ins0).op ≠ 8 ∧ (c.getD q Mt.ins0).op ≠ 11) (fun i => c.length - (intOf i).toNat)
  case atStart => exact ⟨0, Nat.zero_le _, rfl, fun q hq => by omega⟩
  case round =>
    obtain ⟨k, hk, rfl, hr⟩ := hrel
    have HR : Hid (∀ q, q < k → (c.getD q Mt.ins0).op ≠ 8 ∧ (c.getD q Mt.ins0).op ≠ 11) := hr
    clear hr
    by_cases hlt : k < c.length
    · have a0 := HA.out k hlt
      have i0 : (0 : Int) ≤ (k : Int) := by omega
      have i1 : (k : Int) < (c.length : Int) := by omega
      have HN : Hid ((c.getD k Mt.ins0).op ≠ 8 → (c.getD k Mt.ins0).op ≠ 11 → ∀ q, q < k + 1 → (c.getD q Mt.ins0).op ≠ 8 ∧ (c.getD q Mt.ins0).op ≠ 11) := fun h1 h2 q hq => by
        by_cases e : q = k
        · subst e; exact ⟨h1, h2⟩
        · exact HR.out q (by omega)
      generalize (c.getD k Mt.ins0).op = o at *
      by_cases e8 : o = 8
      · have m1 : (o == 8) = true := by simpa using e8
        clear e8 HN
        go_wp2_with fail
        go_ret
        exact ⟨⟨_, rfl, fun h => by simp at h⟩, rfl⟩
      · have m1 : (o == 8) = false := by simpa using e8
        by_cases e11 : o = 11
        · have m2 : (o == 11) = true := by simpa using e11
          clear e8 e11 HN
          go_wp2_with fail
          go_ret
          exact ⟨⟨_, rfl, fun h => by simp at h⟩, rfl⟩
        · have m2 : (o == 11) = false := by simpa using e11
          have HN2 : Hid (∀ q, q < k + 1 → (c.getD q Mt.ins0).op ≠ 8 ∧ (c.getD q Mt.ins0).op ≠ 11) := HN.out e8 e11
          clear e8 e11 HN
          go_wp2_with fail
          go_round
          case rel => exact ⟨k + 1, by omega, by go_num, HN2.out⟩
          case measure => simp [intOf]; omega
    · have ek : k = c.length := by omega
      subst ek
      go_wp2_with fail
      go_ret
      exact ⟨⟨_, rfl, fun _ => HR.out⟩, rfl⟩

theorem loops_next (c : List Mt.Ins) (hcl : ∀ k, (c.take k).countP Mt.isMark = (c.take k).countP Mt.isAgain + Mt.loopsAt c k) (k : Nat) (hk : k < c.length) : (Mt.loopsAt c (k + 1) : Int) = Mt.loopsAt c k + (if (c.getD k Mt.ins0).op = 4 then 1 else 0) - (if (c.getD k Mt.ins0).op = 5 then 1 else 0) := by
  have h1 := hcl k
  have h2 := hcl (k + 1)
  have e : c[k] = c.getD k Mt.ins0 := by rw [List.getD_eq_getElem?_getD, List.getElem?_eq_getElem hk]; rfl
  rw [List.take_succ_eq_append_getElem hk, List.countP_append, List.countP_append, e] at h2
  have a1 : [c.getD k Mt.ins0].countP Mt.isMark = if (c.getD k Mt.ins0).op = 4 then 1 else 0 := by simp [List.countP_cons, Mt.isMark]
  have a2 : [c.getD k Mt.ins0].countP Mt.isAgain = if (c.getD k Mt.ins0).op = 5 then 1 else 0 := by simp [List.countP_cons, Mt.isAgain]
  rw [a1, a2] at h2
  split at h2 <;> split at h2 <;> simp_all <;> omega
set_option maxRecDepth 100000 in
set_option maxHeartbeats 4000000 in
theorem weighs_any (c : List Mt.Ins) (hcl : ∀ k, (c.take k).countP Mt.isMark = (c.take k).countP Mt.isAgain + Mt.loopsAt c k) (v : Value) (w : World) (h : ownIns w 0 v c) (hl : c.length ≤ 300) (hp : 0 < c.length) : Calls Try.prog 20 #[v] w fun e w' => e = .returned (.int .i64 (Mt.weightC c : Nat)) ∧ w = w' := by
  rcases ins_two h with ⟨rfl, _⟩ | ⟨_, g, cap, rfl, hcap, hg, _, hA⟩
  · simp at hp
  have HA : Hid (∀ k, k < c.length → w.cell? ⟨g, k * 4, none⟩ = some (.int .i64 (c.getD k Mt.ins0).op)) := fun k hk => hA k 0 hk (by omega)
  have HLN : Hid (∀ k, k < c.length → (Mt.loopsAt c (k + 1) : Int) = Mt.loopsAt c k + (if (c.getD k Mt.ins0).op = 4 then 1 else 0) - (if (c.getD k Mt.ins0).op = 5 then 1 else 0)) := fun k hk => loops_next c hcl k hk
  have h0 : Mt.loopsAt c 0 = 0 := by have := hcl 0; simp at this; omega
  have H0 : Hid (Mt.loopsAt c 0 = 0) := h0
  clear h hA hcl h0
  go_enter Try.func20, Try.ntmps20
  go_wp2_with fail
  go_loop [3, 4, 5] (fun a b i => ∃ k : Nat, k ≤ c.length ∧ i = .int .i64 k ∧ a = .int .i64 (Mt.weightTo c k : Nat) ∧ b = .int .i64 (Mt.loopsAt c k : Nat)) (fun _ _ i => c.length - (intOf i).toNat)
  case atStart => exact ⟨0, Nat.zero_le _, rfl, rfl, by rw [H0.out]; rfl⟩
  case round =>
    obtain ⟨k, hk, rfl, rfl, rfl⟩ := hrel
    by_cases hlt : k < c.length
    · have a0 := HA.out k hlt
      have i0 : (0 : Int) ≤ (k : Int) := by omega
      have i1 : (k : Int) < (c.length : Int) := by omega
      have bl := Mt.loopsAt_le c k
      have bw := Mt.weightTo_le c k
      have bw2 : k * (c.length + 1) ≤ 300 * 301 := Nat.mul_le_mul (by omega) (by omega)
      have HW : Hid (Mt.weightTo c (k + 1) = Mt.weightTo c k + 1 + Mt.loopsAt c k) := Mt.weightTo_next c k
      have HL := HLN.out k hlt
      have HL2 : Hid (_ = _) := HL
      have hbw : Mt.weightTo c k ≤ 90300 := by omega
      clear HL bw bw2
      generalize hLk : Mt.loopsAt c k = lk at *
      generalize hWk : Mt.weightTo c k = wk at *
      generalize (c.getD k Mt.ins0).op = o at *
      by_cases e4 : o = 4
      · have m1 : (o == 4) = true := by simpa using e4
        have HE : Hid ((Mt.loopsAt c (k + 1) : Int) = (lk : Int) + 1) := by show _ = _; rw [HL2.out, if_pos e4, if_neg (by omega)]; omega
        clear e4 HL2
        go_wp2_with fail
        go_round
        case rel => exact ⟨k + 1, by omega, by go_num, by rw [HW.out]; go_num, by rw [HE.out]⟩
        case measure => simp [intOf]; omega
      · have m1 : (o == 4) = false := by simpa using e4
        by_cases e5 : o = 5
        · have m2 : (o == 5) = true := by simpa using e5
          have HE : Hid ((Mt.loopsAt c (k + 1) : Int) = (lk : Int) - 1) := by show _ = _; rw [HL2.out, if_neg e4, if_pos e5]; omega
          clear e4 e5 HL2
          go_wp2_with fail
          go_round
          case rel => exact ⟨k + 1, by omega, by go_num, by rw [HW.out]; go_num, by rw [HE.out]⟩
          case measure => simp [intOf]; omega
        · have m2 : (o == 5) = false := by simpa using e5
          have HE : Hid ((Mt.loopsAt c (k + 1) : Int) = (lk : Int)) := by show _ = _; rw [HL2.out, if_neg e4, if_neg e5]; omega
          clear e4 e5 HL2
          go_wp2_with fail
          go_round
          case rel => exact ⟨k + 1, by omega, by go_num, by rw [HW.out]; go_num, by rw [HE.out]⟩
          case measure => simp [intOf]; omega
    · have ek : k = c.length := by omega
      subst ek
      go_wp2_with fail
      go_ret
      exact ⟨rfl, rfl⟩

theorem weight_bound {c : List Mt.Ins} {A : Int → Mt.Att} (hK : Mt.Known c A) : ∀ k, k ≤ c.length → Mt.weightTo c k ≤ k * 12
  | 0, _ => by simp [Mt.weightTo]
  | k + 1, h => by
    have h1 := weight_bound hK k (by omega)
    have h2 := hK.loops k (by omega)
    have h3 : (A k).d ≤ 11 := by
      by_cases e : k + 1 < c.length
      · exact (hK.rule k e).2.2.2.2.2.2.2.2.2.2.1.2
      · have : ((k : Nat) : Int) = ((c.length - 1 : Nat) : Int) := by omega
        rw [this, hK.stop]; decide
    rw [Mt.weightTo_next]; omega
/-- What Linear asks of a pattern without backreferences and runs of their own. -/
theorem linear_find (p Y : ByteArray) (h : (Mt.checkR p).1 = 0) (hY : Y.size ≤ 60) (h8 : ∀ q, q < (Mt.codeR p).1.length → ((Mt.codeR p).1.getD q Mt.ins0).op ≠ 8 ∧ ((Mt.codeR p).1.getD q Mt.ins0).op ≠ 11) (hb : (Y.size + 1) * (2 * Mt.weightC (Mt.codeR p).1 + 1) ≤ 10000) :
    (Mt.findR p Y 0 1 0 5000 10000).2 = 0 ∧ Mt.Inside Y.size 0 (Mt.findR p Y 0 1 0 5000 10000).1 ∧ (Mt.findR p Y 0 1 0 5000 10000).1.steps ≤ (((Y.size + 1) * (2 * Mt.weightC (Mt.codeR p).1 + 1) : Nat) : Int) := by
  obtain ⟨A, hK⟩ := Mt.pattern_kn p h
  obtain ⟨a, b⟩ := Mt.linear_math hK Y (fun q hq => (h8 q hq).1) (fun q hq => (h8 q hq).2) hb
  have ho : Mt.Opt 1 0 5000 10000 := ⟨by omega, by omega, by omega, by omega, by omega⟩
  have e := Mt.findR_ok p Y 0 1 0 5000 10000 h hY (by omega) ho
  have e0 : ((0 : Nat) : Int) = 0 := rfl
  rw [e0, a] at e
  rw [e]
  exact ⟨rfl, Mt.searchAll_inside hK.k.ok hK.k.pos Y 1 0 5000 10000 0 (by omega) (by omega) (by omega) a, b⟩
set_option maxRecDepth 100000 in
set_option maxHeartbeats 16000000 in
theorem Linear_any (p t : ByteArray) (w : World) (hm : p.size ≤ maxLen) (hmt : t.size ≤ maxLen) :
    Calls Try.prog 5 #[.string p, .string t] w fun e w' => e = .returned (.bool true) ∧ Below w.heap.size w w' := by
  have K3 : Hid (∀ z : World, Calls Try.prog 10 #[.string p] z fun e w' => e = .returned (.tuple #[.int .i64 (Mt.checkR p).1, .bool true]) ∧ Below z.heap.size z w') := fun z => checked_any p z hm
  have KG : Hid (∀ z : World, Calls Try.prog 18 #[.string p] z fun e w' => e = .returned (.tuple #[.int .i64 (Mt.weightR p).1, .int .i64 (Mt.weightR p).2]) ∧ Below z.heap.size z w') := fun z => Weight_any p z hm
  have KC : Hid (∀ z : World, Calls Try.prog 19 #[.string p] z fun e w' => ∃ v, e = .returned (.tuple #[v, .int .i64 (Mt.codeR p).2]) ∧ ownIns w' z.heap.size v (Mt.codeR p).1 ∧ Below z.heap.size z w') := fun z => Code_any p z hm
  have hs := someB_size t 60
  have K0 : Hid (∀ z : World, Calls Try.prog 8 #[.string t, .int .i64 60] z fun e w' => e = .returned (.string (someB t 60)) ∧ z = w') := fun z => some_any t 60 z hmt (by omega)
  generalize hX : someB t 60 = X at *
  have hXm : X.size ≤ maxLen := by unfold maxLen; omega
  clear hX
  have hwe : (Mt.weightR p).2 = (Mt.checkR p).1 := by unfold Mt.weightR; rw [Mt.codeR_err]; split <;> simp_all
  rw [hwe] at KG
  by_cases hE : (Mt.checkR p).1 = 0
  · have hc0 : (Mt.codeR p).2 = 0 := by rw [Mt.codeR_err]; exact hE
    have hw1 : (Mt.weightR p).1 = (Mt.weightC (Mt.codeR p).1 : Nat) := by unfold Mt.weightR; rw [if_neg (by omega)]
    obtain ⟨A, hK⟩ := Mt.pattern_known p hE
    have hWb := weight_bound hK (Mt.codeR p).1.length (Nat.le_refl _)
    have hlen := hK.len
    have hlp := hK.pos
    have hW1 : 1 ≤ Mt.weightC (Mt.codeR p).1 := by
      unfold Mt.weightC
      obtain ⟨k, hk⟩ : ∃ k, (Mt.codeR p).1.length = k + 1 := ⟨(Mt.codeR p).1.length - 1, by omega⟩
      rw [hk, Mt.weightTo_next]; omega
    have hW2 : Mt.weightC (Mt.codeR p).1 ≤ 3600 := by unfold Mt.weightC; omega
    have KS : Hid (∀ (v : Value) (z : World), ownIns z 0 v (Mt.codeR p).1 → Calls Try.prog 21 #[v] z fun e w' => StrSays (Mt.codeR p).1 e ∧ z = w') := fun v z h => straight_any _ v z h hlen hlp
    have KH : Hid (∀ (v : Value) (z : World), ownIns z 0 v (Mt.codeR p).1 → Calls Try.prog 20 #[v] z fun e w' => e = .returned (.int .i64 (Mt.weightC (Mt.codeR p).1 : Nat)) ∧ z = w') := fun v z h => weighs_any _ (fun k => codeR_loops p hc0 k) v z h hlen hlp
    have HLF : Hid ((∀ q, q < (Mt.codeR p).1.length → ((Mt.codeR p).1.getD q Mt.ins0).op ≠ 8 ∧ ((Mt.codeR p).1.getD q Mt.ins0).op ≠ 11) → ∀ Y : ByteArray, Y.size ≤ 60 → (Y.size + 1) * (2 * Mt.weightC (Mt.codeR p).1 + 1) ≤ 10000 → (Mt.findR p Y 0 1 0 5000 10000).2 = 0 ∧ Mt.Inside Y.size 0 (Mt.findR p Y 0 1 0 5000 10000).1 ∧ (Mt.findR p Y 0 1 0 5000 10000).1.steps ≤ (((Y.size + 1) * (2 * Mt.weightC (Mt.codeR p).1 + 1) : Nat) : Int)) := fun h8 Y hY hb => linear_find p Y hE hY h8 hb
    have KF : Hid (∀ (Y : ByteArray) (z : World), Y.size ≤ 60 → Calls Try.prog 11 #[.string p, .string Y, .int .i64 0, .agg #[.int .i64 1, .int .i64 0, .int .i64 5000, .int .i64 10000]] z fun e w' => e = .returned (.tuple #[.agg (fpA (Mt.findR p Y 0 1 0 5000 10000).1), .int .i64 (Mt.findR p Y 0 1 0 5000 10000).2]) ∧ Below z.heap.size z w') := fun Y z hY => Find_any p Y 0 1 0 5000 10000 z hm (by unfold maxLen; omega)
    rw [hw1, hE] at KG
    rw [hE] at K3
    rw [hc0] at KC
    clear hK A hWb hlen hlp hw1 hwe hc0 hE hm hmt
    generalize (Mt.codeR p).1 = C at *
    generalize hWW : Mt.weightC C = W at *
    -- the length to which the text is cut
    obtain ⟨N, hN⟩ : ∃ N : Nat, 10000 / (2 * W + 1) = N + 1 := ⟨10000 / (2 * W + 1) - 1, by
      have : 1 ≤ 10000 / (2 * W + 1) := (Nat.one_le_div_iff (by omega)).2 (by omega)
      omega⟩
    have hN2 : (N + 1) * (2 * W + 1) ≤ 10000 := by rw [← hN]; exact Nat.div_mul_le_self _ _
    have hN3 : N ≤ 10000 := by
      have := Nat.div_le_self 10000 (2 * W + 1)
      omega
    have hq1 : (10000 : Int) / (2 * (W : Int) + 1) = (N : Int) + 1 := by
      have : (((10000 / (2 * W + 1) : Nat)) : Int) = (10000 : Int) / (2 * (W : Int) + 1) := by norm_cast
      rw [← this, hN]; rfl
    have hq2 : (10000 : Int).tdiv (2 * (W : Int) + 1) = (N : Int) + 1 := by rw [Int.tdiv_eq_ediv_of_nonneg (by omega)]; exact hq1
    have hs2 := someB_size X N
    have K1 : Hid (∀ z : World, Calls Try.prog 8 #[.string X, .int .i64 (N : Int)] z fun e w' => e = .returned (.string (someB X N)) ∧ z = w') := fun z => some_far X N z hXm (by omega)
    generalize someB X N = Y at *
    have hY60 : Y.size ≤ 60 := by omega
    have hb : (Y.size + 1) * (2 * W + 1) ≤ 10000 := Nat.le_trans (Nat.mul_le_mul_right _ (by omega)) hN2
    have KI : Hid (∀ (f : Mt.Fnd) (z : World), Mt.Inside Y.size 0 f → Calls Try.prog 22 #[.agg (fpA f), .int .i64 0, .int .i64 (Y.size : Int)] z fun e w' => e = .returned (.bool true) ∧ Below z.heap.size z w') := fun f z h => inside_true f Y.size 0 h hY60 (by omega) z
    have HLF2 : Hid ((∀ q, q < C.length → (C.getD q Mt.ins0).op ≠ 8 ∧ (C.getD q Mt.ins0).op ≠ 11) → (Mt.findR p Y 0 1 0 5000 10000).2 = 0 ∧ Mt.Inside Y.size 0 (Mt.findR p Y 0 1 0 5000 10000).1 ∧ (Mt.findR p Y 0 1 0 5000 10000).1.steps ≤ (((Y.size + 1) * (2 * W + 1) : Nat) : Int)) := fun h8 => HLF.out h8 Y hY60 hb
    have KF2 : Hid (∀ z : World, _) := fun z => KF.out Y z hY60
    generalize Mt.findR p Y 0 1 0 5000 10000 = G at *
    have HNB : Hid ((Y.size + 1) * (2 * W + 1) ≤ 10000) := hb
    have d0 : ((W : Int) != (W : Int)) = false := by simp
    have d1 : decide ((W : Int) < 1) = false := by rw [decide_eq_false_iff_not]; omega
    have d2 : decide ((N : Int) < 0) = false := by rw [decide_eq_false_iff_not]; omega
    have e0 : (2 * (W : Int) + 1 == 0) = false := by rw [beq_eq_false_iff_ne]; omega
    have e1 : (2 * (W : Int) + 1 == -1) = false := by rw [beq_eq_false_iff_ne]; omega
    have HQ : Hid ((10000 : Int) / (2 * (W : Int) + 1) = (N : Int) + 1 ∧ (10000 : Int).tdiv (2 * (W : Int) + 1) = (N : Int) + 1) := ⟨hq1, hq2⟩
    clear HLF KF hWW hN hN2 hb hs hs2
    go_enter Try.func5, Try.ntmps5
    go_wp2_with fail
    refine (K3.out _).mono ?_
    rintro e w1 ⟨rfl, hb1⟩
    have HB1 : Hid (Below w.heap.size w w1) := hb1
    clear hb1
    go_wp2_with fail
    refine (KG.out _).mono ?_
    rintro e w2 ⟨rfl, hb2⟩
    have HB2 : Hid (Below w.heap.size w w2) := HB1.out.trans (hb2.mono HB1.out.size)
    clear hb2
    go_wp2_with fail
    refine (works_any _).mono ?_
    rintro e w3 ⟨rfl, hb3⟩
    have HB3 : Hid (Below w.heap.size w w3) := HB2.out.trans (hb3.mono HB2.out.size)
    clear hb3
    go_wp2_with fail
    refine (KC.out _).mono ?_
    rintro e w4 ⟨v, rfl, ho4, hb4⟩
    have HB4 : Hid (Below w.heap.size w w4) := HB3.out.trans (hb4.mono HB3.out.size)
    have HO4 : Hid (ownIns w4 0 v C) := ho4.base (Nat.zero_le _)
    clear hb4 ho4
    go_wp2_with fail
    refine (KH.out _ _ HO4.out).mono ?_
    rintro e w' ⟨rfl, rfl⟩
    go_wp2_with fail
    refine (KS.out _ _ HO4.out).mono ?_
    rintro e w' ⟨⟨b, rfl, hbb⟩, rfl⟩
    cases b
    · clear hbb
      go_wp2_with fail
      go_ret
      exact ⟨rfl, HB4.out⟩
    · obtain ⟨g0, g1, g2⟩ := HLF2.out (hbb rfl)
      have HG : Hid (Mt.Inside Y.size 0 G.1 ∧ G.1.steps ≤ (((Y.size + 1) * (2 * W + 1) : Nat) : Int)) := ⟨g1, g2⟩
      have z0 := fpA_size G.1 g1.len
      have a0 := fpA_all G.1
      have hst := fpA_steps G.1 g1.len
      have HST : Hid ((fpA G.1)[21]? = some (.int .i64 G.1.steps)) := hst
      have g4 : (G.2 == 0) = true := by simpa using g0
      have HK2 : Hid (∀ z : World, Calls Try.prog 22 #[.agg (fpA G.1), .int .i64 0, .int .i64 (Y.size : Int)] z fun e w' => e = .returned (.bool true) ∧ Below z.heap.size z w') := fun z => KI.out G.1 z g1
      clear hbb g0 g1 g2 hst HLF2 KI KH KS KC
      go_wp2_with fail
      refine (K0.out _).mono ?_
      rintro e w' ⟨rfl, rfl⟩
      obtain ⟨hq1, hq2⟩ := HQ.out
      go_wp2_with fail
      refine (K1.out _).mono ?_
      rintro e w' ⟨rfl, rfl⟩
      clear hq1 hq2
      go_wp2_with fail
      refine (KF2.out _).mono ?_
      rintro e w5 ⟨rfl, hb5⟩
      have HB5 : Hid (Below w.heap.size w w5) := HB4.out.trans (hb5.mono HB4.out.size)
      clear hb5
      go_upto_region 21 with (refine store_blk 31 22 Try.sizeFd (by rfl) (.tmp 15) (.tmp 79) (by rfl) w5.heap.size (fpA G.1) (by rfl) (by rfl) (by exact heap_b1 _ _) (by rfl) z0 a0 ?_; intro w6 s1 s2 s3 s4)
      have B6 : Below w5.heap.size w5 w6 := ((Below.refl _ _).alloc (Nat.le_refl _) _).trans (s4 _ (Nat.le_refl _))
      have HB6 : Hid (Below w.heap.size w w6) := HB5.out.trans (B6.mono HB5.out.size)
      have F6 : Hid (w6.heap[w5.heap.size]? = some (.cells (fpA G.1) 31 (0, 0))) := s1
      clear s1 s2 s3 s4 B6
      generalize hm5 : w5.heap.size = m at *
      go_wp2_with (refine load_blk 31 22 Try.underlying31 rfl Try.sizeFd (by rfl) (.tmp 15) (by rfl) m (by rfl) F6.out z0 ?_)
      refine (HK2.out _).mono ?_
      rintro e w7 ⟨rfl, hb7⟩
      have HB7 : Hid (Below w.heap.size w w7) := HB6.out.trans (hb7.mono HB6.out.size)
      have F7 := blkKeep F6.out hb7
      have c21 : w7.cell? ⟨m, 21, none⟩ = some (.int .i64 G.1.steps) := ((cell_block F7).1 _).trans HST.out
      have l7 := blkLt F7
      clear hb7 F7
      have hle := HG.out.2
      have hnb := HNB.out
      have y1 : ((Y.size : Int) + 1) * (2 * (W : Int) + 1) ≤ 10000 := by
        have : (((Y.size + 1) * (2 * W + 1) : Nat) : Int) = ((Y.size : Int) + 1) * (2 * (W : Int) + 1) := by simp
        omega
      have y0 : 0 ≤ ((Y.size : Int) + 1) * (2 * (W : Int) + 1) := Int.mul_nonneg (by omega) (by omega)
      have y2 : decide (G.1.steps ≤ ((Y.size : Int) + 1) * (2 * (W : Int) + 1)) = true := by
        rw [decide_eq_true_eq]
        have : (((Y.size + 1) * (2 * W + 1) : Nat) : Int) = ((Y.size : Int) + 1) * (2 * (W : Int) + 1) := by simp
        omega
      clear hle hnb
      generalize G.1.steps = S at *
      go_wp2_with fail
      go_ret
      exact ⟨rfl, HB7.out⟩
  · have hw1 : (Mt.weightR p).1 = 0 := by unfold Mt.weightR; rw [Mt.codeR_err, if_pos hE]
    rw [hw1] at KG
    have m0 : ((Mt.checkR p).1 != 0) = true := by simpa using hE
    have m1 : ((Mt.checkR p).1 != (Mt.checkR p).1) = false := by simp
    clear hE hw1 hwe hm hmt hs hXm KC K0
    generalize (Mt.checkR p).1 = E at *
    go_enter Try.func5, Try.ntmps5
    go_wp2_with fail
    refine (K3.out _).mono ?_
    rintro e w1 ⟨rfl, hb1⟩
    have HB1 : Hid (Below w.heap.size w w1) := hb1
    clear hb1
    go_wp2_with fail
    refine (KG.out _).mono ?_
    rintro e w2 ⟨rfl, hb2⟩
    have HB2 : Hid (Below w.heap.size w w2) := HB1.out.trans (hb2.mono HB1.out.size)
    clear hb2
    go_wp2_with fail
    refine (works_any _).mono ?_
    rintro e w3 ⟨rfl, hb3⟩
    have HB3 : Hid (Below w.heap.size w w3) := HB2.out.trans (hb3.mono HB2.out.size)
    clear hb3
    go_wp2_with fail
    go_ret
    exact ⟨rfl, HB3.out⟩
end Go.Proofs.Ytebpgfodelggoab
/- The law Linear: P10. (Plain seats alone.) -/
set_option linter.unusedVariables false
namespace Go.Proofs.Ytebpgfodelggoab
open Go.ChangeShapes Go.WideShapes Go.ChangeAt Go.RowKit Go.ChangeMaps

set_option maxRecDepth 100000 in
theorem linear_contract (H : Type) (enc : TypeId × Value → H) (W : World) (base : Nat) (args : Array Value) (ds gs : List (DataW H)) (before : List MemPlace)
    (hval : ∀ (j : Nat) t v, Try.f5.params[j]? = some t → args[j]? = some v → Value.okWide Try.prog W .any base t v)
    (hW : DataW.Whole enc Try.prog Try.f5.params.toList Rows.linearSpec.vars false W args.toList ds gs before) :
    Calls Try.prog 5 args W fun e W' => ∃ v, e = .returned v ∧ Rows.linearSpec.post enc Try.prog Try.f5 false true false false W args v W' := by
  have hW' := hW
  obtain ⟨p, q, hA0, hV, rfl, hfz, hnd⟩ := hW
  have hA : DataW.TrodAll enc Try.prog W 0 (fun _ => true) true Try.f5.params.toList args.toList ds p := hA0
  rw [Try.params5] at hA hval
  obtain ⟨v0, v1, d0, d1, p0, p1, rfl, rfl, rfl, h0, h1⟩ := trodAll_two hA
  obtain ⟨rfl, rfl⟩ := trodVars_none hV
  obtain ⟨x0, rfl, rfl, rfl, g0⟩ := open_string Try.underlying9 (hval 0 9 v0 rfl rfl) h0
  obtain ⟨x1, rfl, rfl, rfl, g1⟩ := open_string Try.underlying9 (hval 1 9 v1 rfl rfl) h1
  clear hA0
  simp only [List.append_nil] at hW'
  refine (Linear_any x0 x1 W g0 g1).mono fun e W' ⟨he, hb⟩ => ?_
  subst he
  exact ⟨_, rfl, post_below (pa := []) (pv := []) hW' (fun _ _ _ => trodAll_cons_mk (shut_bool Try.underlying4 _) trodAll_mk0) (fun sp hsp => trodAll_cons_mk (shut_string Try.underlying9 g0) (trodAll_cons_mk (shut_string Try.underlying9 g1) trodAll_mk0)) (fun _ _ => rfl) rfl hb (ok_one (by kernel_rfl) rfl (okWide_bool_mk Try.underlying4 _))⟩

set_option maxRecDepth 100000 in
theorem linear_lifted (os : Os) (started : os.Started) (H : Type) (enc : TypeId × Value → H) :
    ReturnsInHanded {} Try.checked os 5 .any (Rows.linearSpec.pre6 enc Try.prog Try.f5 Rows.linearRow.domain false) (Rows.linearSpec.post enc Try.prog Try.f5 false true false false) := by
  refine returnsInHanded_of_change (C := Try.checked) Try.ownK started (by kernel_rfl) Try.func5
    (ChangeSpec.witness6 (enc := enc) (C := Try.checked) false ⟨#[], #[.string ⟨#[]⟩, .string ⟨#[]⟩], []⟩ 8 (by kernel_rfl) (by kernel_rfl) (by kernel_rfl) (by kernel_rfl)) ?_
  intro W base args ds gs before hval hW _ _
  exact linear_contract H enc W base args ds gs before hval hW

theorem linear_holds : Rows.LinearSaid :=
  OpenClaim.holds_of_wide 5 Try.f5 rfl rfl rfl rfl rfl rfl rfl ⟨rfl, rfl, rfl, rfl, rfl⟩ rfl rfl rfl rfl rfl (by kernel_rfl) Try.func5 (by kernel_rfl)
    (of_decide_eq_true (by kernel_rfl)) (by unfold Func.isWrapper; first | (rw [if_pos (by decide +kernel)]; kernel_rfl) | (rw [if_neg (by decide +kernel)]; exact ⟨rfl, rfl⟩))
    (fun os started H enc _ => linear_lifted os started H enc)
end Go.Proofs.Ytebpgfodelggoab
