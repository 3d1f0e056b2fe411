import Derived.Test.YtebpgfodelggoaaGreatC03
import Derived.Test.YtebpgfodelggoaaGreatC01
set_option linter.unusedVariables false
set_option linter.unusedSimpArgs false
namespace Go.Proofs.YtebpgfodelggoaaGreat
open Go.RowKit

set_option maxHeartbeats 1000000 in
theorem after_any (l : List Mt.Tok) (i : Nat) (v : Value) (w : World) (h : toks w v l) (hl : l.length ≤ 64) (hi : i < l.length) :
    Calls Tryz.prog 86 #[v, .int .i64 i] w fun e w' => e = .returned (.int .i64 (Mt.after l i)) ∧ w = w' := by
  have hcl := Mt.closing_le l i (by omega)
  have HK : Hid (toks w v l) := h
  rcases toks_cases h with ⟨rfl, ao, cap, rfl⟩ | ⟨hp, g, cap, rfl, hcap, hg, hc⟩
  · simp at hi
  · have hc0 : w.cell? ⟨g, i * 7, none⟩ = some (.int .i64 (l.getD i Mt.tok0).kind) := hc i 0 hi (by omega)
    clear hc h
    have e : Mt.after l i = if (l.getD i Mt.tok0).kind = 6 then Mt.closing l i + 1 else i + 1 := rfl
    rw [e]; clear e
    generalize hT : (l.getD i Mt.tok0).kind = T at *
    clear hT
    cases hk : (T == 6)
    · rw [if_neg (by simpa using hk)]
      go_enter Tryz.func86, Tryz.ntmps86
      go_wp2_with fail
      go_ret
      exact ⟨ret_int (by omega), rfl⟩
    · rw [if_pos (by simpa using hk)]
      go_enter Tryz.func86, Tryz.ntmps86
      go_wp2_with (first | (go_at_call 85; refine (closing_any l _ _ _ HK.out hl (by omega)).mono ?_; rintro e w' ⟨rfl, rfl⟩))
      go_ret
      exact ⟨ret_int (by omega), rfl⟩

set_option maxHeartbeats 1000000 in
theorem bar_any (l : List Mt.Tok) (a b : Nat) (v : Value) (w : World) (h : toks w v l) (hl : l.length ≤ 64) (ha : a ≤ 100) (hb : b ≤ l.length) :
    Calls Tryz.prog 52 #[v, .int .i64 a, .int .i64 b] w fun e w' => e = .returned (.int .i64 (Mt.bar l a b)) ∧ w = w' := by
  have HK : Hid (toks w v l) := h
  rcases toks_cases h with ⟨rfl, ao, cap, rfl⟩ | ⟨hp, g, cap, rfl, hcap, hg, hc⟩
  · have hb0 : b = 0 := by simpa using hb
    subst hb0
    clear h
    have e : Mt.bar [] a 0 = 0 := by rw [Mt.bar_step, if_pos (by omega)]
    rw [e]; clear e
    go_enter Tryz.func52, Tryz.ntmps52
    go_wp2_with fail
    refine wp_loop_rounds 1 ?_
    rw [rounds_succ]
    go_wp2_with fail
    go_ret
    exact ⟨rfl, rfl⟩
  · have HC : Hid (∀ k j, k < l.length → j < 7 → w.cell? ⟨g, k * 7 + j, none⟩ = (tokCells (l.getD k Mt.tok0))[j]?) := hc
    clear hc h
    go_enter Tryz.func52, Tryz.ntmps52
    go_wp2_with fail
    go_loop [7] (fun i => ∃ k : Nat, k ≤ 200 ∧ i = .int .i64 k ∧ Mt.bar l a b = Mt.bar l k b) (fun i => b - (intOf i).toNat)
    case atStart => exact ⟨a, by omega, rfl, rfl⟩
    case round =>
      obtain ⟨k, hk, rfl, hr⟩ := hrel
      have H : Hid (Mt.bar l a b = Mt.bar l k b) := hr
      clear hr
      by_cases hlt : k < b
      · have hc0 : w.cell? ⟨g, k * 7, none⟩ = some (.int .i64 (l.getD k Mt.tok0).kind) := HC.out k 0 (by omega) (by omega)
        have hcl := Mt.closing_le l k (by omega)
        have hcg := Mt.closing_ge l k
        have hst : Mt.bar l a b = if (l.getD k Mt.tok0).kind = 5 then k else if (l.getD k Mt.tok0).kind = 6 then Mt.bar l (Mt.closing l k + 1) b else Mt.bar l (k + 1) b := by
          rw [H.out, Mt.bar_step, if_neg (by omega)]; rfl
        generalize hT : (l.getD k Mt.tok0).kind = T at *
        clear hT H
        cases h5 : (T == 5)
        · rw [if_neg (by simpa using h5)] at hst
          cases h6 : (T == 6)
          · rw [if_neg (by simpa using h6)] at hst
            have R : Hid (Mt.bar l a b = Mt.bar l (k + 1) b) := hst
            clear hst
            go_wp2_with fail
            go_round
            case rel => exact ⟨k + 1, by omega, by go_num, R.out⟩
            case measure => simp [intOf]; omega
          · rw [if_pos (by simpa using h6)] at hst
            have R : Hid (Mt.bar l a b = Mt.bar l (Mt.closing l k + 1) b) := hst
            clear hst
            go_wp2_with (first | (go_at_call 85; refine (closing_any l _ _ _ HK.out hl (by omega)).mono ?_; rintro e w' ⟨rfl, rfl⟩))
            go_round
            case rel => exact ⟨Mt.closing l k + 1, by omega, by go_num, R.out⟩
            case measure => simp [intOf]; omega
        · rw [if_pos (by simpa using h5)] at hst
          have R : Hid (Mt.bar l a b = k) := hst
          clear hst
          go_wp2_with fail
          go_ret
          exact ⟨ret_int (by rw [R.out]), rfl⟩
      · have R : Hid (Mt.bar l a b = b) := by show _ = _; rw [H.out, Mt.bar_step, if_pos (by omega)]
        clear H
        go_wp2_with fail
        go_ret
        exact ⟨ret_int (by rw [R.out]), rfl⟩
end Go.Proofs.YtebpgfodelggoaaGreat
/- Bounds of the codes that are put together. -/
set_option linter.unusedVariables false
namespace Mt

def fit2 (L N : Int) (c : List Ins) : Prop := (c.length : Int) ≤ L ∧ ∀ i ∈ c, fitI N i
theorem fit2_mono {L N L' N' : Int} {c : List Ins} (h : fit2 L N c) (hL : L ≤ L') (hN : N ≤ N') : fit2 L' N' c := ⟨by have := h.1; omega, fun i hi => fitI_mono (h.2 i hi) hN⟩
theorem fit2_fit {L N M : Int} {c : List Ins} (h : fit2 L N c) (hL : L ≤ M) (hN : N ≤ M) : fit M c := ⟨by have := h.1; omega, fun i hi => fitI_mono (h.2 i hi) hN⟩
theorem fit2_one {L N : Int} {i : Ins} (h : fitI N i) (h1 : 1 ≤ L) : fit2 L N [i] := ⟨by simpa using h1, fun j hj => by simp at hj; rw [hj]; exact h⟩
theorem fit2_nil {L N : Int} (h : 0 ≤ L) : fit2 L N [] := ⟨by simpa using h, fun j hj => by simp at hj⟩
theorem fit2_split {L N : Int} (x y : Int) (late : Bool) (hx : -N ≤ x ∧ x ≤ N) (hy : -N ≤ y ∧ y ≤ N) (h1 : 1 ≤ L) : fit2 L N (splitC x y late) := by
  unfold splitC
  cases late
  · exact fit2_one ⟨hx.1, hx.2, hy.1, hy.2⟩ h1
  · exact fit2_one ⟨hy.1, hy.2, hx.1, hx.2⟩ h1
/-- The same bound behind every round. -/
theorem fit2_same {L N : Int} {a b : List Ins} (ha : fit2 (L + 300) (N + 300) a) (hb : fit2 L N b) : fit2 (L + 300) (N + 300) (behind a b) := by
  unfold behind
  by_cases h : 300 < a.length
  · rw [if_pos h]; exact ha
  · rw [if_neg h]
    refine ⟨?_, fun i hi => ?_⟩
    · rw [List.length_append, moved_len]; have := hb.1; omega
    · rcases List.mem_append.1 hi with hi | hi
      · exact ha.2 i hi
      · unfold moved at hi
        obtain ⟨j, hj, rfl⟩ := List.mem_map.1 hi
        exact fitI_moved (hb.2 j hj) (by omega) (by omega)
theorem fit2_behind {L N : Int} {a b : List Ins} (ha : fit2 L N a) (hb : fit2 L N b) : fit2 (L + 300) (N + 300) (behind a b) :=
  fit2_same (fit2_mono ha (by omega) (by omega)) hb
theorem fit2_alone {L N : Int} (s : Int) {c : List Ins} (hc : fit2 L N c) (hs : 0 ≤ s ∧ s ≤ 10) (hN : L + 2 ≤ N) (h1 : 10 ≤ L) : fit2 (L + 600) (N + 600) (alone s c) := by
  have hl := hc.1
  have h0 : (0 : Int) ≤ c.length := by omega
  have g := fit2_behind (fit2_one (L := L) (N := N) (i := ⟨11, s, (c.length : Int) + 2, []⟩) ⟨by simp only; omega, by simp only; omega, by simp only; omega, by simp only; omega⟩ (by omega)) hc
  have g2 := fit2_behind g (fit2_one (L := L + 300) (N := N + 300) (i := ⟨12, 0, 0, []⟩) ⟨by simp only; omega, by simp only; omega, by simp only; omega, by simp only; omega⟩ (by omega))
  exact fit2_mono g2 (by omega) (by omega)
theorem fit2_loop {L N : Int} (d : Int) (late : Bool) {y : List Ins} (hy : fit2 L N y) (hd : 0 ≤ d ∧ d ≤ N) (hN : L + 3 ≤ N) (h1 : 10 ≤ L) : fit2 (L + 900) (N + 900) (loopC y d late) := by
  have hl := hy.1
  have h0 : (0 : Int) ≤ y.length := by omega
  have g1 := fit2_behind (fit2_split (L := L) (N := N) 1 ((y.length : Int) + 3) late (by omega) (by omega) (by omega)) (fit2_one (L := L) (N := N) (i := ⟨4, d, 0, []⟩) ⟨by simp only; omega, by simp only; omega, by simp only; omega, by simp only; omega⟩ (by omega))
  have g2 := fit2_behind g1 (fit2_mono hy (show L ≤ L + 300 by omega) (show N ≤ N + 300 by omega))
  have g3 := fit2_behind g2 (fit2_one (L := L + 300 + 300) (N := N + 300 + 300) (i := ⟨5, -(y.length : Int) - 2, d, []⟩) ⟨by simp only; omega, by simp only; omega, by simp only; omega, by simp only; omega⟩ (by omega))
  exact fit2_mono g3 (by omega) (by omega)
theorem fit2_times {L N : Int} {x : List Ins} (hx : fit2 L N x) : ∀ (n : Nat) (c : List Ins), fit2 (L + 300) (N + 300) c → fit2 (L + 300) (N + 300) (timesFrom x n c)
  | 0, c, h => h
  | n + 1, c, h => fit2_times hx n _ (fit2_same h hx)
theorem mul_bound (n : Nat) (k : Int) (hn : n < 20) (hk : 0 ≤ k) : 0 ≤ ((n : Int) + 1) * (k + 1) ∧ ((n : Int) + 1) * (k + 1) ≤ 20 * (k + 1) := by
  refine ⟨Int.mul_nonneg (by omega) (by omega), ?_⟩
  exact Int.mul_le_mul_of_nonneg_right (by omega) (by omega)
theorem fit2_upTo {L N : Int} {x : List Ins} (late : Bool) (hx : fit2 L N x) (hN : 20 * (L + 1) ≤ N) (h1 : 10 ≤ L) : ∀ (n : Nat) (c : List Ins), n ≤ 20 → fit2 (L + 600) (N + 600) c → fit2 (L + 600) (N + 600) (upToFrom x late n c)
  | 0, c, _, h => h
  | n + 1, c, hn, h => by
    have hl := hx.1
    have m := mul_bound n (x.length : Int) (by omega) (by omega)
    have g := fit2_behind (fit2_split (L := L) (N := N) 1 (((n : Int) + 1) * ((x.length : Int) + 1)) late (by omega) (by omega) (by omega)) hx
    exact fit2_upTo late hx hN h1 n _ (by omega) (fit2_mono (fit2_same (L := L + 300) (N := N + 300) (fit2_mono h (by omega) (by omega)) g) (by omega) (by omega))

theorem fit2_seq {L N : Int} (at' rp : Nat → Nat → List Ins) (l : List Tok) (b : Nat) (h1 : ∀ i j, fit2 L N (at' i j)) (h2 : ∀ i j, fit2 L N (rp i j)) : ∀ (f i : Nat) (c : List Ins), fit2 (L + 300) (N + 300) c → fit2 (L + 300) (N + 300) (seqWith at' rp l b f i c)
  | 0, i, c, h => h
  | f + 1, i, c, h => by
    simp only [seqWith]
    split
    · exact h
    · split
      · exact fit2_seq at' rp l b h1 h2 f _ _ (fit2_same h (h2 _ _))
      · exact fit2_seq at' rp l b h1 h2 f _ _ (fit2_same h (h1 _ _))

/-- A token's numbers are small. -/
def tokOk (t : Tok) : Prop := 0 ≤ t.n ∧ t.n ≤ 100 ∧ -1 ≤ t.m ∧ t.m ≤ 20 ∧ 0 ≤ t.how ∧ t.how ≤ 4 ∧ (t.kind = 8 → t.n ≤ 20)
def toksOk (l : List Tok) : Prop := ∀ t ∈ l, tokOk t
theorem tokOk_at {l : List Tok} (h : toksOk l) (k : Nat) : tokOk (l.getD k tok0) := by
  rw [List.getD_eq_getElem?_getD]
  by_cases hk : k < l.length
  · rw [List.getElem?_eq_getElem hk]; exact h _ (List.getElem_mem hk)
  · rw [List.getElem?_eq_none (by omega)]; simp [tokOk, tok0]

theorem gen_fit (l : List Tok) (hl : toksOk l) : ∀ (f tag a b : Nat) (d : Int), 0 ≤ d → d + f ≤ 1000 → fit2 (2000 * ((f : Int) + 1)) (60000 * ((f : Int) + 1)) (gen l f tag a b d) := by
  intro f
  induction f with
  | zero => intro tag a b d h0 h1; simp only [gen]; exact fit2_nil (by omega)
  | succ f ih =>
    intro tag a b d h0 h1
    have I := fun tag a b => ih tag a b d h0 (by omega)
    have J := fun tag a b => ih tag a b (d + 1) (by omega) (by omega)
    match tag with
    | 0 =>
      simp only [gen]
      split
      · exact fit2_mono (I 1 a _) (by omega) (by omega)
      · have hs := I 1 a (bar l a b)
        have hr := I 0 (bar l a b + 1) b
        generalize gen l f 1 a (bar l a b) d = s at *
        generalize gen l f 0 (bar l a b + 1) b d = r at *
        have ls := hs.1
        have lr := hr.1
        have g1 := fit2_behind (fit2_split (L := 2000 * ((f : Int) + 1)) (N := 60000 * ((f : Int) + 1)) 1 ((s.length : Int) + 2) false (by omega) (by omega) (by omega)) hs
        have g2 := fit2_behind g1 (fit2_one (L := 2000 * ((f : Int) + 1) + 300) (N := 60000 * ((f : Int) + 1) + 300) (i := ⟨3, 1 + (r.length : Int), 0, []⟩) ⟨by simp only; omega, by simp only; omega, by simp only; omega, by simp only; omega⟩ (by omega))
        have g3 := fit2_behind g2 (fit2_mono hr (show _ ≤ 2000 * ((f : Int) + 1) + 300 + 300 by omega) (show _ ≤ 60000 * ((f : Int) + 1) + 300 + 300 by omega))
        exact fit2_mono g3 (by omega) (by omega)
    | 1 =>
      simp only [gen]
      exact fit2_mono (fit2_seq _ _ l b (fun i j => I 2 i j) (fun i j => I 3 i j) (b - a) a [] (fit2_nil (by omega))) (by omega) (by omega)
    | 2 =>
      simp only [gen]
      have hi := I 0 (a + 1) (b - 1)
      have ht := tokOk_at hl a
      generalize gen l f 0 (a + 1) (b - 1) d = s at *
      generalize l.getD a tok0 = t at *
      obtain ⟨t1, t2, t3, t4, t5, t6, t7⟩ := ht
      split
      · exact fit2_one ⟨by simp only; omega, by simp only; omega, by simp only; omega, by simp only; omega⟩ (by omega)
      split
      · exact fit2_one ⟨by simp only; omega, by simp only; omega, by simp only; omega, by simp only; omega⟩ (by omega)
      split
      · exact fit2_one ⟨by simp only; omega, by simp only; omega, by simp only; omega, by simp only; omega⟩ (by omega)
      split
      · exact fit2_one ⟨by simp only; omega, by simp only; omega, by simp only; omega, by simp only; omega⟩ (by omega)
      split
      · exact fit2_mono hi (by omega) (by omega)
      split
      · have g1 := fit2_behind (fit2_one (L := 2000 * ((f : Int) + 1)) (N := 60000 * ((f : Int) + 1)) (i := ⟨6, t.n, 0, []⟩) ⟨by simp only; omega, by simp only; omega, by simp only; omega, by simp only; omega⟩ (by omega)) hi
        have g2 := fit2_behind g1 (fit2_one (L := 2000 * ((f : Int) + 1) + 300) (N := 60000 * ((f : Int) + 1) + 300) (i := ⟨7, t.n, 0, []⟩) ⟨by simp only; omega, by simp only; omega, by simp only; omega, by simp only; omega⟩ (by omega))
        exact fit2_mono g2 (by omega) (by omega)
      · exact fit2_mono (fit2_alone t.how hi (by omega) (by omega) (by omega)) (by omega) (by omega)
    | n + 3 =>
      simp only [gen]
      have hx := I 2 a b
      have hy := J 2 a b
      have ht := tokOk_at hl b
      generalize gen l f 2 a b d = x at *
      generalize gen l f 2 a b (d + 1) = y at *
      generalize l.getD b tok0 = t at *
      obtain ⟨t1, t2, t3, t4, t5, t6, t7⟩ := ht
      have c1 : fit2 (2000 * ((f : Int) + 1) + 900) (60000 * ((f : Int) + 1) + 900) (if 0 < t.n ∨ 0 < t.m then (if t.n < t.m then behind (timesFrom x t.n.toNat []) (upTo x (t.m - t.n).toNat (decide (t.how = 1))) else timesFrom x t.n.toNat []) else []) := by
        have k1 := fit2_times hx t.n.toNat [] (fit2_nil (by omega))
        split
        · split
          · have k2 := fit2_upTo (decide (t.how = 1)) hx (by omega) (by omega) (t.m - t.n).toNat [] (by omega) (fit2_nil (by omega))
            exact fit2_mono (fit2_behind (fit2_mono k1 (show _ ≤ 2000 * ((f : Int) + 1) + 600 by omega) (show _ ≤ 60000 * ((f : Int) + 1) + 600 by omega)) k2) (by omega) (by omega)
          · exact fit2_mono k1 (by omega) (by omega)
        · exact fit2_nil (by omega)
      generalize (if 0 < t.n ∨ 0 < t.m then (if t.n < t.m then behind (timesFrom x t.n.toNat []) (upTo x (t.m - t.n).toNat (decide (t.how = 1))) else timesFrom x t.n.toNat []) else []) = c at *
      have c2 : fit2 (2000 * ((f : Int) + 1) + 1200) (60000 * ((f : Int) + 1) + 1200) (if t.m < 0 then behind c (loopC y d (decide (t.how = 1))) else c) := by
        split
        · exact fit2_mono (fit2_behind c1 (fit2_loop d (decide (t.how = 1)) hy (by omega) (by omega) (by omega))) (by omega) (by omega)
        · exact fit2_mono c1 (by omega) (by omega)
      split
      · exact fit2_mono (fit2_alone 0 c2 (by omega) (by omega) (by omega)) (by omega) (by omega)
      · exact fit2_mono c2 (by omega) (by omega)

end Mt
set_option linter.unusedVariables false
set_option linter.unusedSimpArgs false
namespace Go.Proofs.YtebpgfodelggoaaGreat
open Go.RowKit

/-- What the four functions that call each other answer, with f rounds of fuel. -/
def S0 (l : List Mt.Tok) (f : Nat) : Prop := ∀ (a b : Nat) (ai bi d : Int) (v : Value) (w : World), ai = a → bi = b → toks w v l → a ≤ 66 → b ≤ l.length → 4 * (70 - a) + 3 ≤ f → 0 ≤ d → d + f ≤ 1000 →
  Calls Tryz.prog 71 #[v, .int .i64 ai, .int .i64 bi, .int .i64 d] w fun e w' => ∃ v', e = .returned v' ∧ ownIns w' 0 v' (Mt.gen l f 0 a b d) ∧ Below w.heap.size w w'
def S1 (l : List Mt.Tok) (f : Nat) : Prop := ∀ (a b : Nat) (ai bi d : Int) (v : Value) (w : World), ai = a → bi = b → toks w v l → a ≤ 66 → b ≤ l.length → 4 * (70 - a) + 2 ≤ f → 0 ≤ d → d + f ≤ 1000 →
  Calls Tryz.prog 101 #[v, .int .i64 ai, .int .i64 bi, .int .i64 d] w fun e w' => ∃ v', e = .returned v' ∧ ownIns w' 0 v' (Mt.gen l f 1 a b d) ∧ Below w.heap.size w w'
def S2 (l : List Mt.Tok) (f : Nat) : Prop := ∀ (a b : Nat) (ai bi d : Int) (v : Value) (w : World), ai = a → bi = b → toks w v l → a < l.length → a < b → b ≤ l.length + 1 → 4 * (70 - a) ≤ f → 0 ≤ d → d + f ≤ 1000 →
  Calls Tryz.prog 126 #[v, .int .i64 ai, .int .i64 bi, .int .i64 d] w fun e w' => ∃ v', e = .returned v' ∧ ownIns w' 0 v' (Mt.gen l f 2 a b d) ∧ Below w.heap.size w w'
def S3 (l : List Mt.Tok) (f : Nat) : Prop := ∀ (a b : Nat) (ai bi d : Int) (v : Value) (w : World), ai = a → bi = b → toks w v l → a < l.length → a < b → b < l.length → Mt.kindAt l b = 8 → 4 * (70 - a) + 1 ≤ f → 0 ≤ d → d + f ≤ 1000 →
  Calls Tryz.prog 125 #[v, .int .i64 ai, .int .i64 bi, .int .i64 d] w fun e w' => ∃ v', e = .returned v' ∧ ownIns w' 0 v' (Mt.gen l f 3 a b d) ∧ Below w.heap.size w w'

theorem gen_ok {l : List Mt.Tok} (hl : Mt.toksOk l) (f tag a b : Nat) (d : Int) (h0 : 0 ≤ d) (h1 : d + f ≤ 1000) : Mt.fit 70000000 (Mt.gen l f tag a b d) :=
  Mt.fit2_fit (Mt.gen_fit l hl f tag a b d h0 h1) (by omega) (by omega)

set_option maxRecDepth 100000 in
set_option maxHeartbeats 2000000 in
theorem alternatives_step (l : List Mt.Tok) (hl : l.length ≤ 64) (ho : Mt.toksOk l) (f : Nat) (h0 : S0 l f) (h1 : S1 l f) : S0 l (f + 1) := by
  intro a b ai bi d v w hai hbi ht ha hb hf hd0 hd1
  subst hai hbi
  have HT : Hid (toks w v l) := ht
  clear ht
  have hbl := Mt.bar_le l b (b - a) a (Nat.le_refl _)
  have hbg := Mt.bar_ge l b (b - a) a (Nat.le_refl _)
  have os := gen_ok ho f 1 a (Mt.bar l a b) d hd0 (by omega)
  have or := gen_ok ho f 0 (Mt.bar l a b + 1) b d hd0 (by omega)
  cases hk : ((Mt.bar l a b : Int) == (b : Int))
  · have hne : ¬ Mt.bar l a b = b := by simp at hk; omega
    have e : Mt.gen l (f + 1) 0 a b d = Mt.behind (Mt.behind (Mt.behind (Mt.splitC 1 (((Mt.gen l f 1 a (Mt.bar l a b) d).length : Int) + 2) false) (Mt.gen l f 1 a (Mt.bar l a b) d)) (Mt.jumpC (1 + ((Mt.gen l f 0 (Mt.bar l a b + 1) b d).length : Int)))) (Mt.gen l f 0 (Mt.bar l a b + 1) b d) := by
      simp only [Mt.gen]; rw [if_neg hne]
    rw [e]; clear e
    have H1 := fun x : World => h1 a (Mt.bar l a b) a (Mt.bar l a b) d v x rfl rfl
    have H0 := fun x : World => h0 (Mt.bar l a b + 1) b ((Mt.bar l a b : Int) + 1) b d v x (by omega) rfl
    generalize hS : Mt.gen l f 1 a (Mt.bar l a b) d = s at *
    generalize hR : Mt.gen l f 0 (Mt.bar l a b + 1) b d = r at *
    clear hS hR h0 h1
    have ls := os.1
    have lr := or.1
    have g1 : Mt.fit 70000010 (Mt.splitC 1 ((s.length : Int) + 2) false) := fit_split _ _ _ (by omega) (by omega) (by omega)
    have g2 := Mt.fit_behind g1 (Mt.fit_mono os (show (70000000 : Int) ≤ 70000010 by omega))
    have g3 : Mt.fit 70000310 (Mt.jumpC (1 + (r.length : Int))) := Mt.fit_one (fitI_small _ _ _ _ (by omega) (by omega)) (by omega)
    have g4 := Mt.fit_behind g2 (Mt.fit_mono g3 (by omega))
    have F0 : Hid (Mt.fit 900000000 s) := Mt.fit_mono os (by omega)
    have F1 : Hid (Mt.fit 900000000 r) := Mt.fit_mono or (by omega)
    have F2 : Hid (Mt.fit 900000000 (Mt.splitC 1 ((s.length : Int) + 2) false)) := Mt.fit_mono g1 (by omega)
    have F3 : Hid (Mt.fit 900000000 (Mt.behind (Mt.splitC 1 ((s.length : Int) + 2) false) s)) := Mt.fit_mono g2 (by omega)
    have F4 : Hid (Mt.fit 900000000 (Mt.jumpC (1 + (r.length : Int)))) := Mt.fit_mono g3 (by omega)
    have F5 : Hid (Mt.fit 900000000 (Mt.behind (Mt.behind (Mt.splitC 1 ((s.length : Int) + 2) false) s) (Mt.jumpC (1 + (r.length : Int))))) := Mt.fit_mono g4 (by omega)
    have K1 : Hid (∀ x : World, toks x v l → Calls Tryz.prog 101 #[v, .int .i64 a, .int .i64 (Mt.bar l a b), .int .i64 d] x fun e w' => ∃ v', e = .returned v' ∧ ownIns w' 0 v' s ∧ Below x.heap.size x w') := fun x hx => H1 x hx (by omega) (by omega) (by omega) hd0 (by omega)
    have K0 : Hid (∀ x : World, toks x v l → Calls Tryz.prog 71 #[v, .int .i64 ((Mt.bar l a b : Int) + 1), .int .i64 b, .int .i64 d] x fun e w' => ∃ v', e = .returned v' ∧ ownIns w' 0 v' r ∧ Below x.heap.size x w') := fun x hx => H0 x hx (by omega) (by omega) (by omega) hd0 (by omega)
    clear g1 g2 g3 g4 os or H1 H0 hbg hne
    go_enter Tryz.func71, Tryz.ntmps71
    go_wp2_with (first | (go_at_call 52; refine (bar_any l _ _ _ _ HT.out hl (by omega) hb).mono ?_; rintro e w' ⟨rfl, rfl⟩) | fail)
    refine (K1.out _ HT.out).mono ?_
    rintro e w1 ⟨v1, rfl, q1, hb1⟩
    have hs1 := hb1.size
    obtain ⟨ao, cap, rfl⟩ := len_val q1
    have Q1 : Hid (ownIns w1 0 (.slice ao s.length cap) s) := q1
    have HT1 : Hid (toks w1 v l) := toks_below HT.out hb1
    clear q1
    go_wp2_with fail
    refine (K0.out _ HT1.out).mono ?_
    rintro e w2 ⟨v2, rfl, q2, hb2⟩
    have hB2 : Below w.heap.size w w2 := hb1.trans (hb2.mono hs1)
    have hs2 := hB2.size
    obtain ⟨ao2, cap2, rfl⟩ := len_val q2
    have Q2 : Hid (ownIns w2 0 (.slice ao2 r.length cap2) r) := q2
    have Q1' : Hid (ownIns w2 0 (.slice ao s.length cap) s) := Q1.out.below hb2
    clear q2 hb1 hb2 Q1 HT HT1
    go_wp2_with fail
    refine (split_any _ _ _ _).mono ?_
    rintro e w3 ⟨v3, rfl, q3, hb3⟩
    have hB3 : Below w.heap.size w w3 := hB2.trans (hb3.mono hs2)
    have hs3 := hB3.size
    have Q3 : Hid (ownIns w3 0 v3 (Mt.splitC 1 ((s.length : Int) + 2) false)) := q3
    have Q1'' : Hid (ownIns w3 0 (.slice ao s.length cap) s) := Q1'.out.below hb3
    have Q2' : Hid (ownIns w3 0 (.slice ao2 r.length cap2) r) := Q2.out.below hb3
    clear q3 hb3 Q1' Q2 hB2
    go_wp2_with fail
    refine (behind_any _ s _ _ _ Q3.out Q1''.out F2.out F0.out).mono ?_
    rintro e w4 ⟨v4, rfl, q4, hb4⟩
    have hB4 : Below w.heap.size w w4 := hB3.trans (hb4.mono hs3)
    have hs4 := hB4.size
    have Q4 : Hid (ownIns w4 0 v4 (Mt.behind (Mt.splitC 1 ((s.length : Int) + 2) false) s)) := q4
    have Q2'' : Hid (ownIns w4 0 (.slice ao2 r.length cap2) r) := Q2'.out.below hb4
    clear q4 hb4 Q1'' Q2' hB3 Q3
    go_wp2_with fail
    refine (behind_any _ (Mt.jumpC (1 + (r.length : Int))) _ _ _ (Q4.out.below (by go_grown)) (own_lit w4 _ rfl ⟨3, 1 + (r.length : Int), 0, []⟩) F3.out F4.out).mono ?_
    rintro e w5 ⟨v5, rfl, q5, hb5⟩
    have hB45 : Below w4.heap.size w4 w5 := ((Below.refl _ _).alloc (Nat.le_refl _) _).trans (hb5.mono (by simp))
    have hB5 : Below w.heap.size w w5 := hB4.trans (hB45.mono hs4)
    have hs5 := hB5.size
    have Q5 : Hid (ownIns w5 0 v5 (Mt.behind (Mt.behind (Mt.splitC 1 ((s.length : Int) + 2) false) s) (Mt.jumpC (1 + (r.length : Int))))) := q5
    have Q2e : Hid (ownIns w5 0 (.slice ao2 r.length cap2) r) := Q2''.out.below hB45
    clear q5 hb5 hB45 Q2'' Q4 hB4
    go_wp2_with fail
    refine (behind_any _ r _ _ _ Q5.out Q2e.out F5.out F1.out).mono ?_
    rintro e w6 ⟨v6, rfl, q6, hb6⟩
    have hB6 : Below w.heap.size w w6 := hB5.trans (hb6.mono hs5)
    clear hb6 hB5
    go_wp2_with fail
    go_ret
    exact ⟨_, rfl, q6, hB6⟩
  · have he : Mt.bar l a b = b := by simp at hk; omega
    have e : Mt.gen l (f + 1) 0 a b d = Mt.gen l f 1 a (Mt.bar l a b) d := by simp only [Mt.gen]; rw [if_pos he]
    rw [e]; clear e
    have H1 := fun x : World => h1 a (Mt.bar l a b) a (Mt.bar l a b) d v x rfl rfl
    generalize hS : Mt.gen l f 1 a (Mt.bar l a b) d = s at *
    clear hS h0 h1
    have K1 : Hid (∀ x : World, toks x v l → Calls Tryz.prog 101 #[v, .int .i64 a, .int .i64 (Mt.bar l a b), .int .i64 d] x fun e w' => ∃ v', e = .returned v' ∧ ownIns w' 0 v' s ∧ Below x.heap.size x w') := fun x hx => H1 x hx (by omega) (by omega) (by omega) hd0 (by omega)
    clear os or H1 hbg he
    go_enter Tryz.func71, Tryz.ntmps71
    go_wp2_with (first | (go_at_call 52; refine (bar_any l _ _ _ _ HT.out hl (by omega) hb).mono ?_; rintro e w' ⟨rfl, rfl⟩) | fail)
    refine (K1.out _ HT.out).mono ?_
    rintro e w1 ⟨v1, rfl, q1, hb1⟩
    go_wp2_with fail
    go_ret
    exact ⟨_, rfl, q1, hb1⟩
end Go.Proofs.YtebpgfodelggoaaGreat
set_option linter.unusedVariables false
set_option linter.unusedSimpArgs false
namespace Go.Proofs.YtebpgfodelggoaaGreat
open Go.RowKit

theorem seq_step (A R : Nat → Nat → List Mt.Ins) (l : List Mt.Tok) (b fu k : Nat) (c : List Mt.Ins) (h : k < b) : Mt.seqWith A R l b (fu + 1) k c =
    if Mt.after l k < b ∧ Mt.kindAt l (Mt.after l k) = 8 then Mt.seqWith A R l b fu (Mt.after l k + 1) (Mt.behind c (R k (Mt.after l k))) else Mt.seqWith A R l b fu (Mt.after l k) (Mt.behind c (A k (Mt.after l k))) := by
  simp only [Mt.seqWith]; rw [if_neg (by omega)]
theorem seq_end (A R : Nat → Nat → List Mt.Ins) (l : List Mt.Tok) (b fu k : Nat) (c : List Mt.Ins) (h : b ≤ k) : Mt.seqWith A R l b fu k c = c := by
  cases fu with
  | zero => rfl
  | succ fu => simp only [Mt.seqWith]; rw [if_pos h]

set_option maxRecDepth 100000 in
set_option maxHeartbeats 2000000 in
theorem sequence_step (l : List Mt.Tok) (hl : l.length ≤ 64) (ho : Mt.toksOk l) (f : Nat) (h2 : S2 l f) (h3 : S3 l f) : S1 l (f + 1) := by
  intro a b ai bi d v w hai hbi ht ha hb hf hd0 hd1
  subst hai hbi
  have HT : Hid (toks w v l) := ht
  clear ht
  have oA := fun i j => gen_ok ho f 2 i j d hd0 (by omega)
  have oR := fun i j => gen_ok ho f 3 i j d hd0 (by omega)
  have e : Mt.gen l (f + 1) 1 a b d = Mt.seqWith (fun i j => Mt.gen l f 2 i j d) (fun i j => Mt.gen l f 3 i j d) l b (b - a) a [] := by simp only [Mt.gen]
  rw [e]; clear e
  have H2 := fun (i j : Nat) (x : World) => h2 i j i j d v x rfl rfl
  have H3 := fun (i j : Nat) (x : World) => h3 i j i j d v x rfl rfl
  generalize hA : (fun i j => Mt.gen l f 2 i j d) = A at *
  generalize hR : (fun i j => Mt.gen l f 3 i j d) = R at *
  have eA : ∀ i j, Mt.gen l f 2 i j d = A i j := fun i j => by rw [← hA]
  have eR : ∀ i j, Mt.gen l f 3 i j d = R i j := fun i j => by rw [← hR]
  clear hA hR h2 h3
  have K2 : Hid (∀ (i j : Nat) (x : World), toks x v l → a ≤ i → i < l.length → i < j → j ≤ l.length + 1 → Calls Tryz.prog 126 #[v, .int .i64 i, .int .i64 j, .int .i64 d] x fun e w' => ∃ v', e = .returned v' ∧ ownIns w' 0 v' (A i j) ∧ Below x.heap.size x w') := fun i j x hx q1 q2 q3 q4 => by
    have := H2 i j x hx q2 q3 q4 (by omega) hd0 (by omega)
    rw [eA] at this; exact this
  have K3 : Hid (∀ (i j : Nat) (x : World), toks x v l → a ≤ i → i < l.length → i < j → j < l.length → Mt.kindAt l j = 8 → Calls Tryz.prog 125 #[v, .int .i64 i, .int .i64 j, .int .i64 d] x fun e w' => ∃ v', e = .returned v' ∧ ownIns w' 0 v' (R i j) ∧ Below x.heap.size x w') := fun i j x hx q1 q2 q3 q4 q5 => by
    have := H3 i j x hx q2 q3 q4 q5 (by omega) hd0 (by omega)
    rw [eR] at this; exact this
  have FA : Hid (∀ i j, Mt.fit 70000000 (A i j)) := fun i j => by rw [← eA]; exact oA i j
  have FR : Hid (∀ i j, Mt.fit 70000000 (R i j)) := fun i j => by rw [← eR]; exact oR i j
  clear oA oR H2 H3 eA eR
  go_enter Tryz.func101, Tryz.ntmps101
  go_wp2_with fail
  go_loopw [9, 10] (fun u i wr => ∃ (k fu : Nat) (c : List Mt.Ins), a ≤ k ∧ k ≤ 67 ∧ b - k ≤ fu ∧ i = .int .i64 k ∧ ownIns wr 0 u c ∧ Mt.fit 70000300 c ∧ Below w.heap.size w wr ∧ Mt.seqWith A R l b (b - a) a [] = Mt.seqWith A R l b fu k c) (fun _ i _ => 100 - (intOf i).toNat)
  case atStart => exact ⟨a, b - a, [], Nat.le_refl _, by omega, Nat.le_refl _, rfl, ownIns.nil _ _, Mt.fit_nil (by omega), Below.refl _ _, rfl⟩
  case round =>
    obtain ⟨k, fu, c, hak, hk, hfu, rfl, hown, hfc, hbel, hr⟩ := hrel
    have HO : Hid (ownIns wr 0 u9 c) := hown
    have FC : Hid (Mt.fit 70000300 c) := hfc
    have HTr : Hid (toks wr v l) := toks_below HT.out hbel
    have hs0 := hbel.size
    clear hown hfc
    by_cases hlt : k < b
    · obtain ⟨fu', rfl⟩ : ∃ fu', fu = fu' + 1 := ⟨fu - 1, by omega⟩
      rw [seq_step A R l b fu' k c hlt] at hr
      have hag := Mt.after_gt l k
      have hal := Mt.after_le l k (by omega)
      by_cases hrep : Mt.after l k < b ∧ Mt.kindAt l (Mt.after l k) = 8
      · rw [if_pos hrep] at hr
        have HR : Hid (Mt.seqWith A R l b (b - a) a [] = Mt.seqWith A R l b fu' (Mt.after l k + 1) (Mt.behind c (R k (Mt.after l k)))) := hr
        have hj := hrep.1
        have h8 : Hid (Mt.kindAt l (Mt.after l k) = 8) := hrep.2
        have G1 : Hid (Mt.fit 70000300 (Mt.behind c (R k (Mt.after l k)))) := fit_behind_same (M := 70000000) FC.out (FR.out _ _)
        have hcell : Hid (∀ g cap, v = .slice (some ⟨g, 0, none⟩) l.length cap → True) := fun _ _ _ => trivial
        rcases toks_cases HTr.out with ⟨hn, _⟩ | ⟨hp, g, cap, rfl, hcap, hg, hc⟩
        · rw [hn] at hb; simp at hb; omega
        · have hc0 : wr.cell? ⟨g, Mt.after l k * 7, none⟩ = some (.int .i64 8) := by
            have := hc (Mt.after l k) 0 (by omega) (by omega)
            rw [Nat.add_zero] at this
            rw [this]
            have e8 : (l.getD (Mt.after l k) Mt.tok0).kind = 8 := h8.out
            show some (Value.int .i64 (l.getD (Mt.after l k) Mt.tok0).kind) = _
            rw [e8]
          clear hc hr hrep hcell
          go_wp2_with (first | (go_at_call 86; refine (after_any l _ _ _ HTr.out hl (by omega)).mono ?_; rintro e w' ⟨rfl, rfl⟩) | fail)
          refine (K3.out k (Mt.after l k) _ HTr.out hak (by omega) hag (by omega) h8.out).mono ?_
          rintro e w1 ⟨v1, rfl, q1, hb1⟩
          have hB1 : Below w.heap.size w w1 := hbel.trans (hb1.mono hs0)
          have hs1 := hB1.size
          have Q1 : Hid (ownIns w1 0 v1 (R k (Mt.after l k))) := q1
          have HO1 : Hid (ownIns w1 0 u9 c) := HO.out.below hb1
          clear q1 hb1 HO hbel hc0
          go_wp2_with fail
          refine (behind_any c _ _ _ _ HO1.out Q1.out (Mt.fit_mono FC.out (by omega)) (Mt.fit_mono (FR.out _ _) (by omega))).mono ?_
          rintro e w2 ⟨v2, rfl, q2, hb2⟩
          have hB2 : Below w.heap.size w w2 := hB1.trans (hb2.mono hs1)
          have Q2 : Hid (ownIns w2 0 v2 (Mt.behind c (R k (Mt.after l k)))) := q2
          clear q2 hb2 HO1 hB1
          go_wp2_with fail
          go_roundw
          case rel => exact ⟨Mt.after l k + 1, fu', _, by omega, by omega, by omega, by go_num, Q2.out, G1.out, hB2, HR.out⟩
          case measure => simp [intOf]; omega
      · rw [if_neg hrep] at hr
        have HR : Hid (Mt.seqWith A R l b (b - a) a [] = Mt.seqWith A R l b fu' (Mt.after l k) (Mt.behind c (A k (Mt.after l k)))) := hr
        have G1 : Hid (Mt.fit 70000300 (Mt.behind c (A k (Mt.after l k)))) := fit_behind_same (M := 70000000) FC.out (FA.out _ _)
        by_cases hj : Mt.after l k < b
        · have h8 : ¬ Mt.kindAt l (Mt.after l k) = 8 := fun x => hrep ⟨hj, x⟩
          rcases toks_cases HTr.out with ⟨hn, _⟩ | ⟨hp, g, cap, rfl, hcap, hg, hc⟩
          · rw [hn] at hb; simp at hb; omega
          have hc0 : wr.cell? ⟨g, Mt.after l k * 7, none⟩ = some (.int .i64 (Mt.kindAt l (Mt.after l k))) := hc (Mt.after l k) 0 (by omega) (by omega)
          have h8' : (Mt.kindAt l (Mt.after l k) == 8) = false := by simpa using h8
          clear hc hr hrep h8
          go_wp2_with (first | (go_at_call 86; refine (after_any l _ _ _ HTr.out hl (by omega)).mono ?_; rintro e w' ⟨rfl, rfl⟩) | fail)
          refine (K2.out k (Mt.after l k) _ HTr.out hak (by omega) hag (by omega)).mono ?_
          rintro e w1 ⟨v1, rfl, q1, hb1⟩
          have hB1 : Below w.heap.size w w1 := hbel.trans (hb1.mono hs0)
          have hs1 := hB1.size
          have Q1 : Hid (ownIns w1 0 v1 (A k (Mt.after l k))) := q1
          have HO1 : Hid (ownIns w1 0 u9 c) := HO.out.below hb1
          clear q1 hb1 HO hbel
          go_wp2_with fail
          refine (behind_any c _ _ _ _ HO1.out Q1.out (Mt.fit_mono FC.out (by omega)) (Mt.fit_mono (FA.out _ _) (by omega))).mono ?_
          rintro e w2 ⟨v2, rfl, q2, hb2⟩
          have hB2 : Below w.heap.size w w2 := hB1.trans (hb2.mono hs1)
          have Q2 : Hid (ownIns w2 0 v2 (Mt.behind c (A k (Mt.after l k)))) := q2
          clear q2 hb2 HO1 hB1
          go_wp2_with fail
          go_roundw
          case rel => exact ⟨Mt.after l k, fu', _, by omega, by omega, by omega, by go_num, Q2.out, G1.out, hB2, HR.out⟩
          case measure => simp [intOf]; omega
        · clear hr hrep
          go_wp2_with (first | (go_at_call 86; refine (after_any l _ _ _ HTr.out hl (by omega)).mono ?_; rintro e w' ⟨rfl, rfl⟩) | fail)
          refine (K2.out k (Mt.after l k) _ HTr.out hak (by omega) hag (by omega)).mono ?_
          rintro e w1 ⟨v1, rfl, q1, hb1⟩
          have hB1 : Below w.heap.size w w1 := hbel.trans (hb1.mono hs0)
          have hs1 := hB1.size
          have Q1 : Hid (ownIns w1 0 v1 (A k (Mt.after l k))) := q1
          have HO1 : Hid (ownIns w1 0 u9 c) := HO.out.below hb1
          clear q1 hb1 HO hbel
          go_wp2_with fail
          refine (behind_any c _ _ _ _ HO1.out Q1.out (Mt.fit_mono FC.out (by omega)) (Mt.fit_mono (FA.out _ _) (by omega))).mono ?_
          rintro e w2 ⟨v2, rfl, q2, hb2⟩
          have hB2 : Below w.heap.size w w2 := hB1.trans (hb2.mono hs1)
          have Q2 : Hid (ownIns w2 0 v2 (Mt.behind c (A k (Mt.after l k)))) := q2
          clear q2 hb2 HO1 hB1
          go_wp2_with fail
          go_roundw
          case rel => exact ⟨Mt.after l k, fu', _, by omega, by omega, by omega, by go_num, Q2.out, G1.out, hB2, HR.out⟩
          case measure => simp [intOf]; omega
    · have HR : Hid (Mt.seqWith A R l b (b - a) a [] = c) := hr.trans (seq_end A R l b fu k c (by omega))
      clear hr
      go_wp2_with fail
      go_ret
      exact ⟨_, rfl, by rw [HR.out]; exact HO.out, hbel⟩
end Go.Proofs.YtebpgfodelggoaaGreat
set_option linter.unusedVariables false
set_option linter.unusedSimpArgs false
namespace Go.Proofs.YtebpgfodelggoaaGreat
open Go.RowKit

/-- The cells of a token that is copied out of the list. -/
theorem tok_at {w : World} {v : Value} {l : List Mt.Tok} (h : toks w v l) {i : Nat} (hi : i < l.length) : ∃ g cap, v = .slice (some ⟨g, 0, none⟩) l.length cap ∧ l.length ≤ cap ∧ g < w.heap.size ∧
    w.cell? ⟨g, i * 7, none⟩ = some (.int .i64 (l.getD i Mt.tok0).kind) ∧ w.cell? ⟨g, i * 7 + 1, none⟩ = some (.int .i64 (l.getD i Mt.tok0).frm) ∧ w.cell? ⟨g, i * 7 + 2, none⟩ = some (.int .i64 (l.getD i Mt.tok0).to) ∧
    w.cell? ⟨g, i * 7 + 3, none⟩ = some (.int .i64 (l.getD i Mt.tok0).n) ∧ w.cell? ⟨g, i * 7 + 4, none⟩ = some (.int .i64 (l.getD i Mt.tok0).m) ∧ w.cell? ⟨g, i * 7 + 5, none⟩ = some (.int .i64 (l.getD i Mt.tok0).how) ∧
    w.cell? ⟨g, i * 7 + 6, none⟩ = some (.string ⟨(l.getD i Mt.tok0).set.toArray⟩) := by
  rcases toks_cases h with ⟨rfl, _⟩ | ⟨hp, g, cap, rfl, hcap, hg, hc⟩
  · simp at hi
  · exact ⟨g, cap, rfl, hcap, hg, hc i 0 hi (by omega), hc i 1 hi (by omega), hc i 2 hi (by omega), hc i 3 hi (by omega), hc i 4 hi (by omega), hc i 5 hi (by omega), hc i 6 hi (by omega)⟩

def atomC (t : Mt.Tok) (s : List Mt.Ins) : List Mt.Ins :=
  if t.kind = 1 then [⟨1, 0, 0, t.set⟩]
  else if t.kind = 2 then [⟨8, t.n, 0, []⟩]
  else if t.kind = 3 then [⟨9, 0, 0, []⟩]
  else if t.kind = 4 then [⟨10, 0, 0, []⟩]
  else if t.how = 3 then s
  else if t.how = 4 then Mt.behind (Mt.behind [⟨6, t.n, 0, []⟩] s) [⟨7, t.n, 0, []⟩]
  else Mt.alone t.how s
theorem gen_atom (l : List Mt.Tok) (f a b : Nat) (d : Int) : Mt.gen l (f + 1) 2 a b d = atomC (l.getD a Mt.tok0) (Mt.gen l f 0 (a + 1) (b - 1) d) := by
  simp only [Mt.gen]; rfl

theorem atom_cases (l : List Mt.Tok) (f a b : Nat) (d : Int) :
    (((l.getD a Mt.tok0).kind == 1) = true ∧ Mt.gen l (f + 1) 2 a b d = [⟨1, 0, 0, (l.getD a Mt.tok0).set⟩]) ∨
    (((l.getD a Mt.tok0).kind == 1) = false ∧ ((l.getD a Mt.tok0).kind == 2) = true ∧ Mt.gen l (f + 1) 2 a b d = [⟨8, (l.getD a Mt.tok0).n, 0, []⟩]) ∨
    (((l.getD a Mt.tok0).kind == 1) = false ∧ ((l.getD a Mt.tok0).kind == 2) = false ∧ ((l.getD a Mt.tok0).kind == 3) = true ∧ Mt.gen l (f + 1) 2 a b d = [⟨9, 0, 0, []⟩]) ∨
    (((l.getD a Mt.tok0).kind == 1) = false ∧ ((l.getD a Mt.tok0).kind == 2) = false ∧ ((l.getD a Mt.tok0).kind == 3) = false ∧ ((l.getD a Mt.tok0).kind == 4) = true ∧ Mt.gen l (f + 1) 2 a b d = [⟨10, 0, 0, []⟩]) ∨
    (((l.getD a Mt.tok0).kind == 1) = false ∧ ((l.getD a Mt.tok0).kind == 2) = false ∧ ((l.getD a Mt.tok0).kind == 3) = false ∧ ((l.getD a Mt.tok0).kind == 4) = false ∧
      ((((l.getD a Mt.tok0).how == 3) = true ∧ Mt.gen l (f + 1) 2 a b d = Mt.gen l f 0 (a + 1) (b - 1) d) ∨
       (((l.getD a Mt.tok0).how == 3) = false ∧ ((l.getD a Mt.tok0).how == 4) = true ∧ Mt.gen l (f + 1) 2 a b d = Mt.behind (Mt.behind [⟨6, (l.getD a Mt.tok0).n, 0, []⟩] (Mt.gen l f 0 (a + 1) (b - 1) d)) [⟨7, (l.getD a Mt.tok0).n, 0, []⟩]) ∨
       (((l.getD a Mt.tok0).how == 3) = false ∧ ((l.getD a Mt.tok0).how == 4) = false ∧ Mt.gen l (f + 1) 2 a b d = Mt.alone (l.getD a Mt.tok0).how (Mt.gen l f 0 (a + 1) (b - 1) d)))) := by
  rw [gen_atom]
  generalize l.getD a Mt.tok0 = t
  generalize Mt.gen l f 0 (a + 1) (b - 1) d = s
  unfold atomC
  simp only [beq_iff_eq, beq_eq_false_iff_ne]
  by_cases h1 : t.kind = 1
  · rw [if_pos h1]; simp [h1]
  rw [if_neg h1]
  by_cases h2 : t.kind = 2
  · rw [if_pos h2]; simp [h2]
  rw [if_neg h2]
  by_cases h3 : t.kind = 3
  · rw [if_pos h3]; simp [h3]
  rw [if_neg h3]
  by_cases h4 : t.kind = 4
  · rw [if_pos h4]; simp [h4]
  rw [if_neg h4]
  by_cases h5 : t.how = 3
  · rw [if_pos h5]; simp [h1, h2, h3, h4, h5]
  rw [if_neg h5]
  by_cases h6 : t.how = 4
  · rw [if_pos h6]; simp [h1, h2, h3, h4, h6]
  rw [if_neg h6]; simp [h1, h2, h3, h4, h5, h6]

set_option maxRecDepth 100000 in
set_option maxHeartbeats 2000000 in
theorem atom_step (l : List Mt.Tok) (hl : l.length ≤ 64) (ho : Mt.toksOk l) (f : Nat) (h0 : S0 l f) : S2 l (f + 1) := by
  intro a b ai bi d v w hai hbi ht ha hab hb hf hd0 hd1
  subst hai hbi
  have HT : Hid (toks w v l) := ht
  have os := gen_ok ho f 0 (a + 1) (b - 1) d hd0 (by omega)
  have tk := Mt.tokOk_at ho a
  have H0 := fun x : World => h0 (a + 1) (b - 1) ((a : Int) + 1) ((b : Int) - 1) d v x (by omega) (by omega)
  have hcs := atom_cases l f a b d
  obtain ⟨g, cap, rfl, hcap, hg, c0, c1, c2, c3, c4, c5, c6⟩ := tok_at ht ha
  generalize hS : Mt.gen l f 0 (a + 1) (b - 1) d = s at *
  generalize hT : l.getD a Mt.tok0 = t at *
  generalize Mt.gen l (f + 1) 2 a b d = G at *
  obtain ⟨t1, t2, t3, t4, t5, t6, t7⟩ := tk
  have ls := os.1
  have K0 : Hid (∀ x : World, toks x (.slice (some ⟨g, 0, none⟩) l.length cap) l → Calls Tryz.prog 71 #[.slice (some ⟨g, 0, none⟩) l.length cap, .int .i64 ((a : Int) + 1), .int .i64 ((b : Int) - 1), .int .i64 d] x fun e w' => ∃ v', e = .returned v' ∧ ownIns w' 0 v' s ∧ Below x.heap.size x w') := fun x hx => H0 x hx (by omega) (by omega) (by omega) hd0 (by omega)
  have FS : Hid (Mt.fit 70000000 s) := os
  clear hS hT H0 h0 ht os t7
  rcases hcs with ⟨a1, e⟩ | ⟨a1, a2, e⟩ | ⟨a1, a2, a3, e⟩ | ⟨a1, a2, a3, a4, e⟩ | ⟨a1, a2, a3, a4, ⟨a5, e⟩ | ⟨a5, a6, e⟩ | ⟨a5, a6, e⟩⟩
  · rw [e]; clear e
    go_enter Tryz.func126, Tryz.ntmps126
    go_wp2_with fail
    go_ret
    exact ⟨_, rfl, own_lit _ _ (by simp) ⟨1, 0, 0, t.set⟩, by go_grown⟩
  · rw [e]; clear e
    go_enter Tryz.func126, Tryz.ntmps126
    go_wp2_with fail
    go_ret
    exact ⟨_, rfl, own_lit _ _ (by simp) ⟨8, t.n, 0, []⟩, by go_grown⟩
  · rw [e]; clear e
    go_enter Tryz.func126, Tryz.ntmps126
    go_wp2_with fail
    go_ret
    exact ⟨_, rfl, own_lit _ _ (by simp) ⟨9, 0, 0, []⟩, by go_grown⟩
  · rw [e]; clear e
    go_enter Tryz.func126, Tryz.ntmps126
    go_wp2_with fail
    go_ret
    exact ⟨_, rfl, own_lit _ _ (by simp) ⟨10, 0, 0, []⟩, by go_grown⟩
  · rw [e]; clear e
    go_enter Tryz.func126, Tryz.ntmps126
    go_wp2_with fail
    refine (K0.out _ (HT.out.alloc _)).mono ?_
    rintro e w1 ⟨v1, rfl, q1, hb1⟩
    obtain ⟨r0, r1, r2, r3⟩ := one_new hb1
    clear hb1 c0 c1 c2 c3 c4 c5 c6
    go_wp2_with fail
    go_ret
    exact ⟨_, rfl, q1, r3⟩
  · rw [e]; clear e
    have g1 : Mt.fit 70000010 [(⟨6, t.n, 0, []⟩ : Mt.Ins)] := Mt.fit_one (fitI_small _ _ _ _ (by omega) (by omega)) (by omega)
    have g2 := Mt.fit_behind g1 (Mt.fit_mono FS.out (show (70000000 : Int) ≤ 70000010 by omega))
    have F1 : Hid (Mt.fit 900000000 [(⟨6, t.n, 0, []⟩ : Mt.Ins)]) := Mt.fit_mono g1 (by omega)
    have F2 : Hid (Mt.fit 900000000 (Mt.behind [(⟨6, t.n, 0, []⟩ : Mt.Ins)] s)) := Mt.fit_mono g2 (by omega)
    have F3 : Hid (Mt.fit 900000000 [(⟨7, t.n, 0, []⟩ : Mt.Ins)]) := Mt.fit_one (fitI_small _ _ _ _ (by omega) (by omega)) (by omega)
    clear g1 g2
    go_enter Tryz.func126, Tryz.ntmps126
    go_wp2_with fail
    refine (K0.out _ (HT.out.alloc _)).mono ?_
    rintro e w1 ⟨v1, rfl, q1, hb1⟩
    obtain ⟨r0, r1, r2, r3⟩ := one_new hb1
    have hs1 := r3.size
    have Q1 : Hid (ownIns w1 0 v1 s) := q1
    clear hb1 c0 c1 c2 c3 c4 c5 c6 q1
    go_wp2_with fail
    refine (behind_any [⟨6, t.n, 0, []⟩] s _ _ _ (own_lit w1 _ rfl _) (Q1.out.below (by go_grown)) F1.out (Mt.fit_mono FS.out (by omega))).mono ?_
    rintro e w2 ⟨v2, rfl, q2, hb2⟩
    have hB12 : Below w1.heap.size w1 w2 := ((Below.refl _ _).alloc (Nat.le_refl _) _).trans (hb2.mono (by simp))
    have hB2 : Below w.heap.size w w2 := r3.trans (hB12.mono hs1)
    have hs2 := hB2.size
    have Q2 : Hid (ownIns w2 0 v2 (Mt.behind [(⟨6, t.n, 0, []⟩ : Mt.Ins)] s)) := q2
    have s0 := fun o => (hB12.cell (p := ⟨w.heap.size, o, none⟩) r2).trans (r0 o)
    clear q2 hb2 hB12 Q1 r3 r0 r1
    go_wp2_with fail
    refine (behind_any _ [⟨7, t.n, 0, []⟩] _ _ _ (Q2.out.below (by go_grown)) (own_lit w2 _ rfl _) F2.out F3.out).mono ?_
    rintro e w3 ⟨v3, rfl, q3, hb3⟩
    have hB3 : Below w.heap.size w w3 := (hB2.alloc hs2 _).trans (hb3.mono (by simp; omega))
    clear hb3 s0 hB2
    go_wp2_with fail
    go_ret
    exact ⟨_, rfl, q3, hB3⟩
  · rw [e]; clear e
    go_enter Tryz.func126, Tryz.ntmps126
    go_wp2_with fail
    refine (K0.out _ (HT.out.alloc _)).mono ?_
    rintro e w1 ⟨v1, rfl, q1, hb1⟩
    obtain ⟨r0, r1, r2, r3⟩ := one_new hb1
    have hs1 := r3.size
    have Q1 : Hid (ownIns w1 0 v1 s) := q1
    clear hb1 c0 c1 c2 c3 c4 c5 c6 q1
    go_wp2_with fail
    refine (alone_any t.how s _ _ Q1.out (Mt.fit_mono FS.out (by omega)) (by omega) (by omega)).mono ?_
    rintro e w2 ⟨v2, rfl, q2, hb2⟩
    have hB2 : Below w.heap.size w w2 := r3.trans (hb2.mono hs1)
    clear hb2 r0 r1 r3
    go_wp2_with fail
    go_ret
    exact ⟨_, rfl, q2, hB2⟩
end Go.Proofs.YtebpgfodelggoaaGreat
