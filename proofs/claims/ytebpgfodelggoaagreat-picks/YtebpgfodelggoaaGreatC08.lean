import Derived.Test.YtebpgfodelggoaaGreatC07
import Derived.Test.YtebpgfodelggoaaGreatC02
import Derived.Test.YtebpgfodelggoaaGreatC06
set_option linter.unusedVariables false
set_option linter.unusedSimpArgs false
namespace Go.Proofs.YtebpgfodelggoaaGreat
open Go.RowKit

set_option maxHeartbeats 1000000 in
theorem after_any (l : List Mt.Tok) (i : Nat) (v : Value) (w : World) (h : toks w v l) (hl : l.length ≤ 64) (hi : i < l.length) :
    Calls Tryz.prog 86 #[v, .int .i64 i] w fun e w' => e = .returned (.int .i64 (Mt.after l i)) ∧ w = w' := by
  have hcl := Mt.closing_le l i (by omega)
  have HK : Hid (toks w v l) := h
  rcases toks_cases h with ⟨rfl, ao, cap, rfl⟩ | ⟨hp, g, cap, rfl, hcap, hg, hc⟩
  · simp at hi
  · have hc0 : w.cell? ⟨g, i * 7, none⟩ = some (.int .i64 (l.getD i Mt.tok0).kind) := hc i 0 hi (by omega)
    clear hc h
    have e : Mt.after l i = if (l.getD i Mt.tok0).kind = 6 then Mt.closing l i + 1 else i + 1 := rfl
    rw [e]; clear e
    generalize hT : (l.getD i Mt.tok0).kind = T at *
    clear hT
    cases hk : (T == 6)
    · rw [if_neg (by simpa using hk)]
      go_enter Tryz.func86, Tryz.ntmps86
      go_wp2_with fail
      go_ret
      exact ⟨ret_int (by omega), rfl⟩
    · rw [if_pos (by simpa using hk)]
      go_enter Tryz.func86, Tryz.ntmps86
      go_wp2_with (first | (go_at_call 85; refine (closing_any l _ _ _ HK.out hl (by omega)).mono ?_; rintro e w' ⟨rfl, rfl⟩))
      go_ret
      exact ⟨ret_int (by omega), rfl⟩

set_option maxHeartbeats 1000000 in
theorem bar_any (l : List Mt.Tok) (a b : Nat) (v : Value) (w : World) (h : toks w v l) (hl : l.length ≤ 64) (ha : a ≤ 100) (hb : b ≤ l.length) :
    Calls Tryz.prog 52 #[v, .int .i64 a, .int .i64 b] w fun e w' => e = .returned (.int .i64 (Mt.bar l a b)) ∧ w = w' := by
  have HK : Hid (toks w v l) := h
  rcases toks_cases h with ⟨rfl, ao, cap, rfl⟩ | ⟨hp, g, cap, rfl, hcap, hg, hc⟩
  · have hb0 : b = 0 := by simpa using hb
    subst hb0
    clear h
    have e : Mt.bar [] a 0 = 0 := by rw [Mt.bar_step, if_pos (by omega)]
    rw [e]; clear e
    go_enter Tryz.func52, Tryz.ntmps52
    go_wp2_with fail
    refine wp_loop_rounds 1 ?_
    rw [rounds_succ]
    go_wp2_with fail
    go_ret
    exact ⟨rfl, rfl⟩
  · have HC : Hid (∀ k j, k < l.length → j < 7 → w.cell? ⟨g, k * 7 + j, none⟩ = (tokCells (l.getD k Mt.tok0))[j]?) := hc
    clear hc h
    go_enter Tryz.func52, Tryz.ntmps52
    go_wp2_with fail
    go_loop [7] (fun i => ∃ k : Nat, k ≤ 200 ∧ i = .int .i64 k ∧ Mt.bar l a b = Mt.bar l k b) (fun i => b - (intOf i).toNat)
    case atStart => exact ⟨a, by omega, rfl, rfl⟩
    case round =>
      obtain ⟨k, hk, rfl, hr⟩ := hrel
      have H : Hid (Mt.bar l a b = Mt.bar l k b) := hr
      clear hr
      by_cases hlt : k < b
      · have hc0 : w.cell? ⟨g, k * 7, none⟩ = some (.int .i64 (l.getD k Mt.tok0).kind) := HC.out k 0 (by omega) (by omega)
        have hcl := Mt.closing_le l k (by omega)
        have hcg := Mt.closing_ge l k
        have hst : Mt.bar l a b = if (l.getD k Mt.tok0).kind = 5 then k else if (l.getD k Mt.tok0).kind = 6 then Mt.bar l (Mt.closing l k + 1) b else Mt.bar l (k + 1) b := by
          rw [H.out, Mt.bar_step, if_neg (by omega)]; rfl
        generalize hT : (l.getD k Mt.tok0).kind = T at *
        clear hT H
        cases h5 : (T == 5)
        · rw [if_neg (by simpa using h5)] at hst
          cases h6 : (T == 6)
          · rw [if_neg (by simpa using h6)] at hst
            have R : Hid (Mt.bar l a b = Mt.bar l (k + 1) b) := hst
            clear hst
            go_wp2_with fail
            go_round
            case rel => exact ⟨k + 1, by omega, by go_num, R.out⟩
            case measure => simp [intOf]; omega
          · rw [if_pos (by simpa using h6)] at hst
            have R : Hid (Mt.bar l a b = Mt.bar l (Mt.closing l k + 1) b) := hst
            clear hst
            go_wp2_with (first | (go_at_call 85; refine (closing_any l _ _ _ HK.out hl (by omega)).mono ?_; rintro e w' ⟨rfl, rfl⟩))
            go_round
            case rel => exact ⟨Mt.closing l k + 1, by omega, by go_num, R.out⟩
            case measure => simp [intOf]; omega
        · rw [if_pos (by simpa using h5)] at hst
          have R : Hid (Mt.bar l a b = k) := hst
          clear hst
          go_wp2_with fail
          go_ret
          exact ⟨ret_int (by rw [R.out]), rfl⟩
      · have R : Hid (Mt.bar l a b = b) := by show _ = _; rw [H.out, Mt.bar_step, if_pos (by omega)]
        clear H
        go_wp2_with fail
        go_ret
        exact ⟨ret_int (by rw [R.out]), rfl⟩
end Go.Proofs.YtebpgfodelggoaaGreat
/- Bounds of the codes that are put together. -/
set_option linter.unusedVariables false
namespace Mt

def fit2 (L N : Int) (c : List Ins) : Prop := (c.length : Int) ≤ L ∧ ∀ i ∈ c, fitI N i
theorem fit2_mono {L N L' N' : Int} {c : List Ins} (h : fit2 L N c) (hL : L ≤ L') (hN : N ≤ N') : fit2 L' N' c := ⟨by have := h.1; omega, fun i hi => fitI_mono (h.2 i hi) hN⟩
theorem fit2_fit {L N M : Int} {c : List Ins} (h : fit2 L N c) (hL : L ≤ M) (hN : N ≤ M) : fit M c := ⟨by have := h.1; omega, fun i hi => fitI_mono (h.2 i hi) hN⟩
theorem fit2_one {L N : Int} {i : Ins} (h : fitI N i) (h1 : 1 ≤ L) : fit2 L N [i] := ⟨by simpa using h1, fun j hj => by simp at hj; rw [hj]; exact h⟩
theorem fit2_nil {L N : Int} (h : 0 ≤ L) : fit2 L N [] := ⟨by simpa using h, fun j hj => by simp at hj⟩
theorem fit2_split {L N : Int} (x y : Int) (late : Bool) (hx : -N ≤ x ∧ x ≤ N) (hy : -N ≤ y ∧ y ≤ N) (h1 : 1 ≤ L) : fit2 L N (splitC x y late) := by
  unfold splitC
  cases late
  · exact fit2_one ⟨hx.1, hx.2, hy.1, hy.2⟩ h1
  · exact fit2_one ⟨hy.1, hy.2, hx.1, hx.2⟩ h1
/-- The same bound behind every round. -/
theorem fit2_same {L N : Int} {a b : List Ins} (ha : fit2 (L + 300) (N + 300) a) (hb : fit2 L N b) : fit2 (L + 300) (N + 300) (behind a b) := by
  unfold behind
  by_cases h : 300 < a.length
  · rw [if_pos h]; exact ha
  · rw [if_neg h]
    refine ⟨?_, fun i hi => ?_⟩
    · rw [List.length_append, moved_len]; have := hb.1; omega
    · rcases List.mem_append.1 hi with hi | hi
      · exact ha.2 i hi
      · unfold moved at hi
        obtain ⟨j, hj, rfl⟩ := List.mem_map.1 hi
        exact fitI_moved (hb.2 j hj) (by omega) (by omega)
theorem fit2_behind {L N : Int} {a b : List Ins} (ha : fit2 L N a) (hb : fit2 L N b) : fit2 (L + 300) (N + 300) (behind a b) :=
  fit2_same (fit2_mono ha (by omega) (by omega)) hb
theorem fit2_alone {L N : Int} (s : Int) {c : List Ins} (hc : fit2 L N c) (hs : 0 ≤ s ∧ s ≤ 10) (hN : L + 2 ≤ N) (h1 : 10 ≤ L) : fit2 (L + 600) (N + 600) (alone s c) := by
  have hl := hc.1
  have h0 : (0 : Int) ≤ c.length := by omega
  have g := fit2_behind (fit2_one (L := L) (N := N) (i := ⟨11, s, (c.length : Int) + 2, []⟩) ⟨by simp only; omega, by simp only; omega, by simp only; omega, by simp only; omega⟩ (by omega)) hc
  have g2 := fit2_behind g (fit2_one (L := L + 300) (N := N + 300) (i := ⟨12, 0, 0, []⟩) ⟨by simp only; omega, by simp only; omega, by simp only; omega, by simp only; omega⟩ (by omega))
  exact fit2_mono g2 (by omega) (by omega)
theorem fit2_loop {L N : Int} (d : Int) (late : Bool) {y : List Ins} (hy : fit2 L N y) (hd : 0 ≤ d ∧ d ≤ N) (hN : L + 3 ≤ N) (h1 : 10 ≤ L) : fit2 (L + 900) (N + 900) (loopC y d late) := by
  have hl := hy.1
  have h0 : (0 : Int) ≤ y.length := by omega
  have g1 := fit2_behind (fit2_split (L := L) (N := N) 1 ((y.length : Int) + 3) late (by omega) (by omega) (by omega)) (fit2_one (L := L) (N := N) (i := ⟨4, d, 0, []⟩) ⟨by simp only; omega, by simp only; omega, by simp only; omega, by simp only; omega⟩ (by omega))
  have g2 := fit2_behind g1 (fit2_mono hy (show L ≤ L + 300 by omega) (show N ≤ N + 300 by omega))
  have g3 := fit2_behind g2 (fit2_one (L := L + 300 + 300) (N := N + 300 + 300) (i := ⟨5, -(y.length : Int) - 2, d, []⟩) ⟨by simp only; omega, by simp only; omega, by simp only; omega, by simp only; omega⟩ (by omega))
  exact fit2_mono g3 (by omega) (by omega)
theorem fit2_times {L N : Int} {x : List Ins} (hx : fit2 L N x) : ∀ (n : Nat) (c : List Ins), fit2 (L + 300) (N + 300) c → fit2 (L + 300) (N + 300) (timesFrom x n c)
  | 0, c, h => h
  | n + 1, c, h => fit2_times hx n _ (fit2_same h hx)
theorem mul_bound (n : Nat) (k : Int) (hn : n < 20) (hk : 0 ≤ k) : 0 ≤ ((n : Int) + 1) * (k + 1) ∧ ((n : Int) + 1) * (k + 1) ≤ 20 * (k + 1) := by
  refine ⟨Int.mul_nonneg (by omega) (by omega), ?_⟩
  exact Int.mul_le_mul_of_nonneg_right (by omega) (by omega)
theorem fit2_upTo {L N : Int} {x : List Ins} (late : Bool) (hx : fit2 L N x) (hN : 20 * (L + 1) ≤ N) (h1 : 10 ≤ L) : ∀ (n : Nat) (c : List Ins), n ≤ 20 → fit2 (L + 600) (N + 600) c → fit2 (L + 600) (N + 600) (upToFrom x late n c)
  | 0, c, _, h => h
  | n + 1, c, hn, h => by
    have hl := hx.1
    have m := mul_bound n (x.length : Int) (by omega) (by omega)
    have g := fit2_behind (fit2_split (L := L) (N := N) 1 (((n : Int) + 1) * ((x.length : Int) + 1)) late (by omega) (by omega) (by omega)) hx
    exact fit2_upTo late hx hN h1 n _ (by omega) (fit2_mono (fit2_same (L := L + 300) (N := N + 300) (fit2_mono h (by omega) (by omega)) g) (by omega) (by omega))

theorem fit2_seq {L N : Int} (at' rp : Nat → Nat → List Ins) (l : List Tok) (b : Nat) (h1 : ∀ i j, fit2 L N (at' i j)) (h2 : ∀ i j, fit2 L N (rp i j)) : ∀ (f i : Nat) (c : List Ins), fit2 (L + 300) (N + 300) c → fit2 (L + 300) (N + 300) (seqWith at' rp l b f i c)
  | 0, i, c, h => h
  | f + 1, i, c, h => by
    simp only [seqWith]
    split
    · exact h
    · split
      · exact fit2_seq at' rp l b h1 h2 f _ _ (fit2_same h (h2 _ _))
      · exact fit2_seq at' rp l b h1 h2 f _ _ (fit2_same h (h1 _ _))

/-- A token's numbers are small. -/
def tokOk (t : Tok) : Prop := 0 ≤ t.n ∧ t.n ≤ 100 ∧ -1 ≤ t.m ∧ t.m ≤ 20 ∧ 0 ≤ t.how ∧ t.how ≤ 4 ∧ (t.kind = 8 → t.n ≤ 20)
def toksOk (l : List Tok) : Prop := ∀ t ∈ l, tokOk t
theorem tokOk_at {l : List Tok} (h : toksOk l) (k : Nat) : tokOk (l.getD k tok0) := by
  rw [List.getD_eq_getElem?_getD]
  by_cases hk : k < l.length
  · rw [List.getElem?_eq_getElem hk]; exact h _ (List.getElem_mem hk)
  · rw [List.getElem?_eq_none (by omega)]; simp [tokOk, tok0]

theorem gen_fit (l : List Tok) (hl : toksOk l) : ∀ (f tag a b : Nat) (d : Int), 0 ≤ d → d + f ≤ 1000 → fit2 (2000 * ((f : Int) + 1)) (60000 * ((f : Int) + 1)) (gen l f tag a b d) := by
  intro f
  induction f with
  | zero => intro tag a b d h0 h1; simp only [gen]; exact fit2_nil (by omega)
  | succ f ih =>
    intro tag a b d h0 h1
    have I := fun tag a b => ih tag a b d h0 (by omega)
    have J := fun tag a b => ih tag a b (d + 1) (by omega) (by omega)
    match tag with
    | 0 =>
      simp only [gen]
      split
      · exact fit2_mono (I 1 a _) (by omega) (by omega)
      · have hs := I 1 a (bar l a b)
        have hr := I 0 (bar l a b + 1) b
        generalize gen l f 1 a (bar l a b) d = s at *
        generalize gen l f 0 (bar l a b + 1) b d = r at *
        have ls := hs.1
        have lr := hr.1
        have g1 := fit2_behind (fit2_split (L := 2000 * ((f : Int) + 1)) (N := 60000 * ((f : Int) + 1)) 1 ((s.length : Int) + 2) false (by omega) (by omega) (by omega)) hs
        have g2 := fit2_behind g1 (fit2_one (L := 2000 * ((f : Int) + 1) + 300) (N := 60000 * ((f : Int) + 1) + 300) (i := ⟨3, 1 + (r.length : Int), 0, []⟩) ⟨by simp only; omega, by simp only; omega, by simp only; omega, by simp only; omega⟩ (by omega))
        have g3 := fit2_behind g2 (fit2_mono hr (show _ ≤ 2000 * ((f : Int) + 1) + 300 + 300 by omega) (show _ ≤ 60000 * ((f : Int) + 1) + 300 + 300 by omega))
        exact fit2_mono g3 (by omega) (by omega)
    | 1 =>
      simp only [gen]
      exact fit2_mono (fit2_seq _ _ l b (fun i j => I 2 i j) (fun i j => I 3 i j) (b - a) a [] (fit2_nil (by omega))) (by omega) (by omega)
    | 2 =>
      simp only [gen]
      have hi := I 0 (a + 1) (b - 1)
      have ht := tokOk_at hl a
      generalize gen l f 0 (a + 1) (b - 1) d = s at *
      generalize l.getD a tok0 = t at *
      obtain ⟨t1, t2, t3, t4, t5, t6, t7⟩ := ht
      split
      · exact fit2_one ⟨by simp only; omega, by simp only; omega, by simp only; omega, by simp only; omega⟩ (by omega)
      split
      · exact fit2_one ⟨by simp only; omega, by simp only; omega, by simp only; omega, by simp only; omega⟩ (by omega)
      split
      · exact fit2_one ⟨by simp only; omega, by simp only; omega, by simp only; omega, by simp only; omega⟩ (by omega)
      split
      · exact fit2_one ⟨by simp only; omega, by simp only; omega, by simp only; omega, by simp only; omega⟩ (by omega)
      split
      · exact fit2_mono hi (by omega) (by omega)
      split
      · have g1 := fit2_behind (fit2_one (L := 2000 * ((f : Int) + 1)) (N := 60000 * ((f : Int) + 1)) (i := ⟨6, t.n, 0, []⟩) ⟨by simp only; omega, by simp only; omega, by simp only; omega, by simp only; omega⟩ (by omega)) hi
        have g2 := fit2_behind g1 (fit2_one (L := 2000 * ((f : Int) + 1) + 300) (N := 60000 * ((f : Int) + 1) + 300) (i := ⟨7, t.n, 0, []⟩) ⟨by simp only; omega, by simp only; omega, by simp only; omega, by simp only; omega⟩ (by omega))
        exact fit2_mono g2 (by omega) (by omega)
      · exact fit2_mono (fit2_alone t.how hi (by omega) (by omega) (by omega)) (by omega) (by omega)
    | n + 3 =>
      simp only [gen]
      have hx := I 2 a b
      have hy := J 2 a b
      have ht := tokOk_at hl b
      generalize gen l f 2 a b d = x at *
      generalize gen l f 2 a b (d + 1) = y at *
      generalize l.getD b tok0 = t at *
      obtain ⟨t1, t2, t3, t4, t5, t6, t7⟩ := ht
      have c1 : fit2 (2000 * ((f : Int) + 1) + 900) (60000 * ((f : Int) + 1) + 900) (if 0 < t.n ∨ 0 < t.m then (if t.n < t.m then behind (timesFrom x t.n.toNat []) (upTo x (t.m - t.n).toNat (decide (t.how = 1))) else timesFrom x t.n.toNat []) else []) := by
        have k1 := fit2_times hx t.n.toNat [] (fit2_nil (by omega))
        split
        · split
          · have k2 := fit2_upTo (decide (t.how = 1)) hx (by omega) (by omega) (t.m - t.n).toNat [] (by omega) (fit2_nil (by omega))
            exact fit2_mono (fit2_behind (fit2_mono k1 (show _ ≤ 2000 * ((f : Int) + 1) + 600 by omega) (show _ ≤ 60000 * ((f : Int) + 1) + 600 by omega)) k2) (by omega) (by omega)
          · exact fit2_mono k1 (by omega) (by omega)
        · exact fit2_nil (by omega)
      generalize (if 0 < t.n ∨ 0 < t.m then (if t.n < t.m then behind (timesFrom x t.n.toNat []) (upTo x (t.m - t.n).toNat (decide (t.how = 1))) else timesFrom x t.n.toNat []) else []) = c at *
      have c2 : fit2 (2000 * ((f : Int) + 1) + 1200) (60000 * ((f : Int) + 1) + 1200) (if t.m < 0 then behind c (loopC y d (decide (t.how = 1))) else c) := by
        split
        · exact fit2_mono (fit2_behind c1 (fit2_loop d (decide (t.how = 1)) hy (by omega) (by omega) (by omega))) (by omega) (by omega)
        · exact fit2_mono c1 (by omega) (by omega)
      split
      · exact fit2_mono (fit2_alone 0 c2 (by omega) (by omega) (by omega)) (by omega) (by omega)
      · exact fit2_mono c2 (by omega) (by omega)

end Mt
set_option linter.unusedVariables false
set_option linter.unusedSimpArgs false
namespace Go.Proofs.YtebpgfodelggoaaGreat
open Go.RowKit

/-- What the four functions that call each other answer, with f rounds of fuel. -/
def S0 (l : List Mt.Tok) (f : Nat) : Prop := ∀ (a b : Nat) (ai bi d : Int) (v : Value) (w : World), ai = a → bi = b → toks w v l → a ≤ 66 → b ≤ l.length → 4 * (70 - a) + 3 ≤ f → 0 ≤ d → d + f ≤ 1000 →
  Calls Tryz.prog 71 #[v, .int .i64 ai, .int .i64 bi, .int .i64 d] w fun e w' => ∃ v', e = .returned v' ∧ ownIns w' 0 v' (Mt.gen l f 0 a b d) ∧ Below w.heap.size w w'
def S1 (l : List Mt.Tok) (f : Nat) : Prop := ∀ (a b : Nat) (ai bi d : Int) (v : Value) (w : World), ai = a → bi = b → toks w v l → a ≤ 66 → b ≤ l.length → 4 * (70 - a) + 2 ≤ f → 0 ≤ d → d + f ≤ 1000 →
  Calls Tryz.prog 101 #[v, .int .i64 ai, .int .i64 bi, .int .i64 d] w fun e w' => ∃ v', e = .returned v' ∧ ownIns w' 0 v' (Mt.gen l f 1 a b d) ∧ Below w.heap.size w w'
def S2 (l : List Mt.Tok) (f : Nat) : Prop := ∀ (a b : Nat) (ai bi d : Int) (v : Value) (w : World), ai = a → bi = b → toks w v l → a < l.length → a < b → b ≤ l.length + 1 → 4 * (70 - a) ≤ f → 0 ≤ d → d + f ≤ 1000 →
  Calls Tryz.prog 126 #[v, .int .i64 ai, .int .i64 bi, .int .i64 d] w fun e w' => ∃ v', e = .returned v' ∧ ownIns w' 0 v' (Mt.gen l f 2 a b d) ∧ Below w.heap.size w w'
def S3 (l : List Mt.Tok) (f : Nat) : Prop := ∀ (a b : Nat) (ai bi d : Int) (v : Value) (w : World), ai = a → bi = b → toks w v l → a < l.length → a < b → b < l.length → Mt.kindAt l b = 8 → 4 * (70 - a) + 1 ≤ f → 0 ≤ d → d + f ≤ 1000 →
  Calls Tryz.prog 125 #[v, .int .i64 ai, .int .i64 bi, .int .i64 d] w fun e w' => ∃ v', e = .returned v' ∧ ownIns w' 0 v' (Mt.gen l f 3 a b d) ∧ Below w.heap.size w w'

theorem gen_ok {l : List Mt.Tok} (hl : Mt.toksOk l) (f tag a b : Nat) (d : Int) (h0 : 0 ≤ d) (h1 : d + f ≤ 1000) : Mt.fit 70000000 (Mt.gen l f tag a b d) :=
  Mt.fit2_fit (Mt.gen_fit l hl f tag a b d h0 h1) (by omega) (by omega)

set_option maxRecDepth 100000 in
set_option maxHeartbeats 2000000 in
theorem alternatives_step (l : List Mt.Tok) (hl : l.length ≤ 64) (ho : Mt.toksOk l) (f : Nat) (h0 : S0 l f) (h1 : S1 l f) : S0 l (f + 1) := by
  intro a b ai bi d v w hai hbi ht ha hb hf hd0 hd1
  subst hai hbi
  have HT : Hid (toks w v l) := ht
  clear ht
  have hbl := Mt.bar_le l b (b - a) a (Nat.le_refl _)
  have hbg := Mt.bar_ge l b (b - a) a (Nat.le_refl _)
  have os := gen_ok ho f 1 a (Mt.bar l a b) d hd0 (by omega)
  have or := gen_ok ho f 0 (Mt.bar l a b + 1) b d hd0 (by omega)
  cases hk : ((Mt.bar l a b : Int) == (b : Int))
  · have hne : ¬ Mt.bar l a b = b := by simp at hk; omega
    have e : Mt.gen l (f + 1) 0 a b d = Mt.behind (Mt.behind (Mt.behind (Mt.splitC 1 (((Mt.gen l f 1 a (Mt.bar l a b) d).length : Int) + 2) false) (Mt.gen l f 1 a (Mt.bar l a b) d)) (Mt.jumpC (1 + ((Mt.gen l f 0 (Mt.bar l a b + 1) b d).length : Int)))) (Mt.gen l f 0 (Mt.bar l a b + 1) b d) := by
      simp only [Mt.gen]; rw [if_neg hne]
    rw [e]; clear e
    have H1 := fun x : World => h1 a (Mt.bar l a b) a (Mt.bar l a b) d v x rfl rfl
    have H0 := fun x : World => h0 (Mt.bar l a b + 1) b ((Mt.bar l a b : Int) + 1) b d v x (by omega) rfl
    generalize hS : Mt.gen l f 1 a (Mt.bar l a b) d = s at *
    generalize hR : Mt.gen l f 0 (Mt.bar l a b + 1) b d = r at *
    clear hS hR h0 h1
    have ls := os.1
    have lr := or.1
    have g1 : Mt.fit 70000010 (Mt.splitC 1 ((s.length : Int) + 2) false) := fit_split _ _ _ (by omega) (by omega) (by omega)
    have g2 := Mt.fit_behind g1 (Mt.fit_mono os (show (70000000 : Int) ≤ 70000010 by omega))
    have g3 : Mt.fit 70000310 (Mt.jumpC (1 + (r.length : Int))) := Mt.fit_one (fitI_small _ _ _ _ (by omega) (by omega)) (by omega)
    have g4 := Mt.fit_behind g2 (Mt.fit_mono g3 (by omega))
    have F0 : Hid (Mt.fit 900000000 s) := Mt.fit_mono os (by omega)
    have F1 : Hid (Mt.fit 900000000 r) := Mt.fit_mono or (by omega)
    have F2 : Hid (Mt.fit 900000000 (Mt.splitC 1 ((s.length : Int) + 2) false)) := Mt.fit_mono g1 (by omega)
    have F3 : Hid (Mt.fit 900000000 (Mt.behind (Mt.splitC 1 ((s.length : Int) + 2) false) s)) := Mt.fit_mono g2 (by omega)
    have F4 : Hid (Mt.fit 900000000 (Mt.jumpC (1 + (r.length : Int)))) := Mt.fit_mono g3 (by omega)
    have F5 : Hid (Mt.fit 900000000 (Mt.behind (Mt.behind (Mt.splitC 1 ((s.length : Int) + 2) false) s) (Mt.jumpC (1 + (r.length : Int))))) := Mt.fit_mono g4 (by omega)
    have K1 : Hid (∀ x : World, toks x v l → Calls Tryz.prog 101 #[v, .int .i64 a, .int .i64 (Mt.bar l a b), .int .i64 d] x fun e w' => ∃ v', e = .returned v' ∧ ownIns w' 0 v' s ∧ Below x.heap.size x w') := fun x hx => H1 x hx (by omega) (by omega) (by omega) hd0 (by omega)
    have K0 : Hid (∀ x : World, toks x v l → Calls Tryz.prog 71 #[v, .int .i64 ((Mt.bar l a b : Int) + 1), .int .i64 b, .int .i64 d] x fun e w' => ∃ v', e = .returned v' ∧ ownIns w' 0 v' r ∧ Below x.heap.size x w') := fun x hx => H0 x hx (by omega) (by omega) (by omega) hd0 (by omega)
    clear g1 g2 g3 g4 os or H1 H0 hbg hne
    go_enter Tryz.func71, Tryz.ntmps71
    go_wp2_with (first | (go_at_call 52; refine (bar_any l _ _ _ _ HT.out hl (by omega) hb).mono ?_; rintro e w' ⟨rfl, rfl⟩) | fail)
    refine (K1.out _ HT.out).mono ?_
    rintro e w1 ⟨v1, rfl, q1, hb1⟩
    have hs1 := hb1.size
    obtain ⟨ao, cap, rfl⟩ := len_val q1
    have Q1 : Hid (ownIns w1 0 (.slice ao s.length cap) s) := q1
    have HT1 : Hid (toks w1 v l) := toks_below HT.out hb1
    clear q1
    go_wp2_with fail
    refine (K0.out _ HT1.out).mono ?_
    rintro e w2 ⟨v2, rfl, q2, hb2⟩
    have hB2 : Below w.heap.size w w2 := hb1.trans (hb2.mono hs1)
    have hs2 := hB2.size
    obtain ⟨ao2, cap2, rfl⟩ := len_val q2
    have Q2 : Hid (ownIns w2 0 (.slice ao2 r.length cap2) r) := q2
    have Q1' : Hid (ownIns w2 0 (.slice ao s.length cap) s) := Q1.out.below hb2
    clear q2 hb1 hb2 Q1 HT HT1
    go_wp2_with fail
    refine (split_any _ _ _ _).mono ?_
    rintro e w3 ⟨v3, rfl, q3, hb3⟩
    have hB3 : Below w.heap.size w w3 := hB2.trans (hb3.mono hs2)
    have hs3 := hB3.size
    have Q3 : Hid (ownIns w3 0 v3 (Mt.splitC 1 ((s.length : Int) + 2) false)) := q3
    have Q1'' : Hid (ownIns w3 0 (.slice ao s.length cap) s) := Q1'.out.below hb3
    have Q2' : Hid (ownIns w3 0 (.slice ao2 r.length cap2) r) := Q2.out.below hb3
    clear q3 hb3 Q1' Q2 hB2
    go_wp2_with fail
    refine (behind_any _ s _ _ _ Q3.out Q1''.out F2.out F0.out).mono ?_
    rintro e w4 ⟨v4, rfl, q4, hb4⟩
    have hB4 : Below w.heap.size w w4 := hB3.trans (hb4.mono hs3)
    have hs4 := hB4.size
    have Q4 : Hid (ownIns w4 0 v4 (Mt.behind (Mt.splitC 1 ((s.length : Int) + 2) false) s)) := q4
    have Q2'' : Hid (ownIns w4 0 (.slice ao2 r.length cap2) r) := Q2'.out.below hb4
    clear q4 hb4 Q1'' Q2' hB3 Q3
    go_wp2_with fail
    refine (behind_any _ (Mt.jumpC (1 + (r.length : Int))) _ _ _ (Q4.out.below (by go_grown)) (own_lit w4 _ rfl ⟨3, 1 + (r.length : Int), 0, []⟩) F3.out F4.out).mono ?_
    rintro e w5 ⟨v5, rfl, q5, hb5⟩
    have hB45 : Below w4.heap.size w4 w5 := ((Below.refl _ _).alloc (Nat.le_refl _) _).trans (hb5.mono (by simp))
    have hB5 : Below w.heap.size w w5 := hB4.trans (hB45.mono hs4)
    have hs5 := hB5.size
    have Q5 : Hid (ownIns w5 0 v5 (Mt.behind (Mt.behind (Mt.splitC 1 ((s.length : Int) + 2) false) s) (Mt.jumpC (1 + (r.length : Int))))) := q5
    have Q2e : Hid (ownIns w5 0 (.slice ao2 r.length cap2) r) := Q2''.out.below hB45
    clear q5 hb5 hB45 Q2'' Q4 hB4
    go_wp2_with fail
    refine (behind_any _ r _ _ _ Q5.out Q2e.out F5.out F1.out).mono ?_
    rintro e w6 ⟨v6, rfl, q6, hb6⟩
    have hB6 : Below w.heap.size w w6 := hB5.trans (hb6.mono hs5)
    clear hb6 hB5
    go_wp2_with fail
    go_ret
    exact ⟨_, rfl, q6, hB6⟩
  · have he : Mt.bar l a b = b := by simp at hk; omega
    have e : Mt.gen l (f + 1) 0 a b d = Mt.gen l f 1 a (Mt.bar l a b) d := by simp only [Mt.gen]; rw [if_pos he]
    rw [e]; clear e
    have H1 := fun x : World => h1 a (Mt.bar l a b) a (Mt.bar l a b) d v x rfl rfl
    generalize hS : Mt.gen l f 1 a (Mt.bar l a b) d = s at *
    clear hS h0 h1
    have K1 : Hid (∀ x : World, toks x v l → Calls Tryz.prog 101 #[v, .int .i64 a, .int .i64 (Mt.bar l a b), .int .i64 d] x fun e w' => ∃ v', e = .returned v' ∧ ownIns w' 0 v' s ∧ Below x.heap.size x w') := fun x hx => H1 x hx (by omega) (by omega) (by omega) hd0 (by omega)
    clear os or H1 hbg he
    go_enter Tryz.func71, Tryz.ntmps71
    go_wp2_with (first | (go_at_call 52; refine (bar_any l _ _ _ _ HT.out hl (by omega) hb).mono ?_; rintro e w' ⟨rfl, rfl⟩) | fail)
    refine (K1.out _ HT.out).mono ?_
    rintro e w1 ⟨v1, rfl, q1, hb1⟩
    go_wp2_with fail
    go_ret
    exact ⟨_, rfl, q1, hb1⟩
end Go.Proofs.YtebpgfodelggoaaGreat
