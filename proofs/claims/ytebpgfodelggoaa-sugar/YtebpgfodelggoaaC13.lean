import Derived.Test.YtebpgfodelggoaaC04
/- Bounds of the codes that are put together. -/
set_option linter.unusedVariables false
namespace Mt

def fit2 (L N : Int) (c : List Ins) : Prop := (c.length : Int) ≤ L ∧ ∀ i ∈ c, fitI N i
theorem fit2_mono {L N L' N' : Int} {c : List Ins} (h : fit2 L N c) (hL : L ≤ L') (hN : N ≤ N') : fit2 L' N' c := ⟨by have := h.1; omega, fun i hi => fitI_mono (h.2 i hi) hN⟩
theorem fit2_fit {L N M : Int} {c : List Ins} (h : fit2 L N c) (hL : L ≤ M) (hN : N ≤ M) : fit M c := ⟨by have := h.1; omega, fun i hi => fitI_mono (h.2 i hi) hN⟩
theorem fit2_one {L N : Int} {i : Ins} (h : fitI N i) (h1 : 1 ≤ L) : fit2 L N [i] := ⟨by simpa using h1, fun j hj => by simp at hj; rw [hj]; exact h⟩
theorem fit2_nil {L N : Int} (h : 0 ≤ L) : fit2 L N [] := ⟨by simpa using h, fun j hj => by simp at hj⟩
theorem fit2_split {L N : Int} (x y : Int) (late : Bool) (hx : -N ≤ x ∧ x ≤ N) (hy : -N ≤ y ∧ y ≤ N) (h1 : 1 ≤ L) : fit2 L N (splitC x y late) := by
  unfold splitC
  cases late
  · exact fit2_one ⟨hx.1, hx.2, hy.1, hy.2⟩ h1
  · exact fit2_one ⟨hy.1, hy.2, hx.1, hx.2⟩ h1
/-- The same bound behind every round. -/
theorem fit2_same {L N : Int} {a b : List Ins} (ha : fit2 (L + 300) (N + 300) a) (hb : fit2 L N b) : fit2 (L + 300) (N + 300) (behind a b) := by
  unfold behind
  by_cases h : 300 < a.length
  · rw [if_pos h]; exact ha
  · rw [if_neg h]
    refine ⟨?_, fun i hi => ?_⟩
    · rw [List.length_append, moved_len]; have := hb.1; omega
    · rcases List.mem_append.1 hi with hi | hi
      · exact ha.2 i hi
      · unfold moved at hi
        obtain ⟨j, hj, rfl⟩ := List.mem_map.1 hi
        exact fitI_moved (hb.2 j hj) (by omega) (by omega)
theorem fit2_behind {L N : Int} {a b : List Ins} (ha : fit2 L N a) (hb : fit2 L N b) : fit2 (L + 300) (N + 300) (behind a b) :=
  fit2_same (fit2_mono ha (by omega) (by omega)) hb
theorem fit2_alone {L N : Int} (s : Int) {c : List Ins} (hc : fit2 L N c) (hs : 0 ≤ s ∧ s ≤ 10) (hN : L + 2 ≤ N) (h1 : 10 ≤ L) : fit2 (L + 600) (N + 600) (alone s c) := by
  have hl := hc.1
  have h0 : (0 : Int) ≤ c.length := by omega
  have g := fit2_behind (fit2_one (L := L) (N := N) (i := ⟨11, s, (c.length : Int) + 2, []⟩) ⟨by simp only; omega, by simp only; omega, by simp only; omega, by simp only; omega⟩ (by omega)) hc
  have g2 := fit2_behind g (fit2_one (L := L + 300) (N := N + 300) (i := ⟨12, 0, 0, []⟩) ⟨by simp only; omega, by simp only; omega, by simp only; omega, by simp only; omega⟩ (by omega))
  exact fit2_mono g2 (by omega) (by omega)
theorem fit2_loop {L N : Int} (d : Int) (late : Bool) {y : List Ins} (hy : fit2 L N y) (hd : 0 ≤ d ∧ d ≤ N) (hN : L + 3 ≤ N) (h1 : 10 ≤ L) : fit2 (L + 900) (N + 900) (loopC y d late) := by
  have hl := hy.1
  have h0 : (0 : Int) ≤ y.length := by omega
  have g1 := fit2_behind (fit2_split (L := L) (N := N) 1 ((y.length : Int) + 3) late (by omega) (by omega) (by omega)) (fit2_one (L := L) (N := N) (i := ⟨4, d, 0, []⟩) ⟨by simp only; omega, by simp only; omega, by simp only; omega, by simp only; omega⟩ (by omega))
  have g2 := fit2_behind g1 (fit2_mono hy (show L ≤ L + 300 by omega) (show N ≤ N + 300 by omega))
  have g3 := fit2_behind g2 (fit2_one (L := L + 300 + 300) (N := N + 300 + 300) (i := ⟨5, -(y.length : Int) - 2, d, []⟩) ⟨by simp only; omega, by simp only; omega, by simp only; omega, by simp only; omega⟩ (by omega))
  exact fit2_mono g3 (by omega) (by omega)
theorem fit2_times {L N : Int} {x : List Ins} (hx : fit2 L N x) : ∀ (n : Nat) (c : List Ins), fit2 (L + 300) (N + 300) c → fit2 (L + 300) (N + 300) (timesFrom x n c)
  | 0, c, h => h
  | n + 1, c, h => fit2_times hx n _ (fit2_same h hx)
theorem mul_bound (n : Nat) (k : Int) (hn : n < 20) (hk : 0 ≤ k) : 0 ≤ ((n : Int) + 1) * (k + 1) ∧ ((n : Int) + 1) * (k + 1) ≤ 20 * (k + 1) := by
  refine ⟨Int.mul_nonneg (by omega) (by omega), ?_⟩
  exact Int.mul_le_mul_of_nonneg_right (by omega) (by omega)
theorem fit2_upTo {L N : Int} {x : List Ins} (late : Bool) (hx : fit2 L N x) (hN : 20 * (L + 1) ≤ N) (h1 : 10 ≤ L) : ∀ (n : Nat) (c : List Ins), n ≤ 20 → fit2 (L + 600) (N + 600) c → fit2 (L + 600) (N + 600) (upToFrom x late n c)
  | 0, c, _, h => h
  | n + 1, c, hn, h => by
    have hl := hx.1
    have m := mul_bound n (x.length : Int) (by omega) (by omega)
    have g := fit2_behind (fit2_split (L := L) (N := N) 1 (((n : Int) + 1) * ((x.length : Int) + 1)) late (by omega) (by omega) (by omega)) hx
    exact fit2_upTo late hx hN h1 n _ (by omega) (fit2_mono (fit2_same (L := L + 300) (N := N + 300) (fit2_mono h (by omega) (by omega)) g) (by omega) (by omega))

theorem fit2_seq {L N : Int} (at' rp : Nat → Nat → List Ins) (l : List Tok) (b : Nat) (h1 : ∀ i j, fit2 L N (at' i j)) (h2 : ∀ i j, fit2 L N (rp i j)) : ∀ (f i : Nat) (c : List Ins), fit2 (L + 300) (N + 300) c → fit2 (L + 300) (N + 300) (seqWith at' rp l b f i c)
  | 0, i, c, h => h
  | f + 1, i, c, h => by
    simp only [seqWith]
    split
    · exact h
    · split
      · exact fit2_seq at' rp l b h1 h2 f _ _ (fit2_same h (h2 _ _))
      · exact fit2_seq at' rp l b h1 h2 f _ _ (fit2_same h (h1 _ _))

/-- A token's numbers are small. -/
def tokOk (t : Tok) : Prop := 0 ≤ t.n ∧ t.n ≤ 100 ∧ -1 ≤ t.m ∧ t.m ≤ 20 ∧ 0 ≤ t.how ∧ t.how ≤ 4 ∧ (t.kind = 8 → t.n ≤ 20)
def toksOk (l : List Tok) : Prop := ∀ t ∈ l, tokOk t
theorem tokOk_at {l : List Tok} (h : toksOk l) (k : Nat) : tokOk (l.getD k tok0) := by
  rw [List.getD_eq_getElem?_getD]
  by_cases hk : k < l.length
  · rw [List.getElem?_eq_getElem hk]; exact h _ (List.getElem_mem hk)
  · rw [List.getElem?_eq_none (by omega)]; simp [tokOk, tok0]

theorem gen_fit (l : List Tok) (hl : toksOk l) : ∀ (f tag a b : Nat) (d : Int), 0 ≤ d → d + f ≤ 1000 → fit2 (2000 * ((f : Int) + 1)) (60000 * ((f : Int) + 1)) (gen l f tag a b d) := by
  intro f
  induction f with
  | zero => intro tag a b d h0 h1; simp only [gen]; exact fit2_nil (by omega)
  | succ f ih =>
    intro tag a b d h0 h1
    have I := fun tag a b => ih tag a b d h0 (by omega)
    have J := fun tag a b => ih tag a b (d + 1) (by omega) (by omega)
    match tag with
    | 0 =>
      simp only [gen]
      split
      · exact fit2_mono (I 1 a _) (by omega) (by omega)
      · have hs := I 1 a (bar l a b)
        have hr := I 0 (bar l a b + 1) b
        generalize gen l f 1 a (bar l a b) d = s at *
        generalize gen l f 0 (bar l a b + 1) b d = r at *
        have ls := hs.1
        have lr := hr.1
        have g1 := fit2_behind (fit2_split (L := 2000 * ((f : Int) + 1)) (N := 60000 * ((f : Int) + 1)) 1 ((s.length : Int) + 2) false (by omega) (by omega) (by omega)) hs
        have g2 := fit2_behind g1 (fit2_one (L := 2000 * ((f : Int) + 1) + 300) (N := 60000 * ((f : Int) + 1) + 300) (i := ⟨3, 1 + (r.length : Int), 0, []⟩) ⟨by simp only; omega, by simp only; omega, by simp only; omega, by simp only; omega⟩ (by omega))
        have g3 := fit2_behind g2 (fit2_mono hr (show _ ≤ 2000 * ((f : Int) + 1) + 300 + 300 by omega) (show _ ≤ 60000 * ((f : Int) + 1) + 300 + 300 by omega))
        exact fit2_mono g3 (by omega) (by omega)
    | 1 =>
      simp only [gen]
      exact fit2_mono (fit2_seq _ _ l b (fun i j => I 2 i j) (fun i j => I 3 i j) (b - a) a [] (fit2_nil (by omega))) (by omega) (by omega)
    | 2 =>
      simp only [gen]
      have hi := I 0 (a + 1) (b - 1)
      have ht := tokOk_at hl a
      generalize gen l f 0 (a + 1) (b - 1) d = s at *
      generalize l.getD a tok0 = t at *
      obtain ⟨t1, t2, t3, t4, t5, t6, t7⟩ := ht
      split
      · exact fit2_one ⟨by simp only; omega, by simp only; omega, by simp only; omega, by simp only; omega⟩ (by omega)
      split
      · exact fit2_one ⟨by simp only; omega, by simp only; omega, by simp only; omega, by simp only; omega⟩ (by omega)
      split
      · exact fit2_one ⟨by simp only; omega, by simp only; omega, by simp only; omega, by simp only; omega⟩ (by omega)
      split
      · exact fit2_one ⟨by simp only; omega, by simp only; omega, by simp only; omega, by simp only; omega⟩ (by omega)
      split
      · exact fit2_mono hi (by omega) (by omega)
      split
      · have g1 := fit2_behind (fit2_one (L := 2000 * ((f : Int) + 1)) (N := 60000 * ((f : Int) + 1)) (i := ⟨6, t.n, 0, []⟩) ⟨by simp only; omega, by simp only; omega, by simp only; omega, by simp only; omega⟩ (by omega)) hi
        have g2 := fit2_behind g1 (fit2_one (L := 2000 * ((f : Int) + 1) + 300) (N := 60000 * ((f : Int) + 1) + 300) (i := ⟨7, t.n, 0, []⟩) ⟨by simp only; omega, by simp only; omega, by simp only; omega, by simp only; omega⟩ (by omega))
        exact fit2_mono g2 (by omega) (by omega)
      · exact fit2_mono (fit2_alone t.how hi (by omega) (by omega) (by omega)) (by omega) (by omega)
    | n + 3 =>
      simp only [gen]
      have hx := I 2 a b
      have hy := J 2 a b
      have ht := tokOk_at hl b
      generalize gen l f 2 a b d = x at *
      generalize gen l f 2 a b (d + 1) = y at *
      generalize l.getD b tok0 = t at *
      obtain ⟨t1, t2, t3, t4, t5, t6, t7⟩ := ht
      have c1 : fit2 (2000 * ((f : Int) + 1) + 900) (60000 * ((f : Int) + 1) + 900) (if 0 < t.n ∨ 0 < t.m then (if t.n < t.m then behind (timesFrom x t.n.toNat []) (upTo x (t.m - t.n).toNat (decide (t.how = 1))) else timesFrom x t.n.toNat []) else []) := by
        have k1 := fit2_times hx t.n.toNat [] (fit2_nil (by omega))
        split
        · split
          · have k2 := fit2_upTo (decide (t.how = 1)) hx (by omega) (by omega) (t.m - t.n).toNat [] (by omega) (fit2_nil (by omega))
            exact fit2_mono (fit2_behind (fit2_mono k1 (show _ ≤ 2000 * ((f : Int) + 1) + 600 by omega) (show _ ≤ 60000 * ((f : Int) + 1) + 600 by omega)) k2) (by omega) (by omega)
          · exact fit2_mono k1 (by omega) (by omega)
        · exact fit2_nil (by omega)
      generalize (if 0 < t.n ∨ 0 < t.m then (if t.n < t.m then behind (timesFrom x t.n.toNat []) (upTo x (t.m - t.n).toNat (decide (t.how = 1))) else timesFrom x t.n.toNat []) else []) = c at *
      have c2 : fit2 (2000 * ((f : Int) + 1) + 1200) (60000 * ((f : Int) + 1) + 1200) (if t.m < 0 then behind c (loopC y d (decide (t.how = 1))) else c) := by
        split
        · exact fit2_mono (fit2_behind c1 (fit2_loop d (decide (t.how = 1)) hy (by omega) (by omega) (by omega))) (by omega) (by omega)
        · exact fit2_mono c1 (by omega) (by omega)
      split
      · exact fit2_mono (fit2_alone 0 c2 (by omega) (by omega) (by omega)) (by omega) (by omega)
      · exact fit2_mono c2 (by omega) (by omega)

end Mt
