import Derived.Test.YtebpgfodelggoaaC21
import Derived.Test.YtebpgfodelggoaaC31
/- How long the code of a tree is, plainly. -/
set_option linter.unusedVariables false
namespace Mt

theorem timesA_len (x : Re) : ∀ n, (timesA x n).len = n * x.len
  | 0 => by simp [timesA, Re.len]
  | n + 1 => by rw [timesA, Re.len, timesA_len x n, Nat.add_mul]; omega
/-- A repeat's numbers. -/
def repOk' (q : Tok) : Prop := 0 ≤ q.n ∧ q.n ≤ 20 ∧ -1 ≤ q.m ∧ q.m ≤ 20 ∧ 0 ≤ q.how ∧ q.how ≤ 2 ∧ (q.m = -1 ∨ q.n ≤ q.m)
/-- How many instructions a repeat makes of o. -/
def repLen (o : Nat) (q : Tok) : Nat := q.n.toNat * o + (if q.m = -1 then o + 3 else (q.m - q.n).toNat * (o + 1)) + (if q.how = 2 then 2 else 0)
theorem repA_len (x : Re) (q : Tok) (h : repOk' q) : (repA x q).len = repLen x.len q := by
  obtain ⟨h1, h2, h3, h4, h5, h6, h7⟩ := h
  unfold repA repLen
  dsimp only
  have c1 : (if 0 < q.n ∨ 0 < q.m then (if q.n < q.m then Re.cat (timesA x q.n.toNat) (optA x (decide (q.how = 1)) (q.m - q.n).toNat) else timesA x q.n.toNat) else Re.eps).len = q.n.toNat * x.len + (if q.m = -1 then 0 else (q.m - q.n).toNat * (x.len + 1)) := by
    by_cases a : 0 < q.n ∨ 0 < q.m
    · rw [if_pos a]
      by_cases b : q.n < q.m
      · rw [if_pos b, if_neg (by omega), Re.len, timesA_len, optA_len]
      · rw [if_neg b, timesA_len]
        by_cases c : q.m = -1
        · rw [if_pos c]; omega
        · rw [if_neg c, show (q.m - q.n).toNat = 0 by omega]; simp
    · rw [if_neg a, show q.n.toNat = 0 by omega]
      by_cases c : q.m = -1
      · rw [if_pos c]; simp [Re.len]
      · rw [if_neg c, show (q.m - q.n).toNat = 0 by omega]; simp [Re.len]
  generalize (if 0 < q.n ∨ 0 < q.m then (if q.n < q.m then Re.cat (timesA x q.n.toNat) (optA x (decide (q.how = 1)) (q.m - q.n).toNat) else timesA x q.n.toNat) else Re.eps) = z at *
  have c2 : (if q.m < 0 then Re.cat z (.loop (decide (q.how = 1)) x) else z).len = q.n.toNat * x.len + (if q.m = -1 then x.len + 3 else (q.m - q.n).toNat * (x.len + 1)) := by
    by_cases c : q.m = -1
    · rw [if_pos (by omega), if_pos c, Re.len, Re.len, c1, if_pos c]; omega
    · rw [if_neg (by omega), if_neg c, c1, if_neg c]
  generalize (if q.m < 0 then Re.cat z (.loop (decide (q.how = 1)) x) else z) = z2 at *
  by_cases e : q.how = 2
  · rw [if_pos e, if_pos e, Re.len, c2]
  · rw [if_neg e, if_neg e, c2]; omega
def lim (n : Nat) : Nat := min n 301
theorem lim_le (n : Nat) : lim n ≤ 301 := Nat.min_le_right _ _
theorem lim_add (a b : Nat) : lim (lim a + lim b) = lim (a + b) := by unfold lim; omega
theorem lim_add2 (a b c : Nat) : lim (lim a + c + lim b) = lim (a + c + b) := by unfold lim; omega
theorem lim_rep (o : Nat) (q : Tok) (h : repOk' q) : lim (repLen (lim o) q) = lim (repLen o q) := by
  obtain ⟨h1, h2, h3, h4, h5, h6, h7⟩ := h
  by_cases a : o ≤ 301
  · have : lim o = o := by unfold lim; omega
    rw [this]
  · have : lim o = 301 := by unfold lim; omega
    rw [this]
    unfold repLen lim
    have key : ∀ (n c : Nat), 0 < n → 301 ≤ n * (301 + c) ∧ 301 ≤ n * (o + c) := fun n c hn => by
      have e1 : 1 * (301 + c) ≤ n * (301 + c) := Nat.mul_le_mul_right _ (by omega)
      have e2 : 1 * (o + c) ≤ n * (o + c) := Nat.mul_le_mul_right _ (by omega)
      omega
    by_cases b : 0 < q.n.toNat
    · have := key q.n.toNat 0 b
      simp only [Nat.add_zero] at this
      omega
    · have e : q.n.toNat = 0 := by omega
      rw [e]
      simp only [Nat.zero_mul, Nat.zero_add]
      by_cases c : q.m = -1
      · rw [if_pos c, if_pos c]; omega
      · rw [if_neg c, if_neg c]
        by_cases d : 0 < (q.m - q.n).toNat
        · have := key (q.m - q.n).toNat 1 d
          omega
        · rw [show (q.m - q.n).toNat = 0 by omega]; simp
/-- How many instructions an atom with its repeat has. -/
def partLen (o : Nat) (r : Option Tok) : Nat := match r with
  | none => o
  | some q => repLen o q
def repsOk (r : Option Tok) : Prop := ∀ q, r = some q → repOk' q
theorem part_len (x : Re) (r : Option Tok) (h : repsOk r) : (part r x).len = partLen x.len r := by
  cases r with
  | none => rfl
  | some q => exact repA_len x q (h q rfl)
theorem lim_part (o : Nat) (r : Option Tok) (h : repsOk r) : lim (partLen (lim o) r) = lim (partLen o r) := by
  cases r with
  | none => show lim (lim o) = lim o; unfold lim; omega
  | some q => exact lim_rep o q (h q rfl)
/-- All repeats of a forest are such. -/
def Fs.ok : Fs → Prop
  | .nil => True
  | .bar _ r => r.ok
  | .leaf t r s => repsOk r ∧ s.ok
  | .grp t i c r s => repsOk r ∧ (0 ≤ t.how ∧ t.how ≤ 4) ∧ i.ok ∧ s.ok
theorem leafRe_len (t : Tok) : (leafRe t).len = 1 := by
  unfold leafRe
  split
  · rfl
  split
  · rfl
  split
  · rfl
  · rfl
theorem grpRe_len (t : Tok) (x : Re) : (grpRe t x).len = x.len + if t.how = 3 then 0 else 2 := by
  unfold grpRe
  by_cases h : t.how = 3
  · rw [if_pos h, if_pos h]; rfl
  · rw [if_neg h, if_neg h]; split <;> rfl
theorem re_len (f : Fs) : f.re.len = f.both.1.len + (match f.rs with | none => 0 | some r => 2 + r.re.len) := by
  have h := f.both2
  unfold Fs.re
  generalize f.both = xy at *
  obtain ⟨x, y⟩ := xy
  simp only at h
  cases hr : f.rs with
  | none => rw [hr] at h; simp at h; subst h; rfl
  | some r => rw [hr] at h; simp at h; subst h; show x.len + r.re.len + 2 = x.len + (2 + r.re.len); omega
/-- The next alternative of a forest that stands in memory. -/
theorem stands_rs {b : PB} : ∀ (f : Fs) (a n : Int), standsF b 0 0 f a n → (f.rs = none ∧ n = -1) ∨ ∃ (r : Fs) (k : Nat), f.rs = some r ∧ n = k ∧ k < b.seqs.length ∧ standsF b 0 0 r (b.sAt k).first (b.sAt k).next
  | .nil, a, n, h => Or.inl ⟨rfl, h.2⟩
  | .bar t r, a, n, ⟨_, k, h1, _, h2, h3⟩ => Or.inr ⟨r, k, rfl, h1, h2, h3⟩
  | .leaf t r s, a, n, ⟨k, _, _, _, _, _, _, h⟩ => stands_rs s _ _ h
  | .grp t i c r s, a, n, ⟨k, _, _, _, _, _, _, _, h⟩ => stands_rs s _ _ h
theorem rs_less : ∀ (f r : Fs), f.rs = some r → r.flat.length < f.flat.length ∧ (f.wf → r.wf) ∧ (f.ok → r.ok)
  | .nil, r, h => by simp [Fs.rs] at h
  | .bar t s, r, h => by simp only [Fs.rs, Option.some.injEq] at h; subst h; exact ⟨by simp [Fs.flat], fun h => h.2, fun h => h⟩
  | .leaf t q s, r, h => by have := rs_less s r h; exact ⟨by simp [Fs.flat]; omega, fun hh => this.2.1 hh.2.2, fun hh => this.2.2 hh.2⟩
  | .grp t i c q s, r, h => by have := rs_less s r h; exact ⟨by simp [Fs.flat]; omega, fun hh => this.2.1 hh.2.2.2.2, fun hh => this.2.2 hh.2.2.2⟩
end Mt
set_option linter.unusedVariables false
set_option linter.unusedSimpArgs false
namespace Go.Proofs.Ytebpgfodelggoaa
open Go.RowKit

set_option maxHeartbeats 400000 in
theorem limited_any (n : Nat) (w : World) : Calls Try.prog 51 #[.int .i64 (n : Int)] w fun e w' => e = .returned (.int .i64 (Mt.lim n : Nat)) ∧ w = w' := by
  by_cases h : 300 < n
  · have e : Mt.lim n = 301 := by unfold Mt.lim; omega
    have b1 : decide (300 < (n : Int)) = true := by simp; omega
    have b2 : decide (300 < n) = true := by simp; omega
    rw [e]
    clear e
    go_enter Try.func51, Try.ntmps51
    go_wp2
    go_ret
    exact ⟨rfl, rfl⟩
  · have e : Mt.lim n = n := by unfold Mt.lim; omega
    have b1 : decide (300 < (n : Int)) = false := by simp; omega
    have b2 : decide (300 < n) = false := by simp; omega
    rw [e]
    clear e
    go_enter Try.func51, Try.ntmps51
    go_wp2
    go_ret
    exact ⟨rfl, rfl⟩

theorem rp_none : Mt.rp none = Mt.pt0 := rfl
theorem rp_some (q : Mt.Tok) (hk : q.kind = 8) : Mt.rp (some q) = ⟨4, q.to, 0, 0, q.n, q.m, q.how + 1, q.set⟩ := by
  show Mt.ptok q = _; unfold Mt.ptok; rw [hk]; rfl

theorem limited_int (x : Int) (n : Nat) (h : x = n) (w : World) : Calls Try.prog 51 #[.int .i64 x] w fun e w' => e = .returned (.int .i64 (Mt.lim n : Nat)) ∧ w = w' := by subst h; exact limited_any n w

set_option maxRecDepth 100000 in
set_option maxHeartbeats 1000000 in
theorem repeatedSize_any (o : Nat) (r : Option Mt.Tok) (w : World) (ho : o ≤ 301) (hr : Mt.repsOk r) (hk : Mt.repK r) :
    Calls Try.prog 91 #[.int .i64 (o : Int), ptV (Mt.rp r)] w fun e w' => e = .returned (.int .i64 (Mt.lim (Mt.partLen o r) : Nat)) ∧ Below w.heap.size w w' := by
  cases r with
  | none =>
    rw [rp_none]
    have e : Mt.lim (Mt.partLen o none) = o := by show Mt.lim o = o; unfold Mt.lim; omega
    rw [e]
    clear e hr hk
    unfold ptV ptA Mt.pt0
    go_enter Try.func91, Try.ntmps91
    go_wp2_with fail
    go_ret
    exact ⟨rfl, by go_grown⟩
  | some q =>
    rw [rp_some q (hk q rfl)]
    obtain ⟨h1, h2, h3, h4, h5, h6, h7⟩ := hr q rfl
    obtain ⟨n, hn⟩ := Int.eq_ofNat_of_zero_le h1
    have hmul : n * o ≤ 20 * 301 := Nat.mul_le_mul (by omega) ho
    have hmi : ((n : Int) * (o : Int)) = ((n * o : Nat) : Int) := by simp
    have m0 : 0 ≤ (n : Int) * (o : Int) := by rw [hmi]; omega
    have m1 : (n : Int) * (o : Int) ≤ 6020 := by rw [hmi]; omega
    have HMI : Hid (((n : Int) * (o : Int)) = ((n * o : Nat) : Int)) := hmi
    by_cases hm : q.m = -1
    · have e0 : Mt.partLen o (some q) = n * o + (o + 3) + (if q.how = 2 then 2 else 0) := by
        show Mt.repLen o q = _; unfold Mt.repLen; rw [if_pos hm, show q.n.toNat = n by omega]
      rw [e0, hm, hn]
      clear e0 hr hk h7 hmi hm hn hmul
      unfold ptV ptA
      by_cases hw : q.how = 2
      · rw [if_pos hw, hw]
        clear hw
        go_enter Try.func91, Try.ntmps91
        go_wp2_with fail
        refine (limited_int _ (n * o + (o + 3) + 2) (by have := HMI.out; omega) _).mono ?_
        rintro e w1 ⟨rfl, rfl⟩
        go_wp2_with fail
        go_ret
        exact ⟨rfl, by go_grown⟩
      · have hb : (q.how + 1 == 3) = false := by simp; omega
        rw [if_neg hw]
        clear hw
        go_enter Try.func91, Try.ntmps91
        go_wp2_with fail
        refine (limited_int _ (n * o + (o + 3) + 0) (by have := HMI.out; omega) _).mono ?_
        rintro e w1 ⟨rfl, rfl⟩
        go_wp2_with fail
        go_ret
        exact ⟨rfl, by go_grown⟩
    · obtain ⟨m, hmm⟩ := Int.eq_ofNat_of_zero_le (show 0 ≤ q.m by omega)
      obtain ⟨d, hd⟩ : ∃ d : Nat, m = n + d := ⟨m - n, by omega⟩
      subst hd
      have e0 : Mt.partLen o (some q) = n * o + d * (o + 1) + (if q.how = 2 then 2 else 0) := by
        show Mt.repLen o q = _; unfold Mt.repLen; rw [if_neg hm, show q.n.toNat = n by omega, show (q.m - q.n).toNat = d by omega]
      have hmul2 : d * (o + 1) ≤ 20 * 302 := Nat.mul_le_mul (by omega) (by omega)
      have hmi2 : ((d : Int) * ((o : Int) + 1)) = ((d * (o + 1) : Nat) : Int) := by simp
      have m2 : 0 ≤ (d : Int) * ((o : Int) + 1) := by rw [hmi2]; omega
      have m3 : (d : Int) * ((o : Int) + 1) ≤ 6040 := by rw [hmi2]; omega
      have HMI2 : Hid (((d : Int) * ((o : Int) + 1)) = ((d * (o + 1) : Nat) : Int)) := hmi2
      have hb1 : (((n + d : Nat) : Int) == -1) = false := by simp; omega
      have hd20 : (d : Int) ≤ 20 := by omega
      have hn20 : (n : Int) ≤ 20 := by omega
      have hsub : ((n + d : Nat) : Int) - (n : Int) = d := by omega
      have hb2 : (n : Int) + (d : Int) - (n : Int) = d := by omega
      rw [e0, hmm, hn]
      clear e0 hr hk h7 hmi hm hn hmul hmul2 hmi2 hmm
      unfold ptV ptA
      by_cases hw : q.how = 2
      · rw [if_pos hw, hw]
        clear hw
        go_enter Try.func91, Try.ntmps91
        go_wp2_with fail
        refine (limited_int _ (n * o + d * (o + 1) + 2) (by have := HMI.out; have := HMI2.out; omega) _).mono ?_
        rintro e w1 ⟨rfl, rfl⟩
        go_wp2_with fail
        go_ret
        exact ⟨rfl, by go_grown⟩
      · have hb : (q.how + 1 == 3) = false := by simp; omega
        rw [if_neg hw]
        clear hw
        go_enter Try.func91, Try.ntmps91
        go_wp2_with fail
        refine (limited_int _ (n * o + d * (o + 1) + 0) (by have := HMI.out; have := HMI2.out; omega) _).mono ?_
        rintro e w1 ⟨rfl, rfl⟩
        go_wp2_with fail
        go_ret
        exact ⟨rfl, by go_grown⟩
end Go.Proofs.Ytebpgfodelggoaa
