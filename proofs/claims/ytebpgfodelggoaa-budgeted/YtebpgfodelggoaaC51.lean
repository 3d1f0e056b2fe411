import Derived.Test.YtebpgfodelggoaaC50
/- Constant pieces of patterns. -/
set_option linter.unusedVariables false
set_option linter.unusedSimpArgs false
namespace Mt
def bp (l : List UInt8) : ByteArray := ⟨l.toArray⟩
theorem bp_size (l : List UInt8) : (bp l).size = l.length := by simp [bp, ByteArray.size]
/-- These bytes stand at i. -/
def Holds (p : ByteArray) : Int → List UInt8 → Prop
  | i, [] => 0 ≤ i ∧ i ≤ p.size
  | i, c :: r => 0 ≤ i ∧ i < p.size ∧ atB p i = (c.toNat : Int) ∧ Holds p (i + 1) r
theorem holds_app {p : ByteArray} : ∀ (a b : List UInt8) (i : Int), Holds p i (a ++ b) → Holds p i a ∧ Holds p (i + a.length) b
  | [], b, i, h => by
    have : 0 ≤ i ∧ i ≤ p.size := by cases b with
      | nil => exact h
      | cons c r => exact ⟨h.1, by have := h.2.1; omega⟩
    exact ⟨this, by simpa using h⟩
  | c :: a, b, i, h => by
    obtain ⟨h1, h2⟩ := holds_app a b (i + 1) h.2.2.2
    refine ⟨⟨h.1, h.2.1, h.2.2.1, h1⟩, ?_⟩
    rw [List.length_cons, show i + ((a.length + 1 : Nat) : Int) = i + 1 + a.length by push_cast; omega]; exact h2
theorem holds_at {p : ByteArray} : ∀ (a : List UInt8) (i : Int), Holds p i a → (0 ≤ i ∧ i + a.length ≤ p.size) ∧ ∀ k : Nat, k < a.length → atB p (i + k) = ((a.getD k 0).toNat : Int)
  | [], i, h => ⟨⟨h.1, by have := h.2; simpa using this⟩, fun k hk => by simp at hk⟩
  | c :: a, i, h => by
    obtain ⟨h1, h2⟩ := holds_at a (i + 1) h.2.2.2
    refine ⟨⟨h.1, by rw [List.length_cons]; push_cast; omega⟩, fun k hk => ?_⟩
    cases k with
    | zero => simpa using h.2.2.1
    | succ k =>
      have := h2 k (by simpa using hk)
      rw [show i + ((k + 1 : Nat) : Int) = i + 1 + k by push_cast; omega, this]; simp
theorem holds_drop {l : List UInt8} : ∀ (n : Nat) (k : Nat), l.length - k = n → k ≤ l.length → Holds (bp l) k (l.drop k)
  | 0, k, h, hk => by
    rw [List.drop_eq_nil_of_le (by omega)]; exact ⟨by omega, by rw [bp_size]; omega⟩
  | n + 1, k, h, hk => by
    rw [List.drop_eq_getElem_cons (by omega)]
    refine ⟨by omega, by rw [bp_size]; omega, ?_, ?_⟩
    · rw [atB_in _ _ (by omega) (by rw [bp_size]; omega)]
      simp [bp, List.getD_eq_getElem?_getD, List.getElem?_eq_getElem (show k < l.length by omega)]
    · exact_mod_cast holds_drop n (k + 1) (by omega) (by omega)
theorem holds_self (l : List UInt8) : Holds (bp l) 0 l := by simpa using holds_drop (l := l) l.length 0 (by omega) (by omega)
theorem holds_stands {p : ByteArray} {x r : List UInt8} {i : Int} (h : Holds p i (x ++ 41 :: r)) : Stands (bp x) p i := by
  obtain ⟨h1, h2⟩ := holds_app x (41 :: r) i h
  obtain ⟨⟨a, b⟩, c⟩ := holds_at x i h1
  refine ⟨a, by rw [bp_size]; have := h2.2.1; omega, fun j h0 hj => ?_, by rw [bp_size, Int.add_comm]; exact h2.2.2.1⟩
  rw [bp_size] at hj
  obtain ⟨k, rfl⟩ := Int.eq_ofNat_of_zero_le h0
  rw [Int.add_comm, c k (by omega), atB_in _ _ h0 (by rw [bp_size]; exact hj)]
  simp [bp, List.getD_eq_getElem?_getD]
theorem at_end {p : ByteArray} {i : Int} (h : i = p.size) : atB p i = -1 := atB_out p i (Or.inr (by omega))

/-- No mood stands at i. -/
def Calm (p : ByteArray) (i : Int) : Prop := atB p i ≠ 63 ∧ atB p i ≠ 43
section
variable {p : ByteArray} {j : Int}
theorem rep_star (h : Holds p j [42]) (c : Calm p (j + 1)) : nextT p j = (⟨8, j, j + 1, 0, -1, 0, []⟩, 0) := by
  unfold Calm at c
  simp only [Holds] at h
  obtain ⟨h0, h1, a0, h⟩ := h
  (try obtain ⟨_, _, a1, h⟩ := h)
  (try obtain ⟨_, _, a2, h⟩ := h)
  (try obtain ⟨_, _, a3, h⟩ := h)
  (try obtain ⟨_, _, a4, h⟩ := h)
  (try obtain ⟨_, _, a5, h⟩ := h)
  (try simp only [Int.add_assoc] at *)
  simp at *
  simp [nextT, repeatT, count, number, mood, *, Int.add_assoc]
theorem rep_plus (h : Holds p j [43]) (c : Calm p (j + 1)) : nextT p j = (⟨8, j, j + 1, 1, -1, 0, []⟩, 0) := by
  unfold Calm at c
  simp only [Holds] at h
  obtain ⟨h0, h1, a0, h⟩ := h
  (try obtain ⟨_, _, a1, h⟩ := h)
  (try obtain ⟨_, _, a2, h⟩ := h)
  (try obtain ⟨_, _, a3, h⟩ := h)
  (try obtain ⟨_, _, a4, h⟩ := h)
  (try obtain ⟨_, _, a5, h⟩ := h)
  (try simp only [Int.add_assoc] at *)
  simp at *
  simp [nextT, repeatT, count, number, mood, *, Int.add_assoc]
theorem rep_opt (h : Holds p j [63]) (c : Calm p (j + 1)) : nextT p j = (⟨8, j, j + 1, 0, 1, 0, []⟩, 0) := by
  unfold Calm at c
  simp only [Holds] at h
  obtain ⟨h0, h1, a0, h⟩ := h
  (try obtain ⟨_, _, a1, h⟩ := h)
  (try obtain ⟨_, _, a2, h⟩ := h)
  (try obtain ⟨_, _, a3, h⟩ := h)
  (try obtain ⟨_, _, a4, h⟩ := h)
  (try obtain ⟨_, _, a5, h⟩ := h)
  (try simp only [Int.add_assoc] at *)
  simp at *
  simp [nextT, repeatT, count, number, mood, *, Int.add_assoc]
theorem rep_starl (h : Holds p j [42, 63]) : nextT p j = (⟨8, j, j + 2, 0, -1, 1, []⟩, 0) := by
  simp only [Holds] at h
  obtain ⟨h0, h1, a0, h⟩ := h
  (try obtain ⟨_, _, a1, h⟩ := h)
  (try obtain ⟨_, _, a2, h⟩ := h)
  (try obtain ⟨_, _, a3, h⟩ := h)
  (try obtain ⟨_, _, a4, h⟩ := h)
  (try obtain ⟨_, _, a5, h⟩ := h)
  (try simp only [Int.add_assoc] at *)
  simp at *
  simp [nextT, repeatT, count, number, mood, *, Int.add_assoc]
theorem rep_plusl (h : Holds p j [43, 63]) : nextT p j = (⟨8, j, j + 2, 1, -1, 1, []⟩, 0) := by
  simp only [Holds] at h
  obtain ⟨h0, h1, a0, h⟩ := h
  (try obtain ⟨_, _, a1, h⟩ := h)
  (try obtain ⟨_, _, a2, h⟩ := h)
  (try obtain ⟨_, _, a3, h⟩ := h)
  (try obtain ⟨_, _, a4, h⟩ := h)
  (try obtain ⟨_, _, a5, h⟩ := h)
  (try simp only [Int.add_assoc] at *)
  simp at *
  simp [nextT, repeatT, count, number, mood, *, Int.add_assoc]
theorem rep_optl (h : Holds p j [63, 63]) : nextT p j = (⟨8, j, j + 2, 0, 1, 1, []⟩, 0) := by
  simp only [Holds] at h
  obtain ⟨h0, h1, a0, h⟩ := h
  (try obtain ⟨_, _, a1, h⟩ := h)
  (try obtain ⟨_, _, a2, h⟩ := h)
  (try obtain ⟨_, _, a3, h⟩ := h)
  (try obtain ⟨_, _, a4, h⟩ := h)
  (try obtain ⟨_, _, a5, h⟩ := h)
  (try simp only [Int.add_assoc] at *)
  simp at *
  simp [nextT, repeatT, count, number, mood, *, Int.add_assoc]
theorem rep_starp (h : Holds p j [42, 43]) : nextT p j = (⟨8, j, j + 2, 0, -1, 2, []⟩, 0) := by
  simp only [Holds] at h
  obtain ⟨h0, h1, a0, h⟩ := h
  (try obtain ⟨_, _, a1, h⟩ := h)
  (try obtain ⟨_, _, a2, h⟩ := h)
  (try obtain ⟨_, _, a3, h⟩ := h)
  (try obtain ⟨_, _, a4, h⟩ := h)
  (try obtain ⟨_, _, a5, h⟩ := h)
  (try simp only [Int.add_assoc] at *)
  simp at *
  simp [nextT, repeatT, count, number, mood, *, Int.add_assoc]
theorem rep_optp (h : Holds p j [63, 43]) : nextT p j = (⟨8, j, j + 2, 0, 1, 2, []⟩, 0) := by
  simp only [Holds] at h
  obtain ⟨h0, h1, a0, h⟩ := h
  (try obtain ⟨_, _, a1, h⟩ := h)
  (try obtain ⟨_, _, a2, h⟩ := h)
  (try obtain ⟨_, _, a3, h⟩ := h)
  (try obtain ⟨_, _, a4, h⟩ := h)
  (try obtain ⟨_, _, a5, h⟩ := h)
  (try simp only [Int.add_assoc] at *)
  simp at *
  simp [nextT, repeatT, count, number, mood, *, Int.add_assoc]
theorem rep_1 (h : Holds p j [123, 49, 125]) (c : Calm p (j + 3)) : nextT p j = (⟨8, j, j + 3, 1, 1, 0, []⟩, 0) := by
  unfold Calm at c
  simp only [Holds] at h
  obtain ⟨h0, h1, a0, h⟩ := h
  (try obtain ⟨_, _, a1, h⟩ := h)
  (try obtain ⟨_, _, a2, h⟩ := h)
  (try obtain ⟨_, _, a3, h⟩ := h)
  (try obtain ⟨_, _, a4, h⟩ := h)
  (try obtain ⟨_, _, a5, h⟩ := h)
  (try simp only [Int.add_assoc] at *)
  simp at *
  simp [nextT, repeatT, count, number, mood, *, Int.add_assoc]
theorem rep_0 (h : Holds p j [123, 48, 125]) (c : Calm p (j + 3)) : nextT p j = (⟨8, j, j + 3, 0, 0, 0, []⟩, 0) := by
  unfold Calm at c
  simp only [Holds] at h
  obtain ⟨h0, h1, a0, h⟩ := h
  (try obtain ⟨_, _, a1, h⟩ := h)
  (try obtain ⟨_, _, a2, h⟩ := h)
  (try obtain ⟨_, _, a3, h⟩ := h)
  (try obtain ⟨_, _, a4, h⟩ := h)
  (try obtain ⟨_, _, a5, h⟩ := h)
  (try simp only [Int.add_assoc] at *)
  simp at *
  simp [nextT, repeatT, count, number, mood, *, Int.add_assoc]
theorem rep_2 (h : Holds p j [123, 50, 125]) (c : Calm p (j + 3)) : nextT p j = (⟨8, j, j + 3, 2, 2, 0, []⟩, 0) := by
  unfold Calm at c
  simp only [Holds] at h
  obtain ⟨h0, h1, a0, h⟩ := h
  (try obtain ⟨_, _, a1, h⟩ := h)
  (try obtain ⟨_, _, a2, h⟩ := h)
  (try obtain ⟨_, _, a3, h⟩ := h)
  (try obtain ⟨_, _, a4, h⟩ := h)
  (try obtain ⟨_, _, a5, h⟩ := h)
  (try simp only [Int.add_assoc] at *)
  simp at *
  simp [nextT, repeatT, count, number, mood, *, Int.add_assoc]
theorem rep_0e (h : Holds p j [123, 48, 44, 125]) (c : Calm p (j + 4)) : nextT p j = (⟨8, j, j + 4, 0, -1, 0, []⟩, 0) := by
  unfold Calm at c
  simp only [Holds] at h
  obtain ⟨h0, h1, a0, h⟩ := h
  (try obtain ⟨_, _, a1, h⟩ := h)
  (try obtain ⟨_, _, a2, h⟩ := h)
  (try obtain ⟨_, _, a3, h⟩ := h)
  (try obtain ⟨_, _, a4, h⟩ := h)
  (try obtain ⟨_, _, a5, h⟩ := h)
  (try simp only [Int.add_assoc] at *)
  simp at *
  simp [nextT, repeatT, count, number, mood, *, Int.add_assoc]
theorem rep_01 (h : Holds p j [123, 48, 44, 49, 125]) (c : Calm p (j + 5)) : nextT p j = (⟨8, j, j + 5, 0, 1, 0, []⟩, 0) := by
  unfold Calm at c
  simp only [Holds] at h
  obtain ⟨h0, h1, a0, h⟩ := h
  (try obtain ⟨_, _, a1, h⟩ := h)
  (try obtain ⟨_, _, a2, h⟩ := h)
  (try obtain ⟨_, _, a3, h⟩ := h)
  (try obtain ⟨_, _, a4, h⟩ := h)
  (try obtain ⟨_, _, a5, h⟩ := h)
  (try simp only [Int.add_assoc] at *)
  simp at *
  simp [nextT, repeatT, count, number, mood, *, Int.add_assoc]
theorem rep_23 (h : Holds p j [123, 50, 44, 51, 125]) (c : Calm p (j + 5)) : nextT p j = (⟨8, j, j + 5, 2, 3, 0, []⟩, 0) := by
  unfold Calm at c
  simp only [Holds] at h
  obtain ⟨h0, h1, a0, h⟩ := h
  (try obtain ⟨_, _, a1, h⟩ := h)
  (try obtain ⟨_, _, a2, h⟩ := h)
  (try obtain ⟨_, _, a3, h⟩ := h)
  (try obtain ⟨_, _, a4, h⟩ := h)
  (try obtain ⟨_, _, a5, h⟩ := h)
  (try simp only [Int.add_assoc] at *)
  simp at *
  simp [nextT, repeatT, count, number, mood, *, Int.add_assoc]
theorem rep_1el (h : Holds p j [123, 49, 44, 125, 63]) : nextT p j = (⟨8, j, j + 5, 1, -1, 1, []⟩, 0) := by
  simp only [Holds] at h
  obtain ⟨h0, h1, a0, h⟩ := h
  (try obtain ⟨_, _, a1, h⟩ := h)
  (try obtain ⟨_, _, a2, h⟩ := h)
  (try obtain ⟨_, _, a3, h⟩ := h)
  (try obtain ⟨_, _, a4, h⟩ := h)
  (try obtain ⟨_, _, a5, h⟩ := h)
  (try simp only [Int.add_assoc] at *)
  simp at *
  simp [nextT, repeatT, count, number, mood, *, Int.add_assoc]
theorem rep_1ep (h : Holds p j [123, 49, 44, 125, 43]) : nextT p j = (⟨8, j, j + 5, 1, -1, 2, []⟩, 0) := by
  simp only [Holds] at h
  obtain ⟨h0, h1, a0, h⟩ := h
  (try obtain ⟨_, _, a1, h⟩ := h)
  (try obtain ⟨_, _, a2, h⟩ := h)
  (try obtain ⟨_, _, a3, h⟩ := h)
  (try obtain ⟨_, _, a4, h⟩ := h)
  (try obtain ⟨_, _, a5, h⟩ := h)
  (try simp only [Int.add_assoc] at *)
  simp at *
  simp [nextT, repeatT, count, number, mood, *, Int.add_assoc]
theorem rep_02l (h : Holds p j [123, 48, 44, 50, 125, 63]) : nextT p j = (⟨8, j, j + 6, 0, 2, 1, []⟩, 0) := by
  simp only [Holds] at h
  obtain ⟨h0, h1, a0, h⟩ := h
  (try obtain ⟨_, _, a1, h⟩ := h)
  (try obtain ⟨_, _, a2, h⟩ := h)
  (try obtain ⟨_, _, a3, h⟩ := h)
  (try obtain ⟨_, _, a4, h⟩ := h)
  (try obtain ⟨_, _, a5, h⟩ := h)
  (try simp only [Int.add_assoc] at *)
  simp at *
  simp [nextT, repeatT, count, number, mood, *, Int.add_assoc]
end
end Mt
/- The twins of a pattern: the same code. -/
set_option linter.unusedVariables false
set_option linter.unusedSimpArgs false
namespace Mt

/-- From i to j the forest F is read; it may stand where at most D groups are open. -/
structure Pc (p : ByteArray) (i j : Int) (F : Fs) (D : Int) : Prop where
  wf : F.wf
  lex : Lex p i F.flat j
  ok : ∀ l, (∀ t ∈ l, isCap t = false) → 0 ≤ opened l → opened l ≤ D → MayAll l F.flat
  op : opened F.flat = 0
  nc : ∀ t ∈ F.flat, isCap t = false
theorem Pc.nil (p : ByteArray) (i D : Int) : Pc p i i .nil D := ⟨trivial, Lex.nil _, fun _ _ _ _ => trivial, rfl, fun t h => by simp [Fs.flat] at h⟩
theorem mayAll_nc : ∀ {l m : List Tok}, MayAll l m → ∀ t ∈ m, isCap t = false
  | l, [], _, t, h => by simp at h
  | l, u :: r, hm, t, h => by
    rcases List.mem_cons.1 h with rfl | h
    · exact hm.2.1
    · exact mayAll_nc hm.2.2 t h
/-- The pattern x itself, with a closing parenthesis behind it. -/
theorem pc_x {p : ByteArray} {x r : List UInt8} {i : Int} {f : Fs} (hc : NoCap (bp x)) (hx : x.length ≤ 12) (hw : f.wf) (hl : Lex (bp x) 0 f.flat (bp x).size) (hm : MayAll [] f.flat) (ho : opened f.flat = 0) (h : Holds p i (x ++ 41 :: r)) :
    Pc p i (i + x.length) (mvF i f) 5 := by
  have hs := holds_stands h
  have hL := hl.move hs
  rw [Int.zero_add, bp_size, Int.add_comm] at hL
  have hop := lex_opens hc hl
  rw [bp_size] at hop
  refine ⟨mvF_wf i f hw, by rw [mvF_flat]; exact hL, fun l hlc h0 h1 => ?_, by rw [mvF_flat, opened_mv]; exact ho, fun t ht => ?_⟩
  · rw [mvF_flat]
    exact mayAll_move i f.flat [] l hm (fun t ht => by simp at ht) (by simp [opened]) (by simp only [opened]; omega) (by simpa [opened] using h0) (by simpa [opened] using h1) (fun e => by simp [atomEnds] at e)
  · rw [mvF_flat, List.mem_map] at ht
    obtain ⟨u, hu, rfl⟩ := ht
    exact mayAll_nc hm u hu
def hw3 (c : UInt8) : Int := if c = 58 then 3 else 0
/-- A group, a repeat or none, and what comes then. -/
theorem pc_grp {p : ByteArray} {i j k j2 D : Int} {c : UInt8} {F R : Fs} {q : Option Tok} (hc : c = 58 ∨ c = 62) (h1 : Holds p i [40, 63, c]) (hF : Pc p (i + 3) j F (D + 1)) (h2 : Holds p j [41])
    (hq : (q = none ∧ j2 = j + 1) ∨ ∃ t, q = some t ∧ nextT p (j + 1) = (t, 0) ∧ t.kind = 8 ∧ t.to = j2 ∧ j + 1 < p.size) (hR : Pc p j2 k R D) (hD : D ≤ 8) :
    Pc p i k (.grp ⟨6, i, i + 3, 0, 0, hw3 c, []⟩ F ⟨7, j, j + 1, 0, 0, 0, []⟩ q R) D := by
  simp only [Holds] at h1 h2
  obtain ⟨a0, a1, a2, _, _, a3, _, _, a4, _⟩ := h1
  obtain ⟨b0, b1, b2, _⟩ := h2
  have t1 : nextT p i = (⟨6, i, i + 3, 0, 0, hw3 c, []⟩, 0) := by
    have e1 : atB p (i + 1) = 63 := a3
    have e0 : atB p i = 40 := a2
    rw [show i + 1 + 1 = i + 2 by omega] at a4
    rcases hc with rfl | rfl
    · have e2 : atB p (i + 2) = 58 := a4
      simp [nextT, opening, e0, e1, e2, hw3]
    · have e2 : atB p (i + 2) = 62 := a4
      simp [nextT, opening, e0, e1, e2, hw3]
  have t2 : nextT p j = (⟨7, j, j + 1, 0, 0, 0, []⟩, 0) := by
    have e0 : atB p j = 41 := b2
    simp [nextT, e0]
  have c1 : isCap ⟨6, i, i + 3, 0, 0, hw3 c, []⟩ = false := by
    rcases hc with rfl | rfl <;> simp [isCap, hw3]
  have c2 : isCap ⟨7, j, j + 1, 0, 0, 0, []⟩ = false := by simp [isCap]
  have d1 : delta ⟨6, i, i + 3, 0, 0, hw3 c, []⟩ = 1 := by simp [delta]
  have d2 : delta ⟨7, j, j + 1, 0, 0, 0, []⟩ = -1 := by simp [delta]
  have hqL : Lex p (j + 1) (q.toList ++ R.flat) k := by
    rcases hq with ⟨rfl, rfl⟩ | ⟨t, rfl, g1, g2, g3, g4⟩
    · simpa using hR.lex
    · exact Lex.cons (by omega) g4 g1 (by rw [g3]; exact hR.lex)
  have hqk : repK q := fun u hu => by
    rcases hq with ⟨rfl, _⟩ | ⟨t, rfl, g1, g2, g3, g4⟩
    · simp at hu
    · simp at hu; subst hu; exact g2
  have hqc : ∀ t ∈ q.toList, isCap t = false ∧ delta t = 0 := fun u hu => by
    have hk8 := hqk u (by simpa using hu)
    simp [isCap, delta, hk8]
  have hqo : opened q.toList = 0 := by
    cases q with
    | none => rfl
    | some t => simp [opened, (hqc t (by simp)).2]
  refine ⟨⟨rfl, rfl, hF.wf, hqk, hR.wf⟩, ?_, fun l hl h0 hD1 => ?_, ?_, fun t ht => ?_⟩
  · exact Lex.cons a0 a1 t1 (hF.lex.app (Lex.cons b0 b1 t2 hqL))
  · refine ⟨?_, c1, ?_⟩
    · rcases hc with rfl | rfl <;> simp [may, hw3] <;> omega
    · have hl' : ∀ t ∈ l ++ [(⟨6, i, i + 3, 0, 0, hw3 c, []⟩ : Tok)], isCap t = false := fun t ht => by
        rcases List.mem_append.1 ht with x | x
        · exact hl t x
        · simp at x; subst x; exact c1
      refine MayAll.app (hF.ok _ hl' (by rw [opened_one, d1]; omega) (by rw [opened_one, d1]; omega)) ?_
      have ho : opened (l ++ [(⟨6, i, i + 3, 0, 0, hw3 c, []⟩ : Tok)] ++ F.flat) = opened l + 1 := by rw [opened_append, opened_one, d1, hF.op]; omega
      refine ⟨?_, c2, ?_⟩
      · unfold may
        simp only [show ¬ ((7 : Int) = 2) by omega, show ¬ ((7 : Int) = 8) by omega, show ¬ ((7 : Int) = 6) by omega, if_false, if_true]
        rw [if_neg (by omega)]
      · have ho2 : opened (l ++ [(⟨6, i, i + 3, 0, 0, hw3 c, []⟩ : Tok)] ++ F.flat ++ [(⟨7, j, j + 1, 0, 0, 0, []⟩ : Tok)]) = opened l := by rw [opened_one, ho, d2]; omega
        have hl2 : ∀ t ∈ l ++ [(⟨6, i, i + 3, 0, 0, hw3 c, []⟩ : Tok)] ++ F.flat ++ [(⟨7, j, j + 1, 0, 0, 0, []⟩ : Tok)], isCap t = false := fun t ht => by
          rcases List.mem_append.1 ht with x | x
          · rcases List.mem_append.1 x with y | y
            · exact hl' t y
            · exact hF.nc t y
          · simp at x; subst x; exact c2
        have he : atomEnds (l ++ [(⟨6, i, i + 3, 0, 0, hw3 c, []⟩ : Tok)] ++ F.flat ++ [(⟨7, j, j + 1, 0, 0, 0, []⟩ : Tok)]) = true := by rw [ends_snoc]; simp
        generalize l ++ [(⟨6, i, i + 3, 0, 0, hw3 c, []⟩ : Tok)] ++ F.flat ++ [(⟨7, j, j + 1, 0, 0, 0, []⟩ : Tok)] = L2 at *
        cases q with
        | none => simpa using hR.ok L2 hl2 (by omega) (by omega)
        | some t =>
          have hk8 := hqk t rfl
          refine ⟨by simp [may, hk8, he], (hqc t (by simp)).1, ?_⟩
          exact hR.ok _ (fun u hu => by
            rcases List.mem_append.1 hu with x | x
            · exact hl2 u x
            · simp at x; subst x; exact (hqc _ (by simp)).1) (by rw [opened_one, (hqc t (by simp)).2]; omega) (by rw [opened_one, (hqc t (by simp)).2]; omega)
  · simp only [Fs.flat, opened, opened_append, hF.op, hR.op, hqo, d1, d2]; omega
  · simp only [Fs.flat, List.mem_cons, List.mem_append] at ht
    rcases ht with rfl | ht | rfl | ht | ht
    · exact c1
    · exact hF.nc t ht
    · exact c2
    · exact (hqc t ht).1
    · exact hR.nc t ht
theorem lex_len {p : ByteArray} {i j : Int} {m : List Tok} (h : Lex p i m j) : (m.length : Int) ≤ j - i := by
  induction h with
  | nil i => simp
  | @cons i j t l h0 h1 ht hl ih =>
    have hn := nextT_to p i h0 h1 (by rw [ht])
    rw [ht] at hn
    simp only at hn
    rw [List.length_cons]; push_cast; omega
theorem pc_code {p : ByteArray} {F : Fs} {D : Int} (h : Pc p 0 p.size F D) (hD : 0 ≤ D) (hp : p.size ≤ 64) : codeR p = codeOf F.re :=
  code_of p F hp h.wf h.lex (h.ok [] (fun t ht => by simp at ht) (by simp [opened]) (by simpa [opened] using hD)) (by rw [h.op]; omega) (by have := lex_len h.lex; omega)
theorem codeOf_same {a b : Re} (h : a.code 0 0 = b.code 0 0) : codeOf a = codeOf b := by
  have hl : a.len = b.len := by rw [← Re.code_len a 0 0, h, Re.code_len]
  unfold codeOf; rw [hl, h]
end Mt
