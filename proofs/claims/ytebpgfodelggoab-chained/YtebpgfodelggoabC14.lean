import Derived.Test.YtebpgfodelggoabC13
/- THE RULES that what stands around an instruction keeps, from one instruction to the next. -/
set_option linter.unusedVariables false
set_option linter.unusedSimpArgs false
namespace Mt

def Rule (A : Int → Att) (q : Int) (x : Ins) : Prop :=
  (x.op = 1 ∨ x.op = 8 ∨ x.op = 9 ∨ x.op = 10 → A (q + 1) = A q)
  ∧ (x.op = 2 → A x.x = A q ∧ A x.y = A q)
  ∧ (x.op = 3 → A x.x = A q)
  ∧ (x.op = 4 → x.x = (A q).d ∧ A (q + 1) = ⟨(A q).G, (A q).d + 1, (A q).y, (A q).B⟩ ∧ x.x < 11)
  ∧ (x.op = 5 → A x.x = ⟨(A q).G, (A q).d - 1, (A q).y, (A q).B⟩ ∧ x.y = (A q).d - 1 ∧ 0 ≤ x.y ∧ x.y < 11)
  ∧ (x.op = 6 → A (q + 1) = ⟨x.x :: (A q).G, (A q).d, (A q).y, (A q).B⟩ ∧ x.x ∉ (A q).G)
  ∧ (x.op = 7 → ∃ g, (A q).G = x.x :: g ∧ A (q + 1) = ⟨g, (A q).d, (A q).y, (A q).B⟩)
  ∧ (x.op = 11 → A (q + 1) = ⟨(A q).G, (A q).d, x.y, (A q).G⟩ ∧ A x.y = A q ∧ A (x.y - 1) = ⟨(A q).G, (A q).d, x.y, (A q).G⟩ ∧ 0 < x.y)
  ∧ (x.op = 12 → (A q).y = q + 1)
  ∧ (∀ k ∈ (A q).B, k ∈ (A q).G) ∧ (0 ≤ (A q).d ∧ (A q).d ≤ 11) ∧ (∀ k ∈ (A q).G, 0 ≤ k ∧ k < 10) ∧ (1 ≤ x.op ∧ x.op ≤ 12)

theorem get_app {α : Type} {a b : List α} {i : Nat} {x : α} (h : (a ++ b)[i]? = some x) : (i < a.length ∧ a[i]? = some x) ∨ (a.length ≤ i ∧ b[i - a.length]? = some x) := by
  by_cases hi : i < a.length
  · rw [List.getElem?_append_left hi] at h; exact .inl ⟨hi, h⟩
  · rw [List.getElem?_append_right (by omega)] at h; exact .inr ⟨by omega, h⟩
theorem get_cons {α : Type} {b : List α} {c : α} {i : Nat} {x : α} (h : (c :: b)[i]? = some x) : (i = 0 ∧ x = c) ∨ (∃ j, i = j + 1 ∧ b[j]? = some x) := by
  cases i with
  | zero => simp at h; exact .inl ⟨rfl, h.symm⟩
  | succ j => rw [List.getElem?_cons_succ] at h; exact .inr ⟨j, rfl, h⟩
theorem rule_flat {A : Int → Att} {q : Int} {x : Ins} (h : A (q + 1) = A q) (ho : x.op = 1 ∨ x.op = 8 ∨ x.op = 9 ∨ x.op = 10) (hB : ∀ k ∈ (A q).B, k ∈ (A q).G) (hd : 0 ≤ (A q).d ∧ (A q).d ≤ 11) (hR : ∀ k ∈ (A q).G, 0 ≤ k ∧ k < 10) : Rule A q x :=
  ⟨fun _ => h, fun e => by omega, fun e => by omega, fun e => by omega, fun e => by omega, fun e => by omega, fun e => by omega, fun e => by omega, fun e => by omega, hB, hd, hR, by omega⟩
theorem rule_spl {A : Int → Att} {q : Int} (u v : Int) (late : Bool) (h1 : A u = A q) (h2 : A v = A q) (hB : ∀ k ∈ (A q).B, k ∈ (A q).G) (hd : 0 ≤ (A q).d ∧ (A q).d ≤ 11) (hR : ∀ k ∈ (A q).G, 0 ≤ k ∧ k < 10) : Rule A q (spl u v late) := by
  have ho : (spl u v late).op = 2 := by cases late <;> rfl
  refine ⟨fun e => by omega, fun _ => ?_, fun e => by omega, fun e => by omega, fun e => by omega, fun e => by omega, fun e => by omega, fun e => by omega, fun e => by omega, hB, hd, hR, by omega⟩
  cases late
  · exact ⟨h1, h2⟩
  · exact ⟨h2, h1⟩

theorem lies_rule (A : Int → Att) : ∀ (r : Re) (p : Int) (a : Att) (m : Int), Lies A r p a → r.inc m → r.fine → (∀ k ∈ a.G, k ≤ m) → (∀ k ∈ a.G, 0 ≤ k ∧ k < 10) → (∀ k ∈ a.B, k ∈ a.G) → 0 ≤ a.d → a.d + r.deep ≤ 11 → 0 ≤ p →
    ∀ (i : Nat) (x : Ins), (r.code p a.d)[i]? = some x → Rule A (p + i) x
  | .eps, p, a, m, h, hi, hF, hG, hR, hB, h0, hd, hp, i, x, hx => by simp [Re.code] at hx
  | .one s, p, a, m, h, hi, hF, hG, hR, hB, h0, hd, hp, i, x, hx => by
    simp only [Re.deep] at hd
    rcases get_cons hx with ⟨rfl, rfl⟩ | ⟨j, _, hj⟩
    · simp only [Int.natCast_zero, Int.add_zero]; exact rule_flat (h.2.trans h.1.symm) (by simp) (by rw [h.1]; exact hB) (by rw [h.1]; omega) (by rw [h.1]; exact hR)
    · simp at hj
  | .back s, p, a, m, h, hi, hF, hG, hR, hB, h0, hd, hp, i, x, hx => by
    simp only [Re.deep] at hd
    rcases get_cons hx with ⟨rfl, rfl⟩ | ⟨j, _, hj⟩
    · simp only [Int.natCast_zero, Int.add_zero]; exact rule_flat (h.2.trans h.1.symm) (by simp) (by rw [h.1]; exact hB) (by rw [h.1]; omega) (by rw [h.1]; exact hR)
    · simp at hj
  | .head, p, a, m, h, hi, hF, hG, hR, hB, h0, hd, hp, i, x, hx => by
    simp only [Re.deep] at hd
    rcases get_cons hx with ⟨rfl, rfl⟩ | ⟨j, _, hj⟩
    · simp only [Int.natCast_zero, Int.add_zero]; exact rule_flat (h.2.trans h.1.symm) (by simp) (by rw [h.1]; exact hB) (by rw [h.1]; omega) (by rw [h.1]; exact hR)
    · simp at hj
  | .tail, p, a, m, h, hi, hF, hG, hR, hB, h0, hd, hp, i, x, hx => by
    simp only [Re.deep] at hd
    rcases get_cons hx with ⟨rfl, rfl⟩ | ⟨j, _, hj⟩
    · simp only [Int.natCast_zero, Int.add_zero]; exact rule_flat (h.2.trans h.1.symm) (by simp) (by rw [h.1]; exact hB) (by rw [h.1]; omega) (by rw [h.1]; exact hR)
    · simp at hj
  | .cat u v, p, a, m, h, hi, hF, hG, hR, hB, h0, hd, hp, i, x, hx => by
    simp only [Re.deep] at hd
    rcases get_app hx with ⟨_, hj⟩ | ⟨hl, hj⟩
    · exact lies_rule A u p a m h.1 hi.1 hF.1 hG hR hB h0 (by omega) hp i x hj
    · rw [Re.code_len] at hl hj
      have := lies_rule A v _ a m h.2 hi.2 hF.2 hG hR hB h0 (by omega) (by omega) _ x hj
      rw [show p + (u.len : Int) + ((i - u.len : Nat) : Int) = p + i by omega] at this; exact this
  | .alt u v, p, a, m, h, hi, hF, hG, hR, hB, h0, hd, hp, i, x, hx => by
    simp only [Re.deep] at hd
    have hl1 := h.2.1.last
    have hl2 := h.2.2.last
    rcases get_cons hx with ⟨rfl, rfl⟩ | ⟨j, rfl, hj⟩
    · simp only [Int.natCast_zero, Int.add_zero]
      exact rule_spl (p + 1) (p + u.len + 2) false (h.2.1.first.trans h.1.symm) (h.2.2.first.trans h.1.symm) (by rw [h.1]; exact hB) (by rw [h.1]; omega) (by rw [h.1]; exact hR)
    rcases get_app hj with ⟨_, hj⟩ | ⟨hl, hj⟩
    · have := lies_rule A u _ a m h.2.1 hi.1 hF.1 hG hR hB h0 (by omega) (by omega) _ x hj
      rw [show p + 1 + (j : Int) = p + ((j + 1 : Nat) : Int) by omega] at this; exact this
    · rw [Re.code_len] at hl hj
      rcases get_cons hj with ⟨e, rfl⟩ | ⟨k, e, hk⟩
      · have e2 : p + ((j + 1 : Nat) : Int) = p + 1 + u.len := by omega
        rw [e2]
        refine ⟨fun e => by simp at e, fun e => by simp at e, fun _ => ?_, fun e => by simp at e, fun e => by simp at e, fun e => by simp at e, fun e => by simp at e, fun e => by simp at e, fun e => by simp at e, by rw [hl1]; exact hB, by rw [hl1]; omega, by rw [hl1]; exact hR, by simp⟩
        rw [hl1]; exact hl2
      · have := lies_rule A v _ a m h.2.2 hi.2 hF.2 hG hR hB h0 (by omega) (by omega) _ x hk
        rw [show p + (u.len : Int) + 2 + (k : Int) = p + ((j + 1 : Nat) : Int) by omega] at this; exact this
  | .cap k u, p, a, m, h, hi, hF, hG, hR, hB, h0, hd, hp, i, x, hx => by
    simp only [Re.deep] at hd
    have hR' : ∀ z ∈ k :: a.G, 0 ≤ z ∧ z < 10 := fun z hz => by
      have hk := hF.1
      rcases List.mem_cons.1 hz with rfl | hz
      · omega
      · exact hR z hz
    have hl1 := h.2.1.last
    have hf := h.2.1.first
    rcases get_cons hx with ⟨rfl, rfl⟩ | ⟨j, rfl, hj⟩
    · simp only [Int.natCast_zero, Int.add_zero]
      refine ⟨fun e => by simp at e, fun e => by simp at e, fun e => by simp at e, fun e => by simp at e, fun e => by simp at e, fun _ => ⟨by rw [h.1]; exact hf, ?_⟩, fun e => by simp at e, fun e => by simp at e, fun e => by simp at e, by rw [h.1]; exact hB, by rw [h.1]; omega, by rw [h.1]; exact hR, by simp⟩
      rw [h.1]; intro hk; have := hG _ hk; have := hi.1; simp at *; omega
    rcases get_app hj with ⟨_, hj⟩ | ⟨hl, hj⟩
    · have := lies_rule A u _ _ k h.2.1 hi.2 hF.2 (fun z hz => by
        rcases List.mem_cons.1 hz with rfl | hz
        · exact Int.le_refl _
        · have := hG z hz; have := hi.1; omega) hR' (fun z hz => List.mem_cons_of_mem _ (hB z hz)) h0 (by simpa using hd) (by omega) _ x hj
      rw [show p + 1 + (j : Int) = p + ((j + 1 : Nat) : Int) by omega] at this; exact this
    · rw [Re.code_len] at hl hj
      rcases get_cons hj with ⟨e, rfl⟩ | ⟨k', e, hk⟩
      · have e2 : p + ((j + 1 : Nat) : Int) = p + 1 + u.len := by omega
        rw [e2]
        refine ⟨fun e => by simp at e, fun e => by simp at e, fun e => by simp at e, fun e => by simp at e, fun e => by simp at e, fun e => by simp at e, fun _ => ⟨a.G, by rw [hl1], ?_⟩, fun e => by simp at e, fun e => by simp at e, by rw [hl1]; exact fun z hz => List.mem_cons_of_mem _ (hB z hz), by rw [hl1]; dsimp only; omega, by rw [hl1]; exact hR', by simp⟩
        rw [hl1, show p + 1 + (u.len : Int) + 1 = p + u.len + 2 by omega, h.2.2]
      · simp at hk
  | .sub s u, p, a, m, h, hi, hF, hG, hR, hB, h0, hd, hp, i, x, hx => by
    simp only [Re.deep] at hd
    have hl1 := h.2.1.last
    have hf := h.2.1.first
    rcases get_cons hx with ⟨rfl, rfl⟩ | ⟨j, rfl, hj⟩
    · simp only [Int.natCast_zero, Int.add_zero]
      refine ⟨fun e => by simp at e, fun e => by simp at e, fun e => by simp at e, fun e => by simp at e, fun e => by simp at e, fun e => by simp at e, fun e => by simp at e, fun _ => ⟨by rw [h.1]; exact hf, by rw [h.1]; exact h.2.2, ?_, by dsimp only; omega⟩, fun e => by simp at e, by rw [h.1]; exact hB, by rw [h.1]; omega, by rw [h.1]; exact hR, by simp⟩
      dsimp only
      rw [show p + (u.len : Int) + 2 - 1 = p + 1 + u.len by omega, hl1, h.1]
    rcases get_app hj with ⟨_, hj⟩ | ⟨hl, hj⟩
    · have := lies_rule A u _ _ m h.2.1 hi hF.2 hG hR (fun z hz => hz) h0 (by simpa using hd) (by omega) _ x hj
      rw [show p + 1 + (j : Int) = p + ((j + 1 : Nat) : Int) by omega] at this; exact this
    · rw [Re.code_len] at hl hj
      rcases get_cons hj with ⟨e, rfl⟩ | ⟨k', e, hk⟩
      · have e2 : p + ((j + 1 : Nat) : Int) = p + 1 + u.len := by omega
        rw [e2]
        refine ⟨fun e => by simp at e, fun e => by simp at e, fun e => by simp at e, fun e => by simp at e, fun e => by simp at e, fun e => by simp at e, fun e => by simp at e, fun e => by simp at e, fun _ => ?_, by rw [hl1]; exact fun z hz => hz, by rw [hl1]; dsimp only; omega, by rw [hl1]; exact hR, by simp⟩
        rw [hl1]; dsimp only; omega
      · simp at hk
  | .opt late u, p, a, m, h, hi, hF, hG, hR, hB, h0, hd, hp, i, x, hx => by
    simp only [Re.deep] at hd
    have hl1 := h.2.last
    rcases get_cons hx with ⟨rfl, rfl⟩ | ⟨j, rfl, hj⟩
    · simp only [Int.natCast_zero, Int.add_zero]
      refine rule_spl (p + 1) (p + u.len + 1) late (h.2.first.trans h.1.symm) ?_ (by rw [h.1]; exact hB) (by rw [h.1]; omega) (by rw [h.1]; exact hR)
      rw [show p + (u.len : Int) + 1 = p + 1 + u.len by omega, hl1, h.1]
    · have := lies_rule A u _ a m h.2 hi hF hG hR hB h0 (by omega) (by omega) _ x hj
      rw [show p + 1 + (j : Int) = p + ((j + 1 : Nat) : Int) by omega] at this; exact this
  | .loop late u, p, a, m, h, hi, hF, hG, hR, hB, h0, hd, hp, i, x, hx => by
    simp only [Re.deep] at hd
    have hl1 := h.2.2.1.last
    have hf := h.2.2.1.first
    rcases get_cons hx with ⟨rfl, rfl⟩ | ⟨j, rfl, hj⟩
    · simp only [Int.natCast_zero, Int.add_zero]
      exact rule_spl (p + 1) (p + u.len + 3) late (h.2.1.trans h.1.symm) (h.2.2.2.trans h.1.symm) (by rw [h.1]; exact hB) (by rw [h.1]; omega) (by rw [h.1]; exact hR)
    rcases get_cons hj with ⟨rfl, rfl⟩ | ⟨j, rfl, hj⟩
    · simp only [Nat.zero_add, Int.natCast_one]
      refine ⟨fun e => by simp at e, fun e => by simp at e, fun e => by simp at e, fun _ => ⟨by rw [h.2.1], by rw [h.2.1, show p + 1 + 1 = p + 2 by omega]; exact hf, by dsimp only; omega⟩, fun e => by simp at e, fun e => by simp at e, fun e => by simp at e, fun e => by simp at e, fun e => by simp at e, by rw [h.2.1]; exact hB, by rw [h.2.1]; omega, by rw [h.2.1]; exact hR, by simp⟩
    rcases get_app hj with ⟨_, hj⟩ | ⟨hl, hj⟩
    · have := lies_rule A u _ _ m h.2.2.1 hi hF hG hR hB (by dsimp only; omega) (by dsimp only; omega) (by omega) _ x hj
      rw [show p + 2 + (j : Int) = p + ((j + 1 + 1 : Nat) : Int) by omega] at this; exact this
    · rw [Re.code_len] at hl hj
      rcases get_cons hj with ⟨e, rfl⟩ | ⟨k', e, hk⟩
      · have e2 : p + ((j + 1 + 1 : Nat) : Int) = p + 2 + u.len := by omega
        rw [e2]
        refine ⟨fun e => by simp at e, fun e => by simp at e, fun e => by simp at e, fun e => by simp at e, fun _ => ⟨?_, ?_, by dsimp only; omega, by dsimp only; omega⟩, fun e => by simp at e, fun e => by simp at e, fun e => by simp at e, fun e => by simp at e, by rw [hl1]; exact hB, by rw [hl1]; dsimp only; omega, by rw [hl1]; exact hR, by simp⟩
        · rw [hl1, h.1]; dsimp only; rw [Int.add_sub_cancel]
        · rw [hl1]; dsimp only; omega
      · simp at hk

/-- The loops around an instruction are the Marks before it less the Agains. -/
theorem lies_count (A : Int → Att) : ∀ (r : Re) (p d : Int) (a : Att), Lies A r p a → ∀ i : Nat, i ≤ r.len → (A (p + i)).d + ((r.code p d).take i).countP isAgain = a.d + ((r.code p d).take i).countP isMark
  | .eps, p, d, a, h, i, hi => by
    have e : i = 0 := by simp [Re.len] at hi; exact hi
    subst e
    have h' : A p = a := h
    simp [h', Re.code]
  | .one s, p, d, a, h, i, hi => flat1 A p a h.1 h.2 ⟨1, 0, 0, s⟩ rfl rfl i hi
  | .back s, p, d, a, h, i, hi => flat1 A p a h.1 h.2 ⟨8, s, 0, []⟩ rfl rfl i hi
  | .head, p, d, a, h, i, hi => flat1 A p a h.1 h.2 ⟨9, 0, 0, []⟩ rfl rfl i hi
  | .tail, p, d, a, h, i, hi => flat1 A p a h.1 h.2 ⟨10, 0, 0, []⟩ rfl rfl i hi
  | .cat u v, p, d, a, h, i, hi => by
    simp only [Re.len] at hi
    rw [Re.code, take_app', take_app', Re.code_len]
    by_cases hl : i ≤ u.len
    · have := lies_count A u p d a h.1 i hl
      rw [show i - u.len = 0 by omega]; simpa using this
    · have h1 := lies_count A u p d a h.1 u.len (Nat.le_refl _)
      have h2 := lies_count A v (p + u.len) d a h.2 (i - u.len) (by omega)
      rw [show p + (u.len : Int) + ((i - u.len : Nat) : Int) = p + i by omega] at h2
      rw [h.1.last, List.take_of_length_le (by rw [Re.code_len]; omega)] at h1
      rw [List.take_of_length_le (by rw [Re.code_len]; omega)]
      omega
  | .alt u v, p, d, a, h, i, hi => by
    simp only [Re.len] at hi
    rw [Re.code, take_cons', take_cons', take_app', take_app', take_cons', take_cons', Re.code_len]
    have h1 := lies_count A u (p + 1) d a h.2.1 u.len (Nat.le_refl _)
    rw [h.2.1.last, List.take_of_length_le (by rw [Re.code_len]; omega)] at h1
    simp only [isMark, isAgain] at *
    simp only [show ((2 : Int) = 4) = False by simp, show ((2 : Int) = 5) = False by simp, show ((3 : Int) = 4) = False by simp, show ((3 : Int) = 5) = False by simp, decide_false, Bool.false_eq_true, and_false, if_false, Nat.zero_add]
    by_cases h0 : i = 0
    · subst h0; simp [h.1]
    by_cases hl : i ≤ u.len + 1
    · have := lies_count A u (p + 1) d a h.2.1 (i - 1) (by omega)
      rw [show p + 1 + ((i - 1 : Nat) : Int) = p + i by omega] at this
      rw [show i - 1 - u.len - 1 = 0 by omega]; simpa using this
    · have h2 := lies_count A v (p + u.len + 2) d a h.2.2 (i - u.len - 2) (by omega)
      rw [show p + (u.len : Int) + 2 + ((i - u.len - 2 : Nat) : Int) = p + i by omega] at h2
      rw [List.take_of_length_le (by rw [Re.code_len]; omega), show i - 1 - u.len - 1 = i - u.len - 2 by omega]
      omega
  | .cap k u, p, d, a, h, i, hi => by
    simp only [Re.len] at hi
    exact around1 A u p d a _ h.1 h.2.1 h.2.2 rfl (lies_count A u (p + 1) d _ h.2.1) ⟨6, k, 0, []⟩ ⟨7, k, 0, []⟩ rfl rfl rfl rfl i hi
  | .sub s u, p, d, a, h, i, hi => by
    simp only [Re.len] at hi
    exact around1 A u p d a _ h.1 h.2.1 h.2.2 rfl (lies_count A u (p + 1) d _ h.2.1) ⟨11, s, p + u.len + 2, []⟩ ⟨12, 0, 0, []⟩ rfl rfl rfl rfl i hi
  | .opt late u, p, d, a, h, i, hi => by
    simp only [Re.len] at hi
    rw [Re.code, take_cons', take_cons']
    have e1 : isMark (spl (p + 1) (p + u.len + 1) late) = false := by cases late <;> rfl
    have e2 : isAgain (spl (p + 1) (p + u.len + 1) late) = false := by cases late <;> rfl
    rw [e1, e2]
    by_cases h0 : i = 0
    · subst h0; simp [h.1]
    · have := lies_count A u (p + 1) d a h.2 (i - 1) (by omega)
      rw [show p + 1 + ((i - 1 : Nat) : Int) = p + i by omega] at this
      simpa using this
  | .loop late u, p, d, a, h, i, hi => by
    simp only [Re.len] at hi
    rw [Re.code, take_cons', take_cons', take_cons', take_cons', take_app', take_app', take_cons', take_cons', Re.code_len]
    have e1 : isMark (spl (p + 1) (p + u.len + 3) late) = false := by cases late <;> rfl
    have e2 : isAgain (spl (p + 1) (p + u.len + 3) late) = false := by cases late <;> rfl
    rw [e1, e2]
    have h1 := lies_count A u (p + 2) (d + 1) _ h.2.2.1 u.len (Nat.le_refl _)
    rw [h.2.2.1.last, List.take_of_length_le (by rw [Re.code_len]; omega)] at h1
    have f1 : isMark ⟨4, d, 0, []⟩ = true := rfl
    have f2 : isAgain ⟨4, d, 0, []⟩ = false := rfl
    have f3 : isMark ⟨5, p, d, []⟩ = false := rfl
    have f4 : isAgain ⟨5, p, d, []⟩ = true := rfl
    rw [f1, f2, f3, f4]
    by_cases h0 : i = 0
    · subst h0; simp [h.1]
    by_cases h00 : i = 1
    · subst h00; have := h.2.1; simp [this]
    by_cases hl : i ≤ u.len + 2
    · have := lies_count A u (p + 2) (d + 1) _ h.2.2.1 (i - 2) (by omega)
      rw [show p + 2 + ((i - 2 : Nat) : Int) = p + i by omega] at this
      dsimp only at this
      rw [show i - 1 - 1 - u.len - 1 = 0 by omega, show i - 1 - 1 = i - 2 by omega, show i - 2 - u.len = 0 by omega]
      simp only [Bool.false_eq_true, and_false, if_false, Nat.lt_irrefl, and_true, List.take_zero, List.countP_nil]
      rw [if_pos (by omega)]
      omega
    · have e : i = u.len + 3 := by omega
      subst e
      have := h.2.2.2
      rw [show p + ((u.len + 3 : Nat) : Int) = p + u.len + 3 by omega, this]
      rw [List.take_of_length_le (l := u.code (p + 2) (d + 1)) (by rw [Re.code_len]; omega)]
      simp only [Bool.false_eq_true, and_false, if_false, and_true, List.take_nil, List.countP_nil]
      rw [if_pos (by omega), if_pos (by omega)]
      dsimp only at h1
      omega
where
  flat1 (A : Int → Att) (p : Int) (a : Att) (h1 : A p = a) (h2 : A (p + 1) = a) (x : Ins) (e1 : isMark x = false) (e2 : isAgain x = false) (i : Nat) (hi : i ≤ 1) : (A (p + i)).d + ([x].take i).countP isAgain = a.d + ([x].take i).countP isMark := by
    rw [take_cons', take_cons', e1, e2]
    by_cases h0 : i = 0
    · subst h0; simp [h1]
    · have : i = 1 := by omega
      subst this; simp [h2]
  around1 (A : Int → Att) (u : Re) (p d : Int) (a b : Att) (h1 : A p = a) (h2 : Lies A u (p + 1) b) (h3 : A (p + u.len + 2) = a) (hb : b.d = a.d) (ih : ∀ i : Nat, i ≤ u.len → (A (p + 1 + i)).d + ((u.code (p + 1) d).take i).countP isAgain = b.d + ((u.code (p + 1) d).take i).countP isMark) (x y : Ins) (e1 : isMark x = false) (e2 : isAgain x = false) (e3 : isMark y = false) (e4 : isAgain y = false) (i : Nat) (hi : i ≤ u.len + 2) :
      (A (p + i)).d + ((x :: (u.code (p + 1) d ++ [y])).take i).countP isAgain = a.d + ((x :: (u.code (p + 1) d ++ [y])).take i).countP isMark := by
    rw [take_cons', take_cons', take_app', take_app', take_cons', take_cons', Re.code_len, e1, e2, e3, e4]
    have l1 := ih u.len (Nat.le_refl _)
    rw [h2.last, List.take_of_length_le (by rw [Re.code_len]; omega)] at l1
    by_cases h0 : i = 0
    · subst h0; simp [h1]
    by_cases hl : i ≤ u.len + 1
    · have := ih (i - 1) (by omega)
      rw [show p + 1 + ((i - 1 : Nat) : Int) = p + i by omega, hb] at this
      simpa using this
    · have e : i = u.len + 2 := by omega
      subst e
      rw [show p + ((u.len + 2 : Nat) : Int) = p + u.len + 2 by omega, h3, List.take_of_length_le (by rw [Re.code_len]; omega)]
      simp
      omega

/-- What is known of a pattern's code. -/
structure Known (c : List Ins) (A : Int → Att) : Prop where
  ok : codeOk c
  rule : ∀ q, q + 1 < c.length → Rule A q (c.getD q ins0)
  last : (c.getD (c.length - 1) ins0).op = 13
  pos : 0 < c.length
  start : A 0 = ⟨[], 0, 0, []⟩
  stop : A ((c.length - 1 : Nat) : Int) = ⟨[], 0, 0, []⟩
  loops : ∀ q : Nat, q < c.length → (A q).d = loopsAt c q
  len : c.length ≤ 300

theorem pattern_lies (p : ByteArray) (h : (checkR p).1 = 0) : ∃ A f, Known (codeR p).1 A ∧ Lies A f 0 ⟨[], 0, 0, []⟩ ∧ (codeR p).1 = f.code 0 0 ++ [⟨13, 0, 0, []⟩] := by
  have ht : (tokens p).2.1 = 0 := by
    unfold checkR at h
    by_cases h0 : (tokens p).2.1 = 0
    · exact h0
    · rw [if_pos h0] at h; exact h
  have hv := tokens_valid p ht
  obtain ⟨f, hw, e, hfi, hde, hle, hc, _⟩ := pattern_tree p h
  have hN : Nums (tokens p).1 := fun j hj => (hv.1 j hj).2.2
  have hnd := nums_numd (tokens p).1 [] (by simpa using hN)
  rw [e] at hnd
  have hinc : f.re.inc 0 := joinRe_inc (both_inc f 0 hw (by simpa [captures] using hnd))
  obtain ⟨A, hA⟩ := lies_some f.re 0 ⟨[], 0, 0, []⟩
  have hlen : (codeR p).1.length = f.re.len + 1 := by rw [hc, List.length_append, Re.code_len]; rfl
  refine ⟨A, f.re, ⟨by rw [hc]; exact code_codeOk f.re hfi hde, fun q hq => ?_, ?_, by omega, hA.first, ?_, fun q hq => ?_, by omega⟩, hA, hc⟩
  · have := lies_rule A f.re 0 ⟨[], 0, 0, []⟩ 0 hA hinc hfi (fun k hk => by simp at hk) (fun k hk => by simp at hk) (fun k hk => hk) (by dsimp only; omega) (by dsimp only; omega) (by omega) q ((codeR p).1.getD q ins0) (by
      rw [hc, List.getD_eq_getElem?_getD, List.getElem?_append_left (by rw [Re.code_len]; omega)]
      dsimp only
      rw [List.getElem?_eq_getElem (by rw [Re.code_len]; omega)]; rfl)
    rw [Int.zero_add] at this; exact this
  · rw [hlen, hc, List.getD_eq_getElem?_getD, List.getElem?_append_right (by rw [Re.code_len]; omega), Re.code_len]
    simp
  · have := hA.last
    rw [hlen, show ((f.re.len + 1 - 1 : Nat) : Int) = 0 + f.re.len by omega]; exact this
  · have h1 := lies_count A f.re 0 0 _ hA q (by omega)
    have h2 := code_loops f.re _ hc q
    rw [hc] at h2
    rw [take_app', take_app'] at h2
    rw [Re.code_len, show q - f.re.len = 0 by omega] at h2
    rw [Int.zero_add] at h1
    rw [hc]
    dsimp only at h1
    simp only [List.take_zero, List.countP_nil] at h2
    omega
theorem pattern_known (p : ByteArray) (h : (checkR p).1 = 0) : ∃ A, Known (codeR p).1 A := by
  obtain ⟨A, f, hK, _⟩ := pattern_lies p h
  exact ⟨A, hK⟩
end Mt
