import Derived.Test.YtebpgfodelggoabC49
/- FINDALL IS FIND AGAIN AND AGAIN: P11. -/
set_option linter.unusedVariables false
namespace Mt

def chainR (c : List Ins) (t : ByteArray) (policy mask room : Int) : Nat → Nat → Int → List Fnd → List Fnd × Int × Bool
  | 0, _, used, l => (l, used, true)
  | F + 1, frm, used, l =>
    if t.size < frm then (l, used, true)
    else if (searchAll c t policy mask room 10000 frm).2 then (l, used, false)
    else if (searchAll c t policy mask room 10000 frm).1.ok = false then (l, used + (searchAll c t policy mask room 10000 frm).1.steps, true)
    else chainR c t policy mask room F (nextFrom (searchAll c t policy mask room 10000 frm).1) (used + (searchAll c t policy mask room 10000 frm).1.steps) (l ++ [(searchAll c t policy mask room 10000 frm).1])
section
variable {c : List Ins} (hc : codeOk c) (hc0 : 0 < c.length) (t : ByteArray) (policy mask room : Int) (hr : 0 ≤ room ∧ room ≤ 5000)
include hc hc0 hr
theorem search_steps (b : Int) (hb : 0 ≤ b) (frm : Nat) (hf : frm ≤ t.size) (h : (searchAll c t policy mask room b frm).2 = false) : 0 ≤ (searchAll c t policy mask room b frm).1.steps ∧ (searchAll c t policy mask room b frm).1.steps ≤ b :=
  (search_in (envOf c t policy mask) hc hc0 b (t.size + 1 - frm) frm b.toNat (List.replicate (c.length * (t.size + 1) * 12) false) room (by show frm + (t.size + 1 - frm) ≤ t.size + 1; omega) hr (by omega) h).1
theorem chain_used : ∀ (F frm : Nat) (used : Int) (l : List Fnd), used ≤ (chainR c t policy mask room F frm used l).2.1
  | 0, frm, used, l => by simp [chainR]
  | F + 1, frm, used, l => by
    rw [chainR]
    split
    · exact Int.le_refl _
    rename_i h1
    split
    · exact Int.le_refl _
    rename_i h2
    have hs := search_steps hc hc0 t policy mask room hr 10000 (by omega) frm (by omega) (by simpa using h2)
    split
    · show used ≤ used + _; omega
    · have := chain_used F (nextFrom (searchAll c t policy mask room 10000 frm).1) (used + (searchAll c t policy mask room 10000 frm).1.steps) (l ++ [(searchAll c t policy mask room 10000 frm).1])
      omega
theorem all_chain (budget : Int) (hb : 0 ≤ budget ∧ budget ≤ 10000) : ∀ (F frm : Nat) (used : Int) (l : List Fnd), 0 ≤ used → used ≤ budget →
    allFrom c t policy mask room budget F frm used l = if (chainR c t policy mask room F frm used l).2.2 = true ∧ (chainR c t policy mask room F frm used l).2.1 ≤ budget then ((chainR c t policy mask room F frm used l).1, (chainR c t policy mask room F frm used l).2.1, 0) else ([], 0, 14)
  | 0, frm, used, l, h0, h1 => by rw [allFrom, chainR, if_pos ⟨rfl, h1⟩]
  | F + 1, frm, used, l, h0, h1 => by
    by_cases hf : t.size < frm
    · have e1 : chainR c t policy mask room (F + 1) frm used l = (l, used, true) := by rw [chainR, if_pos hf]
      rw [e1, allFrom, if_pos hf, if_pos ⟨rfl, h1⟩]
    have hb' : 0 ≤ budget - used ∧ budget - used ≤ 10000 := by omega
    cases hS : (searchAll c t policy mask room 10000 frm).2
    · have hs := search_steps hc hc0 t policy mask room hr 10000 (by omega) frm (by omega) hS
      have e1 : chainR c t policy mask room (F + 1) frm used l = if (searchAll c t policy mask room 10000 frm).1.ok = false then (l, used + (searchAll c t policy mask room 10000 frm).1.steps, true) else chainR c t policy mask room F (nextFrom (searchAll c t policy mask room 10000 frm).1) (used + (searchAll c t policy mask room 10000 frm).1.steps) (l ++ [(searchAll c t policy mask room 10000 frm).1]) := by
        rw [chainR, if_neg hf, hS]; rfl
      rw [e1]
      clear e1
      by_cases hle : (searchAll c t policy mask room 10000 frm).1.steps ≤ budget - used
      · have e2 : allFrom c t policy mask room budget (F + 1) frm used l = if (searchAll c t policy mask room 10000 frm).1.ok = false then (l, used + (searchAll c t policy mask room 10000 frm).1.steps, 0) else allFrom c t policy mask room budget F (nextFrom (searchAll c t policy mask room 10000 frm).1) (used + (searchAll c t policy mask room 10000 frm).1.steps) (l ++ [(searchAll c t policy mask room 10000 frm).1]) := by
          rw [allFrom, if_neg hf, budget_same (budget - used) hb' hS hle, hS]; rfl
        rw [e2]
        by_cases hok : (searchAll c t policy mask room 10000 frm).1.ok = false
        · rw [if_pos hok, if_pos hok, if_pos ⟨rfl, by show used + _ ≤ budget; omega⟩]
        · rw [if_neg hok, if_neg hok]
          exact all_chain budget hb F _ _ _ (by omega) (by omega)
      · have e2 : allFrom c t policy mask room budget (F + 1) frm used l = ([], 0, 14) := by
          rw [allFrom, if_neg hf, budget_less hc hc0 (by omega) hr (budget - used) hb' hS (by omega)]; rfl
        rw [e2]
        by_cases hok : (searchAll c t policy mask room 10000 frm).1.ok = false
        · rw [if_pos hok, if_neg (by intro h; have := h.2; dsimp only at this; omega)]
        · rw [if_neg hok]
          have hu := chain_used hc hc0 t policy mask room hr F (nextFrom (searchAll c t policy mask room 10000 frm).1) (used + (searchAll c t policy mask room 10000 frm).1.steps) (l ++ [(searchAll c t policy mask room 10000 frm).1])
          rw [if_neg (by intro h; have := h.2; omega)]
    · have e1 : chainR c t policy mask room (F + 1) frm used l = (l, used, false) := by rw [chainR, if_neg hf, hS]; rfl
      have e2 : allFrom c t policy mask room budget (F + 1) frm used l = ([], 0, 14) := by rw [allFrom, if_neg hf, budget_over (budget - used) hb' hS]; rfl
      rw [e1, e2, if_neg (by simp)]
end
theorem findAllR_err (p t : ByteArray) (policy mask room budget : Int) (h : (checkR p).1 ≠ 0) : findAllR p t policy mask room budget = ([], 0, (checkR p).1) := by
  unfold findAllR; rw [codeR_err, if_pos h]
theorem findAllR_ok (p t : ByteArray) (policy mask room budget : Int) (h : (checkR p).1 = 0) (hc : codeOk (codeR p).1) (hc0 : 0 < (codeR p).1.length) (hT : t.size ≤ 60) (ho : Opt policy mask room budget) :
    findAllR p t policy mask room budget = if (chainR (codeR p).1 t policy mask room (t.size + 2) 0 0 []).2.2 = true ∧ (chainR (codeR p).1 t policy mask room (t.size + 2) 0 0 []).2.1 ≤ budget then ((chainR (codeR p).1 t policy mask room (t.size + 2) 0 0 []).1, (chainR (codeR p).1 t policy mask room (t.size + 2) 0 0 []).2.1, 0) else ([], 0, 14) := by
  obtain ⟨h1, h2, h3, h4⟩ := ho
  have hm : mayFind t.size 0 policy mask room budget = 0 := by
    unfold mayFind maySelect
    rw [if_neg (by omega), if_pos ⟨by rw [decide_eq_true_eq]; omega, by omega⟩]
  unfold findAllR
  rw [codeR_err, if_neg (by omega), hm, if_neg (by omega)]
  exact all_chain hc hc0 t policy mask room (by omega) budget h4 (t.size + 2) 0 0 [] (by omega) h4.1
end Mt
