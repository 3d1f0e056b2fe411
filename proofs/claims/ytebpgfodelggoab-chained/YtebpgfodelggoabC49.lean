import Derived.Test.YtebpgfodelggoabC17
import Derived.Test.YtebpgfodelggoabC48
import Derived.Test.YtebpgfodelggoabC45
/- matcherkeep: works. (Plain seats alone.) -/
set_option linter.unusedVariables false
set_option linter.unusedSimpArgs false
namespace Go.Proofs.Ytebpgfodelggoab
open Go.RowKit

def abF : Mt.Fnd := ⟨true, [0, 3, 0, 2, -1, -1, -1, -1, -1, -1, -1, -1, -1, -1, -1, -1, -1, -1, -1, -1], 15⟩
theorem find_ab : Mt.findR ⟨#[40, 97, 42, 41, 98]⟩ ⟨#[97, 97, 98]⟩ 0 0 0 0 15 = (abF, 0) := by kernel_rfl
theorem abF_shown : Shown abF 0 3 := ⟨rfl, by decide, by decide, rfl, rfl, rfl⟩
theorem abF_without : Without abF 1 := by
  refine ⟨rfl, fun i h1 h2 h3 => ?_⟩
  rcases i with _ | _ | _ | _ | _ | _ | _ | _ | _ | _ | i
  · omega
  · omega
  all_goals first | exact ⟨rfl, rfl⟩ | omega

set_option maxRecDepth 100000 in
set_option maxHeartbeats 4000000 in
theorem works_any (w : World) : Calls Try.prog 13 #[] w fun e w' => e = .returned (.bool true) ∧ Below w.heap.size w w' := by
  have KF : Hid (Calls Try.prog 11 #[.string ⟨#[40, 97, 42, 41, 98]⟩, .string ⟨#[97, 97, 98]⟩, .int .i64 0, .agg #[.int .i64 0, .int .i64 0, .int .i64 0, .int .i64 15]] w fun e w' => e = .returned (.tuple #[.agg (fpA abF), .int .i64 0]) ∧ Below w.heap.size w w') := by
    have := Find_any ⟨#[40, 97, 42, 41, 98]⟩ ⟨#[97, 97, 98]⟩ 0 0 0 0 15 w (by decide) (by decide)
    rw [find_ab] at this
    exact this
  have KS : Hid (∀ z : World, Calls Try.prog 25 #[.agg (fpA abF), .int .i64 0, .int .i64 0, .int .i64 3] z fun e w' => e = .returned (.bool true) ∧ Below z.heap.size z w') := fun z => shown_true abF 0 3 abF_shown z
  have KW : Hid (∀ z : World, Calls Try.prog 24 #[.agg (fpA abF), .int .i64 1] z fun e w' => e = .returned (.bool true) ∧ Below z.heap.size z w') := fun z => without_true abF 1 abF_without z
  have hsz := fpA_size abF rfl
  have hall := fpA_all abF
  have g21 : (fpA abF)[21]? = some (.int .i64 15) := rfl
  have g3 : (fpA abF)[3]? = some (.int .i64 0) := rfl
  have g4 : (fpA abF)[4]? = some (.int .i64 2) := rfl
  have HG : Hid ((fpA abF)[21]? = some (.int .i64 15) ∧ (fpA abF)[3]? = some (.int .i64 0) ∧ (fpA abF)[4]? = some (.int .i64 2)) := ⟨g21, g3, g4⟩
  clear g21 g3 g4
  generalize fpA abF = F at *
  go_enter Try.func13, Try.ntmps13
  go_wp2_with fail
  refine KF.out.mono ?_
  rintro e w1 ⟨rfl, hb1⟩
  have HB1 : Hid (Below w.heap.size w w1) := hb1
  clear hb1 KF
  go_upto_region 2 with (refine store_blk 31 22 Try.sizeFd (by rfl) (.tmp 1) (.tmp 8) (by rfl) w1.heap.size F (by rfl) (by rfl) (by exact heap_b1 _ _) (by rfl) hsz hall ?_; intro w2 r1 r2 r3 r4)
  have B2 : Below w1.heap.size w1 w2 := ((Below.refl _ _).alloc (Nat.le_refl _) _).trans (r4 _ (Nat.le_refl _))
  have HB2 : Hid (Below w.heap.size w w2) := HB1.out.trans (B2.mono HB1.out.size)
  have l2 : w1.heap.size < w2.heap.size := (Array.getElem?_eq_some_iff.1 r1).1
  have HL2 : Hid (w1.heap.size < w2.heap.size) := l2
  have HR : Hid (w2.heap[w1.heap.size]? = some (.cells F 31 (0, 0))) := r1
  clear r2 r3 r4 B2 l2
  generalize hm : w1.heap.size = m at *
  go_wp2_with (refine load_blk 31 22 Try.underlying31 rfl Try.sizeFd (by rfl) (.tmp 1) (by rfl) m (by rfl) r1 hsz ?_)
  refine (KS.out _).mono ?_
  rintro e w3 ⟨rfl, hb3⟩
  have HB3 : Hid (Below w.heap.size w w3) := HB2.out.trans (hb3.mono HB2.out.size)
  have q3 : w3.heap[m]? = some (.cells F 31 (0, 0)) := (hb3.block _ HL2.out).trans HR.out
  have HL3 : Hid (m < w3.heap.size) := (Array.getElem?_eq_some_iff.1 q3).1
  have HR3 : Hid (w3.heap[m]? = some (.cells F 31 (0, 0))) := q3
  clear hb3 r1
  go_wp2_with (refine load_blk 31 22 Try.underlying31 rfl Try.sizeFd (by rfl) (.tmp 1) (by rfl) m (by rfl) q3 hsz ?_)
  refine (KW.out _).mono ?_
  rintro e w4 ⟨rfl, hb4⟩
  have HB4 : Hid (Below w.heap.size w w4) := HB3.out.trans (hb4.mono HB3.out.size)
  have q4 : w4.heap[m]? = some (.cells F 31 (0, 0)) := (hb4.block _ HL3.out).trans HR3.out
  have a1 : w4.cell? ⟨m, 21, none⟩ = some (.int .i64 15) := ((cell_block q4).1 _).trans HG.out.1
  have a2 : w4.cell? ⟨m, 3, none⟩ = some (.int .i64 0) := ((cell_block q4).1 _).trans HG.out.2.1
  have a3 : w4.cell? ⟨m, 4, none⟩ = some (.int .i64 2) := ((cell_block q4).1 _).trans HG.out.2.2
  have l4 : m < w4.heap.size := (Array.getElem?_eq_some_iff.1 q4).1
  clear hb4 q3 q4
  go_wp2_with fail
  go_ret
  exact ⟨rfl, HB4.out⟩
end Go.Proofs.Ytebpgfodelggoab
/- WHAT FIND ANSWERS, by its search; and what the budget changes. -/
set_option linter.unusedVariables false
namespace Mt

theorem codeR_err (p : ByteArray) : (codeR p).2 = (checkR p).1 := by
  unfold codeR
  split
  · rfl
  · rename_i x; simp at x; simp [x]
theorem findR_err (p t : ByteArray) (frm policy mask room budget : Int) (h : (checkR p).1 ≠ 0) : findR p t frm policy mask room budget = (fnd0, (checkR p).1) := by
  unfold findR; rw [codeR_err, if_pos h]
/-- Options that may be. -/
def Opt (policy mask room budget : Int) : Prop := (0 ≤ policy ∧ policy < 5) ∧ (0 ≤ mask ∧ mask < 4294967296) ∧ (0 ≤ room ∧ room < 5001) ∧ 0 ≤ budget ∧ budget ≤ 10000
theorem findR_ok (p t : ByteArray) (frm : Nat) (policy mask room budget : Int) (h : (checkR p).1 = 0) (hT : t.size ≤ 60) (hf : frm ≤ t.size) (ho : Opt policy mask room budget) :
    findR p t frm policy mask room budget = if (searchAll (codeR p).1 t policy mask room budget frm).2 then (fnd0, 14) else ((searchAll (codeR p).1 t policy mask room budget frm).1, 0) := by
  obtain ⟨h1, h2, h3, h4⟩ := ho
  have hm : mayFind t.size (frm : Int) policy mask room budget = 0 := by
    unfold mayFind maySelect
    rw [if_neg (by omega), if_pos ⟨by rw [decide_eq_true_eq]; omega, by omega⟩]
  unfold findR
  rw [codeR_err, if_neg (by omega), hm, if_neg (by omega), Int.toNat_natCast]
theorem budget_over {c : List Ins} {t : ByteArray} {policy mask room : Int} {frm : Nat} (b : Int) (hb : 0 ≤ b ∧ b ≤ 10000) (h : (searchAll c t policy mask room 10000 frm).2 = true) : (searchAll c t policy mask room b frm).2 = true := by
  cases e : (searchAll c t policy mask room b frm).2
  · unfold searchAll at e h
    have := search_more (envOf c t policy mask) b (10000 - b).toNat (t.size + 1 - frm) frm b.toNat (List.replicate (c.length * (t.size + 1) * 12) false) room e
    rw [show b + ((10000 - b).toNat : Int) = 10000 by omega, show b.toNat + (10000 - b).toNat = (10000 : Int).toNat by omega] at this
    rw [this, e] at h; cases h
  · rfl
theorem budget_same {c : List Ins} {t : ByteArray} {policy mask room : Int} {frm : Nat} (b : Int) (hb : 0 ≤ b ∧ b ≤ 10000) (h : (searchAll c t policy mask room 10000 frm).2 = false) (hs : (searchAll c t policy mask room 10000 frm).1.steps ≤ b) : searchAll c t policy mask room b frm = searchAll c t policy mask room 10000 frm := by
  unfold searchAll at h hs ⊢
  have e1 : b + ((10000 - b).toNat : Int) = 10000 := by omega
  have e2 : b.toNat + (10000 - b).toNat = (10000 : Int).toNat := by omega
  have l := search_less (envOf c t policy mask) b (10000 - b).toNat (t.size + 1 - frm) frm b.toNat (List.replicate (c.length * (t.size + 1) * 12) false) room (by rw [e1, e2]; exact h) (by rw [e1, e2]; exact hs)
  have := search_more (envOf c t policy mask) b (10000 - b).toNat (t.size + 1 - frm) frm b.toNat (List.replicate (c.length * (t.size + 1) * 12) false) room l
  rw [e1, e2] at this
  exact this.symm
theorem budget_less {c : List Ins} (hc : codeOk c) (hc0 : 0 < c.length) {t : ByteArray} {policy mask room : Int} {frm : Nat} (hf : frm ≤ t.size) (hr : 0 ≤ room ∧ room ≤ 5000) (b : Int) (hb : 0 ≤ b ∧ b ≤ 10000) (h : (searchAll c t policy mask room 10000 frm).2 = false) (hs : b < (searchAll c t policy mask room 10000 frm).1.steps) : (searchAll c t policy mask room b frm).2 = true := by
  cases e : (searchAll c t policy mask room b frm).2
  · have e' := e
    unfold searchAll at e h hs
    have := search_more (envOf c t policy mask) b (10000 - b).toNat (t.size + 1 - frm) frm b.toNat (List.replicate (c.length * (t.size + 1) * 12) false) room e
    rw [show b + ((10000 - b).toNat : Int) = 10000 by omega, show b.toNat + (10000 - b).toNat = (10000 : Int).toNat by omega] at this
    rw [this] at hs
    have hi := (search_in (envOf c t policy mask) hc hc0 b (t.size + 1 - frm) frm b.toNat (List.replicate (c.length * (t.size + 1) * 12) false) room (by show frm + (t.size + 1 - frm) ≤ t.size + 1; omega) hr (by omega) e).1.2
    omega
  · rfl
end Mt
/- WHERE AN INSTRUCTION LEADS: forward, but for Again; and what stands in a run of its own. -/
set_option linter.unusedVariables false
namespace Mt

def Fwd (q : Int) (x : Ins) : Prop := (x.op = 2 → q < x.x ∧ q < x.y) ∧ (x.op = 3 → q < x.x) ∧ (x.op = 11 → q < x.y)
theorem fwd_none {q : Int} {x : Ins} (h : x.op ≠ 2 ∧ x.op ≠ 3 ∧ x.op ≠ 11) : Fwd q x := ⟨fun e => absurd e h.1, fun e => absurd e h.2.1, fun e => absurd e h.2.2⟩
theorem fwd_spl {q x y : Int} {late : Bool} (h : q < x ∧ q < y) : Fwd q (spl x y late) := by
  cases late
  · exact ⟨fun _ => h, fun e => by simp [spl] at e, fun e => by simp [spl] at e⟩
  · exact ⟨fun _ => ⟨h.2, h.1⟩, fun e => by simp [spl] at e, fun e => by simp [spl] at e⟩
theorem Fwd.at {q q' : Int} {x : Ins} (h : Fwd q x) (e : q = q') : Fwd q' x := e ▸ h

theorem code_fwd : ∀ (r : Re) (p d : Int) (i : Nat) (x : Ins), (r.code p d)[i]? = some x → Fwd (p + i) x
  | .eps, p, d, i, x, h => by simp [Re.code] at h
  | .one s, p, d, i, x, h => by
    rcases get_cons h with ⟨rfl, rfl⟩ | ⟨j, rfl, h2⟩
    · exact fwd_none (by simp)
    · simp at h2
  | .back s, p, d, i, x, h => by
    rcases get_cons h with ⟨rfl, rfl⟩ | ⟨j, rfl, h2⟩
    · exact fwd_none (by simp)
    · simp at h2
  | .head, p, d, i, x, h => by
    rcases get_cons h with ⟨rfl, rfl⟩ | ⟨j, rfl, h2⟩
    · exact fwd_none (by simp)
    · simp at h2
  | .tail, p, d, i, x, h => by
    rcases get_cons h with ⟨rfl, rfl⟩ | ⟨j, rfl, h2⟩
    · exact fwd_none (by simp)
    · simp at h2
  | .cat a b, p, d, i, x, h => by
    rcases get_app h with ⟨_, h⟩ | ⟨hl, h⟩
    · exact code_fwd a _ _ _ x h
    · rw [Re.code_len] at h hl; exact (code_fwd b _ _ _ x h).at (by omega)
  | .alt a b, p, d, i, x, h => by
    rcases get_cons h with ⟨rfl, rfl⟩ | ⟨j, rfl, h⟩
    · exact ⟨fun _ => by dsimp only; omega, fun e => by simp at e, fun e => by simp at e⟩
    rcases get_app h with ⟨_, h⟩ | ⟨hl, h⟩
    · exact (code_fwd a _ _ _ x h).at (by omega)
    rw [Re.code_len] at h hl
    rcases get_cons h with ⟨e, rfl⟩ | ⟨k, e, h⟩
    · exact ⟨fun e => by simp at e, fun _ => by dsimp only; omega, fun e => by simp at e⟩
    · exact (code_fwd b _ _ _ x h).at (by omega)
  | .cap k a, p, d, i, x, h => by
    rcases get_cons h with ⟨rfl, rfl⟩ | ⟨j, rfl, h⟩
    · exact fwd_none (by simp)
    rcases get_app h with ⟨_, h⟩ | ⟨hl, h⟩
    · exact (code_fwd a _ _ _ x h).at (by omega)
    rcases get_cons h with ⟨e, rfl⟩ | ⟨k, e, h⟩
    · exact fwd_none (by simp)
    · simp at h
  | .sub s a, p, d, i, x, h => by
    rcases get_cons h with ⟨rfl, rfl⟩ | ⟨j, rfl, h⟩
    · exact ⟨fun e => by simp at e, fun e => by simp at e, fun _ => by dsimp only; omega⟩
    rcases get_app h with ⟨_, h⟩ | ⟨hl, h⟩
    · exact (code_fwd a _ _ _ x h).at (by omega)
    rcases get_cons h with ⟨e, rfl⟩ | ⟨k, e, h⟩
    · exact fwd_none (by simp)
    · simp at h
  | .opt late a, p, d, i, x, h => by
    rcases get_cons h with ⟨rfl, rfl⟩ | ⟨j, rfl, h⟩
    · exact fwd_spl (by omega)
    · exact (code_fwd a _ _ _ x h).at (by omega)
  | .loop late a, p, d, i, x, h => by
    rcases get_cons h with ⟨rfl, rfl⟩ | ⟨j, rfl, h2⟩
    · exact fwd_spl (by omega)
    rcases get_cons h2 with ⟨rfl, rfl⟩ | ⟨k, rfl, h3⟩
    · exact fwd_none (by simp)
    rcases get_app h3 with ⟨_, h4⟩ | ⟨hl, h4⟩
    · exact (code_fwd a _ _ _ x h4).at (by omega)
    rcases get_cons h4 with ⟨e, rfl⟩ | ⟨k, e, h5⟩
    · exact fwd_none (by simp)
    · simp at h5

/-- What lies in a run of its own lies behind its Sub. -/
def SubAt (l : List Ins) (p : Int) (i : Nat) : Prop := ∃ (j : Nat) (x : Ins), j < i ∧ l[j]? = some x ∧ x.op = 11 ∧ p + i < x.y
theorem SubAt.cons {l : List Ins} {p q : Int} {i : Nat} (c : Ins) (h : SubAt l q i) (e : q = p + 1) : SubAt (c :: l) p (i + 1) := by
  obtain ⟨j, x, h1, h2, h3, h4⟩ := h
  exact ⟨j + 1, x, by omega, by rw [List.getElem?_cons_succ]; exact h2, h3, by omega⟩
theorem SubAt.left {l : List Ins} {p : Int} {i : Nat} (m : List Ins) (h : SubAt l p i) : SubAt (l ++ m) p i := by
  obtain ⟨j, x, h1, h2, h3, h4⟩ := h
  exact ⟨j, x, h1, by rw [List.getElem?_append_left (List.getElem?_eq_some_iff.1 h2).1]; exact h2, h3, h4⟩
theorem SubAt.right {m : List Ins} {p q : Int} {i : Nat} (l : List Ins) (h : SubAt m q i) (e : q = p + l.length) : SubAt (l ++ m) p (l.length + i) := by
  obtain ⟨j, x, h1, h2, h3, h4⟩ := h
  exact ⟨l.length + j, x, by omega, by rw [List.getElem?_append_right (by omega), Nat.add_sub_cancel_left]; exact h2, h3, by omega⟩

theorem lies_y (A : Int → Att) : ∀ (r : Re) (p d : Int) (a : Att), Lies A r p a → ∀ i : Nat, i < r.len → (A (p + i)).y = a.y ∨ SubAt (r.code p d) p i
  | .eps, p, d, a, h, i, hi => by simp [Re.len] at hi
  | .one s, p, d, a, h, i, hi => by
    obtain rfl : i = 0 := by simp [Re.len] at hi; exact hi
    rw [show p + ((0 : Nat) : Int) = p by omega, h.1]; exact .inl rfl
  | .back s, p, d, a, h, i, hi => by
    obtain rfl : i = 0 := by simp [Re.len] at hi; exact hi
    rw [show p + ((0 : Nat) : Int) = p by omega, h.1]; exact .inl rfl
  | .head, p, d, a, h, i, hi => by
    obtain rfl : i = 0 := by simp [Re.len] at hi; exact hi
    rw [show p + ((0 : Nat) : Int) = p by omega, h.1]; exact .inl rfl
  | .tail, p, d, a, h, i, hi => by
    obtain rfl : i = 0 := by simp [Re.len] at hi; exact hi
    rw [show p + ((0 : Nat) : Int) = p by omega, h.1]; exact .inl rfl
  | .cat x y, p, d, a, h, i, hi => by
    simp only [Re.len] at hi
    by_cases hx : i < x.len
    · rcases lies_y A x p d a h.1 i hx with e | e
      · exact .inl e
      · exact .inr (e.left _)
    · obtain ⟨k, rfl⟩ : ∃ k, i = x.len + k := ⟨i - x.len, by omega⟩
      rcases lies_y A y (p + x.len) d a h.2 k (by omega) with e | e
      · left; rw [← e]; congr 2; omega
      · right; have := e.right (x.code p d) (p := p) (by rw [Re.code_len]); rw [Re.code_len] at this; exact this
  | .alt x y, p, d, a, h, i, hi => by
    simp only [Re.len] at hi
    rcases i with _ | i
    · rw [show p + ((0 : Nat) : Int) = p by omega, h.1]; exact .inl rfl
    by_cases hx : i < x.len
    · rcases lies_y A x (p + 1) d a h.2.1 i hx with e | e
      · left; rw [← e]; congr 2; omega
      · exact .inr ((e.left _).cons _ rfl)
    by_cases hx2 : i = x.len
    · subst hx2
      left; rw [← Lies.last h.2.1]; congr 2; omega
    · obtain ⟨k, rfl⟩ : ∃ k, i = x.len + (k + 1) := ⟨i - x.len - 1, by omega⟩
      rcases lies_y A y (p + x.len + 2) d a h.2.2 k (by omega) with e | e
      · left; rw [← e]; congr 2; omega
      · right
        have h1 := e.cons (p := p + 1 + x.len) ⟨3, p + x.len + 2 + y.len, 0, []⟩ (by omega)
        have h2 := h1.right (p := p + 1) (x.code (p + 1) d) (by rw [Re.code_len])
        rw [Re.code_len] at h2
        exact h2.cons _ rfl
  | .cap g x, p, d, a, h, i, hi => by
    simp only [Re.len] at hi
    rcases i with _ | i
    · rw [show p + ((0 : Nat) : Int) = p by omega, h.1]; exact .inl rfl
    by_cases hx : i < x.len
    · rcases lies_y A x (p + 1) d _ h.2.1 i hx with e | e
      · left; rw [show p + ((i + 1 : Nat) : Int) = p + 1 + i by omega, e]
      · exact .inr ((e.left _).cons _ rfl)
    · left; rw [show p + ((i + 1 : Nat) : Int) = p + 1 + x.len by omega, Lies.last h.2.1]
  | .sub s x, p, d, a, h, i, hi => by
    simp only [Re.len] at hi
    rcases i with _ | i
    · rw [show p + ((0 : Nat) : Int) = p by omega, h.1]; exact .inl rfl
    · exact .inr ⟨0, _, by omega, rfl, rfl, by dsimp only; omega⟩
  | .opt late x, p, d, a, h, i, hi => by
    simp only [Re.len] at hi
    rcases i with _ | i
    · rw [show p + ((0 : Nat) : Int) = p by omega, h.1]; exact .inl rfl
    rcases lies_y A x (p + 1) d a h.2 i (by omega) with e | e
    · left; rw [← e]; congr 2; omega
    · exact .inr (e.cons _ rfl)
  | .loop late x, p, d, a, h, i, hi => by
    simp only [Re.len] at hi
    rcases i with _ | i
    · rw [show p + ((0 : Nat) : Int) = p by omega, h.1]; exact .inl rfl
    rcases i with _ | i
    · left; rw [show p + ((0 + 1 : Nat) : Int) = p + 1 by omega, h.2.1]
    by_cases hx : i < x.len
    · rcases lies_y A x (p + 2) (d + 1) _ h.2.2.1 i hx with e | e
      · left; rw [show p + ((i + 1 + 1 : Nat) : Int) = p + 2 + i by omega, e]
      · exact .inr (((e.left _).cons (p := p + 1) _ (by omega)).cons _ rfl)
    · left; rw [show p + ((i + 1 + 1 : Nat) : Int) = p + 2 + x.len by omega, Lies.last h.2.2.1]

/-- All that is known of a pattern's code. -/
structure Kn (c : List Ins) (A : Int → Att) : Prop where
  k : Known c A
  fwd : ∀ q, q + 1 < c.length → Fwd q (c.getD q ins0)
  suby : ∀ q : Nat, q < c.length → inSub c q = false → (A q).y = 0

theorem pattern_kn (p : ByteArray) (h : (checkR p).1 = 0) : ∃ A, Kn (codeR p).1 A := by
  obtain ⟨A, f, hK, hA, hc⟩ := pattern_lies p h
  have hlen : (codeR p).1.length = f.len + 1 := by rw [hc, List.length_append, Re.code_len]; rfl
  refine ⟨A, hK, fun q hq => ?_, fun q hq hs => ?_⟩
  · have hl : q < (f.code 0 0).length := by rw [Re.code_len]; omega
    have := code_fwd f 0 0 q ((codeR p).1.getD q ins0) (by
      rw [hc, List.getD_eq_getElem?_getD, List.getElem?_append_left hl, List.getElem?_eq_getElem hl]; rfl)
    exact this.at (by omega)
  · by_cases hl : q < f.len
    · rcases lies_y A f 0 0 _ hA q hl with e | ⟨j, x, h1, h2, h3, h4⟩
      · rw [Int.zero_add] at e; exact e
      · exfalso
        have hj : (codeR p).1.getD j ins0 = x := by
          rw [hc, List.getD_eq_getElem?_getD, List.getElem?_append_left (List.getElem?_eq_some_iff.1 h2).1, h2]; rfl
        have := any_of_take (codeR p).1 (isOver q) j q h1 (by omega) (by
          rw [hj]; unfold isOver; rw [decide_eq_true_eq]; exact ⟨h3, by omega⟩)
        unfold inSub at hs
        rw [this] at hs; cases hs
    · have : (q : Int) = ((codeR p).1.length - 1 : Nat) := by omega
      rw [this, hK.stop]
end Mt
