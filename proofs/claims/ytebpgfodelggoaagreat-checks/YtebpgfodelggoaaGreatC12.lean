import Derived.Test.YtebpgfodelggoaaGreatC09
import Derived.Test.YtebpgfodelggoaaGreatC11
set_option linter.unusedVariables false
set_option linter.unusedSimpArgs false
namespace Go.Proofs.YtebpgfodelggoaaGreat
open Go.RowKit

/-- What the four functions that call each other answer, with f rounds of fuel. -/
def S0 (l : List Mt.Tok) (f : Nat) : Prop := ∀ (a b : Nat) (ai bi d : Int) (v : Value) (w : World), ai = a → bi = b → toks w v l → a ≤ 66 → b ≤ l.length → 4 * (70 - a) + 3 ≤ f → 0 ≤ d → d + f ≤ 1000 →
  Calls Tryz.prog 71 #[v, .int .i64 ai, .int .i64 bi, .int .i64 d] w fun e w' => ∃ v', e = .returned v' ∧ ownIns w' 0 v' (Mt.gen l f 0 a b d) ∧ Below w.heap.size w w'
def S1 (l : List Mt.Tok) (f : Nat) : Prop := ∀ (a b : Nat) (ai bi d : Int) (v : Value) (w : World), ai = a → bi = b → toks w v l → a ≤ 66 → b ≤ l.length → 4 * (70 - a) + 2 ≤ f → 0 ≤ d → d + f ≤ 1000 →
  Calls Tryz.prog 101 #[v, .int .i64 ai, .int .i64 bi, .int .i64 d] w fun e w' => ∃ v', e = .returned v' ∧ ownIns w' 0 v' (Mt.gen l f 1 a b d) ∧ Below w.heap.size w w'
def S2 (l : List Mt.Tok) (f : Nat) : Prop := ∀ (a b : Nat) (ai bi d : Int) (v : Value) (w : World), ai = a → bi = b → toks w v l → a < l.length → a < b → b ≤ l.length + 1 → 4 * (70 - a) ≤ f → 0 ≤ d → d + f ≤ 1000 →
  Calls Tryz.prog 126 #[v, .int .i64 ai, .int .i64 bi, .int .i64 d] w fun e w' => ∃ v', e = .returned v' ∧ ownIns w' 0 v' (Mt.gen l f 2 a b d) ∧ Below w.heap.size w w'
def S3 (l : List Mt.Tok) (f : Nat) : Prop := ∀ (a b : Nat) (ai bi d : Int) (v : Value) (w : World), ai = a → bi = b → toks w v l → a < l.length → a < b → b < l.length → Mt.kindAt l b = 8 → 4 * (70 - a) + 1 ≤ f → 0 ≤ d → d + f ≤ 1000 →
  Calls Tryz.prog 125 #[v, .int .i64 ai, .int .i64 bi, .int .i64 d] w fun e w' => ∃ v', e = .returned v' ∧ ownIns w' 0 v' (Mt.gen l f 3 a b d) ∧ Below w.heap.size w w'

theorem gen_ok {l : List Mt.Tok} (hl : Mt.toksOk l) (f tag a b : Nat) (d : Int) (h0 : 0 ≤ d) (h1 : d + f ≤ 1000) : Mt.fit 70000000 (Mt.gen l f tag a b d) :=
  Mt.fit2_fit (Mt.gen_fit l hl f tag a b d h0 h1) (by omega) (by omega)

set_option maxRecDepth 100000 in
set_option maxHeartbeats 2000000 in
theorem alternatives_step (l : List Mt.Tok) (hl : l.length ≤ 64) (ho : Mt.toksOk l) (f : Nat) (h0 : S0 l f) (h1 : S1 l f) : S0 l (f + 1) := by
  intro a b ai bi d v w hai hbi ht ha hb hf hd0 hd1
  subst hai hbi
  have HT : Hid (toks w v l) := ht
  clear ht
  have hbl := Mt.bar_le l b (b - a) a (Nat.le_refl _)
  have hbg := Mt.bar_ge l b (b - a) a (Nat.le_refl _)
  have os := gen_ok ho f 1 a (Mt.bar l a b) d hd0 (by omega)
  have or := gen_ok ho f 0 (Mt.bar l a b + 1) b d hd0 (by omega)
  cases hk : ((Mt.bar l a b : Int) == (b : Int))
  · have hne : ¬ Mt.bar l a b = b := by simp at hk; omega
    have e : Mt.gen l (f + 1) 0 a b d = Mt.behind (Mt.behind (Mt.behind (Mt.splitC 1 (((Mt.gen l f 1 a (Mt.bar l a b) d).length : Int) + 2) false) (Mt.gen l f 1 a (Mt.bar l a b) d)) (Mt.jumpC (1 + ((Mt.gen l f 0 (Mt.bar l a b + 1) b d).length : Int)))) (Mt.gen l f 0 (Mt.bar l a b + 1) b d) := by
      simp only [Mt.gen]; rw [if_neg hne]
    rw [e]; clear e
    have H1 := fun x : World => h1 a (Mt.bar l a b) a (Mt.bar l a b) d v x rfl rfl
    have H0 := fun x : World => h0 (Mt.bar l a b + 1) b ((Mt.bar l a b : Int) + 1) b d v x (by omega) rfl
    generalize hS : Mt.gen l f 1 a (Mt.bar l a b) d = s at *
    generalize hR : Mt.gen l f 0 (Mt.bar l a b + 1) b d = r at *
    clear hS hR h0 h1
    have ls := os.1
    have lr := or.1
    have g1 : Mt.fit 70000010 (Mt.splitC 1 ((s.length : Int) + 2) false) := fit_split _ _ _ (by omega) (by omega) (by omega)
    have g2 := Mt.fit_behind g1 (Mt.fit_mono os (show (70000000 : Int) ≤ 70000010 by omega))
    have g3 : Mt.fit 70000310 (Mt.jumpC (1 + (r.length : Int))) := Mt.fit_one (fitI_small _ _ _ _ (by omega) (by omega)) (by omega)
    have g4 := Mt.fit_behind g2 (Mt.fit_mono g3 (by omega))
    have F0 : Hid (Mt.fit 900000000 s) := Mt.fit_mono os (by omega)
    have F1 : Hid (Mt.fit 900000000 r) := Mt.fit_mono or (by omega)
    have F2 : Hid (Mt.fit 900000000 (Mt.splitC 1 ((s.length : Int) + 2) false)) := Mt.fit_mono g1 (by omega)
    have F3 : Hid (Mt.fit 900000000 (Mt.behind (Mt.splitC 1 ((s.length : Int) + 2) false) s)) := Mt.fit_mono g2 (by omega)
    have F4 : Hid (Mt.fit 900000000 (Mt.jumpC (1 + (r.length : Int)))) := Mt.fit_mono g3 (by omega)
    have F5 : Hid (Mt.fit 900000000 (Mt.behind (Mt.behind (Mt.splitC 1 ((s.length : Int) + 2) false) s) (Mt.jumpC (1 + (r.length : Int))))) := Mt.fit_mono g4 (by omega)
    have K1 : Hid (∀ x : World, toks x v l → Calls Tryz.prog 101 #[v, .int .i64 a, .int .i64 (Mt.bar l a b), .int .i64 d] x fun e w' => ∃ v', e = .returned v' ∧ ownIns w' 0 v' s ∧ Below x.heap.size x w') := fun x hx => H1 x hx (by omega) (by omega) (by omega) hd0 (by omega)
    have K0 : Hid (∀ x : World, toks x v l → Calls Tryz.prog 71 #[v, .int .i64 ((Mt.bar l a b : Int) + 1), .int .i64 b, .int .i64 d] x fun e w' => ∃ v', e = .returned v' ∧ ownIns w' 0 v' r ∧ Below x.heap.size x w') := fun x hx => H0 x hx (by omega) (by omega) (by omega) hd0 (by omega)
    clear g1 g2 g3 g4 os or H1 H0 hbg hne
    go_enter Tryz.func71, Tryz.ntmps71
    go_wp2_with (first | (go_at_call 52; refine (bar_any l _ _ _ _ HT.out hl (by omega) hb).mono ?_; rintro e w' ⟨rfl, rfl⟩) | fail)
    refine (K1.out _ HT.out).mono ?_
    rintro e w1 ⟨v1, rfl, q1, hb1⟩
    have hs1 := hb1.size
    obtain ⟨ao, cap, rfl⟩ := len_val q1
    have Q1 : Hid (ownIns w1 0 (.slice ao s.length cap) s) := q1
    have HT1 : Hid (toks w1 v l) := toks_below HT.out hb1
    clear q1
    go_wp2_with fail
    refine (K0.out _ HT1.out).mono ?_
    rintro e w2 ⟨v2, rfl, q2, hb2⟩
    have hB2 : Below w.heap.size w w2 := hb1.trans (hb2.mono hs1)
    have hs2 := hB2.size
    obtain ⟨ao2, cap2, rfl⟩ := len_val q2
    have Q2 : Hid (ownIns w2 0 (.slice ao2 r.length cap2) r) := q2
    have Q1' : Hid (ownIns w2 0 (.slice ao s.length cap) s) := Q1.out.below hb2
    clear q2 hb1 hb2 Q1 HT HT1
    go_wp2_with fail
    refine (split_any _ _ _ _).mono ?_
    rintro e w3 ⟨v3, rfl, q3, hb3⟩
    have hB3 : Below w.heap.size w w3 := hB2.trans (hb3.mono hs2)
    have hs3 := hB3.size
    have Q3 : Hid (ownIns w3 0 v3 (Mt.splitC 1 ((s.length : Int) + 2) false)) := q3
    have Q1'' : Hid (ownIns w3 0 (.slice ao s.length cap) s) := Q1'.out.below hb3
    have Q2' : Hid (ownIns w3 0 (.slice ao2 r.length cap2) r) := Q2.out.below hb3
    clear q3 hb3 Q1' Q2 hB2
    go_wp2_with fail
    refine (behind_any _ s _ _ _ Q3.out Q1''.out F2.out F0.out).mono ?_
    rintro e w4 ⟨v4, rfl, q4, hb4⟩
    have hB4 : Below w.heap.size w w4 := hB3.trans (hb4.mono hs3)
    have hs4 := hB4.size
    have Q4 : Hid (ownIns w4 0 v4 (Mt.behind (Mt.splitC 1 ((s.length : Int) + 2) false) s)) := q4
    have Q2'' : Hid (ownIns w4 0 (.slice ao2 r.length cap2) r) := Q2'.out.below hb4
    clear q4 hb4 Q1'' Q2' hB3 Q3
    go_wp2_with fail
    refine (behind_any _ (Mt.jumpC (1 + (r.length : Int))) _ _ _ (Q4.out.below (by go_grown)) (own_lit w4 _ rfl ⟨3, 1 + (r.length : Int), 0, []⟩) F3.out F4.out).mono ?_
    rintro e w5 ⟨v5, rfl, q5, hb5⟩
    have hB45 : Below w4.heap.size w4 w5 := ((Below.refl _ _).alloc (Nat.le_refl _) _).trans (hb5.mono (by simp))
    have hB5 : Below w.heap.size w w5 := hB4.trans (hB45.mono hs4)
    have hs5 := hB5.size
    have Q5 : Hid (ownIns w5 0 v5 (Mt.behind (Mt.behind (Mt.splitC 1 ((s.length : Int) + 2) false) s) (Mt.jumpC (1 + (r.length : Int))))) := q5
    have Q2e : Hid (ownIns w5 0 (.slice ao2 r.length cap2) r) := Q2''.out.below hB45
    clear q5 hb5 hB45 Q2'' Q4 hB4
    go_wp2_with fail
    refine (behind_any _ r _ _ _ Q5.out Q2e.out F5.out F1.out).mono ?_
    rintro e w6 ⟨v6, rfl, q6, hb6⟩
    have hB6 : Below w.heap.size w w6 := hB5.trans (hb6.mono hs5)
    clear hb6 hB5
    go_wp2_with fail
    go_ret
    exact ⟨_, rfl, q6, hB6⟩
  · have he : Mt.bar l a b = b := by simp at hk; omega
    have e : Mt.gen l (f + 1) 0 a b d = Mt.gen l f 1 a (Mt.bar l a b) d := by simp only [Mt.gen]; rw [if_pos he]
    rw [e]; clear e
    have H1 := fun x : World => h1 a (Mt.bar l a b) a (Mt.bar l a b) d v x rfl rfl
    generalize hS : Mt.gen l f 1 a (Mt.bar l a b) d = s at *
    clear hS h0 h1
    have K1 : Hid (∀ x : World, toks x v l → Calls Tryz.prog 101 #[v, .int .i64 a, .int .i64 (Mt.bar l a b), .int .i64 d] x fun e w' => ∃ v', e = .returned v' ∧ ownIns w' 0 v' s ∧ Below x.heap.size x w') := fun x hx => H1 x hx (by omega) (by omega) (by omega) hd0 (by omega)
    clear os or H1 hbg he
    go_enter Tryz.func71, Tryz.ntmps71
    go_wp2_with (first | (go_at_call 52; refine (bar_any l _ _ _ _ HT.out hl (by omega) hb).mono ?_; rintro e w' ⟨rfl, rfl⟩) | fail)
    refine (K1.out _ HT.out).mono ?_
    rintro e w1 ⟨v1, rfl, q1, hb1⟩
    go_wp2_with fail
    go_ret
    exact ⟨_, rfl, q1, hb1⟩
end Go.Proofs.YtebpgfodelggoaaGreat
