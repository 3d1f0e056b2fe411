import Derived.Test.YtebpgfodelggoaaGreatC13
import Derived.Test.YtebpgfodelggoaaGreatC15
set_option linter.unusedVariables false
set_option linter.unusedSimpArgs false
namespace Go.Proofs.YtebpgfodelggoaaGreat
open Go.RowKit

theorem gen_len {l : List Mt.Tok} (hl : Mt.toksOk l) (f tag a b : Nat) (d : Int) (h0 : 0 ≤ d) (h1 : d + f ≤ 1000) : ((Mt.gen l f tag a b d).length : Int) ≤ 10000000 := by
  have := (Mt.gen_fit l hl f tag a b d h0 h1).1
  omega

theorem repC_A {t : Mt.Tok} {x y : List Mt.Ins} {d : Int} (hm : t.m < 0) (hn : 0 < t.n) (hp : (t.how == 2) = false) : repC t x y d = Mt.behind (Mt.timesFrom x t.n.toNat []) (Mt.loopC y d (t.how == 1)) := by
  have hp' : ¬ t.how = 2 := by simpa using hp
  simp only [repC]; rw [if_neg hp', if_pos hm, if_pos (Or.inl hn), if_neg (by omega)]; rfl
theorem repC_AP {t : Mt.Tok} {x y : List Mt.Ins} {d : Int} (hm : t.m < 0) (hn : 0 < t.n) (hp : (t.how == 2) = true) : repC t x y d = Mt.alone 0 (Mt.behind (Mt.timesFrom x t.n.toNat []) (Mt.loopC y d (t.how == 1))) := by
  have hp' : t.how = 2 := by simpa using hp
  simp only [repC]; rw [if_pos hp', if_pos hm, if_pos (Or.inl hn), if_neg (by omega)]; rfl
theorem repC_B {t : Mt.Tok} {x y : List Mt.Ins} {d : Int} (hm : t.m < 0) (hn : t.n ≤ 0) (hp : (t.how == 2) = false) : repC t x y d = Mt.behind [] (Mt.loopC y d (t.how == 1)) := by
  have hp' : ¬ t.how = 2 := by simpa using hp
  simp only [repC]; rw [if_neg hp', if_pos hm, if_neg (by omega)]; rfl
theorem repC_BP {t : Mt.Tok} {x y : List Mt.Ins} {d : Int} (hm : t.m < 0) (hn : t.n ≤ 0) (hp : (t.how == 2) = true) : repC t x y d = Mt.alone 0 (Mt.behind [] (Mt.loopC y d (t.how == 1))) := by
  have hp' : t.how = 2 := by simpa using hp
  simp only [repC]; rw [if_pos hp', if_pos hm, if_neg (by omega)]; rfl
theorem repC_C {t : Mt.Tok} {x y : List Mt.Ins} {d : Int} (hm : ¬ t.m < 0) (hm0 : t.m ≤ 0) (hn : t.n ≤ 0) (hp : (t.how == 2) = false) : repC t x y d = [] := by
  have hp' : ¬ t.how = 2 := by simpa using hp
  simp only [repC]; rw [if_neg hp', if_neg hm, if_neg (by omega)]
theorem repC_CP {t : Mt.Tok} {x y : List Mt.Ins} {d : Int} (hm : ¬ t.m < 0) (hm0 : t.m ≤ 0) (hn : t.n ≤ 0) (hp : (t.how == 2) = true) : repC t x y d = Mt.alone 0 [] := by
  have hp' : t.how = 2 := by simpa using hp
  simp only [repC]; rw [if_pos hp', if_neg hm, if_neg (by omega)]
theorem repC_D {t : Mt.Tok} {x y : List Mt.Ins} {d : Int} (hm : ¬ t.m < 0) (h : 0 < t.n ∨ 0 < t.m) (hmn : t.n < t.m) (hp : (t.how == 2) = false) : repC t x y d = Mt.behind (Mt.timesFrom x t.n.toNat []) (Mt.upTo x (t.m - t.n).toNat (t.how == 1)) := by
  have hp' : ¬ t.how = 2 := by simpa using hp
  simp only [repC]; rw [if_neg hp', if_neg hm, if_pos h, if_pos hmn]; rfl
theorem repC_DP {t : Mt.Tok} {x y : List Mt.Ins} {d : Int} (hm : ¬ t.m < 0) (h : 0 < t.n ∨ 0 < t.m) (hmn : t.n < t.m) (hp : (t.how == 2) = true) : repC t x y d = Mt.alone 0 (Mt.behind (Mt.timesFrom x t.n.toNat []) (Mt.upTo x (t.m - t.n).toNat (t.how == 1))) := by
  have hp' : t.how = 2 := by simpa using hp
  simp only [repC]; rw [if_pos hp', if_neg hm, if_pos h, if_pos hmn]; rfl
theorem repC_F {t : Mt.Tok} {x y : List Mt.Ins} {d : Int} (hm : ¬ t.m < 0) (hn : 0 < t.n) (hmn : ¬ t.n < t.m) (hp : (t.how == 2) = false) : repC t x y d = Mt.timesFrom x t.n.toNat [] := by
  have hp' : ¬ t.how = 2 := by simpa using hp
  simp only [repC]; rw [if_neg hp', if_neg hm, if_pos (Or.inl hn), if_neg hmn]
theorem repC_FP {t : Mt.Tok} {x y : List Mt.Ins} {d : Int} (hm : ¬ t.m < 0) (hn : 0 < t.n) (hmn : ¬ t.n < t.m) (hp : (t.how == 2) = true) : repC t x y d = Mt.alone 0 (Mt.timesFrom x t.n.toNat []) := by
  have hp' : t.how = 2 := by simpa using hp
  simp only [repC]; rw [if_pos hp', if_neg hm, if_pos (Or.inl hn), if_neg hmn]

theorem repeated_step (l : List Mt.Tok) (hl : l.length ≤ 64) (ho : Mt.toksOk l) (f : Nat) (h2 : S2 l f) : S3 l (f + 1) := by
  intro a b ai bi d v w hai hbi ht ha hab hb h8 hf hd0 hd1
  subst hai hbi
  rw [gen_rep]
  have fx := gen_ok ho f 2 a b d hd0 (by omega)
  have fy := gen_ok ho f 2 a b (d + 1) (by omega) (by omega)
  have lx := gen_len ho f 2 a b d hd0 (by omega)
  have ly := gen_len ho f 2 a b (d + 1) (by omega) (by omega)
  have tk := Mt.tokOk_at ho b
  have h8' : (l.getD b Mt.tok0).kind = 8 := h8
  have KX := fun z hz => h2 a b a b d v z rfl rfl hz ha hab (by omega) (by omega) hd0 (by omega)
  have KY := fun z hz => h2 a b a b (d + 1) v z rfl rfl hz ha hab (by omega) (by omega) (by omega) (by omega)
  obtain ⟨g, cap, rfl, hcap, hg, c0, c1, c2, c3, c4, c5, c6⟩ := tok_at ht hb
  generalize Mt.gen l f 2 a b d = x at *
  generalize Mt.gen l f 2 a b (d + 1) = y at *
  generalize l.getD b Mt.tok0 = t at *
  obtain ⟨t1, t2, t3, t4, t5, t6, t7⟩ := tk
  have t2' := t7 h8'
  have dn : ∀ p : Prop, [Decidable p] → ¬ p → decide p = false := fun p _ h => by simpa using h
  have dy : ∀ p : Prop, [Decidable p] → p → decide p = true := fun p _ h => by simpa using h
  cases hp : (t.how == 2)
  · by_cases hm : t.m < 0
    · by_cases hn : 0 < t.n
      · rw [repC_A hm hn hp]
        exact repA l hl a b d t x y g cap w hb hab hcap hg hd0 (by omega) ht KX KY fx fy lx ly c0 c1 c2 c3 c4 c5 c6 t1 t2' t3 t4 t5 t6 hm hn (dy _ hn) hp
      · rw [repC_B hm (by omega) hp]
        exact repB l hl a b d t x y g cap w hb hab hcap hg hd0 (by omega) ht KX KY fx fy lx ly c0 c1 c2 c3 c4 c5 c6 t1 t2' t3 t4 t5 t6 hm (by omega) (dn _ hn) (dn _ (by omega)) hp
    · by_cases hn : 0 < t.n
      · by_cases hmn : t.n < t.m
        · rw [repC_D hm (Or.inl hn) hmn hp]
          exact repD l hl a b d t x y g cap w hb hab hcap hg hd0 (by omega) ht KX KY fx fy lx ly c0 c1 c2 c3 c4 c5 c6 t1 t2' t3 t4 t5 t6 hm hmn (dy _ hn) hp
        · rw [repC_F hm hn hmn hp]
          exact repF l hl a b d t x y g cap w hb hab hcap hg hd0 (by omega) ht KX KY fx fy lx ly c0 c1 c2 c3 c4 c5 c6 t1 t2' t3 t4 t5 t6 hm hmn hn (dy _ hn) hp
      · by_cases hm0 : 0 < t.m
        · rw [repC_D hm (Or.inr hm0) (by omega) hp]
          exact repE l hl a b d t x y g cap w hb hab hcap hg hd0 (by omega) ht KX KY fx fy lx ly c0 c1 c2 c3 c4 c5 c6 t1 t2' t3 t4 t5 t6 hm (by omega) (dn _ hn) (dy _ hm0) hp
        · rw [repC_C hm (by omega) (by omega) hp]
          exact repC0 l hl a b d t x y g cap w hb hab hcap hg hd0 (by omega) ht KX KY fx fy lx ly c0 c1 c2 c3 c4 c5 c6 t1 t2' t3 t4 t5 t6 hm (by omega) (dn _ hn) (dn _ hm0) hp
  · by_cases hm : t.m < 0
    · by_cases hn : 0 < t.n
      · rw [repC_AP hm hn hp]
        exact repAP l hl a b d t x y g cap w hb hab hcap hg hd0 (by omega) ht KX KY fx fy lx ly c0 c1 c2 c3 c4 c5 c6 t1 t2' t3 t4 t5 t6 hm hn (dy _ hn) hp
      · rw [repC_BP hm (by omega) hp]
        exact repBP l hl a b d t x y g cap w hb hab hcap hg hd0 (by omega) ht KX KY fx fy lx ly c0 c1 c2 c3 c4 c5 c6 t1 t2' t3 t4 t5 t6 hm (by omega) (dn _ hn) (dn _ (by omega)) hp
    · by_cases hn : 0 < t.n
      · by_cases hmn : t.n < t.m
        · rw [repC_DP hm (Or.inl hn) hmn hp]
          exact repDP l hl a b d t x y g cap w hb hab hcap hg hd0 (by omega) ht KX KY fx fy lx ly c0 c1 c2 c3 c4 c5 c6 t1 t2' t3 t4 t5 t6 hm hmn (dy _ hn) hp
        · rw [repC_FP hm hn hmn hp]
          exact repFP l hl a b d t x y g cap w hb hab hcap hg hd0 (by omega) ht KX KY fx fy lx ly c0 c1 c2 c3 c4 c5 c6 t1 t2' t3 t4 t5 t6 hm hmn hn (dy _ hn) hp
      · by_cases hm0 : 0 < t.m
        · rw [repC_DP hm (Or.inr hm0) (by omega) hp]
          exact repEP l hl a b d t x y g cap w hb hab hcap hg hd0 (by omega) ht KX KY fx fy lx ly c0 c1 c2 c3 c4 c5 c6 t1 t2' t3 t4 t5 t6 hm (by omega) (dn _ hn) (dy _ hm0) hp
        · rw [repC_CP hm (by omega) (by omega) hp]
          exact repCP0 l hl a b d t x y g cap w hb hab hcap hg hd0 (by omega) ht KX KY fx fy lx ly c0 c1 c2 c3 c4 c5 c6 t1 t2' t3 t4 t5 t6 hm (by omega) (dn _ hn) (dn _ hm0) hp

theorem all_steps (l : List Mt.Tok) (hl : l.length ≤ 64) (ho : Mt.toksOk l) : ∀ f, S0 l f ∧ S1 l f ∧ S2 l f ∧ S3 l f := by
  intro f
  induction f with
  | zero =>
    refine ⟨?_, ?_, ?_, ?_⟩
    · intro a b ai bi d v w h1 h2 h3 h4 h5 h6; omega
    · intro a b ai bi d v w h1 h2 h3 h4 h5 h6; omega
    · intro a b ai bi d v w h1 h2 h3 h4 h5 h6 h7; omega
    · intro a b ai bi d v w h1 h2 h3 h4 h5 h6 h7 h8; omega
  | succ f ih =>
    obtain ⟨i0, i1, i2, i3⟩ := ih
    exact ⟨alternatives_step l hl ho f i0 i1, sequence_step l hl ho f i2 i3, atom_step l hl ho f i0, repeated_step l hl ho f i2⟩

set_option maxHeartbeats 1000000 in
theorem coded_any (l : List Mt.Tok) (v : Value) (w : World) (hl : l.length ≤ 64) (ho : Mt.toksOk l) (h : toks w v l) :
    Calls Tryz.prog 43 #[v] w fun e w' => ∃ v', e = .returned v' ∧ ownIns w' 0 v' (Mt.coded l) ∧ Below w.heap.size w w' := by
  have fc := gen_ok ho 283 0 0 l.length 0 (by omega) (by omega)
  have K := (all_steps l hl ho 283).1 0 l.length 0 l.length 0 v w rfl rfl h (by omega) (Nat.le_refl _) (by omega) (by omega) (by omega)
  unfold Mt.coded
  generalize Mt.gen l 283 0 0 l.length 0 = c at *
  have F1 : Hid (Mt.fit 900000000 c) := Mt.fit_mono fc (by omega)
  have F2 : Hid (Mt.fit 900000000 [(⟨13, 0, 0, []⟩ : Mt.Ins)]) := Mt.fit_one (fitI_small _ _ _ _ (by omega) (by omega)) (by omega)
  have KH := K
  clear fc K
  obtain ⟨ao, cap, hv⟩ : ∃ ao cap, v = .slice ao l.length cap := by
    rcases h.2 with ⟨rfl, hn⟩ | ⟨g, cap, cur, rfl, _⟩
    · exact ⟨none, 0, by rw [hn]⟩
    · exact ⟨_, _, rfl⟩
  subst hv
  have KK : Hid (Calls Tryz.prog 71 #[.slice ao l.length cap, .int .i64 0, .int .i64 l.length, .int .i64 0] w fun e w' => ∃ v', e = .returned v' ∧ ownIns w' 0 v' c ∧ Below w.heap.size w w') := KH
  clear KH h
  go_enter Tryz.func43, Tryz.ntmps43
  go_wp2_with fail
  refine KK.out.mono ?_
  rintro e w1 ⟨v1, rfl, q1, hb1⟩
  have Q1 : Hid (ownIns w1 0 v1 c) := q1
  have hs1 := hb1.size
  clear q1
  go_wp2_with fail
  refine (behind_any c [⟨13, 0, 0, []⟩] _ _ _ (Q1.out.below (by go_grown)) (own_lit w1 _ rfl _) F1.out F2.out).mono ?_
  rintro e w2 ⟨v2, rfl, q2, hb2⟩
  have hB2 : Below w.heap.size w w2 := (hb1.alloc hs1 _).trans (hb2.mono (by simp; omega))
  clear hb2 hb1
  go_wp2_with fail
  go_ret
  exact ⟨_, rfl, q2, hB2⟩
end Go.Proofs.YtebpgfodelggoaaGreat
