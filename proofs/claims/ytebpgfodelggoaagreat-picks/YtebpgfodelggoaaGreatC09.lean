import Derived.Test.YtebpgfodelggoaaGreatC08
set_option linter.unusedVariables false
set_option linter.unusedSimpArgs false
namespace Go.Proofs.YtebpgfodelggoaaGreat
open Go.RowKit

theorem seq_step (A R : Nat → Nat → List Mt.Ins) (l : List Mt.Tok) (b fu k : Nat) (c : List Mt.Ins) (h : k < b) : Mt.seqWith A R l b (fu + 1) k c =
    if Mt.after l k < b ∧ Mt.kindAt l (Mt.after l k) = 8 then Mt.seqWith A R l b fu (Mt.after l k + 1) (Mt.behind c (R k (Mt.after l k))) else Mt.seqWith A R l b fu (Mt.after l k) (Mt.behind c (A k (Mt.after l k))) := by
  simp only [Mt.seqWith]; rw [if_neg (by omega)]
theorem seq_end (A R : Nat → Nat → List Mt.Ins) (l : List Mt.Tok) (b fu k : Nat) (c : List Mt.Ins) (h : b ≤ k) : Mt.seqWith A R l b fu k c = c := by
  cases fu with
  | zero => rfl
  | succ fu => simp only [Mt.seqWith]; rw [if_pos h]

set_option maxRecDepth 100000 in
set_option maxHeartbeats 2000000 in
theorem sequence_step (l : List Mt.Tok) (hl : l.length ≤ 64) (ho : Mt.toksOk l) (f : Nat) (h2 : S2 l f) (h3 : S3 l f) : S1 l (f + 1) := by
  intro a b ai bi d v w hai hbi ht ha hb hf hd0 hd1
  subst hai hbi
  have HT : Hid (toks w v l) := ht
  clear ht
  have oA := fun i j => gen_ok ho f 2 i j d hd0 (by omega)
  have oR := fun i j => gen_ok ho f 3 i j d hd0 (by omega)
  have e : Mt.gen l (f + 1) 1 a b d = Mt.seqWith (fun i j => Mt.gen l f 2 i j d) (fun i j => Mt.gen l f 3 i j d) l b (b - a) a [] := by simp only [Mt.gen]
  rw [e]; clear e
  have H2 := fun (i j : Nat) (x : World) => h2 i j i j d v x rfl rfl
  have H3 := fun (i j : Nat) (x : World) => h3 i j i j d v x rfl rfl
  generalize hA : (fun i j => Mt.gen l f 2 i j d) = A at *
  generalize hR : (fun i j => Mt.gen l f 3 i j d) = R at *
  have eA : ∀ i j, Mt.gen l f 2 i j d = A i j := fun i j => by rw [← hA]
  have eR : ∀ i j, Mt.gen l f 3 i j d = R i j := fun i j => by rw [← hR]
  clear hA hR h2 h3
  have K2 : Hid (∀ (i j : Nat) (x : World), toks x v l → a ≤ i → i < l.length → i < j → j ≤ l.length + 1 → Calls Tryz.prog 126 #[v, .int .i64 i, .int .i64 j, .int .i64 d] x fun e w' => ∃ v', e = .returned v' ∧ ownIns w' 0 v' (A i j) ∧ Below x.heap.size x w') := fun i j x hx q1 q2 q3 q4 => by
    have := H2 i j x hx q2 q3 q4 (by omega) hd0 (by omega)
    rw [eA] at this; exact this
  have K3 : Hid (∀ (i j : Nat) (x : World), toks x v l → a ≤ i → i < l.length → i < j → j < l.length → Mt.kindAt l j = 8 → Calls Tryz.prog 125 #[v, .int .i64 i, .int .i64 j, .int .i64 d] x fun e w' => ∃ v', e = .returned v' ∧ ownIns w' 0 v' (R i j) ∧ Below x.heap.size x w') := fun i j x hx q1 q2 q3 q4 q5 => by
    have := H3 i j x hx q2 q3 q4 q5 (by omega) hd0 (by omega)
    rw [eR] at this; exact this
  have FA : Hid (∀ i j, Mt.fit 70000000 (A i j)) := fun i j => by rw [← eA]; exact oA i j
  have FR : Hid (∀ i j, Mt.fit 70000000 (R i j)) := fun i j => by rw [← eR]; exact oR i j
  clear oA oR H2 H3 eA eR
  go_enter Tryz.func101, Tryz.ntmps101
  go_wp2_with fail
  go_loopw [9, 10] (fun u i wr => ∃ (k fu : Nat) (c : List Mt.Ins), a ≤ k ∧ k ≤ 67 ∧ b - k ≤ fu ∧ i = .int .i64 k ∧ ownIns wr 0 u c ∧ Mt.fit 70000300 c ∧ Below w.heap.size w wr ∧ Mt.seqWith A R l b (b - a) a [] = Mt.seqWith A R l b fu k c) (fun _ i _ => 100 - (intOf i).toNat)
  case atStart => exact ⟨a, b - a, [], Nat.le_refl _, by omega, Nat.le_refl _, rfl, ownIns.nil _ _, Mt.fit_nil (by omega), Below.refl _ _, rfl⟩
  case round =>
    obtain ⟨k, fu, c, hak, hk, hfu, rfl, hown, hfc, hbel, hr⟩ := hrel
    have HO : Hid (ownIns wr 0 u9 c) := hown
    have FC : Hid (Mt.fit 70000300 c) := hfc
    have HTr : Hid (toks wr v l) := toks_below HT.out hbel
    have hs0 := hbel.size
    clear hown hfc
    by_cases hlt : k < b
    · obtain ⟨fu', rfl⟩ : ∃ fu', fu = fu' + 1 := ⟨fu - 1, by omega⟩
      rw [seq_step A R l b fu' k c hlt] at hr
      have hag := Mt.after_gt l k
      have hal := Mt.after_le l k (by omega)
      by_cases hrep : Mt.after l k < b ∧ Mt.kindAt l (Mt.after l k) = 8
      · rw [if_pos hrep] at hr
        have HR : Hid (Mt.seqWith A R l b (b - a) a [] = Mt.seqWith A R l b fu' (Mt.after l k + 1) (Mt.behind c (R k (Mt.after l k)))) := hr
        have hj := hrep.1
        have h8 : Hid (Mt.kindAt l (Mt.after l k) = 8) := hrep.2
        have G1 : Hid (Mt.fit 70000300 (Mt.behind c (R k (Mt.after l k)))) := fit_behind_same (M := 70000000) FC.out (FR.out _ _)
        have hcell : Hid (∀ g cap, v = .slice (some ⟨g, 0, none⟩) l.length cap → True) := fun _ _ _ => trivial
        rcases toks_cases HTr.out with ⟨hn, _⟩ | ⟨hp, g, cap, rfl, hcap, hg, hc⟩
        · rw [hn] at hb; simp at hb; omega
        · have hc0 : wr.cell? ⟨g, Mt.after l k * 7, none⟩ = some (.int .i64 8) := by
            have := hc (Mt.after l k) 0 (by omega) (by omega)
            rw [Nat.add_zero] at this
            rw [this]
            have e8 : (l.getD (Mt.after l k) Mt.tok0).kind = 8 := h8.out
            show some (Value.int .i64 (l.getD (Mt.after l k) Mt.tok0).kind) = _
            rw [e8]
          clear hc hr hrep hcell
          go_wp2_with (first | (go_at_call 86; refine (after_any l _ _ _ HTr.out hl (by omega)).mono ?_; rintro e w' ⟨rfl, rfl⟩) | fail)
          refine (K3.out k (Mt.after l k) _ HTr.out hak (by omega) hag (by omega) h8.out).mono ?_
          rintro e w1 ⟨v1, rfl, q1, hb1⟩
          have hB1 : Below w.heap.size w w1 := hbel.trans (hb1.mono hs0)
          have hs1 := hB1.size
          have Q1 : Hid (ownIns w1 0 v1 (R k (Mt.after l k))) := q1
          have HO1 : Hid (ownIns w1 0 u9 c) := HO.out.below hb1
          clear q1 hb1 HO hbel hc0
          go_wp2_with fail
          refine (behind_any c _ _ _ _ HO1.out Q1.out (Mt.fit_mono FC.out (by omega)) (Mt.fit_mono (FR.out _ _) (by omega))).mono ?_
          rintro e w2 ⟨v2, rfl, q2, hb2⟩
          have hB2 : Below w.heap.size w w2 := hB1.trans (hb2.mono hs1)
          have Q2 : Hid (ownIns w2 0 v2 (Mt.behind c (R k (Mt.after l k)))) := q2
          clear q2 hb2 HO1 hB1
          go_wp2_with fail
          go_roundw
          case rel => exact ⟨Mt.after l k + 1, fu', _, by omega, by omega, by omega, by go_num, Q2.out, G1.out, hB2, HR.out⟩
          case measure => simp [intOf]; omega
      · rw [if_neg hrep] at hr
        have HR : Hid (Mt.seqWith A R l b (b - a) a [] = Mt.seqWith A R l b fu' (Mt.after l k) (Mt.behind c (A k (Mt.after l k)))) := hr
        have G1 : Hid (Mt.fit 70000300 (Mt.behind c (A k (Mt.after l k)))) := fit_behind_same (M := 70000000) FC.out (FA.out _ _)
        by_cases hj : Mt.after l k < b
        · have h8 : ¬ Mt.kindAt l (Mt.after l k) = 8 := fun x => hrep ⟨hj, x⟩
          rcases toks_cases HTr.out with ⟨hn, _⟩ | ⟨hp, g, cap, rfl, hcap, hg, hc⟩
          · rw [hn] at hb; simp at hb; omega
          have hc0 : wr.cell? ⟨g, Mt.after l k * 7, none⟩ = some (.int .i64 (Mt.kindAt l (Mt.after l k))) := hc (Mt.after l k) 0 (by omega) (by omega)
          have h8' : (Mt.kindAt l (Mt.after l k) == 8) = false := by simpa using h8
          clear hc hr hrep h8
          go_wp2_with (first | (go_at_call 86; refine (after_any l _ _ _ HTr.out hl (by omega)).mono ?_; rintro e w' ⟨rfl, rfl⟩) | fail)
          refine (K2.out k (Mt.after l k) _ HTr.out hak (by omega) hag (by omega)).mono ?_
          rintro e w1 ⟨v1, rfl, q1, hb1⟩
          have hB1 : Below w.heap.size w w1 := hbel.trans (hb1.mono hs0)
          have hs1 := hB1.size
          have Q1 : Hid (ownIns w1 0 v1 (A k (Mt.after l k))) := q1
          have HO1 : Hid (ownIns w1 0 u9 c) := HO.out.below hb1
          clear q1 hb1 HO hbel
          go_wp2_with fail
          refine (behind_any c _ _ _ _ HO1.out Q1.out (Mt.fit_mono FC.out (by omega)) (Mt.fit_mono (FA.out _ _) (by omega))).mono ?_
          rintro e w2 ⟨v2, rfl, q2, hb2⟩
          have hB2 : Below w.heap.size w w2 := hB1.trans (hb2.mono hs1)
          have Q2 : Hid (ownIns w2 0 v2 (Mt.behind c (A k (Mt.after l k)))) := q2
          clear q2 hb2 HO1 hB1
          go_wp2_with fail
          go_roundw
          case rel => exact ⟨Mt.after l k, fu', _, by omega, by omega, by omega, by go_num, Q2.out, G1.out, hB2, HR.out⟩
          case measure => simp [intOf]; omega
        · clear hr hrep
          go_wp2_with (first | (go_at_call 86; refine (after_any l _ _ _ HTr.out hl (by omega)).mono ?_; rintro e w' ⟨rfl, rfl⟩) | fail)
          refine (K2.out k (Mt.after l k) _ HTr.out hak (by omega) hag (by omega)).mono ?_
          rintro e w1 ⟨v1, rfl, q1, hb1⟩
          have hB1 : Below w.heap.size w w1 := hbel.trans (hb1.mono hs0)
          have hs1 := hB1.size
          have Q1 : Hid (ownIns w1 0 v1 (A k (Mt.after l k))) := q1
          have HO1 : Hid (ownIns w1 0 u9 c) := HO.out.below hb1
          clear q1 hb1 HO hbel
          go_wp2_with fail
          refine (behind_any c _ _ _ _ HO1.out Q1.out (Mt.fit_mono FC.out (by omega)) (Mt.fit_mono (FA.out _ _) (by omega))).mono ?_
          rintro e w2 ⟨v2, rfl, q2, hb2⟩
          have hB2 : Below w.heap.size w w2 := hB1.trans (hb2.mono hs1)
          have Q2 : Hid (ownIns w2 0 v2 (Mt.behind c (A k (Mt.after l k)))) := q2
          clear q2 hb2 HO1 hB1
          go_wp2_with fail
          go_roundw
          case rel => exact ⟨Mt.after l k, fu', _, by omega, by omega, by omega, by go_num, Q2.out, G1.out, hB2, HR.out⟩
          case measure => simp [intOf]; omega
    · have HR : Hid (Mt.seqWith A R l b (b - a) a [] = c) := hr.trans (seq_end A R l b fu k c (by omega))
      clear hr
      go_wp2_with fail
      go_ret
      exact ⟨_, rfl, by rw [HR.out]; exact HO.out, hbel⟩
end Go.Proofs.YtebpgfodelggoaaGreat
set_option linter.unusedVariables false
set_option linter.unusedSimpArgs false
namespace Go.Proofs.YtebpgfodelggoaaGreat
open Go.RowKit

/-- The cells of a token that is copied out of the list. -/
theorem tok_at {w : World} {v : Value} {l : List Mt.Tok} (h : toks w v l) {i : Nat} (hi : i < l.length) : ∃ g cap, v = .slice (some ⟨g, 0, none⟩) l.length cap ∧ l.length ≤ cap ∧ g < w.heap.size ∧
    w.cell? ⟨g, i * 7, none⟩ = some (.int .i64 (l.getD i Mt.tok0).kind) ∧ w.cell? ⟨g, i * 7 + 1, none⟩ = some (.int .i64 (l.getD i Mt.tok0).frm) ∧ w.cell? ⟨g, i * 7 + 2, none⟩ = some (.int .i64 (l.getD i Mt.tok0).to) ∧
    w.cell? ⟨g, i * 7 + 3, none⟩ = some (.int .i64 (l.getD i Mt.tok0).n) ∧ w.cell? ⟨g, i * 7 + 4, none⟩ = some (.int .i64 (l.getD i Mt.tok0).m) ∧ w.cell? ⟨g, i * 7 + 5, none⟩ = some (.int .i64 (l.getD i Mt.tok0).how) ∧
    w.cell? ⟨g, i * 7 + 6, none⟩ = some (.string ⟨(l.getD i Mt.tok0).set.toArray⟩) := by
  rcases toks_cases h with ⟨rfl, _⟩ | ⟨hp, g, cap, rfl, hcap, hg, hc⟩
  · simp at hi
  · exact ⟨g, cap, rfl, hcap, hg, hc i 0 hi (by omega), hc i 1 hi (by omega), hc i 2 hi (by omega), hc i 3 hi (by omega), hc i 4 hi (by omega), hc i 5 hi (by omega), hc i 6 hi (by omega)⟩

def atomC (t : Mt.Tok) (s : List Mt.Ins) : List Mt.Ins :=
  if t.kind = 1 then [⟨1, 0, 0, t.set⟩]
  else if t.kind = 2 then [⟨8, t.n, 0, []⟩]
  else if t.kind = 3 then [⟨9, 0, 0, []⟩]
  else if t.kind = 4 then [⟨10, 0, 0, []⟩]
  else if t.how = 3 then s
  else if t.how = 4 then Mt.behind (Mt.behind [⟨6, t.n, 0, []⟩] s) [⟨7, t.n, 0, []⟩]
  else Mt.alone t.how s
theorem gen_atom (l : List Mt.Tok) (f a b : Nat) (d : Int) : Mt.gen l (f + 1) 2 a b d = atomC (l.getD a Mt.tok0) (Mt.gen l f 0 (a + 1) (b - 1) d) := by
  simp only [Mt.gen]; rfl

theorem atom_cases (l : List Mt.Tok) (f a b : Nat) (d : Int) :
    (((l.getD a Mt.tok0).kind == 1) = true ∧ Mt.gen l (f + 1) 2 a b d = [⟨1, 0, 0, (l.getD a Mt.tok0).set⟩]) ∨
    (((l.getD a Mt.tok0).kind == 1) = false ∧ ((l.getD a Mt.tok0).kind == 2) = true ∧ Mt.gen l (f + 1) 2 a b d = [⟨8, (l.getD a Mt.tok0).n, 0, []⟩]) ∨
    (((l.getD a Mt.tok0).kind == 1) = false ∧ ((l.getD a Mt.tok0).kind == 2) = false ∧ ((l.getD a Mt.tok0).kind == 3) = true ∧ Mt.gen l (f + 1) 2 a b d = [⟨9, 0, 0, []⟩]) ∨
    (((l.getD a Mt.tok0).kind == 1) = false ∧ ((l.getD a Mt.tok0).kind == 2) = false ∧ ((l.getD a Mt.tok0).kind == 3) = false ∧ ((l.getD a Mt.tok0).kind == 4) = true ∧ Mt.gen l (f + 1) 2 a b d = [⟨10, 0, 0, []⟩]) ∨
    (((l.getD a Mt.tok0).kind == 1) = false ∧ ((l.getD a Mt.tok0).kind == 2) = false ∧ ((l.getD a Mt.tok0).kind == 3) = false ∧ ((l.getD a Mt.tok0).kind == 4) = false ∧
      ((((l.getD a Mt.tok0).how == 3) = true ∧ Mt.gen l (f + 1) 2 a b d = Mt.gen l f 0 (a + 1) (b - 1) d) ∨
       (((l.getD a Mt.tok0).how == 3) = false ∧ ((l.getD a Mt.tok0).how == 4) = true ∧ Mt.gen l (f + 1) 2 a b d = Mt.behind (Mt.behind [⟨6, (l.getD a Mt.tok0).n, 0, []⟩] (Mt.gen l f 0 (a + 1) (b - 1) d)) [⟨7, (l.getD a Mt.tok0).n, 0, []⟩]) ∨
       (((l.getD a Mt.tok0).how == 3) = false ∧ ((l.getD a Mt.tok0).how == 4) = false ∧ Mt.gen l (f + 1) 2 a b d = Mt.alone (l.getD a Mt.tok0).how (Mt.gen l f 0 (a + 1) (b - 1) d)))) := by
  rw [gen_atom]
  generalize l.getD a Mt.tok0 = t
  generalize Mt.gen l f 0 (a + 1) (b - 1) d = s
  unfold atomC
  simp only [beq_iff_eq, beq_eq_false_iff_ne]
  by_cases h1 : t.kind = 1
  · rw [if_pos h1]; simp [h1]
  rw [if_neg h1]
  by_cases h2 : t.kind = 2
  · rw [if_pos h2]; simp [h2]
  rw [if_neg h2]
  by_cases h3 : t.kind = 3
  · rw [if_pos h3]; simp [h3]
  rw [if_neg h3]
  by_cases h4 : t.kind = 4
  · rw [if_pos h4]; simp [h4]
  rw [if_neg h4]
  by_cases h5 : t.how = 3
  · rw [if_pos h5]; simp [h1, h2, h3, h4, h5]
  rw [if_neg h5]
  by_cases h6 : t.how = 4
  · rw [if_pos h6]; simp [h1, h2, h3, h4, h6]
  rw [if_neg h6]; simp [h1, h2, h3, h4, h5, h6]

set_option maxRecDepth 100000 in
set_option maxHeartbeats 2000000 in
theorem atom_step (l : List Mt.Tok) (hl : l.length ≤ 64) (ho : Mt.toksOk l) (f : Nat) (h0 : S0 l f) : S2 l (f + 1) := by
  intro a b ai bi d v w hai hbi ht ha hab hb hf hd0 hd1
  subst hai hbi
  have HT : Hid (toks w v l) := ht
  have os := gen_ok ho f 0 (a + 1) (b - 1) d hd0 (by omega)
  have tk := Mt.tokOk_at ho a
  have H0 := fun x : World => h0 (a + 1) (b - 1) ((a : Int) + 1) ((b : Int) - 1) d v x (by omega) (by omega)
  have hcs := atom_cases l f a b d
  obtain ⟨g, cap, rfl, hcap, hg, c0, c1, c2, c3, c4, c5, c6⟩ := tok_at ht ha
  generalize hS : Mt.gen l f 0 (a + 1) (b - 1) d = s at *
  generalize hT : l.getD a Mt.tok0 = t at *
  generalize Mt.gen l (f + 1) 2 a b d = G at *
  obtain ⟨t1, t2, t3, t4, t5, t6, t7⟩ := tk
  have ls := os.1
  have K0 : Hid (∀ x : World, toks x (.slice (some ⟨g, 0, none⟩) l.length cap) l → Calls Tryz.prog 71 #[.slice (some ⟨g, 0, none⟩) l.length cap, .int .i64 ((a : Int) + 1), .int .i64 ((b : Int) - 1), .int .i64 d] x fun e w' => ∃ v', e = .returned v' ∧ ownIns w' 0 v' s ∧ Below x.heap.size x w') := fun x hx => H0 x hx (by omega) (by omega) (by omega) hd0 (by omega)
  have FS : Hid (Mt.fit 70000000 s) := os
  clear hS hT H0 h0 ht os t7
  rcases hcs with ⟨a1, e⟩ | ⟨a1, a2, e⟩ | ⟨a1, a2, a3, e⟩ | ⟨a1, a2, a3, a4, e⟩ | ⟨a1, a2, a3, a4, ⟨a5, e⟩ | ⟨a5, a6, e⟩ | ⟨a5, a6, e⟩⟩
  · rw [e]; clear e
    go_enter Tryz.func126, Tryz.ntmps126
    go_wp2_with fail
    go_ret
    exact ⟨_, rfl, own_lit _ _ (by simp) ⟨1, 0, 0, t.set⟩, by go_grown⟩
  · rw [e]; clear e
    go_enter Tryz.func126, Tryz.ntmps126
    go_wp2_with fail
    go_ret
    exact ⟨_, rfl, own_lit _ _ (by simp) ⟨8, t.n, 0, []⟩, by go_grown⟩
  · rw [e]; clear e
    go_enter Tryz.func126, Tryz.ntmps126
    go_wp2_with fail
    go_ret
    exact ⟨_, rfl, own_lit _ _ (by simp) ⟨9, 0, 0, []⟩, by go_grown⟩
  · rw [e]; clear e
    go_enter Tryz.func126, Tryz.ntmps126
    go_wp2_with fail
    go_ret
    exact ⟨_, rfl, own_lit _ _ (by simp) ⟨10, 0, 0, []⟩, by go_grown⟩
  · rw [e]; clear e
    go_enter Tryz.func126, Tryz.ntmps126
    go_wp2_with fail
    refine (K0.out _ (HT.out.alloc _)).mono ?_
    rintro e w1 ⟨v1, rfl, q1, hb1⟩
    obtain ⟨r0, r1, r2, r3⟩ := one_new hb1
    clear hb1 c0 c1 c2 c3 c4 c5 c6
    go_wp2_with fail
    go_ret
    exact ⟨_, rfl, q1, r3⟩
  · rw [e]; clear e
    have g1 : Mt.fit 70000010 [(⟨6, t.n, 0, []⟩ : Mt.Ins)] := Mt.fit_one (fitI_small _ _ _ _ (by omega) (by omega)) (by omega)
    have g2 := Mt.fit_behind g1 (Mt.fit_mono FS.out (show (70000000 : Int) ≤ 70000010 by omega))
    have F1 : Hid (Mt.fit 900000000 [(⟨6, t.n, 0, []⟩ : Mt.Ins)]) := Mt.fit_mono g1 (by omega)
    have F2 : Hid (Mt.fit 900000000 (Mt.behind [(⟨6, t.n, 0, []⟩ : Mt.Ins)] s)) := Mt.fit_mono g2 (by omega)
    have F3 : Hid (Mt.fit 900000000 [(⟨7, t.n, 0, []⟩ : Mt.Ins)]) := Mt.fit_one (fitI_small _ _ _ _ (by omega) (by omega)) (by omega)
    clear g1 g2
    go_enter Tryz.func126, Tryz.ntmps126
    go_wp2_with fail
    refine (K0.out _ (HT.out.alloc _)).mono ?_
    rintro e w1 ⟨v1, rfl, q1, hb1⟩
    obtain ⟨r0, r1, r2, r3⟩ := one_new hb1
    have hs1 := r3.size
    have Q1 : Hid (ownIns w1 0 v1 s) := q1
    clear hb1 c0 c1 c2 c3 c4 c5 c6 q1
    go_wp2_with fail
    refine (behind_any [⟨6, t.n, 0, []⟩] s _ _ _ (own_lit w1 _ rfl _) (Q1.out.below (by go_grown)) F1.out (Mt.fit_mono FS.out (by omega))).mono ?_
    rintro e w2 ⟨v2, rfl, q2, hb2⟩
    have hB12 : Below w1.heap.size w1 w2 := ((Below.refl _ _).alloc (Nat.le_refl _) _).trans (hb2.mono (by simp))
    have hB2 : Below w.heap.size w w2 := r3.trans (hB12.mono hs1)
    have hs2 := hB2.size
    have Q2 : Hid (ownIns w2 0 v2 (Mt.behind [(⟨6, t.n, 0, []⟩ : Mt.Ins)] s)) := q2
    have s0 := fun o => (hB12.cell (p := ⟨w.heap.size, o, none⟩) r2).trans (r0 o)
    clear q2 hb2 hB12 Q1 r3 r0 r1
    go_wp2_with fail
    refine (behind_any _ [⟨7, t.n, 0, []⟩] _ _ _ (Q2.out.below (by go_grown)) (own_lit w2 _ rfl _) F2.out F3.out).mono ?_
    rintro e w3 ⟨v3, rfl, q3, hb3⟩
    have hB3 : Below w.heap.size w w3 := (hB2.alloc hs2 _).trans (hb3.mono (by simp; omega))
    clear hb3 s0 hB2
    go_wp2_with fail
    go_ret
    exact ⟨_, rfl, q3, hB3⟩
  · rw [e]; clear e
    go_enter Tryz.func126, Tryz.ntmps126
    go_wp2_with fail
    refine (K0.out _ (HT.out.alloc _)).mono ?_
    rintro e w1 ⟨v1, rfl, q1, hb1⟩
    obtain ⟨r0, r1, r2, r3⟩ := one_new hb1
    have hs1 := r3.size
    have Q1 : Hid (ownIns w1 0 v1 s) := q1
    clear hb1 c0 c1 c2 c3 c4 c5 c6 q1
    go_wp2_with fail
    refine (alone_any t.how s _ _ Q1.out (Mt.fit_mono FS.out (by omega)) (by omega) (by omega)).mono ?_
    rintro e w2 ⟨v2, rfl, q2, hb2⟩
    have hB2 : Below w.heap.size w w2 := r3.trans (hb2.mono hs1)
    clear hb2 r0 r1 r3
    go_wp2_with fail
    go_ret
    exact ⟨_, rfl, q2, hB2⟩
end Go.Proofs.YtebpgfodelggoaaGreat
