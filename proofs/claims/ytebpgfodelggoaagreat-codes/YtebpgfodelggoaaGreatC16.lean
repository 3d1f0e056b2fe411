import Derived.Test.YtebpgfodelggoaaGreatC15
set_option linter.unusedVariables false
set_option linter.unusedSimpArgs false
namespace Go.Proofs.YtebpgfodelggoaaGreat
open Go.RowKit

theorem isOver_cases (p : Int) (i : Mt.Ins) : ((i.op == 11) = false ∧ Mt.isOver p i = false) ∨ ((i.op == 11) = true ∧ decide (p < i.y) = false ∧ Mt.isOver p i = false) ∨ ((i.op == 11) = true ∧ decide (p < i.y) = true ∧ Mt.isOver p i = true) := by
  unfold Mt.isOver
  simp only [beq_iff_eq, beq_eq_false_iff_ne, decide_eq_true_eq, decide_eq_false_iff_not]
  omega

set_option maxHeartbeats 1000000 in
theorem inSub_any (c : List Mt.Ins) (p : Nat) (base : Nat) (v : Value) (w : World) (h : ownIns w base v c) (hp : p < c.length) (hl : c.length ≤ 300) :
    Calls Tryz.prog 73 #[v, .int .i64 p] w fun e w' => e = .returned (.bool (Mt.inSub c p)) ∧ w = w' := by
  rcases ins_cases h with ⟨rfl, ao, cap, rfl⟩ | ⟨hpos, g, cap, rfl, hcap, hg, hgb, hc⟩
  · simp at hp
  · have HC : Hid (∀ k j, k < c.length → j < 4 → w.cell? ⟨g, k * 4 + j, none⟩ = (insCells (c.getD k Mt.ins0))[j]?) := hc
    clear hc h
    go_enter Tryz.func73, Tryz.ntmps73
    go_wp2_with fail
    go_loop [5] (fun i => ∃ k : Nat, k ≤ p ∧ i = .int .i64 k ∧ (c.take k).any (Mt.isOver p) = false) (fun i => p - (intOf i).toNat)
    case atStart => exact ⟨0, Nat.zero_le _, rfl, rfl⟩
    case round =>
      obtain ⟨k, hk, rfl, hr⟩ := hrel
      have HR : Hid ((c.take k).any (Mt.isOver p) = false) := hr
      clear hr
      by_cases hlt : k < p
      · have hc0 : w.cell? ⟨g, k * 4, none⟩ = some (.int .i64 (c.getD k Mt.ins0).op) := HC.out k 0 (by omega) (by omega)
        have hc2 : w.cell? ⟨g, k * 4 + 2, none⟩ = some (.int .i64 (c.getD k Mt.ins0).y) := HC.out k 2 (by omega) (by omega)
        have HN : Hid ((c.take (k + 1)).any (Mt.isOver p) = ((c.take k).any (Mt.isOver p) || Mt.isOver p (c.getD k Mt.ins0))) := Mt.any_take c _ k (by omega)
        have HY : Hid (Mt.isOver p (c.getD k Mt.ins0) = true → Mt.inSub c p = true) := fun x => Mt.any_of_take c _ k p hlt (by omega) x
        generalize c.getD k Mt.ins0 = I at *
        rcases isOver_cases p I with ⟨e1, e⟩ | ⟨e1, e2, e⟩ | ⟨e1, e2, e⟩
        · have HE : Hid ((c.take (k + 1)).any (Mt.isOver p) = false) := by show _ = _; rw [HN.out, HR.out, e]; rfl
          clear e HN HR HY
          go_wp2_with fail
          go_round
          case rel => exact ⟨k + 1, by omega, by go_num, HE.out⟩
          case measure => simp [intOf]; omega
        · have HE : Hid ((c.take (k + 1)).any (Mt.isOver p) = false) := by show _ = _; rw [HN.out, HR.out, e]; rfl
          clear e HN HR HY
          go_wp2_with fail
          go_round
          case rel => exact ⟨k + 1, by omega, by go_num, HE.out⟩
          case measure => simp [intOf]; omega
        · have HE : Hid (Mt.inSub c p = true) := HY.out e
          clear e HN HR HY
          go_wp2_with fail
          go_ret
          exact ⟨ret_bool (by rw [HE.out]), rfl⟩
      · have hk2 : k = p := by omega
        subst hk2
        go_wp2_with fail
        go_ret
        exact ⟨ret_bool (by unfold Mt.inSub; rw [HR.out]), rfl⟩

theorem leadsI_cases (x : Mt.Ins) (q p : Int) :
    ((x.op == 2) = true ∧ (x.x == p) = true ∧ Mt.leadsI x q p = true) ∨
    ((x.op == 2) = true ∧ (x.x == p) = false ∧ Mt.leadsI x q p = (x.y == p)) ∨
    ((x.op == 2) = false ∧ (x.op == 3) = true ∧ Mt.leadsI x q p = (x.x == p)) ∨
    ((x.op == 2) = false ∧ (x.op == 3) = false ∧ (x.op == 5) = true ∧ Mt.leadsI x q p = (x.x == p)) ∨
    ((x.op == 2) = false ∧ (x.op == 3) = false ∧ (x.op == 5) = false ∧ (x.op == 11) = true ∧ Mt.leadsI x q p = (x.y == p)) ∨
    ((x.op == 2) = false ∧ (x.op == 3) = false ∧ (x.op == 5) = false ∧ (x.op == 11) = false ∧ (x.op == 12) = true ∧ Mt.leadsI x q p = false) ∨
    ((x.op == 2) = false ∧ (x.op == 3) = false ∧ (x.op == 5) = false ∧ (x.op == 11) = false ∧ (x.op == 12) = false ∧ (x.op == 13) = true ∧ Mt.leadsI x q p = false) ∨
    ((x.op == 2) = false ∧ (x.op == 3) = false ∧ (x.op == 5) = false ∧ (x.op == 11) = false ∧ (x.op == 12) = false ∧ (x.op == 13) = false ∧ Mt.leadsI x q p = (q + 1 == p)) := by
  unfold Mt.leadsI
  by_cases h1 : x.op = 2
  · cases h : (x.x == p) <;> simp [h1, h]
  by_cases h2 : x.op = 3
  · simp [h2]
  by_cases h3 : x.op = 5
  · simp [h3]
  by_cases h4 : x.op = 11
  · simp [h4]
  by_cases h5 : x.op = 12
  · simp [h5]
  by_cases h6 : x.op = 13
  · simp [h6]
  simp [h1, h2, h3, h4, h5, h6]

set_option maxHeartbeats 1000000 in
theorem leads_any (c : List Mt.Ins) (q : Nat) (p : Int) (base : Nat) (v : Value) (w : World) (h : ownIns w base v c) (hq : q < c.length) (hl : c.length ≤ 300) :
    Calls Tryz.prog 104 #[v, .int .i64 q, .int .i64 p] w fun e w' => e = .returned (.bool (Mt.leads c q p)) ∧ Below w.heap.size w w' := by
  rcases ins_cases h with ⟨rfl, ao, cap, rfl⟩ | ⟨hpos, g, cap, rfl, hcap, hg, hgb, hc⟩
  · simp at hq
  · have hc0 : w.cell? ⟨g, q * 4, none⟩ = some (.int .i64 (c.getD q Mt.ins0).op) := hc q 0 hq (by omega)
    have hc1 : w.cell? ⟨g, q * 4 + 1, none⟩ = some (.int .i64 (c.getD q Mt.ins0).x) := hc q 1 hq (by omega)
    have hc2 : w.cell? ⟨g, q * 4 + 2, none⟩ = some (.int .i64 (c.getD q Mt.ins0).y) := hc q 2 hq (by omega)
    have hc3 : w.cell? ⟨g, q * 4 + 3, none⟩ = some (.string ⟨(c.getD q Mt.ins0).set.toArray⟩) := hc q 3 hq (by omega)
    clear hc h
    have e : Mt.leads c q p = Mt.leadsI (c.getD q Mt.ins0) q p := rfl
    rw [e]; clear e
    generalize c.getD q Mt.ins0 = I at *
    rcases leadsI_cases I q p with ⟨a1, a2, e⟩ | ⟨a1, a2, e⟩ | ⟨a1, a2, e⟩ | ⟨a1, a2, a3, e⟩ | ⟨a1, a2, a3, a4, e⟩ | ⟨a1, a2, a3, a4, a5, e⟩ | ⟨a1, a2, a3, a4, a5, a6, e⟩ | ⟨a1, a2, a3, a4, a5, a6, e⟩
    all_goals
      rw [e]; clear e
      go_enter Tryz.func104, Tryz.ntmps104
      go_wp2_with fail
      go_ret
      exact ⟨rfl, by go_grown⟩

theorem isHead_cases (p : Int) (i : Mt.Ins) : ((i.op == 5) = false ∧ Mt.isHead p i = false) ∨ ((i.op == 5) = true ∧ (i.x == p) = false ∧ Mt.isHead p i = false) ∨ ((i.op == 5) = true ∧ (i.x == p) = true ∧ Mt.isHead p i = true) := by
  unfold Mt.isHead
  simp only [beq_iff_eq, beq_eq_false_iff_ne, decide_eq_true_eq, decide_eq_false_iff_not]
  omega

set_option maxHeartbeats 2000000 in
theorem picked_any (c : List Mt.Ins) (p : Nat) (policy mask : Int) (base : Nat) (v : Value) (w : World) (h : ownIns w base v c) (hp : p < c.length) (hl : c.length ≤ 300) (hm0 : 0 ≤ mask) (hm1 : mask ≤ 4294967295) :
    Calls Tryz.prog 74 #[v, .int .i64 p, .int .i64 policy, .int .i64 mask] w fun e w' => e = .returned (.bool (Mt.picked c p policy mask)) ∧ Below w.heap.size w w' := by
  have HI : Hid (ownIns w base v c) := h
  rcases ins_cases h with ⟨rfl, ao, cap, rfl⟩ | ⟨hpos, g, cap, rfl, hcap, hg, hgb, hc⟩
  · simp at hp
  · have HC : Hid (∀ k j, k < c.length → j < 4 → w.cell? ⟨g, k * 4 + j, none⟩ = (insCells (c.getD k Mt.ins0))[j]?) := hc
    clear hc h
    cases hpol : (policy == 2)
    · have hp2 : ¬ policy = 2 := by simpa using hpol
      have HP : Hid (Mt.picked c p policy mask = if policy = 1 then true else if policy = 3 then decide (1 < Mt.leadsTo c p c.length) else if policy = 4 then Mt.bitOf mask (p % 32) else false) := by
        show _ = _
        unfold Mt.picked; rw [if_neg (fun x => hp2 x.1)]
      clear hp2
      go_enter Tryz.func74, Tryz.ntmps74
      go_wp2_with fail
      go_loopw [9, 10] (fun n i wr => ∃ k : Nat, k ≤ c.length ∧ i = .int .i64 k ∧ n = .int .i64 (Mt.leadsTo c p k) ∧ Below w.heap.size w wr) (fun _ i _ => c.length - (intOf i).toNat)
      case atStart => exact ⟨0, Nat.zero_le _, rfl, rfl, Below.refl _ _⟩
      case round =>
        obtain ⟨k, hk, rfl, rfl, hbel⟩ := hrel
        have hsz := hbel.size
        have hle := Mt.leadsTo_le c p k
        have HN : Hid (Mt.leadsTo c p (k + 1) = Mt.leadsTo c p k + if Mt.leads c k p then 1 else 0) := Mt.leadsTo_next c p k
        have HIr : Hid (ownIns wr base (.slice (some ⟨g, 0, none⟩) c.length cap) c) := HI.out.below hbel
        by_cases hlt : k < c.length
        · have HL : Hid (∀ b, Mt.leads c k p = b → Calls Tryz.prog 104 #[.slice (some ⟨g, 0, none⟩) c.length cap, .int .i64 k, .int .i64 p] wr fun e w' => e = .returned (.bool b) ∧ Below wr.heap.size wr w') := fun b hb => by rw [← hb]; exact leads_any c k p base _ wr HIr.out hlt hl
          cases hq : Mt.leads c k p
          all_goals
            have HQ : Hid (Mt.leads c k p = _) := hq
            clear hq
            go_wp2_with fail
            refine (HL.out _ HQ.out).mono ?_
            rintro e w1 ⟨rfl, hb1⟩
            have hB1 : Below w.heap.size w w1 := hbel.trans (hb1.mono hsz)
            clear hb1
            go_wp2_with fail
            go_roundw
            case rel => exact ⟨k + 1, by omega, by go_num, by first | (rw [HN.out, HQ.out]; simp; done) | (rw [HN.out, HQ.out]; go_num), hB1⟩
            case measure => simp [intOf]; omega
        · have hk2 : k = c.length := by omega
          subst hk2
          clear HN HIr
          cases h1 : (policy == 1)
          · cases h3 : (policy == 3)
            · cases h4 : (policy == 4)
              · go_wp2_with fail
                go_ret
                exact ⟨ret_bool (by rw [HP.out, if_neg (by simpa using h1), if_neg (by simpa using h3), if_neg (by simpa using h4)]), hbel⟩
              · go_wp2_with fail
                go_ret
                exact ⟨ret_bool (by rw [HP.out, if_neg (by simpa using h1), if_neg (by simpa using h3), if_pos (by simpa using h4)]; rfl), hbel⟩
            · go_wp2_with fail
              go_ret
              exact ⟨ret_bool (by rw [HP.out, if_neg (by simpa using h1), if_pos (by simpa using h3)]; exact decide_eq_decide.2 (by omega)), hbel⟩
          · go_wp2_with fail
            go_ret
            exact ⟨ret_bool (by rw [HP.out, if_pos (by simpa using h1)]), hbel⟩
    · have hp2 : policy = 2 := by simpa using hpol
      subst hp2
      clear hpol
      have HP : Hid (c.any (Mt.isHead p) = false → Mt.picked c p 2 mask = false) := fun x => by
        unfold Mt.picked; rw [if_neg (by rw [x]; simp), if_neg (by omega), if_neg (by omega), if_neg (by omega)]
      have HP1 : Hid (c.any (Mt.isHead p) = true → Mt.picked c p 2 mask = true) := fun x => by
        unfold Mt.picked; rw [if_pos ⟨rfl, x⟩]
      go_enter Tryz.func74, Tryz.ntmps74
      go_wp2_with fail
      go_loopw [9, 10] (fun n i wr => ∃ k m : Nat, k ≤ c.length ∧ m ≤ k ∧ i = .int .i64 k ∧ n = .int .i64 m ∧ Below w.heap.size w wr ∧ (c.take k).any (Mt.isHead p) = false) (fun _ i _ => c.length - (intOf i).toNat)
      case atStart => exact ⟨0, 0, Nat.zero_le _, Nat.le_refl _, rfl, rfl, Below.refl _ _, rfl⟩
      case round =>
        obtain ⟨k, m, hk, hmk, rfl, rfl, hbel, hr⟩ := hrel
        have HR : Hid ((c.take k).any (Mt.isHead p) = false) := hr
        clear hr
        have hsz := hbel.size
        have HIr : Hid (ownIns wr base (.slice (some ⟨g, 0, none⟩) c.length cap) c) := HI.out.below hbel
        by_cases hlt : k < c.length
        · have hc0 : wr.cell? ⟨g, k * 4, none⟩ = some (.int .i64 (c.getD k Mt.ins0).op) := (hbel.cell (p := ⟨g, k * 4, none⟩) hg).trans (HC.out k 0 hlt (by omega))
          have hc1 : wr.cell? ⟨g, k * 4 + 1, none⟩ = some (.int .i64 (c.getD k Mt.ins0).x) := (hbel.cell (p := ⟨g, k * 4 + 1, none⟩) hg).trans (HC.out k 1 hlt (by omega))
          have HL : Hid (∀ b, Mt.leads c k p = b → Calls Tryz.prog 104 #[.slice (some ⟨g, 0, none⟩) c.length cap, .int .i64 k, .int .i64 p] wr fun e w' => e = .returned (.bool b) ∧ Below wr.heap.size wr w') := fun b hb => by rw [← hb]; exact leads_any c k p base _ wr HIr.out hlt hl
          have HN : Hid ((c.take (k + 1)).any (Mt.isHead p) = ((c.take k).any (Mt.isHead p) || Mt.isHead p (c.getD k Mt.ins0))) := Mt.any_take c _ k hlt
          have HY : Hid (Mt.isHead p (c.getD k Mt.ins0) = true → c.any (Mt.isHead p) = true) := fun x => by
            have := Mt.any_of_take c (Mt.isHead p) k c.length hlt (Nat.le_refl _) x
            rwa [List.take_length] at this
          generalize c.getD k Mt.ins0 = I at *
          rcases isHead_cases p I with ⟨e1, e⟩ | ⟨e1, e2, e⟩ | ⟨e1, e2, e⟩
          · have HE : Hid ((c.take (k + 1)).any (Mt.isHead p) = false) := by show _ = _; rw [HN.out, HR.out, e]; rfl
            clear e HN HR HY
            cases hq : Mt.leads c k p
            all_goals
              have HQ : Hid (Mt.leads c k p = _) := hq
              clear hq
              go_wp2_with fail
              refine (HL.out _ HQ.out).mono ?_
              rintro e w1 ⟨rfl, hb1⟩
              have hB1 : Below w.heap.size w w1 := hbel.trans (hb1.mono hsz)
              clear hb1
              go_wp2_with fail
              go_roundw
              case rel => first | exact ⟨k + 1, m, by omega, by omega, by go_num, rfl, hB1, HE.out⟩ | exact ⟨k + 1, m + 1, by omega, by omega, by go_num, by go_num, hB1, HE.out⟩
              case measure => simp [intOf]; omega
          · have HE : Hid ((c.take (k + 1)).any (Mt.isHead p) = false) := by show _ = _; rw [HN.out, HR.out, e]; rfl
            clear e HN HR HY
            cases hq : Mt.leads c k p
            all_goals
              have HQ : Hid (Mt.leads c k p = _) := hq
              clear hq
              go_wp2_with fail
              refine (HL.out _ HQ.out).mono ?_
              rintro e w1 ⟨rfl, hb1⟩
              have hB1 : Below w.heap.size w w1 := hbel.trans (hb1.mono hsz)
              clear hb1
              go_wp2_with fail
              go_roundw
              case rel => first | exact ⟨k + 1, m, by omega, by omega, by go_num, rfl, hB1, HE.out⟩ | exact ⟨k + 1, m + 1, by omega, by omega, by go_num, by go_num, hB1, HE.out⟩
              case measure => simp [intOf]; omega
          · have HE : Hid (Mt.picked c p 2 mask = true) := HP1.out (HY.out e)
            clear e HN HR HY HL
            go_wp2_with fail
            go_ret
            exact ⟨ret_bool (by rw [HE.out]), hbel⟩
        · have HE : Hid (Mt.picked c p 2 mask = false) := HP.out (by have := HR.out; rwa [show k = c.length by omega, List.take_length] at this)
          clear HR HIr
          go_wp2_with fail
          go_ret
          exact ⟨ret_bool (by rw [HE.out]), hbel⟩
end Go.Proofs.YtebpgfodelggoaaGreat
