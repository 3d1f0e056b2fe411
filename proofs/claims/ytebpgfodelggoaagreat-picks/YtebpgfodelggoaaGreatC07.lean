import Derived.Test.YtebpgfodelggoaaGreatC05
set_option linter.unusedVariables false
set_option linter.unusedSimpArgs false
namespace Go.Proofs.YtebpgfodelggoaaGreat
open Go.RowKit

theorem cap_cases (t : Mt.Tok) : ((t.kind == 6) = false ∧ Mt.isCap t = false) ∨ ((t.kind == 6) = true ∧ (t.how == 4) = false ∧ Mt.isCap t = false) ∨ ((t.kind == 6) = true ∧ (t.how == 4) = true ∧ Mt.isCap t = true) := by
  unfold Mt.isCap
  simp only [beq_iff_eq, beq_eq_false_iff_ne, decide_eq_true_eq, decide_eq_false_iff_not]
  omega

set_option maxHeartbeats 1000000 in
theorem captures_any (l : List Mt.Tok) (v : Value) (w : World) (h : toks w v l) (hl : l.length ≤ 64) :
    Calls Tryz.prog 50 #[v] w fun e w' => e = .returned (.int .i64 (Mt.captures l)) ∧ w = w' := by
  rcases toks_cases h with ⟨rfl, ao, cap, rfl⟩ | ⟨hp, g, cap, rfl, hcap, hg, hc⟩
  · clear h
    go_enter Tryz.func50, Tryz.ntmps50
    go_wp2_with fail
    refine wp_loop_rounds 1 ?_
    rw [rounds_succ]
    go_wp2
    go_ret
    exact ⟨rfl, rfl⟩
  · clear h
    have HC : Hid (∀ k j, k < l.length → j < 7 → w.cell? ⟨g, k * 7 + j, none⟩ = (tokCells (l.getD k Mt.tok0))[j]?) := hc
    clear hc
    go_enter Tryz.func50, Tryz.ntmps50
    go_wp2_with fail
    go_loop [3, 4] (fun n i => ∃ k : Nat, k ≤ l.length ∧ i = .int .i64 k ∧ n = .int .i64 (Mt.captures (l.take k))) (fun _ i => l.length - (intOf i).toNat)
    case atStart => exact ⟨0, Nat.zero_le _, rfl, rfl⟩
    case round =>
      obtain ⟨k, hk, rfl, rfl⟩ := hrel
      have ⟨b1, b2⟩ := Mt.captures_bd_take l k
      by_cases hlt : k < l.length
      · have hc0 : w.cell? ⟨g, k * 7, none⟩ = some (.int .i64 (l.getD k Mt.tok0).kind) := HC.out k 0 hlt (by omega)
        have hc5 : w.cell? ⟨g, k * 7 + 5, none⟩ = some (.int .i64 (l.getD k Mt.tok0).how) := HC.out k 5 hlt (by omega)
        have hn : Hid (Mt.captures (l.take (k + 1)) = Mt.captures (l.take k) + if Mt.isCap (l.getD k Mt.tok0) then 1 else 0) := Mt.captures_next l k hlt
        generalize hT : l.getD k Mt.tok0 = T at *
        clear hT
        rcases cap_cases T with ⟨e1, e3⟩ | ⟨e1, e2, e3⟩ | ⟨e1, e2, e3⟩
        all_goals
          have hn' : Hid (Mt.captures (l.take (k + 1)) = Mt.captures (l.take k) + if Mt.isCap T then 1 else 0) := hn
          have e3' : Hid (Mt.isCap T = _) := e3
          clear e3 hn
          go_wp2
          go_round
          case rel => exact ⟨k + 1, by omega, by go_num, by first | (rw [hn'.out, e3'.out]; simp; done) | (rw [hn'.out, e3'.out]; go_num)⟩
          case measure => simp [intOf]; omega
      · have : k = l.length := by omega
        subst this
        go_wp2
        go_ret
        exact ⟨ret_int (by first | rfl | rw [List.take_length]), rfl⟩

set_option maxHeartbeats 1000000 in
theorem closing_any (l : List Mt.Tok) (i : Nat) (v : Value) (w : World) (h : toks w v l) (hl : l.length ≤ 64) (hi : i ≤ l.length) :
    Calls Tryz.prog 85 #[v, .int .i64 i] w fun e w' => e = .returned (.int .i64 (Mt.closing l i)) ∧ w = w' := by
  rcases toks_cases h with ⟨rfl, ao, cap, rfl⟩ | ⟨hp, g, cap, rfl, hcap, hg, hc⟩
  · clear h
    have : i = 0 := by simpa using hi
    subst this
    go_enter Tryz.func85, Tryz.ntmps85
    go_wp2_with fail
    refine wp_loop_rounds 1 ?_
    rw [rounds_succ]
    go_wp2
    go_ret
    exact ⟨rfl, rfl⟩
  · clear h
    have HC : Hid (∀ k j, k < l.length → j < 7 → w.cell? ⟨g, k * 7 + j, none⟩ = (tokCells (l.getD k Mt.tok0))[j]?) := hc
    clear hc
    go_enter Tryz.func85, Tryz.ntmps85
    go_wp2_with fail
    go_loop [5, 6] (fun n j => ∃ (k : Nat) (x : Int), i ≤ k ∧ k ≤ l.length ∧ -(k : Int) ≤ x ∧ x ≤ k ∧ j = .int .i64 k ∧ n = .int .i64 x ∧ Mt.closing l i = Mt.closeFrom (l.drop k) x k) (fun _ j => l.length - (intOf j).toNat)
    case atStart => exact ⟨i, 0, Nat.le_refl _, hi, by omega, by omega, rfl, rfl, rfl⟩
    case round =>
      obtain ⟨k, x, hik, hk, b1, b2, rfl, rfl, hr⟩ := hrel
      have H : Hid (Mt.closing l i = Mt.closeFrom (l.drop k) x k) := hr
      clear hr
      by_cases hlt : k < l.length
      · have hc0 : w.cell? ⟨g, k * 7, none⟩ = some (.int .i64 (l.getD k Mt.tok0).kind) := HC.out k 0 hlt (by omega)
        have hn : Hid (Mt.closing l i = if x + Mt.delta (l.getD k Mt.tok0) = 0 then k else Mt.closeFrom (l.drop (k + 1)) (x + Mt.delta (l.getD k Mt.tok0)) (k + 1)) := H.out.trans (Mt.closeFrom_step l x k hlt)
        generalize hT : l.getD k Mt.tok0 = T at *
        clear hT H
        rcases delta_cases T with ⟨e1, e2, e3⟩ | ⟨e1, e2, e3⟩ | ⟨e1, e2, e3⟩
        · cases hz : (x + 1 == 0)
          · have R : Hid (Mt.closing l i = Mt.closeFrom (l.drop (k + 1)) (x + 1) (k + 1)) := by show _ = _; rw [hn.out, e3, if_neg (by simpa using hz)]
            clear e3 hn
            go_wp2
            go_round
            case rel => exact ⟨k + 1, x + 1, by omega, by omega, by omega, by omega, by go_num, rfl, R.out⟩
            case measure => simp [intOf]; omega
          · have R : Hid (Mt.closing l i = k) := by show _ = _; rw [hn.out, e3, if_pos (by simpa using hz)]
            clear e3 hn
            go_wp2
            go_ret
            exact ⟨ret_int (by rw [R.out]), rfl⟩
        · cases hz : (x - 1 == 0)
          · have R : Hid (Mt.closing l i = Mt.closeFrom (l.drop (k + 1)) (x - 1) (k + 1)) := by show _ = _; rw [hn.out, e3, if_neg (by simp at hz; omega)]; rfl
            clear e3 hn
            go_wp2
            go_round
            case rel => exact ⟨k + 1, x - 1, by omega, by omega, by omega, by omega, by go_num, rfl, R.out⟩
            case measure => simp [intOf]; omega
          · have R : Hid (Mt.closing l i = k) := by show _ = _; rw [hn.out, e3, if_pos (by simp at hz; omega)]
            clear e3 hn
            go_wp2
            go_ret
            exact ⟨ret_int (by rw [R.out]), rfl⟩
        · cases hz : (x == 0)
          · have R : Hid (Mt.closing l i = Mt.closeFrom (l.drop (k + 1)) x (k + 1)) := by show _ = _; rw [hn.out, e3, if_neg (by simp at hz; omega), Int.add_zero]
            clear e3 hn
            go_wp2
            go_round
            case rel => exact ⟨k + 1, x, by omega, by omega, by omega, by omega, by go_num, rfl, R.out⟩
            case measure => simp [intOf]; omega
          · have R : Hid (Mt.closing l i = k) := by show _ = _; rw [hn.out, e3, if_pos (by simp at hz; omega)]
            clear e3 hn
            go_wp2
            go_ret
            exact ⟨ret_int (by rw [R.out]), rfl⟩
      · have hk2 : k = l.length := by omega
        have R : Hid (Mt.closing l i = l.length) := by show _ = _; rw [H.out, hk2, List.drop_length]; rfl
        clear H hk2
        go_wp2
        go_ret
        exact ⟨ret_int (by rw [R.out]), rfl⟩

set_option maxHeartbeats 1000000 in
theorem closed_any (l : List Mt.Tok) (c : Int) (v : Value) (w : World) (h : toks w v l) (hl : l.length ≤ 64) :
    Calls Tryz.prog 83 #[v, .int .i64 c] w fun e w' => e = .returned (.bool (Mt.closed l c)) ∧ w = w' := by
  have hk := h
  rcases toks_cases h with ⟨rfl, ao, cap, rfl⟩ | ⟨hp, g, cap, rfl, hcap, hg, hc⟩
  · clear h hk
    go_enter Tryz.func83, Tryz.ntmps83
    go_wp2_with fail
    refine wp_loop_rounds 1 ?_
    rw [rounds_succ]
    go_wp2
    go_ret
    exact ⟨rfl, rfl⟩
  · clear h
    have HK : Hid (toks w (.slice (some ⟨g, 0, none⟩) l.length cap) l) := hk
    clear hk
    have HC : Hid (∀ k j, k < l.length → j < 7 → w.cell? ⟨g, k * 7 + j, none⟩ = (tokCells (l.getD k Mt.tok0))[j]?) := hc
    clear hc
    go_enter Tryz.func83, Tryz.ntmps83
    go_wp2_with fail
    go_loop [5] (fun j => ∃ k : Nat, k ≤ l.length ∧ j = .int .i64 k ∧ Mt.closed l c = Mt.closedFrom l c (l.drop k) k) (fun j => l.length - (intOf j).toNat)
    case atStart => exact ⟨0, Nat.zero_le _, rfl, rfl⟩
    case round =>
      obtain ⟨k, hk, rfl, hr⟩ := hrel
      have H : Hid (Mt.closed l c = Mt.closedFrom l c (l.drop k) k) := hr
      clear hr
      by_cases hlt : k < l.length
      · have hc0 : w.cell? ⟨g, k * 7, none⟩ = some (.int .i64 (l.getD k Mt.tok0).kind) := HC.out k 0 hlt (by omega)
        have hc5 : w.cell? ⟨g, k * 7 + 5, none⟩ = some (.int .i64 (l.getD k Mt.tok0).how) := HC.out k 5 hlt (by omega)
        have hc3 : w.cell? ⟨g, k * 7 + 3, none⟩ = some (.int .i64 (l.getD k Mt.tok0).n) := HC.out k 3 hlt (by omega)
        have hn : Hid (Mt.closed l c = if Mt.isCap (l.getD k Mt.tok0) = true ∧ (l.getD k Mt.tok0).n = c then decide (Mt.closing l k < l.length) else Mt.closedFrom l c (l.drop (k + 1)) (k + 1)) := H.out.trans (Mt.closedFrom_step l c k hlt)
        generalize hT : l.getD k Mt.tok0 = T at *
        clear hT H
        rcases cap_cases T with ⟨e1, e3⟩ | ⟨e1, e2, e3⟩ | ⟨e1, e2, e3⟩
        · have R : Hid (Mt.closed l c = Mt.closedFrom l c (l.drop (k + 1)) (k + 1)) := by show _ = _; rw [hn.out, e3]; simp
          clear e3 hn
          go_wp2_with fail
          go_round
          case rel => exact ⟨k + 1, by omega, by go_num, R.out⟩
          case measure => simp [intOf]; omega
        · have R : Hid (Mt.closed l c = Mt.closedFrom l c (l.drop (k + 1)) (k + 1)) := by show _ = _; rw [hn.out, e3]; simp
          clear e3 hn
          go_wp2_with fail
          go_round
          case rel => exact ⟨k + 1, by omega, by go_num, R.out⟩
          case measure => simp [intOf]; omega
        · cases hz : (T.n == c)
          · have R : Hid (Mt.closed l c = Mt.closedFrom l c (l.drop (k + 1)) (k + 1)) := by show _ = _; rw [hn.out, e3, if_neg (by simp at hz; simp [hz])]
            clear e3 hn
            go_wp2_with fail
            go_round
            case rel => exact ⟨k + 1, by omega, by go_num, R.out⟩
            case measure => simp [intOf]; omega
          · have R : Hid (Mt.closed l c = decide (Mt.closing l k < l.length)) := by show _ = _; rw [hn.out, e3, if_pos (by simp at hz; simp [hz])]
            clear e3 hn
            go_wp2_with (first | (go_at_call 85; refine (closing_any l _ _ _ HK.out hl (by omega)).mono ?_; rintro e w' ⟨rfl, rfl⟩))
            go_ret
            exact ⟨ret_bool (by rw [R.out]), rfl⟩
      · have hk2 : k = l.length := by omega
        have R : Hid (Mt.closed l c = false) := by show _ = _; rw [H.out, hk2, List.drop_length]; rfl
        clear H hk2
        go_wp2_with fail
        go_ret
        exact ⟨ret_bool (by rw [R.out]), rfl⟩

theorem last_at (l : List Mt.Tok) (h : 0 < l.length) : l.getLast? = some (l.getD (l.length - 1) Mt.tok0) := by
  rw [List.getLast?_eq_getElem?, List.getD_eq_getElem?_getD, List.getElem?_eq_getElem (by omega)]; rfl

theorem ends_cases (k : Int) : ((k == 1) = true ∧ decide (k = 1 ∨ k = 2 ∨ k = 3 ∨ k = 4 ∨ k = 7) = true) ∨ ((k == 1) = false ∧ (k == 2) = true ∧ decide (k = 1 ∨ k = 2 ∨ k = 3 ∨ k = 4 ∨ k = 7) = true) ∨
    ((k == 1) = false ∧ (k == 2) = false ∧ (k == 3) = true ∧ decide (k = 1 ∨ k = 2 ∨ k = 3 ∨ k = 4 ∨ k = 7) = true) ∨
    ((k == 1) = false ∧ (k == 2) = false ∧ (k == 3) = false ∧ (k == 4) = true ∧ decide (k = 1 ∨ k = 2 ∨ k = 3 ∨ k = 4 ∨ k = 7) = true) ∨
    ((k == 1) = false ∧ (k == 2) = false ∧ (k == 3) = false ∧ (k == 4) = false ∧ (k == 7) = true ∧ decide (k = 1 ∨ k = 2 ∨ k = 3 ∨ k = 4 ∨ k = 7) = true) ∨
    ((k == 1) = false ∧ (k == 2) = false ∧ (k == 3) = false ∧ (k == 4) = false ∧ (k == 7) = false ∧ decide (k = 1 ∨ k = 2 ∨ k = 3 ∨ k = 4 ∨ k = 7) = false) := by
  simp only [beq_iff_eq, beq_eq_false_iff_ne, decide_eq_true_eq, decide_eq_false_iff_not]
  omega

set_option maxHeartbeats 1000000 in
theorem atomEnds_any (l : List Mt.Tok) (v : Value) (w : World) (h : toks w v l) (hl : l.length ≤ 64) :
    Calls Tryz.prog 84 #[v] w fun e w' => e = .returned (.bool (Mt.atomEnds l)) ∧ w = w' := by
  rcases toks_cases h with ⟨rfl, ao, cap, rfl⟩ | ⟨hp, g, cap, rfl, hcap, hg, hc⟩
  · clear h
    go_enter Tryz.func84, Tryz.ntmps84
    go_wp2
    go_ret
    exact ⟨rfl, rfl⟩
  · clear h
    have hc0 : w.cell? ⟨g, (l.length - 1) * 7, none⟩ = some (.int .i64 (l.getD (l.length - 1) Mt.tok0).kind) := hc (l.length - 1) 0 (by omega) (by omega)
    clear hc
    have e : Mt.atomEnds l = decide ((l.getD (l.length - 1) Mt.tok0).kind = 1 ∨ (l.getD (l.length - 1) Mt.tok0).kind = 2 ∨ (l.getD (l.length - 1) Mt.tok0).kind = 3 ∨ (l.getD (l.length - 1) Mt.tok0).kind = 4 ∨ (l.getD (l.length - 1) Mt.tok0).kind = 7) := by
      unfold Mt.atomEnds; rw [last_at l hp]
    rw [e]; clear e
    generalize hT : l.getD (l.length - 1) Mt.tok0 = T at *
    clear hT
    rcases ends_cases T.kind with ⟨e1, e⟩ | ⟨e1, e2, e⟩ | ⟨e1, e2, e3, e⟩ | ⟨e1, e2, e3, e4, e⟩ | ⟨e1, e2, e3, e4, e5, e⟩ | ⟨e1, e2, e3, e4, e5, e⟩
    all_goals
      rw [e]; clear e
      go_enter Tryz.func84, Tryz.ntmps84
      go_wp2
      go_ret
      exact ⟨rfl, rfl⟩
end Go.Proofs.YtebpgfodelggoaaGreat
