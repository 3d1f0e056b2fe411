import Derived.Test.YtebpgfodelggoaaGreatC17
import Derived.Test.YtebpgfodelggoaaGreatC18
import Derived.Test.YtebpgfodelggoaaGreatC02
set_option linter.unusedVariables false
set_option linter.unusedSimpArgs false
namespace Go.Proofs.YtebpgfodelggoaaGreat
open Go.RowKit

theorem Tryz.info80 : (Tryz.prog.info? 97).map (fun i => (i.zero, i.size, i.bytes)) = some (some (.agg #[.int .i64 0, .int .i64 0, .int .i64 0, .int .i64 0, .int .i64 0, .int .i64 0, .string ⟨#[]⟩]), 7, 64) := by kernel_rfl

/-- The tokens as they are owned by a call that began at base. -/
def ownToks (w : World) (base : Nat) (v : Value) (l : List Mt.Tok) : Prop := w.ownsRow base 97 7 v l.length (l.flatMap tokCells)
theorem ownToks.toks {w : World} {base : Nat} {v : Value} {l : List Mt.Tok} (h : ownToks w base v l) : toks w v l := owns_base h (Nat.zero_le _)
theorem ownToks.below {w w' : World} {base : Nat} {v : Value} {l : List Mt.Tok} (h : ownToks w base v l) (hb : Below w.heap.size w w') : ownToks w' base v l := owns_below h hb

theorem tokens_err {p : ByteArray} {a : Int} {k : Int} (hp : p.size ≤ 64) (h : Mt.readOn p [] 0 = ([], a, k)) (ha : a ≠ 0) : Mt.tokens p = ([], a, k) := by
  unfold Mt.tokens
  rw [if_neg (by omega), Mt.readOn_start p hp, h, if_pos ha]
theorem tokens_open {p : ByteArray} {l : List Mt.Tok} {k : Int} (hp : p.size ≤ 64) (h : Mt.readOn p [] 0 = (l, 0, k)) (ho : 0 < Mt.opened l) : Mt.tokens p = ([], 11, (p.size : Int)) := by
  unfold Mt.tokens
  rw [if_neg (by omega), Mt.readOn_start p hp, h, if_neg (by simp), if_pos ho]
theorem tokens_ok {p : ByteArray} {l : List Mt.Tok} {k : Int} (hp : p.size ≤ 64) (h : Mt.readOn p [] 0 = (l, 0, k)) (ho : ¬ 0 < Mt.opened l) : Mt.tokens p = (l, 0, 0) := by
  unfold Mt.tokens
  rw [if_neg (by omega), Mt.readOn_start p hp, h, if_neg (by simp), if_neg ho]
theorem joined_no {l : List Mt.Tok} {t : Mt.Tok} (h : Mt.isCap t = false) : Mt.joined l t = t := by unfold Mt.joined; rw [h]; rfl
theorem joined_yes {l : List Mt.Tok} {t : Mt.Tok} (h : Mt.isCap t = true) : Mt.joined l t = { t with n := Mt.captures l + 1 } := by unfold Mt.joined; rw [h]; rfl
theorem tok_one (t : Mt.Tok) : ∀ u ∈ tokCells t, u.oneCell' = true := by
  intro u hu
  simp only [tokCells, List.mem_cons, List.not_mem_nil, or_false] at hu
  rcases hu with rfl | rfl | rfl | rfl | rfl | rfl | rfl <;> rfl
theorem ownToks.set {w : World} {base : Nat} {v : Value} {l : List Mt.Tok} (h : ownToks w base v l) (b x : Nat) (u : Value) (hne : ∀ q, v.ownBlock = some q → q < b) : ownToks (w.setCell ⟨b, x, none⟩ u) base v l :=
  World.ownsRow.kept h (grown_setCell w ⟨b, x, none⟩ u) (Or.inr (fun e => by have := hne b e; omega))
theorem own_snoc {w : World} {base : Nat} {v : Value} {l : List Mt.Tok} {t : Mt.Tok} (h : w.ownsRow base 97 7 v (l.length + 1) (l.flatMap tokCells ++ tokCells t)) : ownToks w base v (l ++ [t]) := by
  unfold ownToks
  rw [List.length_append, List.flatMap_append, List.flatMap_cons, List.flatMap_nil, List.append_nil]
  exact h

set_option maxHeartbeats 400000 in
theorem tokens_long (p : ByteArray) (w : World) (h : 64 < p.size) (hm : p.size ≤ maxLen) :
    Calls Tryz.prog 23 #[.string p] w fun e w' => e = .returned (.tuple #[.slice none 0 0, .int .i64 1, .int .i64 0]) ∧ w = w' := by
  unfold maxLen at hm
  go_enter Tryz.func23, Tryz.ntmps23
  go_wp2_with fail
  go_ret3
  exact ⟨rfl, rfl⟩

set_option maxRecDepth 100000 in
set_option maxHeartbeats 4000000 in
theorem tokens_short (p : ByteArray) (w : World) (hp : p.size ≤ 64) :
    Calls Tryz.prog 23 #[.string p] w fun e w' => ∃ v, e = .returned (.tuple #[v, .int .i64 (Mt.tokens p).2.1, .int .i64 (Mt.tokens p).2.2]) ∧ ownToks w' w.heap.size v (Mt.tokens p).1 ∧ Below w.heap.size w w' := by
  obtain ⟨i0, hi, hz0, hz1, hz2⟩ := info_parts Tryz.info80
  go_enter Tryz.func23, Tryz.ntmps23
  go_wp2_with fail
  go_loopw [5, 6] (fun v i wr => ∃ (k : Nat) (l : List Mt.Tok), k ≤ p.size ∧ l.length ≤ k ∧ i = .int .i64 k ∧ ownToks wr w.heap.size v l ∧ Below w.heap.size w wr ∧ Mt.readOn p [] 0 = Mt.readOn p l k) (fun _ i _ => p.size - (intOf i).toNat)
  case atStart => exact ⟨0, [], Nat.zero_le _, Nat.le_refl _, rfl, World.ownsRow_nil _ _ _ _, Below.refl _ _, rfl⟩
  case round =>
    obtain ⟨k, l, hk, hlk, rfl, hown, hbel, hr⟩ := hrel
    have H : Hid (Mt.readOn p [] 0 = Mt.readOn p l k) := hr
    have HO : Hid (ownToks wr w.heap.size u5 l) := hown
    have hsz := hbel.size
    clear hr hown
    by_cases hlt : k < p.size
    · have hst := Mt.readOn_step p l k (by omega) (by omega)
      rw [if_neg (by omega), ← H.out] at hst
      have hto := Mt.nextT_to p k (by omega) (by omega)
      generalize hT : Mt.nextT p k = T at *
      have HT : Hid (Mt.nextT p k = T) := hT
      clear hT
      cases hne : (T.2 == 0)
      · rw [if_pos (by simpa using hne)] at hst
        have HS : Hid (Mt.readOn p [] 0 = ([], T.2, (k : Int))) := hst
        have hne2 : (T.2 != 0) = true := by simpa using hne
        clear hst H hto
        go_wp2_with (first | (go_at_call 48; refine (next_any _ _ _ hp (by omega) (by omega)).mono ?_; rw [HT.out]; rintro e w1 ⟨rfl, hb1⟩; simp only [tokV]) | fail)
        go_ret3
        refine ⟨.slice none 0 0, ?_, ?_, ?_⟩
        · rw [tokens_err hp HS.out (by simpa using hne)]; rfl
        · rw [tokens_err hp HS.out (by simpa using hne)]; exact World.ownsRow_nil _ _ _ _
        · have hb2 : Below w.heap.size w w1 := hbel.trans (hb1.mono hsz)
          exact hb2.alloc (by have := hb2.size; omega) _
      · have hn0 : T.2 = 0 := by simpa using hne
        have hto' := hto hn0
        have hto1 := hto'.1
        have hto2 := hto'.2
        rw [if_neg (by simp [hn0])] at hst
        clear hto hto'
        have HS : Hid (Mt.readOn p [] 0 = if Mt.may l T.1 ≠ 0 then ([], Mt.may l T.1, (k : Int)) else Mt.readOn p (l ++ [Mt.joined l T.1]) T.1.to) := hst
        clear hst H hn0
        go_wp2_with (first | (go_at_call 48; refine (next_any _ _ _ hp (by omega) (by omega)).mono ?_; rw [HT.out]; rintro e w1 ⟨rfl, hb1⟩; simp only [tokV]) | fail)
        have hbw : Below w.heap.size w w1 := hbel.trans (hb1.mono hsz)
        have hsz1 : w.heap.size ≤ w1.heap.size := hbw.size
        have HO1 : Hid (ownToks w1 w.heap.size u5 l) := HO.out.below hb1
        refine (may_any l T.1 u5 _ (HO1.out.toks.alloc _) (by omega)).mono ?_
        rintro e w2 ⟨rfl, hb2⟩
        have HO2 : Hid (ownToks w2 w.heap.size u5 l) := ownToks.below (World.ownsRow.alloc HO1.out _) hb2
        obtain ⟨q0, q1, q2, q3⟩ := one_new hb2
        have hg5 : ∀ q, u5.ownBlock = some q → q < w1.heap.size := fun q hq => (World.ownsRow.lt HO1.out q hq).2
        clear hb2 HO HO1 hb1
        have hbw2 : Below w.heap.size w w2 := hbw.trans (q3.mono hsz1)
        have hsz2 : w.heap.size ≤ w2.heap.size := hbw2.size
        cases hm : (Mt.may l T.1 != 0)
        · have hm0 : ¬ Mt.may l T.1 ≠ 0 := by simpa using hm
          have HS2 : Hid (Mt.readOn p [] 0 = Mt.readOn p (l ++ [Mt.joined l T.1]) T.1.to) := by show _ = _; rw [HS.out, if_neg hm0]
          clear HS hm0
          rcases cap_cases T.1 with ⟨e1, e3⟩ | ⟨e1, e2, e3⟩ | ⟨e1, e2, e3⟩
          · have HJ : Hid (Mt.joined l T.1 = T.1) := joined_no e3
            clear e3
            go_wp2_with (first | (at_builtin; refine wpList_append_own _ rfl _ _ 56 rfl w.heap.size 97 i0 _ 7 64 Tryz.underlying56 hi hz0 hz1 hz2 rfl (by decide) _ _ _ rfl (World.ownsRow.alloc HO2.out _) ⟨w2.heap.size, 0, none⟩ 1 1 (tokCells T.1) rfl rfl (news_cells _ _ _) (tok_one _) ?c3 ?c4 ?c5 ?_))
            case c3 => unfold maxLen; omega
            case c4 => omega
            case c5 => simp; omega
            intro v' w3 hown' hgrow _
            have R1 : Hid (ownToks w3 w.heap.size v' (l ++ [Mt.joined l T.1])) := by rw [HJ.out]; exact own_snoc hown'
            have R2 : Below w.heap.size w w3 := (hbw2.alloc hsz2 _).grown hgrow (by simp; omega) (fun q hq' => (World.ownsRow.lt HO2.out q hq').1)
            have q6 : w3.cell? ⟨w1.heap.size, 2, none⟩ = some (.int .i64 T.1.to) := (cell_after hgrow q2 hg5 2).trans (q0 2)
            clear hown' hgrow HO2 hg5
            go_wp2
            go_roundw
            case rel => exact ⟨T.1.to.toNat, l ++ [Mt.joined l T.1], by omega, by rw [List.length_append]; simp; omega, by rw [Int.toNat_of_nonneg (by omega)], R1.out, R2, by rw [Int.toNat_of_nonneg (by omega)]; exact HS2.out⟩
            case measure => simp [intOf]; omega
          · have HJ : Hid (Mt.joined l T.1 = T.1) := joined_no e3
            clear e3
            go_wp2_with (first | (at_builtin; refine wpList_append_own _ rfl _ _ 56 rfl w.heap.size 97 i0 _ 7 64 Tryz.underlying56 hi hz0 hz1 hz2 rfl (by decide) _ _ _ rfl (World.ownsRow.alloc HO2.out _) ⟨w2.heap.size, 0, none⟩ 1 1 (tokCells T.1) rfl rfl (news_cells _ _ _) (tok_one _) ?d3 ?d4 ?d5 ?_))
            case d3 => unfold maxLen; omega
            case d4 => omega
            case d5 => simp; omega
            intro v' w3 hown' hgrow _
            have R1 : Hid (ownToks w3 w.heap.size v' (l ++ [Mt.joined l T.1])) := by rw [HJ.out]; exact own_snoc hown'
            have R2 : Below w.heap.size w w3 := (hbw2.alloc hsz2 _).grown hgrow (by simp; omega) (fun q hq' => (World.ownsRow.lt HO2.out q hq').1)
            have q6 : w3.cell? ⟨w1.heap.size, 2, none⟩ = some (.int .i64 T.1.to) := (cell_after hgrow q2 hg5 2).trans (q0 2)
            clear hown' hgrow HO2 hg5
            go_wp2
            go_roundw
            case rel => exact ⟨T.1.to.toNat, l ++ [Mt.joined l T.1], by omega, by rw [List.length_append]; simp; omega, by rw [Int.toNat_of_nonneg (by omega)], R1.out, R2, by rw [Int.toNat_of_nonneg (by omega)]; exact HS2.out⟩
            case measure => simp [intOf]; omega
          · have HJ : Hid (Mt.joined l T.1 = { T.1 with n := Mt.captures l + 1 }) := joined_yes e3
            clear e3
            have ⟨b3, b4⟩ := Mt.captures_bd l
            have HO3 : Hid (ownToks (w2.setCell ⟨w1.heap.size, 3, none⟩ (.int .i64 (Mt.captures l + 1))) w.heap.size u5 l) := HO2.out.set _ _ _ hg5
            go_wp2_with (first | (go_at_call 50; refine (captures_any l _ _ HO2.out.toks (by omega)).mono ?_; rintro e w' ⟨rfl, rfl⟩) | (at_builtin; refine wpList_append_own _ rfl _ _ 56 rfl w.heap.size 97 i0 _ 7 64 Tryz.underlying56 hi hz0 hz1 hz2 rfl (by decide) _ _ _ rfl (World.ownsRow.alloc HO3.out _) ⟨w2.heap.size, 0, none⟩ 1 1 (tokCells { T.1 with n := Mt.captures l + 1 }) rfl rfl (news_cells' _ _ (by simp [World.setCell]) _ _) (tok_one _) ?g3 ?g4 ?g5 ?_))
            case g3 => unfold maxLen; omega
            case g4 => omega
            case g5 => simp; omega
            intro v' w3 hown' hgrow _
            have R1 : Hid (ownToks w3 w.heap.size v' (l ++ [Mt.joined l T.1])) := by rw [HJ.out]; exact own_snoc hown'
            have R2 : Below w.heap.size w w3 := ((hbw2.setCell (p := ⟨w1.heap.size, 3, none⟩) hsz1 _).alloc (by simp; omega) _).grown hgrow (by simp; omega) (fun q hq' => (World.ownsRow.lt HO2.out q hq').1)
            have q5 : (w2.setCell ⟨w1.heap.size, 3, none⟩ (.int .i64 (Mt.captures l + 1))).cell? ⟨w1.heap.size, 2, none⟩ = w2.cell? ⟨w1.heap.size, 2, none⟩ := World.cell?_setCell_other _ _ _ _ (by simp)
            have q6 : w3.cell? ⟨w1.heap.size, 2, none⟩ = some (.int .i64 T.1.to) := (cell_after hgrow (by simp; omega) hg5 2).trans (q5.trans (q0 2))
            clear hown' hgrow HO2 hg5 HO3 q5
            go_wp2
            go_roundw
            case rel => exact ⟨T.1.to.toNat, l ++ [Mt.joined l T.1], by omega, by rw [List.length_append]; simp; omega, by rw [Int.toNat_of_nonneg (by omega)], R1.out, R2, by rw [Int.toNat_of_nonneg (by omega)]; exact HS2.out⟩
            case measure => simp [intOf]; omega
        · have hm0 : Mt.may l T.1 ≠ 0 := by simpa using hm
          have HS2 : Hid (Mt.readOn p [] 0 = ([], Mt.may l T.1, (k : Int))) := by show _ = _; rw [HS.out, if_pos hm0]
          have HM : Hid (Mt.may l T.1 ≠ 0) := hm0
          clear HS hm0
          go_wp2_with fail
          go_ret3
          refine ⟨.slice none 0 0, ?_, ?_, ?_⟩
          · rw [tokens_err hp HS2.out HM.out]; rfl
          · rw [tokens_err hp HS2.out HM.out]; exact World.ownsRow_nil _ _ _ _
          · exact hbw2
    · have hst := Mt.readOn_step p l k (by omega) (by omega)
      rw [if_pos (by omega), ← H.out] at hst
      have HS : Hid (Mt.readOn p [] 0 = (l, 0, (k : Int))) := hst
      clear hst H
      have ⟨b1, b2⟩ := Mt.opened_bd l
      by_cases hop : 0 < Mt.opened l
      · go_wp2_with (first | (go_at_call 51; refine (opened_any l _ _ HO.out.toks (by omega)).mono ?_; rintro e w' ⟨rfl, rfl⟩) | fail)
        go_ret3
        refine ⟨.slice none 0 0, ?_, ?_, ?_⟩
        · rw [tokens_open hp HS.out hop]; rfl
        · rw [tokens_open hp HS.out hop]; exact World.ownsRow_nil _ _ _ _
        · exact hbel
      · go_wp2_with (first | (go_at_call 51; refine (opened_any l _ _ HO.out.toks (by omega)).mono ?_; rintro e w' ⟨rfl, rfl⟩) | fail)
        go_ret3
        refine ⟨u5, ?_, ?_, ?_⟩
        · rw [tokens_ok hp HS.out (by omega)]; rfl
        · rw [tokens_ok hp HS.out (by omega)]; exact HO.out
        · exact hbel
end Go.Proofs.YtebpgfodelggoaaGreat
