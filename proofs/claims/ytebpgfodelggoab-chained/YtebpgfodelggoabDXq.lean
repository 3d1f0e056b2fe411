import Derived.Test.YtebpgfodelggoabDXp
import Derived.Test.YtebpgfodelggoabC48
import Derived.Test.YtebpgfodelggoabC52
import Derived.Test.YtebpgfodelggoabDJk
/- SearchAll. -/
set_option linter.unusedVariables false
set_option linter.unusedSimpArgs false
namespace Go.Proofs.Ytebpgfodelggoab
open Go.RowKit

theorem blkHold {z z' : World} {L b : Nat} {A : Array Value} {t : TypeId} (h : z.heap[b]? = some (.cells A t (0, 0))) (hb : Below L z z') (hl : b < L) : z'.heap[b]? = some (.cells A t (0, 0)) := (hb.block b hl).trans h
theorem searchAll_len {c : List Mt.Ins} {A : Int → Mt.Att} (hK : Mt.Known c A) (t : ByteArray) (policy mask room b : Int) (frm : Nat) (hf : frm ≤ t.size) (hr : 0 ≤ room ∧ room ≤ 5000) : (Mt.searchAll c t policy mask room b frm).1.at'.length = 20 := by
  have key : ∀ (f p n : Nat) (kn : List Bool) (room : Int), (0 ≤ room ∧ room ≤ 5000) → p + f ≤ t.size + 1 → (Mt.search (Mt.envOf c t policy mask) b f p n kn room).1.at'.length = 20 := by
    intro f
    induction f with
    | zero => intro p n kn room _ _; simp [Mt.search, Mt.nowhere]
    | succ f ih =>
      intro p n kn room hr hpf
      have hg := Mt.look_good (Mt.envOf c t policy mask) hK.ok n n (Mt.startSt p) kn room (Nat.le_refl _) (Mt.startSt_good _ _ p hK.pos (by show p ≤ t.size; omega)) hr
      rw [Mt.search]
      split
      · rfl
      split
      · exact Mt.foundAt_len _ _ hg.2.2.2.1
      · exact ih (p + 1) _ _ _ hg.2.2.1 (by omega)
  exact key _ _ _ _ _ hr (by omega)
/-- What stands at the head of a round. -/
def AllAt (w1 : World) (c : List Mt.Ins) (text : ByteArray) (policy mask room budget : Int) (R : List Mt.Fnd × Int × Int) (v u i : Value) (wr : World) : Prop :=
  ∃ (F frm : Nat) (used : Int) (l : List Mt.Fnd), i = .int .i64 frm ∧ u = .int .i64 used ∧ frm ≤ text.size + 1 ∧ text.size + 2 ≤ frm + F ∧ l.length ≤ frm ∧ (0 ≤ used ∧ used ≤ budget) ∧ ownFps wr w1.heap.size v l ∧ Below w1.heap.size w1 wr
    ∧ R = Mt.allFrom c text policy mask room budget F frm used l

set_option maxRecDepth 100000 in
set_option maxHeartbeats 16000000 in
theorem SearchAll_any (E : Mt.Env) (A : Int → Mt.Att) (hT : TabCtx E) (hK : Mt.Known E.c A) (har : ∀ p, p < E.c.length → E.ar.getD p 0 = Mt.loopsAt E.c p) (policy mask : Int) (hEv : E = Mt.envOf E.c E.t policy mask) (g cap q nq cq : Nat) (room budget : Int) (hr : 0 ≤ room ∧ room ≤ 5000) (hb : 0 ≤ budget ∧ budget ≤ 10000) (ht60 : E.t.size ≤ 60) (w : World)
    (h : ownIns w 0 (.slice (some ⟨g, 0, none⟩) E.c.length cap) E.c) (hq : rInts w 0 (.slice (some ⟨q, 0, none⟩) nq cq) (Mt.numsTo E.inn E.c.length)) (hnq : nq = (Mt.numsTo E.inn E.c.length).length) (R : List Mt.Fnd × Int × Int) (hR : R = Mt.allFrom E.c E.t policy mask room budget (E.t.size + 2) 0 0 []) :
    Calls Try.prog 41 #[.agg #[.slice (some ⟨g, 0, none⟩) E.c.length cap, .slice (some ⟨q, 0, none⟩) nq cq, .string E.t, .int .i64 room], .int .i64 budget] w fun e w' => ∃ v, e = .returned (.tuple #[v, .int .i64 R.2.1, .int .i64 R.2.2]) ∧ ownFps w' w.heap.size v R.1 ∧ Below w.heap.size w w' := by
  obtain ⟨V, hV⟩ : ∃ V : Array Value, V = #[.slice (some ⟨g, 0, none⟩) E.c.length cap, .slice (some ⟨q, 0, none⟩) nq cq, .string E.t, .int .i64 room] := ⟨_, rfl⟩
  have KS : Hid (∀ (b : Int) (frm : Nat) (z : World), 0 ≤ b → b ≤ 10000 → frm ≤ E.t.size → Below w.heap.size w z → Calls Try.prog 31 #[.agg V, .int .i64 (frm : Int), .int .i64 b] z fun e w' => e = .returned (.tuple #[.agg (fpA (Mt.searchAll E.c E.t policy mask room b frm).1), .int .i64 (errOf (Mt.searchAll E.c E.t policy mask room b frm).2)]) ∧ Below z.heap.size z w') := fun b frm z h0 h1 hf hbz => by
    rw [hV]
    exact Search_any E A hT hK har g cap q nq cq frm room b hr ⟨h0, h1⟩ hf z (h.below hbz) (hq.below hbz) hnq (Mt.searchAll E.c E.t policy mask room b frm) (by unfold Mt.searchAll; rw [← hEv])
  have HLn : Hid (∀ (b : Int) (frm : Nat), frm ≤ E.t.size → (Mt.searchAll E.c E.t policy mask room b frm).1.at'.length = 20) := fun b frm hf => searchAll_len hK E.t policy mask room b frm hf hr
  have HIn : Hid (∀ (b : Int) (frm : Nat), 0 ≤ b → frm ≤ E.t.size → (Mt.searchAll E.c E.t policy mask room b frm).2 = false → (0 ≤ (Mt.searchAll E.c E.t policy mask room b frm).1.steps ∧ (Mt.searchAll E.c E.t policy mask room b frm).1.steps ≤ b) ∧ ((Mt.searchAll E.c E.t policy mask room b frm).1.ok = true → ∃ x y : Nat, (Mt.searchAll E.c E.t policy mask room b frm).1.at'.getD 0 0 = (x : Int) ∧ (Mt.searchAll E.c E.t policy mask room b frm).1.at'.getD 1 0 = (y : Int) ∧ frm ≤ x ∧ x ≤ y ∧ y ≤ E.t.size)) := fun b frm h0 hf ho => Mt.search_in (Mt.envOf E.c E.t policy mask) hK.ok hK.pos b (E.t.size + 1 - frm) frm b.toNat _ room (by show frm + (E.t.size + 1 - frm) ≤ E.t.size + 1; omega) hr (by omega) ho
  have hV2 : V[2]? = some (.string E.t) := by rw [hV]; rfl
  have hVs : V.size = 4 := by rw [hV]; rfl
  rw [← hV]
  have HV2 : Hid (V[2]? = some (.string E.t)) := hV2
  have HR : Hid (R = Mt.allFrom E.c E.t policy mask room budget (E.t.size + 2) 0 0 []) := hR
  clear hV hV2 hR hq hnq h hT hK har hEv
  generalize E.t = text at *
  generalize E.c = C at *
  clear E A
  obtain ⟨w1, hw1⟩ : ∃ w1, w1 = w.alloc (.cells V 72) := ⟨_, rfl⟩
  have T1 : Hid (w1.heap[w.heap.size]? = some (.cells V 72 (0, 0))) := by rw [hw1]; exact heap_b1 _ _
  have HB1 : Hid (Below w.heap.size w w1) := by rw [hw1]; exact (Below.refl _ _).alloc (Nat.le_refl _) _
  have HZ1 : Hid (w1.heap.size = w.heap.size + 1) := by rw [hw1]; show _ = _; simp
  go_enter Try.func41, Try.ntmps41
  go_upto_region 1 with fail
  show Code.wp _ _ _ _ (w.alloc (.cells V 72))
  rw [← hw1]
  clear hw1
  generalize hn : w.heap.size = n at *
  go_wp2_with fail
  obtain ⟨i0, hi, hz0, hz1, hz2⟩ := info_parts Try.infoFp
  have HIF : Hid (Try.prog.info? 31 = some i0 ∧ i0.zero = some (.agg (fpA Mt.fnd0)) ∧ i0.size = 22 ∧ i0.bytes = 176) := ⟨hi, hz0, hz1, hz2⟩
  clear hi hz0 hz1 hz2
  go_loopw [7, 8, 9] (fun v u i wr => AllAt w1 C text policy mask room budget R v u i wr) (fun _ _ i _ => text.size + 2 - (intOf i).toNat)
  case atStart => exact ⟨text.size + 2, 0, 0, [], rfl, rfl, by omega, by omega, by simp, ⟨by omega, hb.1⟩, own_fps_empty (heap_b1 _ _) (Nat.le_refl _), (Below.refl _ _).alloc (Nat.le_refl _) _, HR.out⟩
  case round =>
    clear HR
    obtain ⟨F, frm, used, l, rfl, rfl, hfr, hF, hll, hus, hown, hbr, hRa⟩ := hrel
    have HOW : Hid (ownFps wr w1.heap.size u7 l) := hown
    have HBR : Hid (Below w1.heap.size w1 wr) := hbr
    have HRA : Hid (R = Mt.allFrom C text policy mask room budget F frm used l) := hRa
    have TR : Hid (wr.heap[n]? = some (.cells V 72 (0, 0))) := blkHold T1.out hbr (by have := HZ1.out; omega)
    have c2 : wr.cell? ⟨n, 2, none⟩ = some (.string text) := ((cell_block TR.out).1 2).trans HV2.out
    have ln : n < wr.heap.size := (Array.getElem?_eq_some_iff.1 TR.out).1
    have HBW : Hid (Below n w wr) := HB1.out.trans (hbr.mono (by have := HZ1.out; omega))
    have hus0 := hus.1
    have hus1 := hus.2
    have hb0 := hb.1
    have hb1 := hb.2
    clear hown hbr hRa hus
    obtain ⟨F, rfl⟩ : ∃ F', F = F' + 1 := ⟨F - 1, by omega⟩
    by_cases hlt : text.size < frm
    · have HRR : Hid (R = (l, used, 0)) := by show _ = _; rw [HRA.out, Mt.allFrom, if_pos hlt]
      have d1 : decide ((frm : Int) ≤ (text.size : Int)) = false := by rw [decide_eq_false_iff_not]; omega
      have d2 : decide (frm ≤ text.size) = false := by rw [decide_eq_false_iff_not]; omega
      clear HRA hlt
      go_wp2_with fail
      go_ret3
      rw [HRR.out]
      exact ⟨_, rfl, owns_base HOW.out (by have := HZ1.out; omega), by first | exact HBW.out | (rw [hn]; exact HBW.out)⟩
    · have hfT : frm ≤ text.size := by omega
      have d1 : decide ((frm : Int) ≤ (text.size : Int)) = true := by rw [decide_eq_true_eq]; omega
      have d2 : decide (frm ≤ text.size) = true := by rw [decide_eq_true_eq]; omega
      have hRR := HRA.out
      rw [Mt.allFrom, if_neg hlt] at hRR
      have hS4 := HLn.out (budget - used) frm hfT
      have hS5 := HIn.out (budget - used) frm (by omega) hfT
      have hS6 := KS.out (budget - used) frm wr (by omega) (by omega) hfT HBW.out
      generalize Mt.searchAll C text policy mask room (budget - used) frm = S at *
      have HRR : Hid (R = _) := hRR
      have HL : Hid (S.1.at'.length = 20) := hS4
      have HI : Hid (S.2 = false → (0 ≤ S.1.steps ∧ S.1.steps ≤ budget - used) ∧ (S.1.ok = true → ∃ x y : Nat, S.1.at'.getD 0 0 = (x : Int) ∧ S.1.at'.getD 1 0 = (y : Int) ∧ frm ≤ x ∧ x ≤ y ∧ y ≤ text.size)) := hS5
      have HS6 : Hid (Calls Try.prog 31 #[.agg V, .int .i64 (frm : Int), .int .i64 (budget - used)] wr fun e w' => e = .returned (.tuple #[.agg (fpA S.1), .int .i64 (errOf S.2)]) ∧ Below wr.heap.size wr w') := hS6
      have zs := fpA_size S.1 hS4
      have za := fpA_all S.1
      clear hRR hS4 hS5 hS6 HRA hlt
      go_wp2_with (refine load_blk 72 4 Try.underlying72 rfl Try.sizeTk (by rfl) (.tmp 2) (by rfl) n (by rfl) TR.out hVs ?_)
      refine HS6.out.mono ?_
      rintro e w3 ⟨rfl, hb3⟩
      have HB3 : Hid (Below wr.heap.size wr w3) := hb3
      clear hb3 c2 HS6
      go_upto_region 6 with (refine store_blk 31 22 Try.sizeFd (by rfl) (.tmp 10) (.tmp 25) (by rfl) w3.heap.size (fpA S.1) (by rfl) (by rfl) (by exact heap_b1 _ _) (by rfl) zs za ?_; intro w4 r1 r2 r3 r4)
      have B4 : Below wr.heap.size wr w4 := HB3.out.trans ((((Below.refl _ _).alloc (Nat.le_refl _) _).trans (r4 _ (Nat.le_refl _))).mono HB3.out.size)
      have HB4 : Hid (Below wr.heap.size wr w4) := B4
      have V4 : Hid (w4.heap[w3.heap.size]? = some (.cells (fpA S.1) 31 (0, 0))) := r1
      have d0 : w4.cell? ⟨w3.heap.size, 0, none⟩ = some (.bool S.1.ok) := ((cell_block r1).1 _).trans (fpA_ok _)
      have d21 : w4.cell? ⟨w3.heap.size, 21, none⟩ = some (.int .i64 S.1.steps) := ((cell_block r1).1 _).trans (fpA_steps _ HL.out)
      have l4 : w3.heap.size < w4.heap.size := (Array.getElem?_eq_some_iff.1 r1).1
      have HS34 : Hid (wr.heap.size ≤ w3.heap.size) := HB3.out.size
      clear r1 r2 r3 r4 B4 HB3
      generalize hm3 : w3.heap.size = m at *
      have hcs : (S.2 = true) ∨ (S.2 = false ∧ S.1.ok = false) ∨ (S.2 = false ∧ S.1.ok = true) := by cases S.2 <;> cases S.1.ok <;> simp
      rcases hcs with ov | ⟨ov, ok⟩ | ⟨ov, ok⟩
      · have HRH : Hid (R = ([], 0, 14)) := by show _ = _; rw [HRR.out, ov]; rfl
        have HB5 : Hid (Below n w w4) := HBW.out.trans (HB4.out.mono (by omega))
        have he : (errOf S.2 != 0) = true := by rw [ov]; rfl
        have he2 : errOf S.2 = 14 := by rw [ov]; rfl
        rw [he2] at *
        clear HRR d0 d21
        go_wp2_with fail
        go_ret3
        rw [HRH.out]
        exact ⟨_, rfl, World.ownsRow_nil _ _ _ _, by first | exact HB5.out | (rw [hn]; exact HB5.out)⟩
      · have HRH : Hid (R = (l, used + S.1.steps, 0)) := by show _ = _; rw [HRR.out, ov, ok]; rfl
        have hst := (HI.out ov).1
        have hst0 := hst.1
        have hst1 := hst.2
        have he2 : errOf S.2 = 0 := by rw [ov]; rfl
        rw [he2] at *
        rw [ok] at d0
        have HB5 : Hid (Below n w w4) := HBW.out.trans (HB4.out.mono (by omega))
        have O5 : Hid (ownFps w4 w1.heap.size u7 l) := owns_below HOW.out HB4.out
        clear HRR hst
        generalize S.1.steps = st at *
        go_wp2_with fail
        go_ret3
        rw [HRH.out]
        exact ⟨_, rfl, owns_base O5.out (by have := HZ1.out; omega), by first | exact HB5.out | (rw [hn]; exact HB5.out)⟩
      · have HRH : Hid (R = Mt.allFrom C text policy mask room budget F (Mt.nextFrom S.1) (used + S.1.steps) (l ++ [S.1])) := by show _ = _; rw [HRR.out, ov, ok]; rfl
        have hst := HI.out ov
        have hst0 := hst.1.1
        have hst1 := hst.1.2
        obtain ⟨x, y, hx, hy, hxf, hxy, hyT⟩ := hst.2 ok
        have HNX : Hid (Mt.nextFrom S.1 ≤ text.size + 1 ∧ frm + 1 ≤ Mt.nextFrom S.1 ∧ frm ≤ Mt.nextFrom S.1) := by
          show _ ∧ _
          unfold Mt.nextFrom; rw [hx, hy]
          split
          · exact ⟨by omega, by omega, by omega⟩
          · exact ⟨by omega, by omega, by omega⟩
        have KN : Hid (∀ z : World, Calls Try.prog 54 #[.agg (fpA S.1)] z fun e w' => e = .returned (.int .i64 (Mt.nextFrom S.1 : Nat)) ∧ Below z.heap.size z w') := fun z => nextFrom_any S.1 x y HL.out hx hy (by omega) z
        have he2 : errOf S.2 = 0 := by rw [ov]; rfl
        rw [he2] at *
        rw [ok] at d0
        have O5 : Hid (w4.ownsRow w1.heap.size 31 22 u7 l.length (l.flatMap fpL)) := owns_below HOW.out HB4.out
        have hown7 : ∀ k, u7.ownBlock = some k → w1.heap.size ≤ k ∧ k < wr.heap.size := fun k hk => World.ownsRow.lt HOW.out k hk
        have HO7 : Hid (∀ k, u7.ownBlock = some k → w1.heap.size ≤ k ∧ k < wr.heap.size) := hown7
        have HFL : Hid ((fpL S.1).length = 1 * 22) := by show _ = _; rw [fpL_len _ HL.out]
        have hw4 : w1.heap.size ≤ w4.heap.size := by have := HBR.out.size; have := HB4.out.size; omega
        clear HRR hst hx hy hown7
        generalize hst' : S.1.steps = st at *
        generalize hnf : Mt.nextFrom S.1 = nf at *
        go_wp2_with (first | (refine load_blk 31 22 Try.underlying31 rfl Try.sizeFd (by rfl) (.tmp 10) (by rfl) m (by rfl) V4.out zs ?_) | (refine wpList_build_fp (by rfl) (.tmp 38) (by rfl) S.1 HL.out (by rfl) ?_) | (at_builtin; refine wpList_append_lies _ rfl _ _ 60 rfl w1.heap.size 31 i0 _ 22 176 Try.underlying60 HIF.out.1 HIF.out.2.1 HIF.out.2.2.1 HIF.out.2.2.2 rfl (by decide) _ l.length _ rfl (World.ownsRow.alloc O5.out _) ⟨w4.heap.size, 0, none⟩ 1 1 (fpL S.1) rfl HFL.out (news_cells _ _ _) (fpL_one _) (by decide) (by unfold maxLen; omega) (by omega) (by simp; omega) (w4.heap.size + 1) (by simp) ?_))
        intro q' cap' w5 hown5 hgrow hqq hqlt
        have O6 : Hid (ownFps w5 w1.heap.size (.slice (some ⟨q', 0, none⟩) (l.length + 1) cap') (l ++ [S.1])) := own_fps_snoc hown5
        have B5 : Hid (Below w1.heap.size w1 w5) := ((HBR.out.trans (HB4.out.mono HBR.out.size)).alloc (by omega) _).grown hgrow (by simp; omega) (fun k hk => (HO7.out k hk).1)
        have V5 : Hid (w5.heap[m]? = some (.cells (fpA S.1) 31 (0, 0))) := by
          have hm4 : m < w4.heap.size := l4
          have e1 : (w4.alloc (.cells (fpL S.1).toArray 31)).heap[m]? = some (.cells (fpA S.1) 31 (0, 0)) := (heap_old _ _ _ hm4).trans V4.out
          have := hgrow.block m (by simp; omega) (fun e => by have := (HO7.out m e.symm).2; have := HS34.out; omega)
          exact this.trans e1
        clear hown5 hgrow hqq hqlt d0 d21 l4
        go_wp2_with (refine load_blk 31 22 Try.underlying31 rfl Try.sizeFd (by rfl) (.tmp 10) (by rfl) m (by rfl) V5.out zs ?_)
        refine (KN.out _).mono ?_
        rintro e w6 ⟨rfl, hb6⟩
        have O7 : Hid (ownFps w6 w1.heap.size (.slice (some ⟨q', 0, none⟩) (l.length + 1) cap') (l ++ [S.1])) := owns_below O6.out hb6
        have B6 : Hid (Below w1.heap.size w1 w6) := B5.out.trans (hb6.mono B5.out.size)
        clear hb6
        obtain ⟨n1, n2, n3⟩ := HNX.out
        go_wp2_with fail
        go_roundw
        case rel => exact ⟨F, nf, used + st, l ++ [S.1], rfl, rfl, by omega, by omega, by rw [List.length_append]; simp; omega, ⟨by omega, by omega⟩, O7.out, B6.out, HRH.out⟩
        case measure => simp [intOf]; omega
end Go.Proofs.Ytebpgfodelggoab
/- matcherkeep: chain. (Plain seats alone.) -/
set_option linter.unusedVariables false
set_option linter.unusedSimpArgs false
namespace Go.Proofs.Ytebpgfodelggoab
open Go.RowKit

/-- What stands at the head of a round of chain. -/
def ChainAt (w1 : World) (c : List Mt.Ins) (text : ByteArray) (policy mask room : Int) (R : List Mt.Fnd × Int × Bool) (v u f i : Value) (wr : World) : Prop :=
  ∃ (F frm k : Nat) (used : Int) (l : List Mt.Fnd), i = .int .i64 k ∧ f = .int .i64 frm ∧ u = .int .i64 used ∧ k ≤ frm ∧ frm ≤ text.size + 1 ∧ text.size + 2 ≤ frm + F ∧ l.length ≤ frm ∧ (0 ≤ used ∧ used ≤ 10000 * frm) ∧ (∀ g ∈ l, g.at'.length = 20) ∧ ownFps wr w1.heap.size v l ∧ Below w1.heap.size w1 wr
    ∧ R = Mt.chainR c text policy mask room F frm used l
/-- What chain answers. -/
def ChainOk (T : Nat) (R : List Mt.Fnd × Int × Bool) : Prop := (∀ g ∈ R.1, g.at'.length = 20) ∧ R.1.length ≤ T + 1 ∧ 0 ≤ R.2.1 ∧ R.2.1 ≤ 1000000

set_option maxRecDepth 100000 in
set_option maxHeartbeats 16000000 in
theorem chain_any (p text : ByteArray) (P M Ro : Int) (hm : p.size ≤ maxLen) (ht60 : text.size ≤ 60) (h0 : (Mt.checkR p).1 = 0) (ho : Mt.Opt P M Ro 10000) (R : List Mt.Fnd × Int × Bool) (hR : R = Mt.chainR (Mt.codeR p).1 text P M Ro (text.size + 2) 0 0 []) (V : Array Value) (hV : V = #[.int .i64 P, .int .i64 M, .int .i64 Ro, .int .i64 10000]) (w : World) :
    Calls Try.prog 27 #[.string p, .string text, .agg V] w fun e w' => ∃ v, e = .returned (.tuple #[v, .int .i64 R.2.1, .bool R.2.2]) ∧ ownFps w' w.heap.size v R.1 ∧ ChainOk text.size R ∧ Below w.heap.size w w' := by
  obtain ⟨A, hK⟩ := Mt.pattern_known p h0
  have hr : 0 ≤ Ro ∧ Ro ≤ 5000 := by have := ho.2.2.1; omega
  have KF : Hid (∀ (frm : Nat) (z : World), frm ≤ text.size → Calls Try.prog 11 #[.string p, .string text, .int .i64 (frm : Int), .agg V] z fun e w' => e = .returned (.tuple #[.agg (fpA (if (Mt.searchAll (Mt.codeR p).1 text P M Ro 10000 frm).2 then Mt.fnd0 else (Mt.searchAll (Mt.codeR p).1 text P M Ro 10000 frm).1)), .int .i64 (if (Mt.searchAll (Mt.codeR p).1 text P M Ro 10000 frm).2 then 14 else 0)]) ∧ Below z.heap.size z w') := fun frm z hf => by
    have := Find_any p text frm P M Ro 10000 z hm (by unfold maxLen; omega)
    rw [Mt.findR_ok p text frm P M Ro 10000 h0 ht60 hf ho] at this
    rw [hV]
    cases e : (Mt.searchAll (Mt.codeR p).1 text P M Ro 10000 frm).2
    · rw [e] at this; exact this
    · rw [e] at this; exact this
  have HIn : Hid (∀ (frm : Nat), frm ≤ text.size → (Mt.searchAll (Mt.codeR p).1 text P M Ro 10000 frm).2 = false → Mt.Inside text.size frm (Mt.searchAll (Mt.codeR p).1 text P M Ro 10000 frm).1) := fun frm hf he => Mt.searchAll_inside hK.ok hK.pos text P M Ro 10000 frm hf hr (by omega) he
  have KI : Hid (∀ (frm : Nat) (f : Mt.Fnd) (z : World), frm ≤ text.size → Mt.Inside text.size frm f → Calls Try.prog 22 #[.agg (fpA f), .int .i64 (frm : Int), .int .i64 (text.size : Int)] z fun e w' => e = .returned (.bool true) ∧ Below z.heap.size z w') := fun frm f z hf h => inside_true f text.size frm h ht60 hf z
  have KZ : Hid (∀ (frm : Nat) (z : World), Calls Try.prog 22 #[.agg (fpA Mt.fnd0), .int .i64 (frm : Int), .int .i64 (text.size : Int)] z fun e w' => e = .returned (.bool false) ∧ Below z.heap.size z w') := fun frm z => inside_zero text.size frm z
  have hVs : V.size = 4 := by rw [hV]; rfl
  have HR : Hid (R = Mt.chainR (Mt.codeR p).1 text P M Ro (text.size + 2) 0 0 []) := hR
  have s0 := fpA_size Mt.fnd0 rfl
  have a0 := fpA_all Mt.fnd0
  clear hV hR h0 ho hK hm hr A
  generalize (Mt.codeR p).1 = C at *
  obtain ⟨i0, hi, hz0, hz1, hz2⟩ := info_parts Try.infoFp
  have HIF : Hid (Try.prog.info? 31 = some i0 ∧ i0.zero = some (.agg (fpA Mt.fnd0)) ∧ i0.size = 22 ∧ i0.bytes = 176) := ⟨hi, hz0, hz1, hz2⟩
  clear hi hz0 hz1 hz2
  obtain ⟨w1, hw1⟩ : ∃ w1, w1 = w.alloc (.cells V 23) := ⟨_, rfl⟩
  have T1 : Hid (w1.heap[w.heap.size]? = some (.cells V 23 (0, 0))) := by rw [hw1]; exact heap_b1 _ _
  have HB1 : Hid (Below w.heap.size w w1) := by rw [hw1]; exact (Below.refl _ _).alloc (Nat.le_refl _) _
  have HZ1 : Hid (w1.heap.size = w.heap.size + 1) := by rw [hw1]; show _ = _; simp
  go_enter Try.func27, Try.ntmps27
  go_upto_region 1 with fail
  show Code.wp _ _ _ _ (w.alloc (.cells V 23))
  rw [← hw1]
  clear hw1
  generalize hn : w.heap.size = n at *
  go_wp2_with fail
  go_loopw [9, 10, 11, 12] (fun v u f i wr => ChainAt w1 C text P M Ro R v u f i wr) (fun _ _ f _ _ => text.size + 2 - (intOf f).toNat)
  case atStart => exact ⟨text.size + 2, 0, 0, 0, [], rfl, rfl, rfl, by omega, by omega, by omega, by simp, ⟨by omega, by omega⟩, fun g hg => by simp at hg, World.ownsRow_nil _ _ _ _, Below.refl _ _, HR.out⟩
  case round =>
    clear HR
    obtain ⟨F, frm, k, used, l, rfl, rfl, rfl, hkf, hfr, hF, hll, hus, hl20, hown, hbr, hRa⟩ := hrel
    have HOW : Hid (ownFps wr w1.heap.size u9 l) := hown
    have HBR : Hid (Below w1.heap.size w1 wr) := hbr
    have HRA : Hid (R = Mt.chainR C text P M Ro F frm used l) := hRa
    have HL20 : Hid (∀ g ∈ l, g.at'.length = 20) := hl20
    have TR : Hid (wr.heap[n]? = some (.cells V 23 (0, 0))) := blkHold T1.out hbr (by have := HZ1.out; omega)
    have ln : n < wr.heap.size := (Array.getElem?_eq_some_iff.1 TR.out).1
    have HBW : Hid (Below n w wr) := HB1.out.trans (hbr.mono (by have := HZ1.out; omega))
    have hus0 := hus.1
    have hus1 : used ≤ 610000 := by have := hus.2; omega
    have HUS : Hid (used ≤ 10000 * frm) := hus.2
    clear hown hbr hRa hus hl20
    obtain ⟨F, rfl⟩ : ∃ F', F = F' + 1 := ⟨F - 1, by omega⟩
    by_cases hlt : text.size < frm
    · have HRR : Hid (R = (l, used, true)) := by show _ = _; rw [HRA.out, Mt.chainR, if_pos hlt]
      have d1 : decide ((frm : Int) ≤ (text.size : Int)) = false := by rw [decide_eq_false_iff_not]; omega
      have d2 : decide (frm ≤ text.size) = false := by rw [decide_eq_false_iff_not]; omega
      have HOK : Hid (ChainOk text.size R) := by show ChainOk _ _; rw [HRR.out]; exact ⟨HL20.out, by show l.length ≤ _; omega, hus0, by show used ≤ _; omega⟩
      clear HRA hlt
      by_cases hkT : k ≤ text.size
      · have d3 : decide ((k : Int) ≤ (text.size : Int)) = true := by rw [decide_eq_true_eq]; omega
        have d4 : decide (k ≤ text.size) = true := by rw [decide_eq_true_eq]; omega
        go_wp2_with fail
        go_ret3
        refine ⟨_, by rw [HRR.out]; rfl, by rw [HRR.out]; exact owns_base HOW.out (by have := HZ1.out; omega), HOK.out, by first | exact HBW.out | (rw [hn]; exact HBW.out)⟩
      · have d3 : decide ((k : Int) ≤ (text.size : Int)) = false := by rw [decide_eq_false_iff_not]; omega
        have d4 : decide (k ≤ text.size) = false := by rw [decide_eq_false_iff_not]; omega
        go_wp2_with fail
        go_ret3
        refine ⟨_, by rw [HRR.out]; rfl, by rw [HRR.out]; exact owns_base HOW.out (by have := HZ1.out; omega), HOK.out, by first | exact HBW.out | (rw [hn]; exact HBW.out)⟩
    · have hfT : frm ≤ text.size := by omega
      have d1 : decide ((frm : Int) ≤ (text.size : Int)) = true := by rw [decide_eq_true_eq]; omega
      have d2 : decide (frm ≤ text.size) = true := by rw [decide_eq_true_eq]; omega
      have d3 : decide ((k : Int) ≤ (text.size : Int)) = true := by rw [decide_eq_true_eq]; omega
      have d4 : decide (k ≤ text.size) = true := by rw [decide_eq_true_eq]; omega
      have hRR := HRA.out
      rw [Mt.chainR, if_neg hlt] at hRR
      have hS5 := HIn.out frm hfT
      have hS6 := fun z => KF.out frm z hfT
      generalize Mt.searchAll C text P M Ro 10000 frm = S at *
      have HRR : Hid (R = _) := hRR
      have HI : Hid (S.2 = false → Mt.Inside text.size frm S.1) := hS5
      clear hRR hS5 HRA hlt
      cases ov : S.2
      · have hin := HI.out ov
        have HLn : Hid (S.1.at'.length = 20) := hin.len
        rw [ov] at hS6
        have HS6 : Hid (∀ z : World, Calls Try.prog 11 #[.string p, .string text, .int .i64 (frm : Int), .agg V] z fun e w' => e = .returned (.tuple #[.agg (fpA S.1), .int .i64 0]) ∧ Below z.heap.size z w') := hS6
        have KI2 : Hid (∀ z : World, Calls Try.prog 22 #[.agg (fpA S.1), .int .i64 (frm : Int), .int .i64 (text.size : Int)] z fun e w' => e = .returned (.bool true) ∧ Below z.heap.size z w') := fun z => KI.out frm S.1 z hfT hin
        have zs := fpA_size S.1 HLn.out
        have za := fpA_all S.1
        clear hS6
        go_wp2_with (refine load_blk 23 4 Try.underlying23 rfl Try.sizeOp4 (by rfl) (.tmp 5) (by rfl) n (by rfl) TR.out hVs ?_)
        refine (HS6.out _).mono ?_
        rintro e w3 ⟨rfl, hb3⟩
        have HB3 : Hid (Below wr.heap.size wr w3) := hb3
        clear hb3
        go_upto_region 8 with (refine store_blk 31 22 Try.sizeFd (by rfl) (.tmp 13) (.tmp 34) (by rfl) w3.heap.size (fpA S.1) (by rfl) (by rfl) (by exact heap_b1 _ _) (by rfl) zs za ?_; intro w4 r1 r2 r3 r4)
        have B4 : Below wr.heap.size wr w4 := HB3.out.trans ((((Below.refl _ _).alloc (Nat.le_refl _) _).trans (r4 _ (Nat.le_refl _))).mono HB3.out.size)
        have HB4 : Hid (Below wr.heap.size wr w4) := B4
        have V4 : Hid (w4.heap[w3.heap.size]? = some (.cells (fpA S.1) 31 (0, 0))) := r1
        have HS34 : Hid (wr.heap.size ≤ w3.heap.size) := HB3.out.size
        clear r1 r2 r3 r4 B4 HB3
        generalize hm3 : w3.heap.size = m at *
        go_wp2_with (refine load_blk 31 22 Try.underlying31 rfl Try.sizeFd (by rfl) (.tmp 13) (by rfl) m (by rfl) V4.out zs ?_)
        refine (KI2.out _).mono ?_
        rintro e w5 ⟨rfl, hb5⟩
        have V5 : Hid (w5.heap[m]? = some (.cells (fpA S.1) 31 (0, 0))) := (hb5.block m (Array.getElem?_eq_some_iff.1 V4.out).1).trans V4.out
        have HB5 : Hid (Below wr.heap.size wr w5) := HB4.out.trans (hb5.mono HB4.out.size)
        have e0 : w5.cell? ⟨m, 0, none⟩ = some (.bool S.1.ok) := ((cell_block V5.out).1 _).trans (fpA_ok _)
        have e21 : w5.cell? ⟨m, 21, none⟩ = some (.int .i64 S.1.steps) := ((cell_block V5.out).1 _).trans (fpA_steps _ HLn.out)
        have e1 : w5.cell? ⟨m, 1, none⟩ = some (.int .i64 (S.1.at'.getD 0 0)) := ((cell_block V5.out).1 _).trans (fpA_get _ HLn.out 0 (by omega))
        have e2 : w5.cell? ⟨m, 2, none⟩ = some (.int .i64 (S.1.at'.getD 1 0)) := ((cell_block V5.out).1 _).trans (fpA_get _ HLn.out 1 (by omega))
        have l5 : m < w5.heap.size := (Array.getElem?_eq_some_iff.1 V5.out).1
        clear hb5 V4 HB4
        have hst0 := hin.steps1
        have hst1 := hin.steps2
        cases ok : S.1.ok
        · have HRH : Hid (R = (l, used + S.1.steps, true)) := by show _ = _; rw [HRR.out, ov, ok]; rfl
          rw [ok] at e0
          have HB6 : Hid (Below n w w5) := HBW.out.trans (HB5.out.mono (by omega))
          have O5 : Hid (ownFps w5 w1.heap.size u9 l) := owns_below HOW.out HB5.out
          have HOK : Hid (ChainOk text.size R) := by show ChainOk _ _; rw [HRH.out]; exact ⟨HL20.out, by show l.length ≤ _; omega, by show 0 ≤ used + S.1.steps; omega, by show used + S.1.steps ≤ _; omega⟩
          clear HRR hin e1 e2
          generalize S.1.steps = st at *
          go_wp2_with fail
          go_ret3
          exact ⟨_, by rw [HRH.out]; rfl, by rw [HRH.out]; exact owns_base O5.out (by have := HZ1.out; omega), HOK.out, by first | exact HB6.out | (rw [hn]; exact HB6.out)⟩
        · have HRH : Hid (R = Mt.chainR C text P M Ro F (Mt.nextFrom S.1) (used + S.1.steps) (l ++ [S.1])) := by show _ = _; rw [HRR.out, ov, ok]; rfl
          rw [ok] at e0
          obtain ⟨y1, y2⟩ := hin.yes ok
          obtain ⟨x, y, hx, hy, hxf, hxy, hyT⟩ : ∃ x y : Nat, S.1.at'.getD 0 0 = (x : Int) ∧ S.1.at'.getD 1 0 = (y : Int) ∧ frm ≤ x ∧ x ≤ y ∧ y ≤ text.size := by
            rcases hin.place 0 (by omega) with ⟨q1, _⟩ | ⟨_, q1, q2, q3⟩
            · have q1 : S.1.at'.getD 0 0 = -1 := q1
              omega
            · have q1 : 0 ≤ S.1.at'.getD 0 0 := q1
              have q2 : S.1.at'.getD 0 0 ≤ S.1.at'.getD 1 0 := q2
              have q3 : S.1.at'.getD 1 0 ≤ (text.size : Int) := q3
              exact ⟨(S.1.at'.getD 0 0).toNat, (S.1.at'.getD 1 0).toNat, by omega, by omega, by omega, by omega, by omega⟩
          rw [hx] at e1
          rw [hy] at e2
          have hN : Mt.nextFrom S.1 = if x = y then y + 1 else y := by
            unfold Mt.nextFrom
            rw [hx, hy]
            by_cases e : x = y
            · rw [if_pos (by omega), if_pos e]; simp
            · rw [if_neg (by omega), if_neg e]; simp
          rw [hN] at HRH
          have O5 : Hid (w5.ownsRow w1.heap.size 31 22 u9 l.length (l.flatMap fpL)) := owns_below HOW.out HB5.out
          have HO7 : Hid (∀ k, u9.ownBlock = some k → w1.heap.size ≤ k ∧ k < wr.heap.size) := fun k hk => World.ownsRow.lt HOW.out k hk
          have HFL : Hid ((fpL S.1).length = 1 * 22) := by show _ = _; rw [fpL_len _ HLn.out]
          have hw5 : w1.heap.size ≤ w5.heap.size := by have := HBR.out.size; have := HB5.out.size; omega
          have HLN : Hid (∀ g ∈ l ++ [S.1], g.at'.length = 20) := fun g hg => by
            rcases List.mem_append.1 hg with hg | hg
            · exact HL20.out g hg
            · rw [List.mem_singleton.1 hg]; exact HLn.out
          clear HRR hin hx hy hN y1 y2
          generalize hst' : S.1.steps = st at *
          go_wp2_with (first | (refine load_blk 31 22 Try.underlying31 rfl Try.sizeFd (by rfl) (.tmp 13) (by rfl) m (by rfl) V5.out zs ?_) | (refine wpList_build_fp (by rfl) (.tmp 59) (by rfl) S.1 HLn.out (by rfl) ?_) | (at_builtin; refine wpList_append_lies _ rfl _ _ 60 rfl w1.heap.size 31 i0 _ 22 176 Try.underlying60 HIF.out.1 HIF.out.2.1 HIF.out.2.2.1 HIF.out.2.2.2 rfl (by decide) _ l.length _ rfl (World.ownsRow.alloc O5.out _) ⟨w5.heap.size, 0, none⟩ 1 1 (fpL S.1) rfl HFL.out (news_cells _ _ _) (fpL_one _) (by decide) (by unfold maxLen; omega) (by omega) (by simp; omega) (w5.heap.size + 1) (by simp) ?_))
          intro q' cap' w6 hown6 hgrow hqq hqlt
          have O6 : Hid (ownFps w6 w1.heap.size (.slice (some ⟨q', 0, none⟩) (l.length + 1) cap') (l ++ [S.1])) := own_fps_snoc hown6
          have B6 : Hid (Below w1.heap.size w1 w6) := ((HBR.out.trans (HB5.out.mono HBR.out.size)).alloc (by omega) _).grown hgrow (by simp; omega) (fun k hk => (HO7.out k hk).1)
          have hcell : ∀ j, w6.cell? ⟨m, j, none⟩ = w5.cell? ⟨m, j, none⟩ := fun j => by
            have q1 : w6.heap[m]? = w5.heap[m]? := (hgrow.block m (by simp; omega) (fun e => by have := (HO7.out m e.symm).2; have := HS34.out; omega)).trans (heap_old _ _ _ l5)
            exact cellAt' ⟨m, j, none⟩ q1
          have g1 := (hcell 1).trans e1
          have g2 := (hcell 2).trans e2
          have l6 : m < w6.heap.size := by have := hgrow.size; simp at this; omega
          clear hown6 hgrow hqq hqlt e0 e1 e2 e21 hcell
          by_cases exy : x = y
          · have m1 : ((x : Int) == (y : Int)) = true := by rw [exy]; simp
            rw [if_pos exy] at HRH
            have hxy2 := exy
            have HXY : Hid (x = y) := exy
            clear exy hxy2
            go_wp2_with fail
            go_roundw
            case rel => exact ⟨F, y + 1, k + 1, used + st, l ++ [S.1], by go_num, by go_num, rfl, by have := HXY.out; omega, by omega, by have := HXY.out; omega, by rw [List.length_append]; have := HXY.out; simp; omega, ⟨by omega, by have := HUS.out; have := HXY.out; omega⟩, HLN.out, O6.out, B6.out, HRH.out⟩
            case measure => have := HXY.out; simp [intOf]; omega
          · have m1 : ((x : Int) == (y : Int)) = false := by rw [beq_eq_false_iff_ne]; omega
            rw [if_neg exy] at HRH
            have HXY : Hid (x < y) := by show _ < _; omega
            clear exy
            go_wp2_with fail
            go_roundw
            case rel => exact ⟨F, y, k + 1, used + st, l ++ [S.1], by go_num, rfl, rfl, by have := HXY.out; omega, by omega, by have := HXY.out; omega, by rw [List.length_append]; have := HXY.out; simp; omega, ⟨by omega, by have := HUS.out; have := HXY.out; omega⟩, HLN.out, O6.out, B6.out, HRH.out⟩
            case measure => have := HXY.out; simp [intOf]; omega
      · have HRH : Hid (R = (l, used, false)) := by show _ = _; rw [HRR.out, ov]; rfl
        rw [ov] at hS6
        have HS6 : Hid (∀ z : World, Calls Try.prog 11 #[.string p, .string text, .int .i64 (frm : Int), .agg V] z fun e w' => e = .returned (.tuple #[.agg (fpA Mt.fnd0), .int .i64 14]) ∧ Below z.heap.size z w') := hS6
        have HOK : Hid (ChainOk text.size R) := by show ChainOk _ _; rw [HRH.out]; exact ⟨HL20.out, by show l.length ≤ _; omega, hus0, by show used ≤ _; omega⟩
        clear hS6 HRR HI
        go_wp2_with (refine load_blk 23 4 Try.underlying23 rfl Try.sizeOp4 (by rfl) (.tmp 5) (by rfl) n (by rfl) TR.out hVs ?_)
        refine (HS6.out _).mono ?_
        rintro e w3 ⟨rfl, hb3⟩
        have HB3 : Hid (Below wr.heap.size wr w3) := hb3
        clear hb3
        go_upto_region 8 with (refine store_blk 31 22 Try.sizeFd (by rfl) (.tmp 13) (.tmp 34) (by rfl) w3.heap.size (fpA Mt.fnd0) (by rfl) (by rfl) (by exact heap_b1 _ _) (by rfl) s0 a0 ?_; intro w4 r1 r2 r3 r4)
        have B4 : Below wr.heap.size wr w4 := HB3.out.trans ((((Below.refl _ _).alloc (Nat.le_refl _) _).trans (r4 _ (Nat.le_refl _))).mono HB3.out.size)
        have HB4 : Hid (Below wr.heap.size wr w4) := B4
        have V4 : Hid (w4.heap[w3.heap.size]? = some (.cells (fpA Mt.fnd0) 31 (0, 0))) := r1
        clear r1 r2 r3 r4 B4 HB3
        generalize hm3 : w3.heap.size = m at *
        go_wp2_with (refine load_blk 31 22 Try.underlying31 rfl Try.sizeFd (by rfl) (.tmp 13) (by rfl) m (by rfl) V4.out s0 ?_)
        refine (KZ.out frm _).mono ?_
        rintro e w5 ⟨rfl, hb5⟩
        have HB5 : Hid (Below wr.heap.size wr w5) := HB4.out.trans (hb5.mono HB4.out.size)
        have HB6 : Hid (Below n w w5) := HBW.out.trans (HB5.out.mono (by omega))
        have O5 : Hid (ownFps w5 w1.heap.size u9 l) := owns_below HOW.out HB5.out
        clear hb5
        go_wp2_with fail
        go_ret3
        exact ⟨_, by rw [HRH.out]; rfl, by rw [HRH.out]; exact owns_base O5.out (by have := HZ1.out; omega), HOK.out, by first | exact HB6.out | (rw [hn]; exact HB6.out)⟩
end Go.Proofs.Ytebpgfodelggoab
