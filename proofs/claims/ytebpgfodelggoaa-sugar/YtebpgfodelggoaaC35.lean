import Derived.Test.YtebpgfodelggoaaC34
set_option linter.unusedVariables false
set_option linter.unusedSimpArgs false
namespace Go.Proofs.Ytebpgfodelggoaa
open Go.RowKit

def restLen (r : Option Mt.Fs) : Nat := match r with
  | none => 0
  | some g => 2 + g.re.len
theorem re_rest (f : Mt.Fs) : f.re.len = f.both.1.len + restLen f.rs := Mt.re_len f
theorem lim_alt (S X R T : Nat) (h : Mt.lim (S + (2 + (X + R))) = T) : Mt.lim (Mt.lim (S + 2 + Mt.lim X) + R) = T := by unfold Mt.lim at *; omega
/-- The alternatives that are still to come. -/
def standsR (b : Mt.PB) (r : Option Mt.Fs) (a : Int) : Prop := match r with
  | none => a = -1
  | some g => ∃ k : Nat, a = k ∧ k < b.seqs.length ∧ Mt.standsF b 0 0 g (b.sAt k).first (b.sAt k).next ∧ g.wf ∧ g.ok
def lenR (r : Option Mt.Fs) : Nat := match r with
  | none => 0
  | some g => g.flat.length + 1
theorem standsR_of {b : Mt.PB} {f : Mt.Fs} {a n : Int} (h : Mt.standsF b 0 0 f a n) (hw : f.wf) (hok : f.ok) : standsR b f.rs n ∧ lenR f.rs ≤ f.flat.length := by
  rcases Mt.stands_rs f a n h with ⟨e, h1⟩ | ⟨r, k, e, h1, h2, h3⟩
  · rw [e]; exact ⟨h1, Nat.zero_le _⟩
  · have := Mt.rs_less f r e
    rw [e]; exact ⟨⟨k, h1, h2, h3, this.2.1 hw, this.2.2 hok⟩, this.1⟩

set_option maxRecDepth 100000 in
set_option maxHeartbeats 4000000 in
theorem alternativesSize_any {b : Mt.PB} {so ao : Option Addr} {sc ac N : Nat} (hA : AltC b so ao sc ac N) (hna : b.atoms.length ≤ 1000) (hns : b.seqs.length ≤ 1000) (f : Mt.Fs) (hw : f.wf) (hok : f.ok) (hl : f.flat.length ≤ N) (s : Nat) (hs : s < b.seqs.length) (hst : Mt.standsF b 0 0 f (b.sAt s).first (b.sAt s).next) {L : Nat} {w : World} (hT : TreeAt L w b so ao sc ac) :
    Calls Try.prog 50 #[treeV b so ao sc ac, .int .i64 (s : Int)] w fun e w' => e = .returned (.int .i64 (Mt.lim f.re.len : Nat)) ∧ Below w.heap.size w w' := by
  have HSQ : Hid (∀ (g : Mt.Fs) (k : Nat) (W : World), g.wf → g.ok → g.flat.length ≤ N → k < b.seqs.length → Mt.standsF b 0 0 g (b.sAt k).first (b.sAt k).next → TreeAt L W b so ao sc ac → Calls Try.prog 72 #[treeV b so ao sc ac, .int .i64 (k : Int)] W fun e w' => e = .returned (.int .i64 (Mt.lim g.both.1.len : Nat)) ∧ Below W.heap.size W w') := fun g k W h1 h2 h3 h4 h5 h6 => sequenceSize_any hA hna hns g h1 h2 h3 k h4 h5 h6
  obtain ⟨gs, rfl, hgs, hsc, cs0, cs1⟩ := hT.seqCell s hs
  have HW0 : Hid (Below w.heap.size w (w.alloc (.cells (treeA b (some ⟨gs, 0, none⟩) ao sc ac) 62))) := (Below.refl _ _).alloc (Nat.le_refl _) _
  have HT : Hid (TreeAt L w b (some ⟨gs, 0, none⟩) ao sc ac) := hT
  have HC1 : Hid (Calls Try.prog 72 #[treeV b (some ⟨gs, 0, none⟩) ao sc ac, .int .i64 (s : Int)] (w.alloc (.cells (treeA b (some ⟨gs, 0, none⟩) ao sc ac) 62)) _) := HSQ.out f s _ hw hok hl hs hst (hT.below HW0.out)
  have HSR : Hid (standsR b f.rs (b.sAt s).next ∧ lenR f.rs ≤ f.flat.length) := standsR_of hst hw hok
  have HRE : Hid (f.re.len = f.both.1.len + restLen f.rs) := re_rest f
  have HL : Hid (f.flat.length ≤ N) := hl
  have hs' : (s : Int) < (b.seqs.length : Int) := by omega
  have HE0 : treeA b (some ⟨gs, 0, none⟩) ao sc ac = #[.slice (some ⟨gs, 0, none⟩) b.seqs.length sc, .slice ao b.atoms.length ac] := rfl
  have hX := Mt.lim_le f.both.1.len
  have HLX : Hid (Mt.lim (Mt.lim f.both.1.len + restLen f.rs) = Mt.lim f.re.len) := by show _ = _; rw [HRE.out]; unfold Mt.lim; omega
  generalize hn : (b.sAt s).next = n at *
  clear hT hA hst hw hok hn hl
  generalize f.rs = rs0 at *
  generalize Mt.lim f.both.1.len = X at *
  generalize Mt.lim f.re.len = F at *
  unfold treeV
  unfold treeV treeA at HC1
  go_enter Try.func50, Try.ntmps50
  go_wp2_with fail
  refine HC1.out.mono ?_
  rintro e w1 ⟨rfl, b1⟩
  have hblk : w1.heap[w.heap.size]? = some (.cells (treeA b (some ⟨gs, 0, none⟩) ao sc ac) 62 (0, 0)) := (b1.block _ (by simp)).trans (heap_b1 _ _)
  have bx0 := (cell_block hblk).1 0
  have bx1 := (cell_block hblk).1 1
  rw [HE0] at bx0 bx1
  simp only [List.getElem?_toArray, List.getElem?_cons_succ, List.getElem?_cons_zero] at bx0 bx1
  have HB1 : Hid (w1.heap[w.heap.size]? = some (.cells (treeA b (some ⟨gs, 0, none⟩) ao sc ac) 62 (0, 0)) ∧ Below w.heap.size w w1) := ⟨hblk, HW0.out.trans (b1.mono (by simp))⟩
  have d1 := (HB1.out.2.cell (p := ⟨gs, s * 2 + 1, none⟩) hgs).trans cs1
  have hsz1 : w.heap.size < w1.heap.size := (Array.getElem?_eq_some_iff.1 hblk).1
  clear b1 hblk HC1
  go_wp2_with fail
  go_loopg [5, 6] (lenR rs0) (fun gn sz at' wr => ∃ (r : Option Mt.Fs) (S : Nat) (a : Int), sz = .int .i64 (S : Int) ∧ at' = .int .i64 a ∧ S ≤ 301 ∧ lenR r = gn ∧ gn ≤ lenR rs0 ∧ standsR b r a ∧ Mt.lim (S + restLen r) = F ∧ wr.heap[w.heap.size]? = some (.cells (treeA b (some ⟨gs, 0, none⟩) ao sc ac) 62 (0, 0)) ∧ Below w.heap.size w wr)
  case atStart => exact ⟨rs0, X, n, rfl, rfl, hX, rfl, Nat.le_refl _, HSR.out.1, HLX.out, HB1.out.1, HB1.out.2⟩
  case round =>
    obtain ⟨r, S, a, rfl, rfl, hS, hgn, hgf, hsr, hlim, hblk, hBl⟩ := hrel
    have bx0 := (cell_block hblk).1 0
    have bx1 := (cell_block hblk).1 1
    rw [HE0] at bx0 bx1
    simp only [List.getElem?_toArray, List.getElem?_cons_succ, List.getElem?_cons_zero] at bx0 bx1
    have hsz : w.heap.size < wr.heap.size := (Array.getElem?_eq_some_iff.1 hblk).1
    have HBK : Hid (wr.heap[w.heap.size]? = some (.cells (treeA b (some ⟨gs, 0, none⟩) ao sc ac) 62 (0, 0)) ∧ Below w.heap.size w wr) := ⟨hblk, hBl⟩
    have HLM : Hid (Mt.lim (S + restLen r) = F) := hlim
    clear hlim hblk hBl
    cases r with
    | none =>
      have ha : a = -1 := hsr
      have HF : Hid (F = S) := by show _ = _; rw [← HLM.out]; show Mt.lim (S + 0) = S; unfold Mt.lim; omega
      subst ha
      clear HLM hsr
      go_wp2_with fail
      go_returns
      exact ⟨by rw [HF.out]; rfl, HBK.out.2⟩
    | some g =>
      obtain ⟨k, rfl, hk, hgst, hgw, hgo⟩ := hsr
      have hgl : g.flat.length + 1 = gk := hgn
      have hsl := HSR.out.2
      have HC2 : Hid (Calls Try.prog 72 #[treeV b (some ⟨gs, 0, none⟩) ao sc ac, .int .i64 (k : Int)] wr _) := HSQ.out g k wr hgw hgo (by have := HL.out; omega) hk hgst (HT.out.below HBK.out.2)
      obtain ⟨gs', e', _, _, _, k1⟩ := (HT.out.below HBK.out.2).seqCell k hk
      simp only [Option.some.injEq, Addr.mk.injEq, and_true, true_and] at e'
      subst e'
      have HSG := standsR_of hgst hgw hgo
      have HSG' : Hid (standsR b g.rs (b.sAt k).next ∧ lenR g.rs ≤ g.flat.length) := HSG
      have HNL : Hid (Mt.lim (Mt.lim (S + 2 + Mt.lim g.both.1.len) + restLen g.rs) = F) := by
        show _ = _
        apply lim_alt
        rw [← HLM.out]; show Mt.lim _ = Mt.lim (S + (2 + g.re.len)); rw [re_rest g]
      have hk' : (k : Int) < (b.seqs.length : Int) := by omega
      have hkb : ((k : Int) != -1) = true := by simp
      have hxl := Mt.lim_le g.both.1.len
      clear HSG hgst hgw hgo HLM hgn
      generalize hNx : (b.sAt k).next = nx at *
      clear hNx
      generalize Mt.lim g.both.1.len = Y at *
      unfold treeV at HC2
      go_wp2_with fail
      refine HC2.out.mono ?_
      rintro e w2 ⟨rfl, b2⟩
      have bk2 : w2.heap[w.heap.size]? = some (.cells (treeA b (some ⟨gs, 0, none⟩) ao sc ac) 62 (0, 0)) := (b2.block _ hsz).trans HBK.out.1
      have by0 := (cell_block bk2).1 0
      have by1 := (cell_block bk2).1 1
      rw [HE0] at by0 by1
      simp only [List.getElem?_toArray, List.getElem?_cons_succ, List.getElem?_cons_zero] at by0 by1
      have d2 := (b2.cell (p := ⟨gs, k * 2 + 1, none⟩) (by show gs < wr.heap.size; omega)).trans k1
      have HB2 : Hid (w2.heap[w.heap.size]? = some (.cells (treeA b (some ⟨gs, 0, none⟩) ao sc ac) 62 (0, 0)) ∧ Below w.heap.size w w2) := ⟨bk2, HBK.out.2.trans (b2.mono (by omega))⟩
      have hsz2 : w.heap.size < w2.heap.size := (Array.getElem?_eq_some_iff.1 bk2).1
      clear b2 bk2
      have hSl := Mt.lim_le (S + 2 + Y)
      go_wp2_with (go_at_call 51; refine (limited_int _ (S + 2 + Y) (by omega) _).mono ?_; rintro e w' ⟨rfl, rfl⟩)
      go_roundg (lenR g.rs)
      case measure => have := HSG'.out.2; omega
      case rel => exact ⟨g.rs, Mt.lim (S + 2 + Y), nx, rfl, rfl, hSl, rfl, by have := HSG'.out.2; omega, HSG'.out.1, HNL.out, HB2.out.1, HB2.out.2⟩

theorem altC_all {b : Mt.PB} {so ao : Option Addr} {sc ac : Nat} (hna : b.atoms.length ≤ 1000) (hns : b.seqs.length ≤ 1000) : ∀ N, AltC b so ao sc ac N
  | 0 => fun f _ _ h => by omega
  | N + 1 => fun f hw hok h s hs hst L w hT => alternativesSize_any (altC_all hna hns N) hna hns f hw hok (by omega) s hs hst hT

set_option maxRecDepth 100000 in
set_option maxHeartbeats 1000000 in
theorem Size_any {b : Mt.PB} {so ao : Option Addr} {sc ac : Nat} (hna : b.atoms.length ≤ 1000) (hns : b.seqs.length ≤ 1000) (f : Mt.Fs) (hw : f.wf) (hok : f.ok) (hs : 0 < b.seqs.length) (hst : Mt.standsF b 0 0 f (b.sAt 0).first (b.sAt 0).next) {L : Nat} {w : World} (hT : TreeAt L w b so ao sc ac) :
    Calls Try.prog 37 #[treeV b so ao sc ac] w fun e w' => e = .returned (.int .i64 (Mt.lim (f.re.len + 1) : Nat)) ∧ Below w.heap.size w w' := by
  have HC : Hid (Calls Try.prog 50 #[treeV b so ao sc ac, .int .i64 ((0 : Nat) : Int)] (w.alloc (.cells (treeA b so ao sc ac) 62)) _) := altC_all hna hns (f.flat.length + 1) f hw hok (by omega) 0 hs hst L _ (hT.below ((Below.refl _ _).alloc (Nat.le_refl _) _))
  have HE : Hid (Mt.lim (f.re.len + 1) = Mt.lim (Mt.lim f.re.len + 1)) := by show _ = _; unfold Mt.lim; omega
  rw [HE.out]
  have hl := Mt.lim_le f.re.len
  generalize Mt.lim f.re.len = F at *
  clear hT hst hw hok
  unfold treeV
  unfold treeV treeA at HC
  go_enter Try.func37, Try.ntmps37
  go_wp2_with fail
  refine HC.out.mono ?_
  rintro e w1 ⟨rfl, b1⟩
  have HB : Hid (Below w.heap.size w w1) := ((Below.refl _ _).alloc (Nat.le_refl _) _).trans (b1.mono (by simp))
  clear b1
  go_wp2_with (go_at_call 51; refine (limited_int _ (F + 1) (by omega) _).mono ?_; rintro e w' ⟨rfl, rfl⟩)
  go_returns
  exact ⟨rfl, HB.out⟩
end Go.Proofs.Ytebpgfodelggoaa
