import Derived.Test.YtebpgfodelggoaaGreatC37
import Derived.Test.YtebpgfodelggoaaGreatC36
set_option linter.unusedVariables false
set_option linter.unusedSimpArgs false
namespace Go.Proofs.YtebpgfodelggoaaGreat
open Go.RowKit

def restLen (r : Option Mt.Fs) : Nat := match r with
  | none => 0
  | some g => 2 + g.re.len
theorem re_rest (f : Mt.Fs) : f.re.len = f.both.1.len + restLen f.rs := Mt.re_len f
theorem lim_alt (S X R T : Nat) (h : Mt.lim (S + (2 + (X + R))) = T) : Mt.lim (Mt.lim (S + 2 + Mt.lim X) + R) = T := by unfold Mt.lim at *; omega
/-- The alternatives that are still to come. -/
def standsR (b : Mt.PB) (r : Option Mt.Fs) (a : Int) : Prop := match r with
  | none => a = -1
  | some g => ∃ k : Nat, a = k ∧ k < b.seqs.length ∧ Mt.standsF b 0 0 g (b.sAt k).first (b.sAt k).next ∧ g.wf ∧ g.ok
def lenR (r : Option Mt.Fs) : Nat := match r with
  | none => 0
  | some g => g.flat.length + 1
theorem standsR_of {b : Mt.PB} {f : Mt.Fs} {a n : Int} (h : Mt.standsF b 0 0 f a n) (hw : f.wf) (hok : f.ok) : standsR b f.rs n ∧ lenR f.rs ≤ f.flat.length := by
  rcases Mt.stands_rs f a n h with ⟨e, h1⟩ | ⟨r, k, e, h1, h2, h3⟩
  · rw [e]; exact ⟨h1, Nat.zero_le _⟩
  · have := Mt.rs_less f r e
    rw [e]; exact ⟨⟨k, h1, h2, h3, this.2.1 hw, this.2.2 hok⟩, this.1⟩

set_option maxRecDepth 100000 in
set_option maxHeartbeats 4000000 in
theorem alternativesSize_any {b : Mt.PB} {so ao : Option Addr} {sc ac N : Nat} (hA : AltC b so ao sc ac N) (hna : b.atoms.length ≤ 1000) (hns : b.seqs.length ≤ 1000) (f : Mt.Fs) (hw : f.wf) (hok : f.ok) (hl : f.flat.length ≤ N) (s : Nat) (hs : s < b.seqs.length) (hst : Mt.standsF b 0 0 f (b.sAt s).first (b.sAt s).next) {L : Nat} {w : World} (hT : TreeAt L w b so ao sc ac) :
    Calls Tryz.prog 118 #[treeV b so ao sc ac, .int .i64 (s : Int)] w fun e w' => e = .returned (.int .i64 (Mt.lim f.re.len : Nat)) ∧ Below w.heap.size w w' := by
  have HSQ : Hid (∀ (g : Mt.Fs) (k : Nat) (W : World), g.wf → g.ok → g.flat.length ≤ N → k < b.seqs.length → Mt.standsF b 0 0 g (b.sAt k).first (b.sAt k).next → TreeAt L W b so ao sc ac → Calls Tryz.prog 145 #[treeV b so ao sc ac, .int .i64 (k : Int)] W fun e w' => e = .returned (.int .i64 (Mt.lim g.both.1.len : Nat)) ∧ Below W.heap.size W w') := fun g k W h1 h2 h3 h4 h5 h6 => sequenceSize_any hA hna hns g h1 h2 h3 k h4 h5 h6
  obtain ⟨gs, rfl, hgs, hsc, cs0, cs1⟩ := hT.seqCell s hs
  have HW0 : Hid (Below w.heap.size w (w.alloc (.cells (treeA b (some ⟨gs, 0, none⟩) ao sc ac) 107))) := (Below.refl _ _).alloc (Nat.le_refl _) _
  have HT : Hid (TreeAt L w b (some ⟨gs, 0, none⟩) ao sc ac) := hT
  have HC1 : Hid (Calls Tryz.prog 145 #[treeV b (some ⟨gs, 0, none⟩) ao sc ac, .int .i64 (s : Int)] (w.alloc (.cells (treeA b (some ⟨gs, 0, none⟩) ao sc ac) 107)) _) := HSQ.out f s _ hw hok hl hs hst (hT.below HW0.out)
  have HSR : Hid (standsR b f.rs (b.sAt s).next ∧ lenR f.rs ≤ f.flat.length) := standsR_of hst hw hok
  have HRE : Hid (f.re.len = f.both.1.len + restLen f.rs) := re_rest f
  have HL : Hid (f.flat.length ≤ N) := hl
  have hs' : (s : Int) < (b.seqs.length : Int) := by omega
  have HE0 : treeA b (some ⟨gs, 0, none⟩) ao sc ac = #[.slice (some ⟨gs, 0, none⟩) b.seqs.length sc, .slice ao b.atoms.length ac] := rfl
  have hX := Mt.lim_le f.both.1.len
  have HLX : Hid (Mt.lim (Mt.lim f.both.1.len + restLen f.rs) = Mt.lim f.re.len) := by show _ = _; rw [HRE.out]; unfold Mt.lim; omega
  generalize hn : (b.sAt s).next = n at *
  clear hT hA hst hw hok hn hl
  generalize f.rs = rs0 at *
  generalize Mt.lim f.both.1.len = X at *
  generalize Mt.lim f.re.len = F at *
  unfold treeV
  unfold treeV treeA at HC1
  go_enter Tryz.func118, Tryz.ntmps118
  go_wp2_with fail
  refine HC1.out.mono ?_
  rintro e w1 ⟨rfl, b1⟩
  have hblk : w1.heap[w.heap.size]? = some (.cells (treeA b (some ⟨gs, 0, none⟩) ao sc ac) 107 (0, 0)) := (b1.block _ (by simp)).trans (heap_b1 _ _)
  have bx0 := (cell_block hblk).1 0
  have bx1 := (cell_block hblk).1 1
  rw [HE0] at bx0 bx1
  simp only [List.getElem?_toArray, List.getElem?_cons_succ, List.getElem?_cons_zero] at bx0 bx1
  have HB1 : Hid (w1.heap[w.heap.size]? = some (.cells (treeA b (some ⟨gs, 0, none⟩) ao sc ac) 107 (0, 0)) ∧ Below w.heap.size w w1) := ⟨hblk, HW0.out.trans (b1.mono (by simp))⟩
  have d1 := (HB1.out.2.cell (p := ⟨gs, s * 2 + 1, none⟩) hgs).trans cs1
  have hsz1 : w.heap.size < w1.heap.size := (Array.getElem?_eq_some_iff.1 hblk).1
  clear b1 hblk HC1
  go_wp2_with fail
  go_loopg [5, 6] (lenR rs0) (fun gn sz at' wr => ∃ (r : Option Mt.Fs) (S : Nat) (a : Int), sz = .int .i64 (S : Int) ∧ at' = .int .i64 a ∧ S ≤ 301 ∧ lenR r = gn ∧ gn ≤ lenR rs0 ∧ standsR b r a ∧ Mt.lim (S + restLen r) = F ∧ wr.heap[w.heap.size]? = some (.cells (treeA b (some ⟨gs, 0, none⟩) ao sc ac) 107 (0, 0)) ∧ Below w.heap.size w wr)
  case atStart => exact ⟨rs0, X, n, rfl, rfl, hX, rfl, Nat.le_refl _, HSR.out.1, HLX.out, HB1.out.1, HB1.out.2⟩
  case round =>
    obtain ⟨r, S, a, rfl, rfl, hS, hgn, hgf, hsr, hlim, hblk, hBl⟩ := hrel
    have bx0 := (cell_block hblk).1 0
    have bx1 := (cell_block hblk).1 1
    rw [HE0] at bx0 bx1
    simp only [List.getElem?_toArray, List.getElem?_cons_succ, List.getElem?_cons_zero] at bx0 bx1
    have hsz : w.heap.size < wr.heap.size := (Array.getElem?_eq_some_iff.1 hblk).1
    have HBK : Hid (wr.heap[w.heap.size]? = some (.cells (treeA b (some ⟨gs, 0, none⟩) ao sc ac) 107 (0, 0)) ∧ Below w.heap.size w wr) := ⟨hblk, hBl⟩
    have HLM : Hid (Mt.lim (S + restLen r) = F) := hlim
    clear hlim hblk hBl
    cases r with
    | none =>
      have ha : a = -1 := hsr
      have HF : Hid (F = S) := by show _ = _; rw [← HLM.out]; show Mt.lim (S + 0) = S; unfold Mt.lim; omega
      subst ha
      clear HLM hsr
      go_wp2_with fail
      go_returns
      exact ⟨by rw [HF.out]; rfl, HBK.out.2⟩
    | some g =>
      obtain ⟨k, rfl, hk, hgst, hgw, hgo⟩ := hsr
      have hgl : g.flat.length + 1 = gk := hgn
      have hsl := HSR.out.2
      have HC2 : Hid (Calls Tryz.prog 145 #[treeV b (some ⟨gs, 0, none⟩) ao sc ac, .int .i64 (k : Int)] wr _) := HSQ.out g k wr hgw hgo (by have := HL.out; omega) hk hgst (HT.out.below HBK.out.2)
      obtain ⟨gs', e', _, _, _, k1⟩ := (HT.out.below HBK.out.2).seqCell k hk
      simp only [Option.some.injEq, Addr.mk.injEq, and_true, true_and] at e'
      subst e'
      have HSG := standsR_of hgst hgw hgo
      have HSG' : Hid (standsR b g.rs (b.sAt k).next ∧ lenR g.rs ≤ g.flat.length) := HSG
      have HNL : Hid (Mt.lim (Mt.lim (S + 2 + Mt.lim g.both.1.len) + restLen g.rs) = F) := by
        show _ = _
        apply lim_alt
        rw [← HLM.out]; show Mt.lim _ = Mt.lim (S + (2 + g.re.len)); rw [re_rest g]
      have hk' : (k : Int) < (b.seqs.length : Int) := by omega
      have hkb : ((k : Int) != -1) = true := by simp
      have hxl := Mt.lim_le g.both.1.len
      clear HSG hgst hgw hgo HLM hgn
      generalize hNx : (b.sAt k).next = nx at *
      clear hNx
      generalize Mt.lim g.both.1.len = Y at *
      unfold treeV at HC2
      go_wp2_with fail
      refine HC2.out.mono ?_
      rintro e w2 ⟨rfl, b2⟩
      have bk2 : w2.heap[w.heap.size]? = some (.cells (treeA b (some ⟨gs, 0, none⟩) ao sc ac) 107 (0, 0)) := (b2.block _ hsz).trans HBK.out.1
      have by0 := (cell_block bk2).1 0
      have by1 := (cell_block bk2).1 1
      rw [HE0] at by0 by1
      simp only [List.getElem?_toArray, List.getElem?_cons_succ, List.getElem?_cons_zero] at by0 by1
      have d2 := (b2.cell (p := ⟨gs, k * 2 + 1, none⟩) (by show gs < wr.heap.size; omega)).trans k1
      have HB2 : Hid (w2.heap[w.heap.size]? = some (.cells (treeA b (some ⟨gs, 0, none⟩) ao sc ac) 107 (0, 0)) ∧ Below w.heap.size w w2) := ⟨bk2, HBK.out.2.trans (b2.mono (by omega))⟩
      have hsz2 : w.heap.size < w2.heap.size := (Array.getElem?_eq_some_iff.1 bk2).1
      clear b2 bk2
      have hSl := Mt.lim_le (S + 2 + Y)
      go_wp2_with (go_at_call 119; refine (limited_int _ (S + 2 + Y) (by omega) _).mono ?_; rintro e w' ⟨rfl, rfl⟩)
      go_roundg (lenR g.rs)
      case measure => have := HSG'.out.2; omega
      case rel => exact ⟨g.rs, Mt.lim (S + 2 + Y), nx, rfl, rfl, hSl, rfl, by have := HSG'.out.2; omega, HSG'.out.1, HNL.out, HB2.out.1, HB2.out.2⟩

theorem altC_all {b : Mt.PB} {so ao : Option Addr} {sc ac : Nat} (hna : b.atoms.length ≤ 1000) (hns : b.seqs.length ≤ 1000) : ∀ N, AltC b so ao sc ac N
  | 0 => fun f _ _ h => by omega
  | N + 1 => fun f hw hok h s hs hst L w hT => alternativesSize_any (altC_all hna hns N) hna hns f hw hok (by omega) s hs hst hT

set_option maxRecDepth 100000 in
set_option maxHeartbeats 1000000 in
theorem Size_any {b : Mt.PB} {so ao : Option Addr} {sc ac : Nat} (hna : b.atoms.length ≤ 1000) (hns : b.seqs.length ≤ 1000) (f : Mt.Fs) (hw : f.wf) (hok : f.ok) (hs : 0 < b.seqs.length) (hst : Mt.standsF b 0 0 f (b.sAt 0).first (b.sAt 0).next) {L : Nat} {w : World} (hT : TreeAt L w b so ao sc ac) :
    Calls Tryz.prog 90 #[treeV b so ao sc ac] w fun e w' => e = .returned (.int .i64 (Mt.lim (f.re.len + 1) : Nat)) ∧ Below w.heap.size w w' := by
  have HC : Hid (Calls Tryz.prog 118 #[treeV b so ao sc ac, .int .i64 ((0 : Nat) : Int)] (w.alloc (.cells (treeA b so ao sc ac) 107)) _) := altC_all hna hns (f.flat.length + 1) f hw hok (by omega) 0 hs hst L _ (hT.below ((Below.refl _ _).alloc (Nat.le_refl _) _))
  have HE : Hid (Mt.lim (f.re.len + 1) = Mt.lim (Mt.lim f.re.len + 1)) := by show _ = _; unfold Mt.lim; omega
  rw [HE.out]
  have hl := Mt.lim_le f.re.len
  generalize Mt.lim f.re.len = F at *
  clear hT hst hw hok
  unfold treeV
  unfold treeV treeA at HC
  go_enter Tryz.func90, Tryz.ntmps90
  go_wp2_with fail
  refine HC.out.mono ?_
  rintro e w1 ⟨rfl, b1⟩
  have HB : Hid (Below w.heap.size w w1) := ((Below.refl _ _).alloc (Nat.le_refl _) _).trans (b1.mono (by simp))
  clear b1
  go_wp2_with (go_at_call 119; refine (limited_int _ (F + 1) (by omega) _).mono ?_; rintro e w' ⟨rfl, rfl⟩)
  go_returns
  exact ⟨rfl, HB.out⟩
end Go.Proofs.YtebpgfodelggoaaGreat
/- The forest of a pattern, in memory as the program's builder leaves it. -/
set_option linter.unusedVariables false
namespace Mt

theorem count_le (p : ByteArray) (i : Int) (h : (count p i).2.2.2 = true) : (count p i).2.1 = -1 ∨ (count p i).1 ≤ (count p i).2.1 := by
  rcases count_cases p i with ⟨a1, e⟩ | ⟨a1, a2, e⟩ | ⟨a1, a2, ⟨a3, e⟩ | ⟨a3, a4, e⟩ | ⟨a3, a4, ⟨a5, e⟩ | ⟨a5, ⟨a6, e⟩ | ⟨a6, a7, e⟩ | ⟨a6, a7, a8, e⟩ | ⟨a6, a7, a8, a9, e⟩ | ⟨a6, a7, a8, a9, e⟩⟩⟩⟩
  · rw [e]; exact Or.inr (Int.le_refl _)
  · rw [e]; exact Or.inr (Int.le_refl _)
  · rw [e]; exact Or.inr (Int.le_refl _)
  · rw [e]; exact Or.inr (Int.le_refl _)
  · rw [e]; exact Or.inl rfl
  · rw [e]; exact Or.inr (Int.le_refl _)
  · rw [e]; exact Or.inr (Int.le_refl _)
  · rw [e]; exact Or.inr (Int.le_refl _)
  · rw [e]; exact Or.inr (Int.le_refl _)
  · rw [e]
    simp only [decide_eq_false_iff_not] at a8
    exact Or.inr (by show (number p (i + 1)).1 ≤ (number p (i + 1 + (number p (i + 1)).2 + 1)).1; omega)
theorem repeat_le (p : ByteArray) (i : Int) (h : (repeatT p i).2 = true) : (repeatT p i).1.m = -1 ∨ (repeatT p i).1.n ≤ (repeatT p i).1.m := by
  unfold repeatT at h ⊢
  by_cases h1 : atB p i = 43
  · rw [if_pos h1]; exact Or.inl rfl
  · rw [if_neg h1] at h ⊢
    by_cases h2 : atB p i = 63
    · rw [if_pos h2]; exact Or.inr (by simp)
    · rw [if_neg h2] at h ⊢
      by_cases h3 : atB p i = 123
      · rw [if_pos h3] at h ⊢
        cases hc : (count p i).2.2.2
        · rw [hc] at h; simp at h
        · rw [if_pos rfl]; exact count_le p i hc
      · rw [if_neg h3]; exact Or.inl rfl
theorem escape_kind (p : ByteArray) (i : Int) : (escape p i).1.kind ≠ 8 := by
  rcases escape_cases p i with ⟨a1, e⟩ | ⟨a0, a1, ⟨a2, e⟩ | ⟨a2, a3, e⟩ | ⟨a2, a3, a4, a5, a6, a7, e⟩ | ⟨a2, a3, a4, e⟩⟩ <;> rw [e] <;> simp
theorem opening_kind (p : ByteArray) (i : Int) : (opening p i).1.kind ≠ 8 := by
  rcases opening_cases p i with ⟨a1, e⟩ | ⟨a1, ⟨a2, e⟩ | ⟨a2, a3, e⟩ | ⟨a2, a3, a4, e⟩ | ⟨a2, a3, a4, a5, e⟩ | ⟨a2, a3, a4, a5, e⟩⟩ <;> rw [e] <;> simp
theorem class_kind (p : ByteArray) (i : Int) : (classT p i).1.kind ≠ 8 := by
  unfold classT; split <;> simp
theorem nextT_rep (p : ByteArray) (i : Int) (h : (nextT p i).2 = 0) (hk : (nextT p i).1.kind = 8) : (nextT p i).1.m = -1 ∨ (nextT p i).1.n ≤ (nextT p i).1.m := by
  unfold nextT at h hk ⊢
  by_cases h1 : atB p i = 124
  · rw [if_pos h1] at hk; simp at hk
  rw [if_neg h1] at h hk ⊢
  by_cases h2 : atB p i = 41
  · rw [if_pos h2] at hk; simp at hk
  rw [if_neg h2] at h hk ⊢
  by_cases h3 : atB p i = 94
  · rw [if_pos h3] at hk; simp at hk
  rw [if_neg h3] at h hk ⊢
  by_cases h4 : atB p i = 36
  · rw [if_pos h4] at hk; simp at hk
  rw [if_neg h4] at h hk ⊢
  by_cases h5 : atB p i = 92
  · rw [if_pos h5] at hk; exact absurd hk (escape_kind p i)
  rw [if_neg h5] at h hk ⊢
  by_cases h6 : atB p i = 91
  · rw [if_pos h6] at hk; exact absurd hk (class_kind p i)
  rw [if_neg h6] at h hk ⊢
  by_cases h7 : atB p i = 40
  · rw [if_pos h7] at hk; exact absurd hk (opening_kind p i)
  rw [if_neg h7] at h hk ⊢
  by_cases h8 : atB p i = 42 ∨ atB p i = 43 ∨ atB p i = 63 ∨ atB p i = 123
  · rw [if_pos h8] at h ⊢
    exact repeat_le p i (by cases x : (repeatT p i).2 <;> simp [x] at h ⊢)
  rw [if_neg h8] at h hk ⊢
  by_cases h9 : atB p i = 46
  · rw [if_pos h9] at hk; simp at hk
  · rw [if_neg h9] at hk; simp at hk
def repsLe (l : List Tok) : Prop := ∀ t ∈ l, t.kind = 8 → t.m = -1 ∨ t.n ≤ t.m
theorem readOn_reps (p : ByteArray) : ∀ (f : Nat) (l : List Tok) (i : Int), 0 ≤ i → i ≤ p.size → (p.size : Int) - i < f → repsLe l → repsLe (readOn p l i).1 := by
  intro f
  induction f with
  | zero => intro l i h0 h1 h2; omega
  | succ f ih =>
    intro l i h0 h1 h2 hl
    rw [readOn_step p l i h0 h1]
    by_cases a : (p.size : Int) ≤ i
    · rw [if_pos a]; exact hl
    rw [if_neg a]
    by_cases b : (nextT p i).2 ≠ 0
    · rw [if_pos b]; intro t ht; simp at ht
    rw [if_neg b]
    by_cases c : may l (nextT p i).1 ≠ 0
    · rw [if_pos c]; intro t ht; simp at ht
    rw [if_neg c]
    have hn := nextT_to p i h0 (by omega) (by omega)
    refine ih _ _ (by omega) (by omega) (by omega) (fun t ht hk => ?_)
    rcases List.mem_append.1 ht with ht | ht
    · exact hl t ht hk
    · simp at ht
      have jk := joined_kind l (nextT p i).1
      subst ht
      rw [jk.1] at hk
      have e : joined l (nextT p i).1 = (nextT p i).1 := jk.2.2.2.2.1 (by unfold isCap; simp [hk])
      rw [e]; exact nextT_rep p i (by omega) hk
theorem tokens_reps (p : ByteArray) (h : (tokens p).2.1 = 0) : repsLe (tokens p).1 := by
  by_cases hp : p.size ≤ 64
  · have hr := readOn_reps p ((p.size : Int) + 1).toNat [] 0 (by omega) (by omega) (by omega) (by intro t ht; simp at ht)
    unfold tokens at h ⊢
    rw [if_neg (by omega), readOn_start p hp] at h ⊢
    split
    · rename_i h1; rw [if_pos h1] at h; exact absurd h h1
    · split
      · intro t ht; simp at ht
      · exact hr
  · unfold tokens at h; rw [if_pos (by omega)] at h; simp at h
theorem fs_ok : ∀ f : Fs, f.wf → (∀ t ∈ f.flat, t.kind = 8 → repOk' t) → (∀ t ∈ f.flat, t.kind = 6 → 0 ≤ t.how ∧ t.how ≤ 4) → f.ok
  | .nil, _, _, _ => trivial
  | .bar t r, hw, h1, h2 => fs_ok r hw.2 (fun u hu => h1 u (by simp [Fs.flat, hu])) (fun u hu => h2 u (by simp [Fs.flat, hu]))
  | .leaf t r s, hw, h1, h2 => ⟨fun q hq => h1 q (by simp [Fs.flat, hq]) (hw.2.1 q hq), fs_ok s hw.2.2 (fun u hu => h1 u (by simp [Fs.flat, hu])) (fun u hu => h2 u (by simp [Fs.flat, hu]))⟩
  | .grp t i c r s, hw, h1, h2 => ⟨fun q hq => h1 q (by simp [Fs.flat, hq]) (hw.2.2.2.1 q hq), h2 t (by simp [Fs.flat]) hw.1, fs_ok i hw.2.2.1 (fun u hu => h1 u (by simp [Fs.flat, hu])) (fun u hu => h2 u (by simp [Fs.flat, hu])), fs_ok s hw.2.2.2.2 (fun u hu => h1 u (by simp [Fs.flat, hu])) (fun u hu => h2 u (by simp [Fs.flat, hu]))⟩
theorem nums_numd : ∀ (m : List Tok) (l : List Tok), Nums (l ++ m) → numd (captures l) m
  | [], l, h => trivial
  | t :: r, l, h => by
    have e : l ++ t :: r = (l ++ [t]) ++ r := by simp
    refine ⟨fun hc => ?_, ?_⟩
    · have := h l.length (by simp) (by rw [List.getD_eq_getElem?_getD, List.getElem?_append_right (Nat.le_refl _)]; simpa using hc)
      rw [List.getD_eq_getElem?_getD, List.getElem?_append_right (Nat.le_refl _)] at this
      simpa using this
    · have := nums_numd r (l ++ [t]) (by rw [← e]; exact h)
      rwa [captures_snoc] at this
theorem next_len (b : PB) (t : PT) : (b.next t).atoms.length ≤ b.atoms.length + 1 ∧ (b.next t).seqs.length ≤ b.seqs.length + 1 := by
  have ha : ∀ t, (b.addAtom t).atoms.length = b.atoms.length + 1 ∧ (b.addAtom t).seqs.length = b.seqs.length := fun t => by
    unfold PB.addAtom; split <;> simp
  unfold PB.next
  split
  · simp [PB.bar]
  split
  · have := ha t
    unfold PB.opening PB.into PB.number
    cases decide (t.group = 1) <;> simp [this.1, this.2]
  split
  · simp [PB.close]
  split
  · simp [PB.repeated]
  · have := ha t; omega
theorem run_len : ∀ (l : List Tok) (b : PB), (b.run l).atoms.length ≤ b.atoms.length + l.length ∧ (b.run l).seqs.length ≤ b.seqs.length + l.length
  | [], b => by simp [PB.run]
  | t :: r, b => by
    have h1 := next_len b (ptok t)
    have h2 := run_len r (b.next (ptok t))
    rw [PB.run_cons]; simp only [List.length_cons]; omega
theorem start_at : PB.start.At := ⟨by decide, Or.inl rfl, fun _ => rfl, rfl⟩
/-- A pattern that may be read: its forest stands in the builder. -/
theorem forest (p : ByteArray) (h : (tokens p).2.1 = 0) : ∃ f : Fs, f.wf ∧ f.ok ∧ (tokens p).1 = f.flat ∧ standsF (PB.start.run (tokens p).1) 0 0 f ((PB.start.run (tokens p).1).sAt 0).first ((PB.start.run (tokens p).1).sAt 0).next ∧ 0 < (PB.start.run (tokens p).1).seqs.length ∧
    (PB.start.run (tokens p).1).atoms.length ≤ 64 ∧ (PB.start.run (tokens p).1).seqs.length ≤ 65 ∧ (300 < (coded (tokens p).1).length ↔ 300 < f.re.len + 1) ∧ (f.re.len + 1 ≤ 300 → coded (tokens p).1 = f.re.code 0 0 ++ [⟨13, 0, 0, []⟩]) := by
  have hv := tokens_valid p h
  have hr := tokens_reps p h
  have hs := (tokens_small p).2
  obtain ⟨f, hw, e⟩ := valid_parse hv.1 hv.2
  have hN := nums_valid hv.1
  have hG : ∀ t ∈ (tokens p).1, tokG t := by
    intro t ht
    obtain ⟨k, hk, rfl⟩ := List.mem_iff_getElem.1 ht
    have := (hv.1 k hk).2.1
    rw [List.getD_eq_getElem?_getD, List.getElem?_eq_getElem hk] at this
    exact this
  rw [e] at hr hs hN hG ⊢
  have hok := fs_ok f hw (fun t ht hk => by
    obtain ⟨_, _, _, _, g5⟩ := hG t ht
    have := g5 hk
    have := hr t ht hk
    exact ⟨by omega, by omega, by omega, by omega, by omega, by omega, this⟩) (fun t ht hk => (hG t ht).2.2.2.1 hk)
  have hd := run_forest f hw (fun t ht hk => (hG t ht).2.2.2.1 hk) PB.start start_at (nums_numd f.flat [] (by simpa using hN))
  have hl := run_len f.flat PB.start
  have ht := treeOf_flat f hw hs
  have hc := coded_len f.flat
  rw [ht] at hc
  have st := hd.stands
  have e0 : PB.start.last = -1 := rfl
  rw [if_pos e0] at st
  refine ⟨f, hw, hok, rfl, standsF_mono (Nat.zero_le _) (Nat.zero_le _) (fun _ _ _ => rfl) (fun _ _ _ => rfl) (Nat.le_refl _) (Nat.le_refl _) _ _ _ st, ?_, ?_, ?_, ?_, fun h300 => ?_⟩
  · have := hd.sl; exact Nat.lt_of_lt_of_le (by decide) this
  · have := hl.1; simp [PB.start] at this ⊢; omega
  · have := hl.2; simp [PB.start] at this ⊢; omega
  · constructor
    · intro x; omega
    · intro x; exact hc.2 x
  · have := (coded_tree f.flat (by rw [hc.1 h300]; exact h300)).1
    rwa [ht] at this
end Mt
