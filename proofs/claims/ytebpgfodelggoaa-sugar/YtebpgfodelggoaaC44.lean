import Derived.Test.YtebpgfodelggoaaC43
/- laySequence. -/
set_option linter.unusedVariables false
set_option linter.unusedSimpArgs false
namespace Go.Proofs.Ytebpgfodelggoaa
open Go.RowKit

/-- The alternatives of forests that are shorter than N. -/
def AltL (L g : Nat) (b : Mt.PB) (so ao : Option Addr) (sc ac : Nat) (N : Nat) : Prop :=
  ∀ (f : Mt.Fs), f.wf → f.ok → f.flat.length < N → ∀ (s : Nat), s < b.seqs.length → Mt.standsF b 0 0 f (b.sAt s).first (b.sAt s).next → ∀ d : Int, 0 ≤ d → d + f.flat.length ≤ 1000 →
    Lays L g b so ao sc ac d 38 #[.pointer (some ⟨g, 0, none⟩), .int .i64 (s : Int)] f.re

/-- The first atom of a forest. -/
theorem head_two {b : Mt.PB} {f : Mt.Fs} {a n : Int} (h : Mt.standsF b 0 0 f a n) (hw : f.wf) (hok : f.ok) :
    (a = -1 ∧ f.both.1 = .eps) ∨
    ∃ (k : Nat) (s : Mt.Fs) (r : Option Mt.Tok) (x : Mt.Re), a = k ∧ k < b.atoms.length ∧ (b.aAt k).rep = Mt.rp r ∧ Mt.repK r ∧ Mt.repsOk r ∧ f.both.1 = .cat (Mt.part r x) s.both.1 ∧ Mt.standsF b 0 0 s (b.aAt k).next n ∧ s.wf ∧ s.ok ∧ s.flat.length < f.flat.length ∧
      ((∃ t, Mt.leafK t ∧ (b.aAt k).tok = Mt.ptok t ∧ x = Mt.leafRe t) ∨ ∃ (t : Mt.Tok) (i : Mt.Fs) (q : Nat), x = Mt.grpRe t i.re ∧ t.kind = 6 ∧ (0 ≤ t.how ∧ t.how ≤ 4) ∧ i.wf ∧ i.ok ∧ i.flat.length + 2 ≤ f.flat.length ∧ (b.aAt k).tok = Mt.ptok t ∧ (b.aAt k).num = (if Mt.isCap t then t.n else 0) ∧ (b.aAt k).body = q ∧ q < b.seqs.length ∧ Mt.standsF b 0 0 i (b.sAt q).first (b.sAt q).next) := by
  cases f with
  | nil => exact Or.inl ⟨h.1, rfl⟩
  | bar t r => exact Or.inl ⟨h.1, rfl⟩
  | leaf t r s =>
    obtain ⟨k, h1, _, h2, h3, h4, h5, h6⟩ := h
    exact Or.inr ⟨k, s, r, Mt.leafRe t, h1, h2, h4, hw.2.1, hok.1, rfl, h6, hw.2.2, hok.2, by simp [Mt.Fs.flat]; omega, Or.inl ⟨t, hw.1, h3, rfl⟩⟩
  | grp t i c r s =>
    obtain ⟨k, h1, _, h2, h3, h4, h5, ⟨q, g1, _, g2, g3⟩, h6⟩ := h
    obtain ⟨w1, w2, w3, w4, w5⟩ := hw
    obtain ⟨o1, o2, o3, o4⟩ := hok
    exact Or.inr ⟨k, s, r, Mt.grpRe t i.re, h1, h2, h4, w4, o1, rfl, h6, w5, o4, by simp [Mt.Fs.flat]; omega, Or.inr ⟨t, i, q, rfl, w1, o2, w3, o3, by simp [Mt.Fs.flat], h3, h5, g1, g2, g3⟩⟩

section
variable {L : Nat} {g : Nat} {b : Mt.PB} {so ao : Option Addr} {sc ac N : Nat}
theorem layGroup_any (hA : AltL L g b so ao sc ac N) (A : Mt.PA) (t : Mt.Tok) (i : Mt.Fs) (q : Nat) (ht : t.kind = 6) (hh : 0 ≤ t.how ∧ t.how ≤ 4) (hw : i.wf) (ho : i.ok) (hl : i.flat.length < N) (htk : A.tok = Mt.ptok t) (hnum : A.num = (if Mt.isCap t then t.n else 0)) (hb : A.body = q) (hql : q < b.seqs.length) (hs : Mt.standsF b 0 0 i (b.sAt q).first (b.sAt q).next) (d : Int) (hd0 : 0 ≤ d) (hd : d + i.flat.length ≤ 1000) :
    Lays L g b so ao sc ac d 92 #[.pointer (some ⟨g, 0, none⟩), .agg (paC A).toArray] (Mt.grpRe t i.re) := by
  have hX := hA i hw ho hl q hql hs d hd0 hd
  have hk : A.tok.kind = 2 := by rw [htk, Mt.ptok_kind, ht]; rfl
  have hg : A.tok.group = Mt.grpP t.how := by rw [htk]; simp [Mt.ptok, ht]
  refine layAtom_grp A _ hk ?_
  unfold Mt.grpRe
  by_cases h3 : t.how = 3
  · rw [if_pos h3]
    exact layGroup_plain A q _ (by rw [hg, h3]; rfl) hb hX
  · rw [if_neg h3]
    by_cases h4 : t.how = 4
    · rw [if_pos h4]
      have hc : Mt.isCap t = true := by simp [Mt.isCap, ht, h4]
      exact layGroup_cap A q t.n _ (by rw [hg, h4]; rfl) hb (by rw [hnum, if_pos hc]) hX
    · rw [if_neg h4]
      exact layGroup_sub A q t.how (by omega) _ (by rw [hg]; unfold Mt.grpP; rw [if_neg h4, if_neg h3]) hb hX

theorem atom_range {w : World} {ga : Nat} (h : TreeAt 0 w b so (some ⟨ga, 0, none⟩) sc ac) (k : Nat) (hk : k < b.atoms.length) : w.rangeAt ga (k * 20) (paC (b.aAt k)) := by
  obtain ⟨ga', e, _, _, hc⟩ := h.atomRow k hk
  simp only [Option.some.injEq, Addr.mk.injEq, and_true, true_and] at e
  subst e
  intro j v hv
  by_cases hj : j < 20
  · rw [hc j hj]; exact hv
  · rw [List.getElem?_eq_none (by rw [paC_len]; omega)] at hv; simp at hv

set_option maxRecDepth 100000 in
set_option maxHeartbeats 4000000 in
theorem laySequence_any (hA : AltL L g b so ao sc ac N) (hna : b.atoms.length ≤ 1000) (hns : b.seqs.length ≤ 1000) (f : Mt.Fs) (hw : f.wf) (hok : f.ok) (hl : f.flat.length ≤ N) (s : Nat) (hs : s < b.seqs.length) (hst : Mt.standsF b 0 0 f (b.sAt s).first (b.sAt s).next) (d : Int) (hd0 : 0 ≤ d) (hd : d + f.flat.length ≤ 1000) :
    Lays L g b so ao sc ac d 52 #[.pointer (some ⟨g, 0, none⟩), .int .i64 (s : Int)] f.both.1 := by
  intro w co cc c h hn
  have HPT : Hid (∀ (k : Nat) (hh : Mt.Fs) (r : Option Mt.Tok) (x : Mt.Re), hh.flat.length ≤ f.flat.length → (b.aAt k).rep = Mt.rp r → Mt.repK r → Mt.repsOk r → ((∃ t, Mt.leafK t ∧ (b.aAt k).tok = Mt.ptok t ∧ x = Mt.leafRe t) ∨ ∃ (t : Mt.Tok) (i : Mt.Fs) (q : Nat), x = Mt.grpRe t i.re ∧ t.kind = 6 ∧ (0 ≤ t.how ∧ t.how ≤ 4) ∧ i.wf ∧ i.ok ∧ i.flat.length + 2 ≤ hh.flat.length ∧ (b.aAt k).tok = Mt.ptok t ∧ (b.aAt k).num = (if Mt.isCap t then t.n else 0) ∧ (b.aAt k).body = q ∧ q < b.seqs.length ∧ Mt.standsF b 0 0 i (b.sAt q).first (b.sAt q).next) →
      Lays L g b so ao sc ac d 73 #[.pointer (some ⟨g, 0, none⟩), .agg (paC (b.aAt k)).toArray] (Mt.part r x)) := by
    intro k hh r x h1 h2 h3 h4 h5
    rcases h5 with ⟨t, h6, h7, rfl⟩ | ⟨t, i, q, rfl, g1, g2, g3, g4, g5, g6, g7, g8, g9, g10⟩
    · exact layPart_prog _ _ r h2 h3 h4 hd0 (by omega) (layAtom_leaf _ t h6 h7) (layAtom_leaf _ t h6 h7)
    · exact layPart_prog _ _ r h2 h3 h4 hd0 (by omega) (layGroup_any hA _ t i q g1 g2 g3 g4 (by omega) g6 g7 g8 g9 g10 d hd0 (by omega)) (layGroup_any hA _ t i q g1 g2 g3 g4 (by omega) g6 g7 g8 g9 g10 (d + 1) (by omega) (by omega))
  obtain ⟨gs, rfl, hgs, hsc, cs0, cs1⟩ := h.tree.seqCell s hs
  obtain ⟨c0, _, _, _, _⟩ := h.cells
  have HL0 : Hid (LAt L w g b (some ⟨gs, 0, none⟩) ao sc ac co cc c d) := h
  have HST : Hid (Mt.standsF b 0 0 f (b.sAt s).first (b.sAt s).next ∧ f.wf ∧ f.ok) := ⟨hst, hw, hok⟩
  have hs' : (s : Int) < (b.seqs.length : Int) := by omega
  have HN : Hid (c.length + f.both.1.len ≤ 1000) := hn
  generalize hnx : (b.sAt s).next = n at *
  generalize hfi : (b.sAt s).first = a0 at *
  clear h hA hst hw hok hnx hfi hn
  go_enter Try.func52, Try.ntmps52
  go_wp2_with fail
  go_loopg [4] f.flat.length (fun gn at' wr => ∃ (h : Mt.Fs) (a : Int) (cor : Option Addr) (ccr : Nat) (cx : List Mt.Ins), at' = .int .i64 a ∧ h.flat.length = gn ∧ gn ≤ f.flat.length ∧ Mt.standsF b 0 0 h a n ∧ h.wf ∧ h.ok ∧ LAt L wr g b (some ⟨gs, 0, none⟩) ao sc ac cor ccr cx d ∧ LStep g co cor w wr ∧ cx ++ h.both.1.code cx.length d = c ++ f.both.1.code c.length d ∧ cx.length + h.both.1.len ≤ 1000)
  case atStart => exact ⟨f, a0, co, cc, c, rfl, rfl, Nat.le_refl _, HST.out.1, HST.out.2.1, HST.out.2.2, HL0.out, LStep.refl _ _ _, rfl, HN.out⟩
  case round =>
    obtain ⟨hf, a, cor, ccr, cx, rfl, hgn, hgf, hst, hfw, hfo, hA, hSr, hcx, hln⟩ := hrel
    have hc := head_two hst hfw hfo
    rcases hc with ⟨ha, h0⟩ | ⟨k, sr, r, x, ha, hk, hrep, hrk, hro, hbo, hst', hsw, hso, hsl, hx⟩
    · subst ha
      have HD : Hid (LDone L g b (some ⟨gs, 0, none⟩) ao sc ac d co w (c ++ f.both.1.code c.length d) wr) := ⟨cor, ccr, by rw [← hcx, h0]; simpa [Mt.Re.code] using hA, hSr⟩
      clear hA hSr hcx hst h0
      go_wp2_with fail
      go_returns
      exact ⟨rfl, HD.out⟩
    · subst ha
      obtain ⟨ga, hao, hga, hac, hcell⟩ := hA.tree.atomRow k hk
      subst hao
      have hrg := atom_range hA.tree k hk
      obtain ⟨_, d1, _, _, _⟩ := hA.cells
      have hP := HPT.out k hf r x (by omega) hrep hrk hro hx
      have hlen : hf.both.1.len = (Mt.part r x).len + sr.both.1.len := by rw [hbo]; rfl
      have H1 : Hid (Calls Try.prog 73 #[.pointer (some ⟨g, 0, none⟩), .agg (paC (b.aAt k)).toArray] wr _) := hP wr cor ccr cx hA (by omega)
      have HSr : Hid (LStep g co cor w wr) := hSr
      have HSR : Hid (Mt.standsF b 0 0 sr (b.aAt k).next n ∧ sr.wf ∧ sr.ok) := ⟨hst', hsw, hso⟩
      have hk' : (k : Int) < (b.atoms.length : Int) := by omega
      have hkb : ((k : Int) != -1) = true := by simp
      have HCX : Hid (cx ++ (Mt.part r x).code cx.length d ++ sr.both.1.code ((cx ++ (Mt.part r x).code cx.length d).length : Int) d = c ++ f.both.1.code c.length d) := by
        show _ = _
        rw [← hcx, hbo, Mt.Re.code, List.append_assoc, List.length_append, Mt.Re.code_len]; push_cast; rfl
      have HLN : Hid ((cx ++ (Mt.part r x).code cx.length d).length + sr.both.1.len ≤ 1000) := by
        show _ ≤ _
        rw [List.length_append, Mt.Re.code_len]; omega
      have HAT : Hid (∀ (W : World) (c1 : Option Addr) (n1 : Nat) (l1 : List Mt.Ins), LAt L W g b (some ⟨gs, 0, none⟩) (some ⟨ga, 0, none⟩) sc ac c1 n1 l1 d → W.cell? ⟨ga, k * 20 + 19, none⟩ = some (.int .i64 (b.aAt k).next) ∧ W.cell? ⟨g, 1, none⟩ = some (.slice (some ⟨ga, 0, none⟩) b.atoms.length ac)) := by
        intro W c1 n1 l1 hW
        obtain ⟨ga', e, _, _, hc⟩ := hW.tree.atomRow k hk
        simp only [Option.some.injEq, Addr.mk.injEq, and_true, true_and] at e
        subst e
        exact ⟨hc 19 (by decide), hW.cells.2.1⟩
      clear hA hSr hcx hst hcell hP hx hrep hrk hro hst' hsw hso hbo hfw hfo HPT
      generalize hNx : (b.aAt k).next = nx at *
      generalize hAA : b.aAt k = A at *
      clear hNx hAA
      go_wp2_with (refine wpList_load_mid (by rfl) 125 (.tmp 32) (by rfl) ga (k * 20) (by rfl) (paC A) _ hrg Try.underlying125 rfl (by rw [Try.sizeAt]; rfl) ?_)
      refine H1.out.mono ?_
      rintro e w2 ⟨rfl, co2, cc2, hA, hS⟩
      obtain ⟨e19, e1⟩ := HAT.out _ _ _ _ hA
      have HA2 : Hid (LAt L w2 g b (some ⟨gs, 0, none⟩) (some ⟨ga, 0, none⟩) sc ac co2 cc2 (cx ++ (Mt.part r x).code cx.length d) d ∧ LStep g co co2 w w2) := ⟨hA, HSr.out.trans hS⟩
      clear hA hS HAT hrg
      go_wp2_with fail
      go_roundg sr.flat.length
      case measure => omega
      case rel => exact ⟨sr, nx, co2, cc2, _, rfl, rfl, by omega, HSR.out.1, HSR.out.2.1, HSR.out.2.2, HA2.out.1, HA2.out.2, HCX.out, HLN.out⟩
end
end Go.Proofs.Ytebpgfodelggoaa
