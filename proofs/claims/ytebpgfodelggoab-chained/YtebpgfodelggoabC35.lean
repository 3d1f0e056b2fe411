import Derived.Test.YtebpgfodelggoabC34
import Derived.Deep.LoopGhost
/- run: what one round does; the states that wait. -/
set_option linter.unusedVariables false
set_option linter.unusedSimpArgs false
namespace Go.Proofs.Ytebpgfodelggoab
open Go.RowKit

/-- The states that wait in this run, the last one first; and their like. -/
inductive Pairs (k : Pk) (A : Int → Mt.Att) : List (List Int) → List (List Int) → Prop
  | nil : Pairs k A [] []
  | cons {s q : List Int} {ss qs : List (List Int)} : Fine k A s q → Pairs k A ss qs → Pairs k A (s :: ss) (qs ++ [q])
theorem Pairs.len {k : Pk} {A : Int → Mt.Att} {ss qs : List (List Int)} (h : Pairs k A ss qs) : ss.length = qs.length := by
  induction h with
  | nil => rfl
  | cons _ _ ih => simp [ih]
theorem Pairs.out {k : Pk} {A : Int → Mt.Att} {ss qs : List (List Int)} (h : Pairs k A ss qs) (hn : 0 < qs.length) : ∃ s q ss' qs', ss = s :: ss' ∧ qs = qs' ++ [q] ∧ Fine k A s q ∧ Pairs k A ss' qs' := by
  cases h with
  | nil => simp at hn
  | cons h1 h2 => exact ⟨_, _, _, _, rfl, rfl, h1, h2⟩
theorem Fine.lq {k : Pk} {A : Int → Mt.Att} {s q : List Int} (h : Fine k A s q) : q.length = 43 := Mt.SimAt.lq h.sim
theorem Fine.pc {k : Pk} {A : Int → Mt.Att} {s q : List Int} (h : Fine k A s q) : Mt.gt q 0 = (Mt.pcOf s : Nat) ∧ Mt.gt q 1 = (Mt.posOf s : Nat) ∧ Mt.pcOf s < k.c.length ∧ Mt.posOf s ≤ k.t.size := by
  have h0 := Mt.SimAt.low h.sim 0 (by omega)
  have h1 := Mt.SimAt.low h.sim 1 (by omega)
  have g0 := h.good.pc0
  have g1 := h.good.pc1
  have g2 := h.good.pos0
  have g3 := h.good.pos1
  unfold Mt.pcOf Mt.posOf
  omega

section
variable {k : Pk} {E : Mt.Env} {A : Int → Mt.Att} {w : World} {steps : Int} {hd kn : List Bool} {room : Int} {wo : Option Addr} {wc : Nat} {W : List (List Int)}
/-- compare, for a state of a search. -/
theorem compare_any (hx : Ctx k E A) {s q : List Int} (hf : Fine k A s q) (h : PlayAt k w steps hd room wo wc W) (hW : W.length ≤ 90000) (ho : (k.c.getD (Mt.pcOf s) Mt.ins0).op = 1 ∨ (k.c.getD (Mt.pcOf s) Mt.ins0).op = 8 ∨ (k.c.getD (Mt.pcOf s) Mt.ins0).op = 9 ∨ (k.c.getD (Mt.pcOf s) Mt.ins0).op = 10) :
    Calls Try.prog 72 #[.pointer (some ⟨k.g, 0, none⟩), .agg (stA q), .agg (insA (k.c.getD (Mt.pcOf s) Mt.ins0))] w fun e w' => e = .returned (.tuple #[]) ∧ Waits k wo w steps hd room (addIf W (Mt.oneP k.t q (k.c.getD (Mt.pcOf s) Mt.ins0)).2 (Mt.oneP k.t q (k.c.getD (Mt.pcOf s) Mt.ins0)).1) w' := by
  obtain ⟨p0, p1, p2, p3⟩ := hf.pc
  have hl := hx.known.len
  have h60 := hx.t60
  have hi := hx.known.ok (Mt.pcOf s) p2
  generalize k.c.getD (Mt.pcOf s) Mt.ins0 = x at *
  rcases ho with o | o | o | o
  · exact compare_one h q hf.lq _ _ p0 p1 (by omega) p3 h60 (by omega) x (by rw [o]; rfl) hi.2.2.2.2.2.2.2
  · have i8 := hi.2.2.2.2.1 (Or.inr (Or.inr o))
    obtain ⟨X, hX⟩ : ∃ X : Nat, x.x = (X : Int) := ⟨x.x.toNat, by omega⟩
    have la := Mt.SimAt.low hf.sim (2 + 2 * X) (by omega)
    have lb := Mt.SimAt.low hf.sim (2 + (2 * X + 1)) (by omega)
    have pl := hf.good.place X (by omega)
    have ng := hf.neg X (by omega)
    by_cases hneg : Mt.gt s (2 + 2 * X) < 0
    · have ea : Mt.gt q (2 + 2 * X) = -1 ∧ Mt.gt q (2 + (2 * X + 1)) = -1 := by rcases ng with ng | ng <;> omega
      rw [Mt.back_no k.t q x X o hX ea.1, addIf_no]
      exact compare_back0 h q hf.lq x X (by rw [o]; rfl) (by rw [o]; rfl) hX (by omega) (-1) (by omega) ea.1 ea.2
    · obtain ⟨a, ha⟩ : ∃ a : Nat, Mt.gt s (2 + 2 * X) = (a : Int) := ⟨(Mt.gt s (2 + 2 * X)).toNat, by omega⟩
      obtain ⟨b, hb⟩ : ∃ b : Nat, Mt.gt s (2 + (2 * X + 1)) = (b : Int) := ⟨(Mt.gt s (2 + (2 * X + 1))).toNat, by omega⟩
      exact compare_back1 h q hf.lq _ _ p0 p1 (by omega) p3 h60 (by omega) x X (by rw [o]; rfl) (by rw [o]; rfl) hX (by omega) a b (by omega) (by omega) (by omega) (by omega)
  · exact compare_head h q hf.lq _ _ p0 p1 (by omega) p3 h60 (by omega) x (by rw [o]; rfl) (by rw [o]; rfl) (by rw [o]; rfl)
  · exact compare_tail h q hf.lq _ _ p0 p1 (by omega) p3 h60 (by omega) x (by rw [o]; rfl) (by rw [o]; rfl) (by rw [o]; rfl) (by rw [o]; rfl)
end
end Go.Proofs.Ytebpgfodelggoab
/- run: what one round comes to. -/
set_option linter.unusedVariables false
set_option linter.unusedSimpArgs false
namespace Go.Proofs.Ytebpgfodelggoab
open Go.RowKit

/-- Where a run stands: gn steps are left (one more than there may be), and R is what it will come to. -/
def NowAt (k : Pk) (E : Mt.Env) (A : Int → Mt.Att) (R : Mt.Res) (m : Nat) (W : List (List Int)) (wo1 : Option Addr) (w1 : World) (gn : Nat) (wr : World) : Prop :=
  (1 ≤ gn ∧ gn ≤ m ∧ ∃ hd kn room wo' wc' ss qs, PlayAt k wr (k.budget + 1 - gn) hd room wo' wc' (W ++ qs) ∧ PStep k wo1 wo' w1 wr ∧ Mt.Tab E hd kn ∧ kn.length = E.c.length * (E.t.size + 1) * 12 ∧ (0 ≤ room ∧ room ≤ 5000) ∧ Pairs k A ss qs ∧ Mt.lookS E (gn - 1) ss kn room = R ∧ qs.length + 3 * gn ≤ 3 * m + 1)
  ∨ (gn = 0 ∧ R.over = true ∧ OverAt k wo1 w1 wr (W.length + 3 * m + 1))
/-- The run has come to its end in the state q. -/
def EndsAt (k : Pk) (E : Mt.Env) (A : Int → Mt.Att) (R : Mt.Res) (m : Nat) (W qs : List (List Int)) (wo1 : Option Addr) (w1 : World) (q : List Int) (w' : World) : Prop :=
  ∃ st hd room wo' wc', PlayAt k w' st hd room wo' wc' (W ++ qs) ∧ PStep k wo1 wo' w1 w' ∧ qs.length ≤ 3 * m + 1 ∧ ((R.over = true ∧ st = k.budget + 1) ∨ (R.over = false ∧ R.ok = true ∧ Mt.Sim A R.st q ∧ st = k.budget - R.n ∧ room = R.room ∧ Mt.Tab E hd R.kn))
/-- What a Sub's run tells. -/
def SubTold (k : Pk) (E : Mt.Env) (A : Int → Mt.Att) (r : Mt.Res) (bound : Nat) (W : List (List Int)) : Told := fun q' b st' hd' room' W' =>
  (r.over = true ∧ st' = k.budget + 1 ∧ W'.length ≤ bound) ∨ (r.over = false ∧ st' = k.budget - r.n ∧ b = r.ok ∧ (r.ok = true → Mt.Sim A r.st q') ∧ room' = r.room ∧ Mt.Tab E hd' r.kn ∧ W' = W)

section
variable {k : Pk} {E : Mt.Env} {A : Int → Mt.Att} {R : Mt.Res} {m : Nat} {W : List (List Int)} {wo1 : Option Addr} {w1 : World}
/-- No step is left: whatever waits, it is over. -/
theorem now_over {gw : List (List Int)} {hd : List Bool} {room : Int} {wo' : Option Addr} {wc' : Nat} {w' : World} (hR : R.over = true) (h : PlayAt k w' (k.budget + 1) hd room wo' wc' gw) (hs : PStep k wo1 wo' w1 w') (hl : gw.length ≤ W.length + 3 * m + 1) : NowAt k E A R m W wo1 w1 0 w' :=
  Or.inr ⟨rfl, hR, hd, room, wo', wc', gw, h, hs, hl⟩
/-- The states that wait, with one step more or none. -/
theorem now_at {ss qs : List (List Int)} {hd kn : List Bool} {room : Int} {wo' : Option Addr} {wc' : Nat} {w' : World} {n : Nat} {s : List Int} {st : List (List Int)} {kn0 : List Bool} {room0 : Int} (hn : n ≤ m) (h : PlayAt k w' (k.budget + 1 - n) hd room wo' wc' (W ++ qs)) (hs : PStep k wo1 wo' w1 w') (ht : Mt.Tab E hd kn) (hk : kn.length = E.c.length * (E.t.size + 1) * 12) (hr : 0 ≤ room ∧ room ≤ 5000) (hp : Pairs k A ss qs)
    (hR : Mt.lookS E n (s :: st) kn0 room0 = R) (hl : ∀ j, n = j + 1 → Mt.lookS E n (s :: st) kn0 room0 = Mt.lookS E j ss kn room) (hq : qs.length + 3 * n ≤ 3 * m + 1) : NowAt k E A R m W wo1 w1 n w' := by
  cases n with
  | zero =>
    have e : R.over = true := by rw [← hR, Mt.lookS_zero]
    refine now_over e (gw := W ++ qs) (by simpa using h) hs (by rw [List.length_append]; omega)
  | succ j => exact Or.inl ⟨by omega, hn, hd, kn, room, wo', wc', ss, qs, h, hs, ht, hk, hr, hp, by rw [← hR, hl j rfl]; rfl, hq⟩

theorem Fine.jump {s q : List Int} (hx : Ctx k E A) (h : Fine k A s q) (v : Int) (h0 : 0 ≤ v) (h1 : v < k.c.length) (e : A v = A (Mt.gt s 0)) : Fine k A (s.set 0 v) (q.set 0 v) :=
  ⟨h.good.at_pc v h0 h1, h.sim.jump e, h.neg.set 0 v (by omega)⟩

theorem after_look (hx : Ctx k E A) {s q : List Int} {ss' qs' : List (List Int)} {wo : Option Addr} {w w' : World} {hd kn : List Bool} {room : Int} {b : Bool} {n : Nat} (hf : Fine k A s q) (hp : Pairs k A ss' qs') (hn : n + 1 ≤ m)
    (ht : Mt.Tab E hd (E.kn' s kn room)) (hk : kn.length = E.c.length * (E.t.size + 1) * 12) (hr : 0 ≤ room ∧ room ≤ 5000) (hD : E.dead s kn = false) (hR : Mt.lookS E n (s :: ss') kn room = R) (hq : qs'.length + 1 + 3 * (n + 1) ≤ 3 * m + 1) (hs : PStep k wo1 wo w1 w)
    (h : LookDone k wo (SubTold k E A (Mt.look E (n - 1) (s.set 0 (Mt.gt s 0 + 1)) (E.kn' s kn room) (E.room' s kn room)) ((W ++ qs').length + 3 * n + 1) (W ++ qs')) w q (E.ins s) (k.budget + 1 - n) hd (E.room' s kn room) (W ++ qs') b w') :
    (b = true ∧ EndsAt k E A R m W qs' wo1 w1 q w') ∨ (b = false ∧ ∃ gn', gn' < n + 1 ∧ NowAt k E A R m W wo1 w1 gn' w') := by
  obtain ⟨h2, h12, h11, h1⟩ := h
  have hkn : (E.kn' s kn room).length = E.c.length * (E.t.size + 1) * 12 := by rw [E.kn'_len]; exact hk
  have hrm := E.room'_in s kn room hr
  have hg : Mt.Good E.c.length E.t.size s := by rw [hx.ec, hx.et]; exact hf.good
  have hK : Mt.Known E.c A := by rw [hx.ec]; exact hx.known
  have hpc : ((Mt.pcOf s : Nat) : Int) = Mt.gt s 0 := by have := hf.good.pc0; unfold Mt.pcOf; omega
  have hpc0 := hf.good.pc0
  have hi := hK.ok (Mt.pcOf s) hg.pcOf_lt
  by_cases o12 : (E.ins s).op = 12 ∨ (E.ins s).op = 13
  · left
    obtain ⟨e, wo', wc', hP, hS⟩ := h12 o12
    refine ⟨e, _, _, _, wo', wc', hP, hs.trans hS, by omega, ?_⟩
    cases n with
    | zero =>
      left
      refine ⟨by rw [← hR, Mt.lookS_zero], by simp⟩
    | succ j =>
      right
      have hl := Mt.lookS_end E j s ss' kn room hD o12.symm
      rw [hR] at hl
      rw [hl]
      exact ⟨rfl, rfl, hf.sim, by dsimp only; omega, rfl, ht⟩
  have n12 : (E.ins s).op ≠ 12 := fun e => o12 (Or.inl e)
  have n13 : (E.ins s).op ≠ 13 := fun e => o12 (Or.inr e)
  obtain ⟨hn1, hru⟩ := Mt.known_att hK hg.pcOf_lt n13
  rw [hpc] at hru
  right
  by_cases o2 : (E.ins s).op = 2
  · obtain ⟨e, wo', wc', hP, hS⟩ := h2 o2
    have i2 := hi.1 o2
    rw [hx.ec] at i2
    obtain ⟨a1, a2⟩ := hru.2.1 o2
    refine ⟨e, n, by omega, now_at (by omega) (qs := (qs' ++ [q.set 0 (E.ins s).y]) ++ [q.set 0 (E.ins s).x]) (by simpa using hP) (hs.trans hS) ht hkn hrm (Pairs.cons (hf.jump hx _ (by have := i2.1; rw [← hx.ec] at this; exact this) (by have := i2.2.1; rw [← hx.ec] at this ⊢; exact this) a1) (Pairs.cons (hf.jump hx _ (by have := i2.2.2.1; rw [← hx.ec] at this; exact this) (by have := i2.2.2.2; rw [← hx.ec] at this ⊢; exact this) a2) hp)) hR ?_ (by simp; omega)⟩
    rintro j rfl
    exact Mt.lookS_split E j s ss' kn room hD o2
  by_cases o11 : (E.ins s).op = 11
  · obtain ⟨e, q', b', st', hd', room', wo', wc', W', d1, d2, d3, d4⟩ := h11 o11
    have i11 := hi.2.2.2.2.2.1 o11
    have gs := hg.at_pc (Mt.gt s 0 + 1) (by omega) (by omega)
    have g1 := Mt.look_good E hK.ok (n - 1) (n - 1) (s.set 0 (Mt.gt s 0 + 1)) (E.kn' s kn room) (E.room' s kn room) (by omega) gs hrm
    have k1 := Mt.look_keeps E A hK (n - 1) (n - 1) (s.set 0 (Mt.gt s 0 + 1)) (E.kn' s kn room) (E.room' s kn room) (by omega) gs hrm
    have k2 := Mt.look_neg E hK.ok (n - 1) (n - 1) (s.set 0 (Mt.gt s 0 + 1)) (E.kn' s kn room) (E.room' s kn room) (by omega) gs hrm (hf.neg.set 0 _ (by omega))
    have n1 := Mt.look_n E (n - 1) (s.set 0 (Mt.gt s 0 + 1)) (E.kn' s kn room) (E.room' s kn room)
    have hls : ∀ j, n = j + 1 → _ := fun j (_ : n = j + 1) => Mt.lookS_sub E j s ss' kn room hD o11
    have hlen := hf.good.len
    have p0 : Mt.gt (s.set 0 (Mt.gt s 0 + 1)) 0 = Mt.gt s 0 + 1 := Mt.gt_set_same _ _ _ (by omega)
    have pk : ∀ t : Int, Mt.gt (s.set 0 (Mt.gt s 0 + 1)) (22 + t.toNat) = Mt.gt s (22 + t.toNat) := fun t => Mt.gt_set_ne _ _ _ _ (by omega)
    rcases d2 with ⟨ov, rfl, hW'⟩ | ⟨ov, est, eb, esim, erm, etab, eW⟩
    · -- it is over
      have hRo : R.over = true := by
        cases n with
        | zero => rw [← hR, Mt.lookS_zero]
        | succ j =>
          have := hls j rfl
          rw [show j + 1 - 1 = j by omega] at ov
          rw [hR] at this
          rw [this, if_pos ov]
      refine ⟨e, 0, by omega, now_over hRo d3 (hs.trans d4) ?_⟩
      unfold addIf
      rw [List.length_append]
      rw [List.length_append] at hW'
      split
      · simp only [List.length_cons, List.length_nil]; omega
      · simp only [List.length_nil]; omega
    · -- it goes on
      cases n with
      | zero => rw [show (0 : Nat) - 1 = 0 from rfl, Mt.look_zero] at ov; cases ov
      | succ j =>
        rw [show j + 1 - 1 = j by omega] at *
        have hls := hls j rfl
        rw [if_neg (by rw [ov]; exact Bool.false_ne_true)] at hls
        generalize hr0 : Mt.look E j (s.set 0 (Mt.gt s 0 + 1)) (E.kn' s kn room) (E.room' s kn room) = r at *
        subst est
        subst eb
        subst erm
        subst eW
        have hfl : (Mt.apartP s (E.ins s) r.st r.ok).2 = flagQ (E.ins s) r.ok := by
          unfold Mt.apartP flagQ
          split
          · rfl
          split
          · rfl
          · rfl
        have est2 : k.budget - (r.n : Int) = k.budget + 1 - ((r.n + 1 : Nat) : Int) := by omega
        refine ⟨e, r.n + 1, by omega, ?_⟩
        have hknr : r.kn.length = E.c.length * (E.t.size + 1) * 12 := by rw [g1.2.1]; exact hkn
        cases hfg : flagQ (E.ins s) r.ok with
        | false =>
          rw [hfg, addIf_no, est2] at d3
          rw [hfl, hfg, if_neg Bool.false_ne_true, List.nil_append] at hls
          exact Or.inl ⟨by omega, by omega, hd', r.kn, r.room, wo', wc', ss', qs', d3, hs.trans d4, etab, hknr, g1.2.2.1, hp, by rw [show r.n + 1 - 1 = r.n by omega, ← hls]; exact hR, by omega⟩
        | true =>
          rw [hfg, addIf_yes, est2] at d3
          rw [hfl, hfg, if_pos rfl] at hls
          have hap : (Mt.apartP s (E.ins s) r.st r.ok).2 = true := by rw [hfl, hfg]
          have gd := Mt.apartP_good hg g1.1 (E.ins s) i11.1 i11.2.1 hap
          have sm := Mt.apart_sim (E := E) (A := A) (e := q') hK hg hf.sim o11 g1.1 esim g1.2.2.2.1 (fun hok => by
            obtain ⟨u1, u2, u3⟩ := k1 hok
            rw [p0] at u1 u2
            exact ⟨u1, fun t ht => (u2 t ht).trans (pk t), u3⟩) hap
          have ng := Mt.apartP_neg hlen g1.2.2.2.1 hf.neg k2 hap
          rw [hx.ec, hx.et] at gd
          refine Or.inl ⟨by omega, by omega, hd', r.kn, r.room, wo', wc', (Mt.apartP s (E.ins s) r.st r.ok).1 :: ss', qs' ++ [Mt.apartQ q (E.ins s) q'], by rw [← List.append_assoc]; exact d3, hs.trans d4, etab, hknr, g1.2.2.1, Pairs.cons ⟨gd, sm, ng⟩ hp, by rw [show r.n + 1 - 1 = r.n by omega]; rw [← hR, hls]; rfl, by simp; omega⟩
  · obtain ⟨e, wo', wc', hP, hS⟩ := h1 o2 o11 n12 n13
    refine ⟨e, n, by omega, ?_⟩
    have hsim := Mt.oneP_sim (t := E.t) hK hg hf.sim o2 o11 n12 n13
    have hok : (Mt.oneP k.t q (E.ins s)).2 = (Mt.oneP E.t s (E.ins s)).2 := by rw [← hx.et]; exact hsim.1
    rw [hok] at hP
    cases hfl : (Mt.oneP E.t s (E.ins s)).2 with
    | false =>
      rw [hfl, addIf_no] at hP
      refine now_at (by omega) hP (hs.trans hS) ht hkn hrm hp hR ?_ (by omega)
      rintro j rfl
      have := Mt.lookS_go E j s ss' kn room hD o2 o11 n12 n13
      rw [hfl, if_neg Bool.false_ne_true, List.nil_append] at this
      exact this
    | true =>
      rw [hfl, addIf_yes] at hP
      have gd := Mt.oneP_good hK.ok hg (t := E.t) o2 o11 n13 hfl
      rw [hx.ec, hx.et] at gd
      have ng := Mt.oneP_neg (t := E.t) hf.good hf.neg (x := E.ins s) (fun e => hi.2.2.2.2.1 e)
      have sm := hsim.2 hfl
      have gd' : Mt.Good k.c.length k.t.size (Mt.oneP E.t s (E.ins s)).1 := by
        have e1 : E.ins s = k.c.getD (Mt.pcOf s) Mt.ins0 := by unfold Mt.Env.ins; rw [hx.ec]
        rw [e1, hx.et]; exact gd
      refine now_at (by omega) (qs := qs' ++ [(Mt.oneP k.t q (E.ins s)).1]) (by rw [← List.append_assoc]; exact hP) (hs.trans hS) ht hkn hrm (Pairs.cons (s := (Mt.oneP E.t s (E.ins s)).1) ⟨gd', by rw [← hx.et]; exact sm, ng⟩ hp) hR ?_ (by simp; omega)
      rintro j rfl
      have := Mt.lookS_go E j s ss' kn room hD o2 o11 n12 n13
      rw [hfl, if_pos rfl] at this
      exact this
theorem look_turns {wo : Option Addr} {P : Told} {w : World} {q : List Int} {x : Mt.Ins} {steps : Int} {hd : List Bool} {room : Int} {V : List (List Int)} {b : Bool} {w' : World} (h : LookDone k wo P w q x steps hd room V b w') : ∃ wo', PStep k wo wo' w w' := by
  obtain ⟨h2, h12, h11, h1⟩ := h
  by_cases o2 : x.op = 2
  · obtain ⟨_, wo', _, _, hS⟩ := h2 o2; exact ⟨wo', hS⟩
  by_cases o12 : x.op = 12 ∨ x.op = 13
  · obtain ⟨_, wo', _, _, hS⟩ := h12 o12; exact ⟨wo', hS⟩
  by_cases o11 : x.op = 11
  · obtain ⟨_, _, _, _, _, _, wo', _, _, _, _, _, hS⟩ := h11 o11; exact ⟨wo', hS⟩
  · obtain ⟨_, wo', _, _, hS⟩ := h1 o2 o11 (fun e => o12 (Or.inl e)) (fun e => o12 (Or.inr e)); exact ⟨wo', hS⟩
end
end Go.Proofs.Ytebpgfodelggoab
/- run. -/
set_option linter.unusedVariables false
set_option linter.unusedSimpArgs false
namespace Go.Proofs.Ytebpgfodelggoab
open Go.RowKit

section
variable {k : Pk} {E : Mt.Env} {A : Int → Mt.Att}
theorem dead_same (hx : Ctx k E A) {s q : List Int} (hf : Fine k A s q) (kn : List Bool) (room : Int) : E.dead q kn = E.dead s kn ∧ E.kn' q kn room = E.kn' s kn room ∧ E.room' q kn room = E.room' s kn room := by
  obtain ⟨h1, h2⟩ := Mt.key_sim (E := E) (A := A) (by rw [hx.ec]; exact hx.known) (fun p hp => by rw [hx.ec] at hp ⊢; exact hx.ar p hp) (by rw [hx.ec, hx.et]; exact hf.good) hf.sim
  unfold Mt.Env.dead Mt.Env.kn' Mt.Env.room'
  rw [h1, h2]; exact ⟨rfl, rfl, rfl⟩
/-- Looking at a state, with runs of its own by what is known of them. -/
theorem lookP_any (hx : Ctx k E A) {s q : List Int} (hf : Fine k A s q) {n : Nat} (ih : RunK k E A n) {w : World} {hd kn : List Bool} {room : Int} {wo : Option Addr} {wc : Nat} {V : List (List Int)} (h : PlayAt k w (k.budget + 1 - n) hd room wo wc V) (ht : Mt.Tab E hd kn) (hk : kn.length = E.c.length * (E.t.size + 1) * 12) (hr : 0 ≤ room ∧ room ≤ 5000) (hl : V.length + 3 * n + 1 ≤ 50000) (hnb : (n : Int) ≤ k.budget + 1) :
    Calls Try.prog 59 #[.pointer (some ⟨k.g, 0, none⟩), .agg (stA q)] w fun e w' => ∃ b, e = .returned (.bool b) ∧ LookDone k wo (SubTold k E A (Mt.look E (n - 1) (s.set 0 (Mt.gt s 0 + 1)) kn room) (V.length + 3 * n + 1) V) w q (E.ins s) (k.budget + 1 - n) hd room V b w' := by
  obtain ⟨p0, p1, p2, p3⟩ := hf.pc
  have hcl := hx.known.len
  have h60 := hx.t60
  have hi := hx.known.ok (Mt.pcOf s) p2
  have e1 : E.ins s = k.c.getD (Mt.pcOf s) Mt.ins0 := by unfold Mt.Env.ins; rw [hx.ec]
  have hpc : ((Mt.pcOf s : Nat) : Int) = Mt.gt s 0 := by have := hf.good.pc0; unfold Mt.pcOf; omega
  have hrule : (k.c.getD (Mt.pcOf s) Mt.ins0).op ≠ 13 → Mt.Rule A (Mt.pcOf s : Nat) (k.c.getD (Mt.pcOf s) Mt.ins0) ∧ Mt.pcOf s + 1 < k.c.length := fun h13 => by
    obtain ⟨a, b⟩ := Mt.known_att hx.known p2 h13; exact ⟨b, a⟩
  have hop : 1 ≤ (k.c.getD (Mt.pcOf s) Mt.ins0).op ∧ (k.c.getD (Mt.pcOf s) Mt.ins0).op ≤ 13 := by
    by_cases h13 : (k.c.getD (Mt.pcOf s) Mt.ins0).op = 13
    · omega
    · have := (hrule h13).1.2.2.2.2.2.2.2.2.2.2.2.2; omega
  rw [e1]
  refine look_prog h q hf.lq _ _ p0 p1 p2 hcl (by omega) (by omega) _ _ rfl ?_ ?_ ?_ hop ?_ ?_
  · intro o
    have := ((hrule (by omega)).1.2.2.2.1 o).2.2
    have := hi.2.2.1 o
    omega
  · intro o
    have := ((hrule (by omega)).1.2.2.2.2.1 o).2.2
    omega
  · intro o
    have := hi.2.2.2.2.1 (by omega)
    omega
  · intro z hz ho
    exact compare_any hx hf hz (by omega) ho
  · intro z hz ho
    obtain ⟨hru, hn1⟩ := hrule (by omega)
    rw [hpc] at hru
    have h11 := hru.2.2.2.2.2.2.2.1 ho
    have i11 := hi.2.2.2.2.2.1 ho
    have gs := hf.good.at_pc (Mt.gt s 0 + 1) (by have := hf.good.pc0; omega) (by omega)
    have fs : Fine k A (s.set 0 (Mt.gt s 0 + 1)) (q.set 0 (Mt.gt s 0 + 1)) := by
      refine ⟨gs, ?_, hf.neg.set 0 _ (by omega)⟩
      refine Mt.SimAt.to ?_
      rw [h11.1]
      exact Mt.SimAt.less hf.sim (fun t ht => ht) (Int.le_refl _)
    refine playSub_prog hz q hf.lq _ _ p0 (by omega) _ ?_ ?_
    · intro z2 hz2
      have := ih z2 hd kn room wo wc V _ _ hz2 ht hk hr fs hl hnb
      rw [hpc]
      refine this.mono ?_
      rintro e w' ⟨q', b, rfl, hq', hpost⟩
      refine ⟨q', b, rfl, ?_⟩
      rcases hpost with ⟨ov, hd', room', wo', wc', W', a1, a2, a3⟩ | ⟨ov, eb, esim, hd', wo', wc', a1, a2, a3⟩
      · exact ⟨_, hd', room', wo', wc', W', hq', a1, a2, by omega, Or.inl ⟨ov, rfl, a3⟩⟩
      · exact ⟨_, hd', _, wo', wc', V, hq', a1, a2, by omega, Or.inr ⟨ov, rfl, eb, esim, rfl, a3, rfl⟩⟩
    · simp only [beq_iff_eq, beq_eq_false_iff_ne]
      omega
end
end Go.Proofs.Ytebpgfodelggoab
