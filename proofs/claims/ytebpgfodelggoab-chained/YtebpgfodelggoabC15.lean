import Derived.Test.YtebpgfodelggoabC14
import Derived.Test.YtebpgfodelggoabC09
/- TWO STATES THAT COME TO THE SAME: they part only in what nobody will ask; and a stack of states that wait. -/
set_option linter.unusedVariables false
namespace Mt

/-- The places of the open groups and the marks of the loops around are the same. -/
structure SimAt (a : Att) (s q : Sta) : Prop where
  ls : s.length = 44
  lq : q.length = 43
  low : ∀ i, i < 22 → gt q i = gt s i
  notes : ∀ k ∈ a.G, gt q (22 + k.toNat) = gt s (22 + k.toNat)
  marks : ∀ j : Nat, (j : Int) < a.d → gt q (32 + j) = gt s (32 + j)
def Sim (A : Int → Att) (s q : Sta) : Prop := SimAt (A (gt s 0)) s q

theorem SimAt.low_set {a : Att} {s q : Sta} (h : SimAt a s q) (i : Nat) (hi : i < 22) (v : Int) : SimAt a (s.set i v) (q.set i v) := by
  refine ⟨by rw [List.length_set]; exact h.ls, by rw [List.length_set]; exact h.lq, fun j hj => ?_, fun k hk => ?_, fun j hj => ?_⟩
  · have h1 := h.ls; have h2 := h.lq
    rw [gt_set, gt_set]
    by_cases e : i = j
    · rw [if_pos ⟨e, by omega⟩, if_pos ⟨e, by omega⟩]
    · rw [if_neg (by omega), if_neg (by omega)]; exact h.low j hj
  · rw [gt_set_ne _ _ _ _ (by omega), gt_set_ne _ _ _ _ (by omega)]; exact h.notes k hk
  · rw [gt_set_ne _ _ _ _ (by omega), gt_set_ne _ _ _ _ (by omega)]; exact h.marks j hj
theorem SimAt.note {a : Att} {s q : Sta} (h : SimAt a s q) (k : Int) (hk : k.toNat < 10) (hG : ∀ z ∈ a.G, 0 ≤ z ∧ z < 10) (v : Int) : SimAt ⟨k :: a.G, a.d, a.y, a.B⟩ (s.set (22 + k.toNat) v) (q.set (22 + k.toNat) v) := by
  have h1 := h.ls; have h2 := h.lq
  refine ⟨by rw [List.length_set]; exact h.ls, by rw [List.length_set]; exact h.lq, fun j hj => ?_, fun z hz => ?_, fun j hj => ?_⟩
  · rw [gt_set_ne _ _ _ _ (by omega), gt_set_ne _ _ _ _ (by omega)]; exact h.low j hj
  · rw [gt_set, gt_set]
    by_cases e : k.toNat = z.toNat
    · rw [if_pos ⟨by omega, by omega⟩, if_pos ⟨by omega, by omega⟩]
    · rw [if_neg (by omega), if_neg (by omega)]
      rcases List.mem_cons.1 hz with rfl | hz
      · exact absurd rfl e
      · exact h.notes z hz
  · rw [gt_set_ne _ _ _ _ (by omega), gt_set_ne _ _ _ _ (by omega)]; exact h.marks j hj
theorem SimAt.mark {a : Att} {s q : Sta} (h : SimAt a s q) (x : Int) (hx : x = a.d) (h0 : 0 ≤ x) (h11 : x < 11) (hG : ∀ z ∈ a.G, 0 ≤ z ∧ z < 10) (v : Int) : SimAt ⟨a.G, a.d + 1, a.y, a.B⟩ (s.set (32 + x.toNat) v) (q.set (32 + x.toNat) v) := by
  have h1 := h.ls; have h2 := h.lq
  refine ⟨by rw [List.length_set]; exact h.ls, by rw [List.length_set]; exact h.lq, fun j hj => ?_, fun z hz => ?_, fun j hj => ?_⟩
  · rw [gt_set_ne _ _ _ _ (by omega), gt_set_ne _ _ _ _ (by omega)]; exact h.low j hj
  · have := hG z hz
    rw [gt_set_ne _ _ _ _ (by omega), gt_set_ne _ _ _ _ (by omega)]; exact h.notes z hz
  · rw [gt_set, gt_set]
    by_cases e : x.toNat = j
    · rw [if_pos ⟨by omega, by omega⟩, if_pos ⟨by omega, by omega⟩]
    · rw [if_neg (by omega), if_neg (by omega)]; exact h.marks j (by dsimp only at hj; omega)
theorem SimAt.less {a b : Att} {s q : Sta} (h : SimAt a s q) (hG : ∀ k ∈ b.G, k ∈ a.G) (hd : b.d ≤ a.d) : SimAt b s q :=
  ⟨h.ls, h.lq, h.low, fun k hk => h.notes k (hG k hk), fun j hj => h.marks j (by omega)⟩
theorem SimAt.to {A : Int → Att} {s q : Sta} {v : Int} (h : SimAt (A v) s q) : Sim A (s.set 0 v) (q.set 0 v) := by
  have e : gt (s.set 0 v) 0 = v := gt_set_same _ _ _ (by have := h.ls; omega)
  show SimAt (A (gt (s.set 0 v) 0)) _ _
  rw [e]; exact h.low_set 0 (by omega) v
theorem Sim.jump {A : Int → Att} {s q : Sta} {v : Int} (h : Sim A s q) (e : A v = A (gt s 0)) : Sim A (s.set 0 v) (q.set 0 v) := by
  refine SimAt.to ?_
  rw [e]; exact h
theorem SimAt.get {a : Att} {s q : Sta} (h : SimAt a s q) (i : Nat) (hi : i < 22) : gt q i = gt s i := h.low i hi
theorem Sim.pcOf {A : Int → Att} {s q : Sta} (h : Sim A s q) : pcOf q = pcOf s := by unfold Mt.pcOf; rw [SimAt.low h 0 (by omega)]
theorem Sim.posOf {A : Int → Att} {s q : Sta} (h : Sim A s q) : posOf q = posOf s := by unfold Mt.posOf; rw [SimAt.low h 1 (by omega)]

theorem backP_sim {a : Att} (t : ByteArray) {s q : Sta} (h : SimAt a s q) (k : Int) (h0 : 0 ≤ k) (h9 : k < 10) : (backP t q k).2 = (backP t s k).2 ∧ ((backP t s k).2 = true → SimAt a (backP t s k).1 (backP t q k).1 ∧ gt (backP t s k).1 0 = gt s 0 + 1) := by
  have e1 := h.low (2 + (2 * k).toNat) (by omega)
  have e2 := h.low (2 + (2 * k + 1).toNat) (by omega)
  have e3 := h.low 1 (by omega)
  have e4 := h.low 0 (by omega)
  unfold backP
  rw [e1, e2, e3, e4]
  split
  · exact ⟨rfl, fun e => by cases e⟩
  split
  · exact ⟨rfl, fun e => by cases e⟩
  · refine ⟨rfl, fun _ => ⟨(h.low_set 1 (by omega) _).low_set 0 (by omega) _, ?_⟩⟩
    have := h.ls
    exact gt_set_same _ _ _ (by rw [List.length_set]; omega)
theorem known_att {c : List Ins} {A : Int → Att} (hK : Known c A) {q : Nat} (hq : q < c.length) (h13 : (c.getD q ins0).op ≠ 13) : q + 1 < c.length ∧ Rule A q (c.getD q ins0) := by
  have h1 : q + 1 < c.length := by
    rcases Nat.lt_or_ge (q + 1) c.length with h | h
    · exact h
    · exfalso
      have e : q = c.length - 1 := by omega
      rw [e] at h13; exact h13 hK.last
  exact ⟨h1, hK.rule q h1⟩
theorem oneP_sim {c : List Ins} {A : Int → Att} {t : ByteArray} {s q : Sta} (hK : Known c A) (hg : Good c.length t.size s) (h : Sim A s q) (h2 : (c.getD (pcOf s) ins0).op ≠ 2) (h11 : (c.getD (pcOf s) ins0).op ≠ 11) (h12 : (c.getD (pcOf s) ins0).op ≠ 12) (h13 : (c.getD (pcOf s) ins0).op ≠ 13) :
    (oneP t q (c.getD (pcOf s) ins0)).2 = (oneP t s (c.getD (pcOf s) ins0)).2 ∧ ((oneP t s (c.getD (pcOf s) ins0)).2 = true → Sim A (oneP t s (c.getD (pcOf s) ins0)).1 (oneP t q (c.getD (pcOf s) ins0)).1) := by
  obtain ⟨hn, hr⟩ := known_att hK hg.pcOf_lt h13
  have hi := hK.ok (pcOf s) hg.pcOf_lt
  have hpc : ((pcOf s : Nat) : Int) = gt s 0 := by have := hg.pc0; unfold pcOf; omega
  rw [hpc] at hr
  generalize c.getD (pcOf s) ins0 = x at *
  obtain ⟨r1, r2, r3, r4, r5, r6, r7, r11, r12, rB, rd, rG, ro⟩ := hr
  have e0 := SimAt.low h 0 (by omega)
  have e1 := SimAt.low h 1 (by omega)
  unfold oneP
  by_cases o1 : x.op = 1
  · rw [if_pos o1, if_pos o1]; dsimp only; rw [e0, e1]
    refine ⟨rfl, fun _ => Sim.jump (s := s.set 1 _) ?_ ?_⟩
    · have : Sim A (s.set 1 (gt s 1 + 1)) (q.set 1 (gt s 1 + 1)) := by
        show SimAt _ _ _
        rw [gt_set_ne _ _ _ _ (by omega)]; exact SimAt.low_set h 1 (by omega) _
      exact this
    · rw [gt_set_ne _ _ _ _ (by omega)]; exact r1 (by omega)
  rw [if_neg o1, if_neg o1]
  by_cases o3 : x.op = 3
  · rw [if_pos o3, if_pos o3]; exact ⟨rfl, fun _ => Sim.jump h (r3 o3)⟩
  rw [if_neg o3, if_neg o3]
  by_cases o4 : x.op = 4
  · rw [if_pos o4, if_pos o4]; dsimp only; rw [e0, e1]
    obtain ⟨a1, a2, a3⟩ := r4 o4
    have i4 := hi.2.2.1 o4
    refine ⟨rfl, fun _ => SimAt.to ?_⟩
    rw [a2]; exact SimAt.mark h x.x a1 (by omega) a3 rG _
  rw [if_neg o4, if_neg o4]
  by_cases o5 : x.op = 5
  · rw [if_pos o5, if_pos o5]; dsimp only
    obtain ⟨a1, a2, a3, a4⟩ := r5 o5
    rw [e1, SimAt.marks h x.y.toNat (by omega)]
    refine ⟨rfl, fun _ => SimAt.to ?_⟩
    rw [a1]; exact SimAt.less h (fun k hk => hk) (by dsimp only; omega)
  rw [if_neg o5, if_neg o5]
  by_cases o6 : x.op = 6
  · rw [if_pos o6, if_pos o6]; dsimp only; rw [e0, e1]
    obtain ⟨a1, a2⟩ := r6 o6
    have i6 := hi.2.2.2.2.1 (.inl o6)
    refine ⟨rfl, fun _ => SimAt.to ?_⟩
    rw [a1]; exact SimAt.note h x.x (by omega) rG _
  rw [if_neg o6, if_neg o6]
  by_cases o7 : x.op = 7
  · rw [if_pos o7, if_pos o7]; dsimp only; rw [e0, e1]
    obtain ⟨g, a1, a2⟩ := r7 o7
    have i6 := hi.2.2.2.2.1 (.inr (.inl o7))
    have en := SimAt.notes h x.x (by rw [a1]; exact List.mem_cons_self ..)
    rw [en]
    refine ⟨rfl, fun _ => SimAt.to ?_⟩
    rw [a2]
    exact SimAt.less ((SimAt.low_set h (2 + (2 * x.x).toNat) (by omega) _).low_set (2 + (2 * x.x + 1).toNat) (by omega) _) (fun k hk => by rw [a1]; exact List.mem_cons_of_mem _ hk) (by dsimp only; omega)
  rw [if_neg o7, if_neg o7]
  by_cases o8 : x.op = 8
  · rw [if_pos o8, if_pos o8]
    have i6 := hi.2.2.2.2.1 (.inr (.inr o8))
    have hb := backP_sim t (show SimAt (A (gt s 0)) s q from h) x.x (by omega) (by omega)
    refine ⟨hb.1, fun hk => ?_⟩
    obtain ⟨b1, b2⟩ := hb.2 hk
    show SimAt (A (gt _ 0)) _ _
    rw [b2, r1 (by omega)]; exact b1
  rw [if_neg o8, if_neg o8]
  by_cases o9 : x.op = 9
  · rw [if_pos o9, if_pos o9]; dsimp only; rw [e0, e1]; exact ⟨rfl, fun _ => Sim.jump h (r1 (by omega))⟩
  rw [if_neg o9, if_neg o9]
  by_cases o10 : x.op = 10
  · rw [if_pos o10, if_pos o10]; dsimp only; rw [e0, e1]; exact ⟨rfl, fun _ => Sim.jump h (r1 (by omega))⟩
  · exfalso; omega

/-- The table does not tell the two apart. -/
theorem key_sim {E : Env} {A : Int → Att} {s q : Sta} (hK : Known E.c A) (har : ∀ p, p < E.c.length → E.ar.getD p 0 = loopsAt E.c p) (hg : Good E.c.length E.t.size s) (h : Sim A s q) : E.key q = E.key s ∧ E.isIn q = E.isIn s := by
  unfold Env.key Env.isIn
  rw [h.pcOf, h.posOf]
  refine ⟨?_, rfl⟩
  unfold keyOf
  congr 1
  unfold lev levelTo
  refine List.countP_congr (fun j hj => ?_)
  rw [List.mem_range] at hj
  have hpc : ((pcOf s : Nat) : Int) = gt s 0 := by have := hg.pc0; unfold pcOf; omega
  have hd := hK.loops (pcOf s) hg.pcOf_lt
  rw [hpc] at hd
  rw [har _ hg.pcOf_lt] at hj
  rw [SimAt.low h 1 (by omega), SimAt.marks h j (by omega)]

/-- States that wait: the first is looked at, and all to which it leads; then the next. -/
def lookS (E : Env) : Nat → List Sta → List Bool → Int → Res
  | n, [], kn, room => ⟨[], false, n, kn, room, false⟩
  | n, s :: st, kn, room => if (look E n s kn room).ok || (look E n s kn room).over then look E n s kn room else lookS E (look E n s kn room).n st (look E n s kn room).kn (look E n s kn room).room
theorem lookS_zero (E : Env) (s : Sta) (st : List Sta) (kn : List Bool) (room : Int) : lookS E 0 (s :: st) kn room = ⟨s, false, 0, kn, room, true⟩ := rfl
theorem lookS_dead (E : Env) (n : Nat) (s : Sta) (st : List Sta) (kn : List Bool) (room : Int) (h : E.dead s kn = true) : lookS E (n + 1) (s :: st) kn room = lookS E n st (E.kn' s kn room) (E.room' s kn room) := by
  have hl := look_step E n s kn room
  rw [if_pos h] at hl
  rw [lookS, hl]; rfl
theorem lookS_end (E : Env) (n : Nat) (s : Sta) (st : List Sta) (kn : List Bool) (room : Int) (h : E.dead s kn = false) (ho : (E.ins s).op = 13 ∨ (E.ins s).op = 12) : lookS E (n + 1) (s :: st) kn room = ⟨s, true, n, E.kn' s kn room, E.room' s kn room, false⟩ := by
  have hl := look_step E n s kn room
  rw [if_neg (by rw [h]; exact Bool.false_ne_true), if_pos ho] at hl
  rw [lookS, hl]; rfl
theorem lookS_split (E : Env) (n : Nat) (s : Sta) (st : List Sta) (kn : List Bool) (room : Int) (h : E.dead s kn = false) (ho : (E.ins s).op = 2) : lookS E (n + 1) (s :: st) kn room = lookS E n (s.set 0 (E.ins s).x :: s.set 0 (E.ins s).y :: st) (E.kn' s kn room) (E.room' s kn room) := by
  have hl := look_step E n s kn room
  rw [if_neg (by rw [h]; exact Bool.false_ne_true), if_neg (by omega), if_pos ho] at hl
  rw [lookS, hl, lookS]
  dsimp only
  generalize look E n (s.set 0 (E.ins s).x) (E.kn' s kn room) (E.room' s kn room) = r
  by_cases hr : (r.ok || r.over) = true
  · rw [if_pos hr, if_pos hr, if_pos hr]
  · rw [if_neg hr, if_neg hr, lookS]
theorem lookS_go (E : Env) (n : Nat) (s : Sta) (st : List Sta) (kn : List Bool) (room : Int) (h : E.dead s kn = false) (h2 : (E.ins s).op ≠ 2) (h11 : (E.ins s).op ≠ 11) (h12 : (E.ins s).op ≠ 12) (h13 : (E.ins s).op ≠ 13) :
    lookS E (n + 1) (s :: st) kn room = lookS E n ((if (oneP E.t s (E.ins s)).2 then [(oneP E.t s (E.ins s)).1] else []) ++ st) (E.kn' s kn room) (E.room' s kn room) := by
  have hl := look_step E n s kn room
  rw [if_neg (by rw [h]; exact Bool.false_ne_true), if_neg (by omega), if_neg h2, if_neg h11] at hl
  rw [lookS, hl]
  by_cases hr : (oneP E.t s (E.ins s)).2 = true
  · rw [if_pos hr, if_pos hr]; rfl
  · rw [if_neg hr, if_neg hr]; rfl
theorem lookS_sub (E : Env) (n : Nat) (s : Sta) (st : List Sta) (kn : List Bool) (room : Int) (h : E.dead s kn = false) (ho : (E.ins s).op = 11) : lookS E (n + 1) (s :: st) kn room =
    if (look E n (s.set 0 (gt s 0 + 1)) (E.kn' s kn room) (E.room' s kn room)).over then ⟨s, false, (look E n (s.set 0 (gt s 0 + 1)) (E.kn' s kn room) (E.room' s kn room)).n, (look E n (s.set 0 (gt s 0 + 1)) (E.kn' s kn room) (E.room' s kn room)).kn, (look E n (s.set 0 (gt s 0 + 1)) (E.kn' s kn room) (E.room' s kn room)).room, true⟩
    else lookS E (look E n (s.set 0 (gt s 0 + 1)) (E.kn' s kn room) (E.room' s kn room)).n ((if (apartP s (E.ins s) (look E n (s.set 0 (gt s 0 + 1)) (E.kn' s kn room) (E.room' s kn room)).st (look E n (s.set 0 (gt s 0 + 1)) (E.kn' s kn room) (E.room' s kn room)).ok).2 then [(apartP s (E.ins s) (look E n (s.set 0 (gt s 0 + 1)) (E.kn' s kn room) (E.room' s kn room)).st (look E n (s.set 0 (gt s 0 + 1)) (E.kn' s kn room) (E.room' s kn room)).ok).1] else []) ++ st)
      (look E n (s.set 0 (gt s 0 + 1)) (E.kn' s kn room) (E.room' s kn room)).kn (look E n (s.set 0 (gt s 0 + 1)) (E.kn' s kn room) (E.room' s kn room)).room := by
  have hl := look_step E n s kn room
  rw [if_neg (by rw [h]; exact Bool.false_ne_true), if_neg (by omega), if_neg (by omega), if_pos ho] at hl
  rw [lookS, hl]
  clear hl
  dsimp only
  generalize look E n (s.set 0 (gt s 0 + 1)) (E.kn' s kn room) (E.room' s kn room) = r
  by_cases hr : r.over = true
  · rw [if_pos hr, if_pos hr]; rfl
  · rw [if_neg hr, if_neg hr]
    by_cases hk : (apartP s (E.ins s) r.st r.ok).2 = true
    · rw [if_pos hk, if_pos hk]; rfl
    · rw [if_neg hk, if_neg hk]; rfl
/-- One state alone. -/
theorem lookS_one (E : Env) (n : Nat) (s : Sta) (kn : List Bool) (room : Int) : (lookS E n [s] kn room).ok = (look E n s kn room).ok ∧ (lookS E n [s] kn room).over = (look E n s kn room).over ∧ (lookS E n [s] kn room).n = (look E n s kn room).n ∧ (lookS E n [s] kn room).kn = (look E n s kn room).kn ∧ (lookS E n [s] kn room).room = (look E n s kn room).room ∧ ((look E n s kn room).ok = true → (lookS E n [s] kn room).st = (look E n s kn room).st) := by
  rw [lookS]
  generalize look E n s kn room = r
  split
  · exact ⟨rfl, rfl, rfl, rfl, rfl, fun _ => rfl⟩
  · rename_i hr
    simp only [Bool.or_eq_true, not_or, Bool.not_eq_true] at hr
    refine ⟨hr.1.symm, hr.2.symm, rfl, rfl, rfl, fun e => ?_⟩
    rw [hr.1] at e; cases e

/-- What a run keeps: the groups that were open when it began keep what was noted; it ends where it must. -/
theorem look_keeps (E : Env) (A : Int → Att) (hK : Known E.c A) : ∀ (N n : Nat) (s : Sta) (kn : List Bool) (room : Int), n ≤ N → Good E.c.length E.t.size s → 0 ≤ room ∧ room ≤ 5000 → (look E n s kn room).ok = true →
    (A (gt (look E n s kn room).st 0)).y = (A (gt s 0)).y ∧ (∀ k ∈ (A (gt s 0)).B, gt (look E n s kn room).st (22 + k.toNat) = gt s (22 + k.toNat)) ∧ ((E.ins (look E n s kn room).st).op = 12 ∨ (E.ins (look E n s kn room).st).op = 13)
  | N, 0, s, kn, room, _, h, hr, ho => by rw [look_zero] at ho; cases ho
  | 0, n + 1, s, kn, room, hn, _, _, _ => by omega
  | N + 1, n + 1, s, kn, room, hn, h, hrm, ho => by
    have ih : ∀ (n : Nat) (s : Sta) (kn : List Bool) (room : Int), n ≤ N → Good E.c.length E.t.size s → 0 ≤ room ∧ room ≤ 5000 → (look E n s kn room).ok = true →
      (A (gt (look E n s kn room).st 0)).y = (A (gt s 0)).y ∧ (∀ k ∈ (A (gt s 0)).B, gt (look E n s kn room).st (22 + k.toNat) = gt s (22 + k.toNat)) ∧ ((E.ins (look E n s kn room).st).op = 12 ∨ (E.ins (look E n s kn room).st).op = 13) := look_keeps E A hK N
    -- to go on from another state
    have on : ∀ (n : Nat) (u : Sta) (kn : List Bool) (room : Int), n ≤ N → Good E.c.length E.t.size u → 0 ≤ room ∧ room ≤ 5000 → (look E n u kn room).ok = true → (A (gt u 0)).y = (A (gt s 0)).y → (A (gt u 0)).B = (A (gt s 0)).B → (∀ k ∈ (A (gt s 0)).B, gt u (22 + k.toNat) = gt s (22 + k.toNat)) →
      (A (gt (look E n u kn room).st 0)).y = (A (gt s 0)).y ∧ (∀ k ∈ (A (gt s 0)).B, gt (look E n u kn room).st (22 + k.toNat) = gt s (22 + k.toNat)) ∧ ((E.ins (look E n u kn room).st).op = 12 ∨ (E.ins (look E n u kn room).st).op = 13) := fun n u kn room h1 h2 h3 h4 h5 h6 h7 => by
      obtain ⟨a, b, c⟩ := ih n u kn room h1 h2 h3 h4
      exact ⟨a.trans h5, fun k hk => (b k (by rw [h6]; exact hk)).trans (h7 k hk), c⟩
    rw [look_step] at ho ⊢
    have hR := E.room'_in s kn room hrm
    have hl := h.len
    have hpc : ((pcOf s : Nat) : Int) = gt s 0 := by have := h.pc0; unfold pcOf; omega
    by_cases hd : E.dead s kn = true
    · rw [if_pos hd] at ho; cases ho
    rw [if_neg hd] at ho ⊢
    by_cases h13 : (E.ins s).op = 13 ∨ (E.ins s).op = 12
    · rw [if_pos h13]; exact ⟨rfl, fun _ _ => rfl, h13.symm⟩
    rw [if_neg h13] at ho ⊢
    have hx13 : (E.c.getD (pcOf s) ins0).op ≠ 13 := fun e => h13 (.inl e)
    obtain ⟨hn1, hru⟩ := known_att hK h.pcOf_lt hx13
    have hi := hK.ok (pcOf s) h.pcOf_lt
    rw [hpc] at hru
    have hp0 := h.pc0
    have p0 : ∀ v, gt (s.set 0 v) 0 = v := fun v => gt_set_same _ _ _ (by omega)
    have pk : ∀ (v : Int) (k : Int), gt (s.set 0 v) (22 + k.toNat) = gt s (22 + k.toNat) := fun v k => gt_set_ne _ _ _ _ (by omega)
    by_cases o2 : (E.ins s).op = 2
    · rw [if_pos o2] at ho ⊢
      have i2 := hi.1 o2
      obtain ⟨a1, a2⟩ := hru.2.1 o2
      have g1 := look_good E hK.ok N n (s.set 0 (E.ins s).x) (E.kn' s kn room) (E.room' s kn room) (by omega) (h.at_pc _ i2.1 i2.2.1) hR
      have n1 := look_n E n (s.set 0 (E.ins s).x) (E.kn' s kn room) (E.room' s kn room)
      have k1 := on n (s.set 0 (E.ins s).x) (E.kn' s kn room) (E.room' s kn room) (by omega) (h.at_pc _ i2.1 i2.2.1) hR
      dsimp only at ho ⊢
      generalize look E n (s.set 0 (E.ins s).x) (E.kn' s kn room) (E.room' s kn room) = r at *
      by_cases hro : (r.ok || r.over) = true
      · rw [if_pos hro] at ho ⊢
        exact k1 ho (by rw [p0]; exact congrArg Att.y a1) (by rw [p0]; exact congrArg Att.B a1) (fun k hk => pk _ k)
      · rw [if_neg hro] at ho ⊢
        exact on r.n (s.set 0 (E.ins s).y) r.kn r.room (by omega) (h.at_pc _ i2.2.2.1 i2.2.2.2) g1.2.2.1 ho (by rw [p0]; exact congrArg Att.y a2) (by rw [p0]; exact congrArg Att.B a2) (fun k hk => pk _ k)
    rw [if_neg o2] at ho ⊢
    by_cases o11 : (E.ins s).op = 11
    · rw [if_pos o11] at ho ⊢
      have i11 := hi.2.2.2.2.2.1 o11
      obtain ⟨a1, a2, a3, a4⟩ := hru.2.2.2.2.2.2.2.1 o11
      have gs := h.at_pc (gt s 0 + 1) (by omega) (by omega)
      have g1 := look_good E hK.ok N n (s.set 0 (gt s 0 + 1)) (E.kn' s kn room) (E.room' s kn room) (by omega) gs hR
      have n1 := look_n E n (s.set 0 (gt s 0 + 1)) (E.kn' s kn room) (E.room' s kn room)
      have k1 := ih n (s.set 0 (gt s 0 + 1)) (E.kn' s kn room) (E.room' s kn room) (by omega) gs hR
      rw [p0, a1] at k1
      dsimp only at ho k1 ⊢
      generalize look E n (s.set 0 (gt s 0 + 1)) (E.kn' s kn room) (E.room' s kn room) = r at *
      by_cases hov : r.over = true
      · rw [if_pos hov] at ho; cases ho
      rw [if_neg hov] at ho ⊢
      by_cases hk : (apartP s (E.ins s) r.st r.ok).2 = true
      · rw [if_pos hk] at ho ⊢
        have ga := apartP_good h g1.1 (E.ins s) i11.1 i11.2.1 hk
        have pa : gt (apartP s (E.ins s) r.st r.ok).1 0 = (E.ins s).y ∧ ∀ k ∈ (A (gt s 0)).G, gt (apartP s (E.ins s) r.st r.ok).1 (22 + k.toNat) = gt s (22 + k.toNat) := by
          unfold apartP at hk ⊢
          by_cases x0 : (E.ins s).x = 0
          · rw [if_pos x0] at hk ⊢
            refine ⟨gt_set_same _ _ _ (by rw [g1.2.2.2.1]; omega), fun k hkk => ?_⟩
            dsimp only
            rw [gt_set_ne _ _ _ _ (by omega), (k1 hk).2.1 k hkk, pk]
          rw [if_neg x0] at hk ⊢
          by_cases x1 : (E.ins s).x = 1
          · rw [if_pos x1] at hk ⊢
            refine ⟨gt_set_same _ _ _ (by rw [withAt_len s r.st h.len g1.2.2.2.1]; omega), fun k hkk => ?_⟩
            dsimp only
            rw [gt_set_ne _ _ _ _ (by omega), gt_withAt s r.st h.len g1.2.2.2.1, if_neg (by omega)]
          · rw [if_neg x1]; exact ⟨p0 _, fun k hkk => pk _ k⟩
        exact on r.n _ r.kn r.room (by omega) ga g1.2.2.1 ho (by rw [pa.1]; exact congrArg Att.y a2) (by rw [pa.1]; exact congrArg Att.B a2) (fun k hkk => pa.2 k (hru.2.2.2.2.2.2.2.2.2.1 k hkk))
      · rw [if_neg hk] at ho; cases ho
    rw [if_neg o11] at ho ⊢
    by_cases hk : (oneP E.t s (E.ins s)).2 = true
    · rw [if_pos hk] at ho ⊢
      have gg := oneP_good hK.ok h (t := E.t) o2 o11 hx13 hk
      have pa : (A (gt (oneP E.t s (E.ins s)).1 0)).y = (A (gt s 0)).y ∧ (A (gt (oneP E.t s (E.ins s)).1 0)).B = (A (gt s 0)).B ∧ ∀ k ∈ (A (gt s 0)).B, gt (oneP E.t s (E.ins s)).1 (22 + k.toNat) = gt s (22 + k.toNat) := by
        have hxe : E.ins s = E.c.getD (pcOf s) ins0 := rfl
        rw [← hxe] at hru hi
        generalize E.ins s = x at *
        obtain ⟨r1, r2, r3, r4, r5, r6, r7, r11, r12, rB, rd, rG, ro⟩ := hru
        have q0 : ∀ (i : Nat) (u v : Int), gt ((s.set i u).set 0 v) 0 = v := fun i u v => gt_set_same _ _ _ (by rw [List.length_set]; omega)
        unfold oneP at hk ⊢
        by_cases o1 : x.op = 1
        · rw [if_pos o1]; dsimp only
          rw [q0, r1 (by omega)]
          exact ⟨rfl, rfl, fun k hkk => by rw [gt_set_ne _ _ _ _ (by omega), gt_set_ne _ _ _ _ (by omega)]⟩
        rw [if_neg o1] at hk ⊢
        by_cases o3 : x.op = 3
        · rw [if_pos o3]; dsimp only
          rw [p0, r3 o3]; exact ⟨rfl, rfl, fun k hkk => pk _ k⟩
        rw [if_neg o3] at hk ⊢
        by_cases o4 : x.op = 4
        · rw [if_pos o4]; dsimp only
          rw [q0, (r4 o4).2.1]
          exact ⟨rfl, rfl, fun k hkk => by have := rG k (rB k hkk); rw [gt_set_ne _ _ _ _ (by omega), gt_set_ne _ _ _ _ (by omega)]⟩
        rw [if_neg o4] at hk ⊢
        by_cases o5 : x.op = 5
        · rw [if_pos o5]; dsimp only
          rw [p0, (r5 o5).1]; exact ⟨rfl, rfl, fun k hkk => pk _ k⟩
        rw [if_neg o5] at hk ⊢
        by_cases o6 : x.op = 6
        · rw [if_pos o6]; dsimp only
          have i6 := hi.2.2.2.2.1 (.inl o6)
          rw [q0, (r6 o6).1]
          refine ⟨rfl, rfl, fun k hkk => ?_⟩
          have g1 := rG k (rB k hkk)
          have g2 : x.x ≠ k := fun e => (r6 o6).2 (by rw [e]; exact rB k hkk)
          rw [gt_set_ne _ _ _ _ (by omega), gt_set_ne _ _ _ _ (by omega)]
        rw [if_neg o6] at hk ⊢
        by_cases o7 : x.op = 7
        · rw [if_pos o7]; dsimp only
          have i6 := hi.2.2.2.2.1 (.inr (.inl o7))
          obtain ⟨g, b1, b2⟩ := r7 o7
          have : gt (((s.set (2 + (2 * x.x).toNat) (gt s (22 + x.x.toNat))).set (2 + (2 * x.x + 1).toNat) (gt s 1)).set 0 (gt s 0 + 1)) 0 = gt s 0 + 1 := gt_set_same _ _ _ (by rw [List.length_set, List.length_set]; omega)
          rw [this, b2]
          exact ⟨rfl, rfl, fun k hkk => by rw [gt_set_ne _ _ _ _ (by omega), gt_set_ne _ _ _ _ (by omega), gt_set_ne _ _ _ _ (by omega)]⟩
        rw [if_neg o7] at hk ⊢
        by_cases o8 : x.op = 8
        · rw [if_pos o8] at hk ⊢
          unfold backP at hk ⊢
          split at hk
          · cases hk
          split at hk
          · cases hk
          rename_i u1 u2
          rw [if_neg u1, if_neg u2]; dsimp only
          rw [q0, r1 (by omega)]
          exact ⟨rfl, rfl, fun k hkk => by rw [gt_set_ne _ _ _ _ (by omega), gt_set_ne _ _ _ _ (by omega)]⟩
        rw [if_neg o8] at hk ⊢
        by_cases o9 : x.op = 9
        · rw [if_pos o9]; dsimp only
          rw [p0, r1 (by omega)]; exact ⟨rfl, rfl, fun k hkk => pk _ k⟩
        rw [if_neg o9] at hk ⊢
        by_cases o10 : x.op = 10
        · rw [if_pos o10]; dsimp only
          rw [p0, r1 (by omega)]; exact ⟨rfl, rfl, fun k hkk => pk _ k⟩
        · exfalso; omega
      exact on n _ _ _ (by omega) gg hR ho pa.1 pa.2.1 pa.2.2
    · rw [if_neg hk] at ho; cases ho
end Mt
