import Derived.Test.YtebpgfodelggoabC51
import Derived.Test.YtebpgfodelggoabC17
import Derived.Test.YtebpgfodelggoabC49
import Derived.Test.YtebpgfodelggoabC41
/- WHAT A TABLE CHANGES IN A SEARCH: P9. -/
set_option linter.unusedVariables false
namespace Mt
variable {E : Env} {A : Int → Att}

theorem kinv_nil (s : Sta) : KInv E A [] s := fun u _ _ h => by simp at h
theorem rel_nil (kn : List Bool) (room : Int) : Rel [] 0 kn room := .inr ⟨rfl, fun i h => by simp at h⟩
theorem inR0 : InR 0 := by unfold InR; omega
def PNil (kn : List Bool) (room : Int) : Prop := kn = [] ∧ room = 0
theorem nil_cl (s : Sta) (kn : List Bool) (room : Int) (h : PNil kn room) : PNil (E.kn' s kn room) (E.room' s kn room) := by
  obtain ⟨rfl, rfl⟩ := h
  exact ⟨(idle_nil E s).2.1, (idle_nil E s).2.2⟩
theorem look_same {n m : Nat} {s : Sta} {kn : List Bool} {room : Int} (h1 : (look E n s kn room).over = false) (h2 : (look E m s kn room).over = false) : (look E n s kn room).ok = (look E m s kn room).ok := by
  have a := look_more E m n n s kn room (Nat.le_refl _) h1
  have b := look_more E n m m s kn room (Nat.le_refl _) h2
  rw [Nat.add_comm m n, a] at b
  injection b
theorem nil_F (n : Nat) (s : Sta) (kn : List Bool) (room : Int) (hp : PNil kn room) (_ : InR room) (_ : Nice E A s) (_ : KInv E A kn s) (hf : Fail E s) (ho : (look E n s kn room).over = false) : (look E n s kn room).ok = false := by
  obtain ⟨rfl, rfl⟩ := hp
  obtain ⟨m, h1, h2⟩ := hf
  rw [look_same ho h1]; exact h2
theorem nil_G (n : Nat) (s : Sta) (kn : List Bool) (room : Int) (hp : PNil kn room) (_ : InR room) (_ : Nice E A s) (_ : KInv E A kn s) (ho : (look E n s kn room).over = false) (hk : (look E n s kn room).ok = false) : Fail E s := by
  obtain ⟨rfl, rfl⟩ := hp
  exact ⟨n, ho, hk⟩
theorem all_F (hy : Hy E A) (n : Nat) (s : Sta) (kn : List Bool) (room : Int) (_ : True) (hr : InR room) (hs : Nice E A s) (hk : KInv E A kn s) (hf : Fail E s) (ho : (look E n s kn room).over = false) : (look E n s kn room).ok = false := by
  obtain ⟨m, h1, h2⟩ := hf
  obtain ⟨a, b, _⟩ := look_fewer hy PNil nil_cl nil_F nil_G m m (n + m) s [] 0 kn room (Nat.le_refl _) (by omega) hs inR0 hr ⟨rfl, rfl⟩ (kinv_nil s) hk (rel_nil _ _) h1
  rw [look_same ho a, b]; exact h2
theorem all_G (hy : Hy E A) (n : Nat) (s : Sta) (kn : List Bool) (room : Int) (_ : True) (hr : InR room) (hs : Nice E A s) (hk : KInv E A kn s) (ho : (look E n s kn room).over = false) (hok : (look E n s kn room).ok = false) : Fail E s := by
  obtain ⟨m, h1⟩ := look_ends hy.k (mu E A s + 1) s [] 0 (by omega) hs inR0
  obtain ⟨a, b, _⟩ := look_fewer hy PNil nil_cl nil_F nil_G m m (n + m) s [] 0 kn room (Nat.le_refl _) (by omega) hs inR0 hr ⟨rfl, rfl⟩ (kinv_nil s) hk (rel_nil _ _) h1
  refine ⟨m, h1, ?_⟩
  rw [← b, ← look_same ho a]; exact hok

/-- All that stands in the table comes to nothing. -/
def KF (E : Env) (A : Int → Att) (kn : List Bool) : Prop := ∀ u, Nice E A u → E.isIn u = true → kn.getD (E.key u) false = true → Fail E u
theorem KF.inv {kn : List Bool} (h : KF E A kn) (s : Sta) : KInv E A kn s := fun u hu hi hk => .inl (h u hu hi hk)
theorem KF.adds {kn kn2 : List Bool} (h : KF E A kn) (ha : Adds E A kn kn2) : KF E A kn2 := fun u hu hi hk => by
  rcases ha u hu hi hk with hk | hk
  · exact h u hu hi hk
  · exact hk
theorem kf_new (n : Nat) : KF E A (List.replicate n false) := fun u _ _ h => by
  rw [List.getD_eq_getElem?_getD, List.getElem?_replicate] at h
  split at h <;> simp at h
theorem start_nice (hK : Kn E.c A) (p : Nat) (hp : p ≤ E.t.size) : Nice E A (startSt p) := by
  have e0 : gt (startSt p) 0 = 0 := rfl
  refine ⟨startSt_good _ _ p hK.k.pos hp, fun j hj => ?_, fun i j hij hj => ?_⟩
  · rw [e0, hK.k.start] at hj; dsimp only at hj; omega
  · rw [e0, hK.k.start] at hj; dsimp only at hj; omega

theorem search_fewer (hy : Hy E A) (Pd : List Bool → Int → Prop) (hcl : ∀ s kn room, Pd kn room → Pd (E.kn' s kn room) (E.room' s kn room))
    (hF : ∀ n s kn room, Pd kn room → InR room → Nice E A s → KInv E A kn s → Fail E s → (look E n s kn room).over = false → (look E n s kn room).ok = false)
    (hG : ∀ n s kn room, Pd kn room → InR room → Nice E A s → KInv E A kn s → (look E n s kn room).over = false → (look E n s kn room).ok = false → Fail E s) (b1 b2 : Int) :
    ∀ (f p n1 n2 : Nat) (kn1 : List Bool) (room1 : Int) (kn2 : List Bool) (room2 : Int), p + f ≤ E.t.size + 1 → n1 ≤ n2 → InR room1 → InR room2 → Pd kn1 room1 → KF E A kn1 → KF E A kn2 → Rel kn1 room1 kn2 room2 → (search E b1 f p n1 kn1 room1).2 = false →
    (search E b2 f p n2 kn2 room2).2 = false ∧ (search E b2 f p n2 kn2 room2).1.ok = (search E b1 f p n1 kn1 room1).1.ok ∧ (search E b2 f p n2 kn2 room2).1.at' = (search E b1 f p n1 kn1 room1).1.at' ∧ (search E b2 f p n2 kn2 room2).1.steps + n2 - b2 ≤ (search E b1 f p n1 kn1 room1).1.steps + n1 - b1
  | 0, p, n1, n2, kn1, room1, kn2, room2, _, hn, _, _, _, _, _, _, _ => by
    simp only [search]
    exact ⟨trivial, trivial, trivial, by omega⟩
  | f + 1, p, n1, n2, kn1, room1, kn2, room2, hpf, hn, hr1, hr2, hp, k1, k2, hR, ho => by
    have hs := start_nice (E := E) hy.k p (by omega)
    have j := look_fewer hy Pd hcl hF hG n1 n1 n2 (startSt p) kn1 room1 kn2 room2 (Nat.le_refl _) hn hs hr1 hr2 hp (k1.inv _) (k2.inv _) hR
    have g1 := (look_good E hy.k.k.ok n1 n1 (startSt p) kn1 room1 (Nat.le_refl _) hs.g hr1).2.2.1
    have g2 := (look_good E hy.k.k.ok n2 n2 (startSt p) kn2 room2 (Nat.le_refl _) hs.g hr2).2.2.1
    have c1 := look_closed Pd hcl n1 n1 (startSt p) kn1 room1 (Nat.le_refl _) hp
    have l1 := look_n E n1 (startSt p) kn1 room1
    have l2 := look_n E n2 (startSt p) kn2 room2
    rw [search] at ho ⊢
    rw [search]
    generalize look E n1 (startSt p) kn1 room1 = r at *
    generalize look E n2 (startSt p) kn2 room2 = q at *
    by_cases hov : r.over = true
    · rw [if_pos hov] at ho; cases ho
    have hov' : r.over = false := by simpa using hov
    obtain ⟨j1, j2, j3, j4, j5⟩ := j hov'
    rw [if_neg hov] at ho ⊢
    rw [if_neg (by rw [j1]; simp)]
    by_cases hok : r.ok = true
    · rw [if_pos hok, if_pos (by rw [j2]; exact hok), j3 hok]
      refine ⟨rfl, rfl, rfl, ?_⟩
      dsimp only; omega
    · have hok' : r.ok = false := by simpa using hok
      obtain ⟨v1, v2, v3⟩ := j5 hok'
      rw [if_neg hok] at ho ⊢
      rw [if_neg (by rw [j2]; exact hok)]
      obtain ⟨z1, z2, z3, z4⟩ := search_fewer hy Pd hcl hF hG b1 b2 f (p + 1) r.n q.n r.kn r.room q.kn q.room (by omega) (by omega) g1 g2 c1 (k1.adds v2) (k2.adds v3) v1 ho
      exact ⟨z1, z2, z3, by omega⟩

/-- Two machines whose tables do nothing. -/
theorem look_env {E' : Env} (hc : E'.c = E.c) (ht : E'.t = E.t) {kn kn' : List Bool} {room room' : Int} (h : Idle E kn room) (h' : Idle E' kn' room') : ∀ (N n : Nat) (s : Sta), n ≤ N →
    (look E' n s kn' room').st = (look E n s kn room).st ∧ (look E' n s kn' room').ok = (look E n s kn room).ok ∧ (look E' n s kn' room').n = (look E n s kn room).n ∧ (look E' n s kn' room').over = (look E n s kn room).over ∧ (look E' n s kn' room').kn = kn' ∧ (look E' n s kn' room').room = room' ∧ (look E n s kn room).kn = kn ∧ (look E n s kn room).room = room
  | N, 0, s, _ => ⟨rfl, rfl, rfl, rfl, rfl, rfl, rfl, rfl⟩
  | 0, n + 1, s, hn => by omega
  | N + 1, n + 1, s, hn => by
    have ih := look_env hc ht h h' N
    obtain ⟨d, k, r⟩ := h s
    obtain ⟨d', k', r'⟩ := h' s
    have hx : E'.ins s = E.ins s := by unfold Env.ins; rw [hc]
    by_cases h13 : (E.ins s).op = 13 ∨ (E.ins s).op = 12
    · rw [look_f d h13, look_f d' (by rw [hx]; exact h13)]
      exact ⟨rfl, rfl, rfl, rfl, k', r', k, r⟩
    by_cases o2 : (E.ins s).op = 2
    · rw [look_2 d o2 rfl, look_2 d' (by rw [hx]; exact o2) rfl, hx, k, r, k', r']
      have j := ih n (s.set 0 (E.ins s).x) (by omega)
      have l := look_n E n (s.set 0 (E.ins s).x) kn room
      generalize look E n (s.set 0 (E.ins s).x) kn room = q at *
      generalize look E' n (s.set 0 (E.ins s).x) kn' room' = q' at *
      obtain ⟨j1, j2, j3, j4, j5, j6, j7, j8⟩ := j
      rw [j2, j4]
      split
      · exact ⟨j1, j2, j3, j4, j5, j6, j7, j8⟩
      · rw [j3, j5, j6, j7, j8]; exact ih _ _ (by omega)
    by_cases o11 : (E.ins s).op = 11
    · rw [look_11 d o11 rfl, look_11 d' (by rw [hx]; exact o11) rfl, hx, k, r, k', r']
      have j := ih n (s.set 0 (gt s 0 + 1)) (by omega)
      have l := look_n E n (s.set 0 (gt s 0 + 1)) kn room
      generalize look E n (s.set 0 (gt s 0 + 1)) kn room = q at *
      generalize look E' n (s.set 0 (gt s 0 + 1)) kn' room' = q' at *
      obtain ⟨j1, j2, j3, j4, j5, j6, j7, j8⟩ := j
      rw [j1, j2, j3, j4, j5, j6, j7, j8]
      split
      · exact ⟨rfl, rfl, rfl, rfl, rfl, rfl, rfl, rfl⟩
      split
      · exact ih _ _ (by omega)
      · exact ⟨rfl, rfl, rfl, rfl, rfl, rfl, rfl, rfl⟩
    have o12 : (E.ins s).op ≠ 12 := fun e => h13 (.inr e)
    have o13 : (E.ins s).op ≠ 13 := fun e => h13 (.inl e)
    rw [look_1 d o2 o11 o12 o13, look_1 d' (by rw [hx]; exact o2) (by rw [hx]; exact o11) (by rw [hx]; exact o12) (by rw [hx]; exact o13), hx, ht, k, r, k', r']
    split
    · exact ih _ _ (by omega)
    · exact ⟨rfl, rfl, rfl, rfl, rfl, rfl, rfl, rfl⟩
theorem search_env {E' : Env} (hc : E'.c = E.c) (ht : E'.t = E.t) {kn kn' : List Bool} {room room' : Int} (h : Idle E kn room) (h' : Idle E' kn' room') (b : Int) : ∀ (f p n : Nat), search E' b f p n kn' room' = search E b f p n kn room
  | 0, p, n => rfl
  | f + 1, p, n => by
    obtain ⟨j1, j2, j3, j4, j5, j6, j7, j8⟩ := look_env hc ht h h' n n (startSt p) (Nat.le_refl _)
    rw [search, search, j1, j2, j3, j4, j5, j6, j7, j8]
    rw [search_env hc ht h h' b f (p + 1)]
theorem search_ends (hK : Kn E.c A) : ∀ (f p : Nat), p + f ≤ E.t.size + 1 → ∃ n, ∀ b, (search E b f p n [] 0).2 = false
  | 0, p, _ => ⟨0, fun b => rfl⟩
  | f + 1, p, hp => by
    have hs := start_nice (E := E) hK p (by omega)
    obtain ⟨n1, h1⟩ := look_ends hK (mu E A (startSt p) + 1) (startSt p) [] 0 (by omega) hs inR0
    obtain ⟨n2, h2⟩ := search_ends hK f (p + 1) (by omega)
    refine ⟨n1 + n2, fun b => ?_⟩
    have hc := look_closed (E := E) PNil nil_cl n1 n1 (startSt p) [] 0 (Nat.le_refl _) ⟨rfl, rfl⟩
    rw [search, look_more E n2 n1 n1 _ _ _ (Nat.le_refl _) h1]
    dsimp only
    rw [if_neg (by simp)]
    split
    · rfl
    · rw [hc.1, hc.2, Nat.add_comm _ n2]
      have := search_more E (b - (look E n1 (startSt p) [] 0).n) (look E n1 (startSt p) [] 0).n f (p + 1) n2 [] 0 (h2 _)
      rw [Int.sub_add_cancel] at this
      rw [this]; exact h2 _

theorem env_hy {c : List Ins} {A : Int → Att} (hK : Kn c A) (t : ByteArray) (policy mask : Int) : Hy (envOf c t policy mask) A := by
  have key : ∀ q, q < c.length → (chosen c policy mask).getD q false = true → hasBack c = false ∧ inSub c q = false := fun q hq h => by
    unfold chosen at h
    by_cases hb : hasBack c = true
    · rw [if_pos hb, List.getD_eq_getElem?_getD, List.getElem?_replicate] at h
      split at h <;> simp at h
    · rw [if_neg hb, List.getD_eq_getElem?_getD, List.getElem?_map, List.getElem?_range hq] at h
      refine ⟨by simpa using hb, ?_⟩
      simp only [Option.map_some, Option.getD_some] at h
      unfold chosenAt at h
      cases e : inSub c q
      · rfl
      · rw [e] at h; simp at h
  have out : ∀ q, (chosen c policy mask).getD q false = true → q < c.length := fun q h => by
    apply Classical.byContradiction
    intro hq
    rw [List.getD_eq_getElem?_getD, List.getElem?_eq_none (by rw [chosen_len]; omega)] at h
    simp at h
  refine ⟨hK, fun p hp => ?_, fun s hg hi => ?_, fun s hi q hq => ?_⟩
  · have hp : p < c.length := hp
    show ((List.range c.length).map fun p => (loopsAt c p : Int)).getD p 0 = _
    rw [List.getD_eq_getElem?_getD, List.getElem?_map, List.getElem?_range hp]; rfl
  · have hpc : ((pcOf s : Nat) : Int) = gt s 0 := by have := hg.pc0; unfold pcOf; omega
    rw [← hpc]
    exact hK.suby _ hg.pcOf_lt (key _ hg.pcOf_lt hi).2
  · have hb := (key _ (out _ hi) hi).1
    unfold hasBack at hb
    rw [List.any_eq_false] at hb
    have hq : q < c.length := hq
    intro e
    have e : (c.getD q ins0).op = 8 := e
    refine hb (c.getD q ins0) ?_ (by rw [decide_eq_true_eq]; exact e)
    rw [List.getD_eq_getElem?_getD, List.getElem?_eq_getElem hq]; exact List.getElem_mem hq
theorem none_idle (c : List Ins) (t : ByteArray) (mask : Int) (kn : List Bool) (room : Int) : Idle (envOf c t 0 mask) kn room := fun s => by
  refine Env.not_in _ s kn room ?_
  show (chosen c 0 mask).getD (pcOf s) false = false
  rw [List.getD_eq_getElem?_getD]
  unfold chosen
  split
  · rw [List.getElem?_replicate]; split <;> rfl
  · rw [List.getElem?_map]
    cases h : (List.range c.length)[pcOf s]? with
    | none => rfl
    | some k =>
      simp only [Option.map_some, Option.getD_some]
      unfold chosenAt picked
      split
      · rfl
      · simp

/-- With a table: at most as many steps as with none, and the same is found. -/
theorem table_less {c : List Ins} {A : Int → Att} (hK : Kn c A) (t : ByteArray) (m r policy mask room budget : Int) (frm : Nat) (hf : frm ≤ t.size + 1) (hr : InR room) (h : (searchAll c t 0 m r budget frm).2 = false) :
    (searchAll c t policy mask room budget frm).2 = false ∧ (searchAll c t policy mask room budget frm).1.ok = (searchAll c t 0 m r budget frm).1.ok ∧ (searchAll c t policy mask room budget frm).1.at' = (searchAll c t 0 m r budget frm).1.at' ∧ (searchAll c t policy mask room budget frm).1.steps ≤ (searchAll c t 0 m r budget frm).1.steps := by
  unfold searchAll at h ⊢
  rw [search_env (E := envOf c t policy mask) (E' := envOf c t 0 m) rfl rfl (idle_nil _) (none_idle c t m _ r)] at h ⊢
  obtain ⟨a1, a2, a3, a4⟩ := search_fewer (env_hy hK t policy mask) PNil nil_cl nil_F nil_G budget budget (t.size + 1 - frm) frm budget.toNat budget.toNat [] 0 (List.replicate (c.length * (t.size + 1) * 12) false) room (by show frm + (t.size + 1 - frm) ≤ t.size + 1; omega) (Nat.le_refl _) inR0 hr ⟨rfl, rfl⟩ (fun u _ _ h => by simp at h) (kf_new _) (rel_nil _ _) h
  exact ⟨a1, a2, a3, by omega⟩
/-- Whatever the table, the same is found. -/
theorem table_plain {c : List Ins} {A : Int → Att} (hK : Kn c A) (t : ByteArray) (policy mask room budget : Int) (frm n : Nat) (hf : frm ≤ t.size + 1) (hr : InR room) (hb : 0 ≤ budget) (hn : (search (envOf c t policy mask) 0 (t.size + 1 - frm) frm n [] 0).2 = false) (h : (searchAll c t policy mask room budget frm).2 = false) :
    (searchAll c t policy mask room budget frm).1.ok = (search (envOf c t policy mask) 0 (t.size + 1 - frm) frm n [] 0).1.ok ∧ (searchAll c t policy mask room budget frm).1.at' = (search (envOf c t policy mask) 0 (t.size + 1 - frm) frm n [] 0).1.at' := by
  unfold searchAll at h ⊢
  have hm := search_more _ budget n _ _ _ _ _ h
  obtain ⟨a1, a2, a3, a4⟩ := search_fewer (env_hy hK t policy mask) PNil nil_cl nil_F nil_G 0 (budget + n) (t.size + 1 - frm) frm n (budget.toNat + n) [] 0 (List.replicate (c.length * (t.size + 1) * 12) false) room (by show frm + (t.size + 1 - frm) ≤ t.size + 1; omega) (by omega) inR0 hr ⟨rfl, rfl⟩ (fun u _ _ h => by simp at h) (kf_new _) (rel_nil _ _) hn
  rw [hm] at a2 a3
  exact ⟨a2, a3⟩
theorem table_alike {c : List Ins} {A : Int → Att} (hK : Kn c A) (t : ByteArray) (p1 m1 r1 b1 p2 m2 r2 b2 : Int) (frm : Nat) (hf : frm ≤ t.size + 1) (hr1 : InR r1) (hr2 : InR r2) (hb1 : 0 ≤ b1) (hb2 : 0 ≤ b2) (h1 : (searchAll c t p1 m1 r1 b1 frm).2 = false) (h2 : (searchAll c t p2 m2 r2 b2 frm).2 = false) :
    (searchAll c t p1 m1 r1 b1 frm).1.ok = (searchAll c t p2 m2 r2 b2 frm).1.ok ∧ (searchAll c t p1 m1 r1 b1 frm).1.at' = (searchAll c t p2 m2 r2 b2 frm).1.at' := by
  obtain ⟨n, hn⟩ := search_ends (E := envOf c t p1 m1) hK (t.size + 1 - frm) frm (by show frm + (t.size + 1 - frm) ≤ t.size + 1; omega)
  have e := search_env (E := envOf c t p1 m1) (E' := envOf c t p2 m2) rfl rfl (idle_nil _) (idle_nil _) 0 (t.size + 1 - frm) frm n
  obtain ⟨a1, a2⟩ := table_plain hK t p1 m1 r1 b1 frm n hf hr1 hb1 (hn 0) h1
  obtain ⟨c1, c2⟩ := table_plain hK t p2 m2 r2 b2 frm n hf hr2 hb2 (by rw [e]; exact hn 0) h2
  rw [e] at c1 c2
  exact ⟨a1.trans c1.symm, a2.trans c2.symm⟩
/-- With a greater room at most as many steps. -/
theorem room_less {c : List Ins} {A : Int → Att} (hK : Kn c A) (t : ByteArray) (policy mask r1 r2 budget : Int) (frm : Nat) (hf : frm ≤ t.size + 1) (hr1 : InR r1) (hr2 : InR r2) (h12 : r1 ≤ r2) (h : (searchAll c t policy mask r1 budget frm).2 = false) :
    (searchAll c t policy mask r2 budget frm).2 = false ∧ (searchAll c t policy mask r2 budget frm).1.steps ≤ (searchAll c t policy mask r1 budget frm).1.steps := by
  have hy := env_hy hK t policy mask
  unfold searchAll at h ⊢
  have hR : Rel (List.replicate (c.length * (t.size + 1) * 12) false) r1 (List.replicate (c.length * (t.size + 1) * 12) false) r2 := by
    by_cases e : r1 = 0
    · exact .inr ⟨e, fun i h => h⟩
    · exact .inl ⟨rfl, by unfold InR at hr1; omega, h12⟩
  obtain ⟨a1, a2, a3, a4⟩ := search_fewer hy (fun _ _ => True) (fun _ _ _ _ => trivial) (all_F hy) (all_G hy) budget budget (t.size + 1 - frm) frm budget.toNat budget.toNat _ r1 _ r2 (by show frm + (t.size + 1 - frm) ≤ t.size + 1; omega) (Nat.le_refl _) hr1 hr2 trivial (kf_new _) (kf_new _) hR h
  exact ⟨a1, by omega⟩
end Mt
/- What Find answers in the laws of the table. -/
set_option linter.unusedVariables false
set_option linter.unusedSimpArgs false
namespace Go.Proofs.Ytebpgfodelggoab
open Go.RowKit

theorem pick_opt (P M R : Int) : Mt.Opt (pickI P 5) (pickI M 4294967296) (pickI R 5001) 10000 := by
  have h1 := pickI_in P 5 (by omega)
  have h2 := pickI_in M 4294967296 (by omega)
  have h3 := pickI_in R 5001 (by omega)
  exact ⟨h1, h2, h3, by omega, by omega⟩
theorem find_whole (p t : ByteArray) (frm : Nat) (policy mask room budget : Int) (h : (Mt.checkR p).1 = 0) (hT : t.size ≤ 60) (hf : frm ≤ t.size) (ho : Mt.Opt policy mask room budget) : WholeOk t.size frm (Mt.findR p t frm policy mask room budget).1 (Mt.findR p t frm policy mask room budget).2 := by
  rw [Mt.findR_ok p t frm policy mask room budget h hT hf ho]
  obtain ⟨A, hK⟩ := Mt.pattern_known p h
  obtain ⟨o1, o2, o3, o4⟩ := ho
  cases e : (Mt.searchAll (Mt.codeR p).1 t policy mask room budget frm).2
  · exact .inr ⟨rfl, Mt.searchAll_inside hK.ok hK.pos t policy mask room budget frm hf (by omega) (by omega) e⟩
  · exact .inl ⟨rfl, rfl⟩
theorem find_alike (p t : ByteArray) (frm : Nat) (p1 m1 r1 p2 m2 r2 : Int) (h : (Mt.checkR p).1 = 0) (hT : t.size ≤ 60) (hf : frm ≤ t.size) (o1 : Mt.Opt p1 m1 r1 10000) (o2 : Mt.Opt p2 m2 r2 10000) (e1 : (Mt.findR p t frm p1 m1 r1 10000).2 = 0) (e2 : (Mt.findR p t frm p2 m2 r2 10000).2 = 0) :
    (Mt.findR p t frm p2 m2 r2 10000).1.at' = (Mt.findR p t frm p1 m1 r1 10000).1.at' ∧ (Mt.findR p t frm p2 m2 r2 10000).1.ok = (Mt.findR p t frm p1 m1 r1 10000).1.ok := by
  obtain ⟨A, hK⟩ := Mt.pattern_kn p h
  rw [Mt.findR_ok p t frm p1 m1 r1 10000 h hT hf o1] at e1 ⊢
  rw [Mt.findR_ok p t frm p2 m2 r2 10000 h hT hf o2] at e2 ⊢
  cases s1 : (Mt.searchAll (Mt.codeR p).1 t p1 m1 r1 10000 frm).2
  · cases s2 : (Mt.searchAll (Mt.codeR p).1 t p2 m2 r2 10000 frm).2
    · obtain ⟨a, b⟩ := Mt.table_alike hK t p1 m1 r1 10000 p2 m2 r2 10000 frm (by omega) (by unfold Mt.InR; have := o1.2.2.1; omega) (by unfold Mt.InR; have := o2.2.2.1; omega) (by omega) (by omega) s1 s2
      exact ⟨b.symm, a.symm⟩
    · rw [s2] at e2; simp at e2
  · rw [s1] at e1; simp at e1
/-- The second search takes no more steps. -/
def NoMore (F G : Mt.Fnd × Int) : Prop := F.2 = 0 → G.2 = 0 ∧ G.1.steps ≤ F.1.steps
theorem find_less (p t : ByteArray) (frm : Nat) (P M R : Int) (h : (Mt.checkR p).1 = 0) (hT : t.size ≤ 60) (hf : frm ≤ t.size) (o : Mt.Opt P M R 10000) : NoMore (Mt.findR p t frm 0 0 0 10000) (Mt.findR p t frm P M R 10000) := by
  intro e1
  obtain ⟨A, hK⟩ := Mt.pattern_kn p h
  rw [Mt.findR_ok p t frm 0 0 0 10000 h hT hf ⟨by omega, by omega, by omega, by omega, by omega⟩] at e1 ⊢
  rw [Mt.findR_ok p t frm P M R 10000 h hT hf o]
  cases s1 : (Mt.searchAll (Mt.codeR p).1 t 0 0 0 10000 frm).2
  · obtain ⟨a, b, c, d⟩ := Mt.table_less hK t 0 0 P M R 10000 frm (by omega) (by unfold Mt.InR; have := o.2.2.1; omega) s1
    rw [a]
    exact ⟨rfl, d⟩
  · rw [s1] at e1; simp at e1
theorem find_room (p t : ByteArray) (frm : Nat) (P M R R' : Int) (h : (Mt.checkR p).1 = 0) (hT : t.size ≤ 60) (hf : frm ≤ t.size) (o : Mt.Opt P M R 10000) (o' : Mt.Opt P M R' 10000) (hR : R ≤ R') : NoMore (Mt.findR p t frm P M R 10000) (Mt.findR p t frm P M R' 10000) := by
  intro e1
  obtain ⟨A, hK⟩ := Mt.pattern_kn p h
  rw [Mt.findR_ok p t frm P M R 10000 h hT hf o] at e1 ⊢
  rw [Mt.findR_ok p t frm P M R' 10000 h hT hf o']
  cases s1 : (Mt.searchAll (Mt.codeR p).1 t P M R 10000 frm).2
  · obtain ⟨a, d⟩ := Mt.room_less hK t P M R R' 10000 frm (by omega) (by unfold Mt.InR; have := o.2.2.1; omega) (by unfold Mt.InR; have := o'.2.2.1; omega) hR s1
    rw [a]
    exact ⟨rfl, d⟩
  · rw [s1] at e1; simp at e1
theorem find_bounded (p t : ByteArray) (frm : Nat) (P M R b : Int) (h : (Mt.checkR p).1 = 0) (hT : t.size ≤ 60) (hf : frm ≤ t.size) (o : Mt.Opt P M R 10000) (hb : 0 ≤ b ∧ b ≤ 10000) :
    ((Mt.findR p t frm P M R 10000).2 = 14 → Mt.findR p t frm P M R b = (Mt.fnd0, 14)) ∧ ((Mt.findR p t frm P M R 10000).2 = 0 → Mt.findR p t frm P M R b = if b < (Mt.findR p t frm P M R 10000).1.steps then (Mt.fnd0, 14) else ((Mt.findR p t frm P M R 10000).1, 0)) := by
  obtain ⟨A, hK⟩ := Mt.pattern_known p h
  have o' : Mt.Opt P M R b := ⟨o.1, o.2.1, o.2.2.1, hb.1, hb.2⟩
  have hr := o.2.2.1
  rw [Mt.findR_ok p t frm P M R 10000 h hT hf o, Mt.findR_ok p t frm P M R b h hT hf o']
  cases s1 : (Mt.searchAll (Mt.codeR p).1 t P M R 10000 frm).2
  · refine ⟨fun e => by simp at e, fun _ => ?_⟩
    simp only [Bool.false_eq_true, if_false]
    by_cases hs : b < (Mt.searchAll (Mt.codeR p).1 t P M R 10000 frm).1.steps
    · rw [if_pos hs, Mt.budget_less hK.ok hK.pos hf (by omega) b hb s1 hs]; rfl
    · rw [if_neg hs, Mt.budget_same b hb s1 (by omega), s1]; rfl
  · refine ⟨fun _ => ?_, fun e => by simp at e⟩
    rw [Mt.budget_over b hb s1]; rfl
end Go.Proofs.Ytebpgfodelggoab
/- matcherkeep: some. (Plain seats alone.) -/
set_option linter.unusedVariables false
set_option linter.unusedSimpArgs false
namespace Go.Proofs.Ytebpgfodelggoab
open Go.RowKit

def someB (p : ByteArray) (n : Nat) : ByteArray := if n < p.size then p.extract 0 n else p
theorem someB_size (p : ByteArray) (n : Nat) : (someB p n).size ≤ n ∧ (someB p n).size ≤ p.size := by
  unfold someB
  split
  · simp [ByteArray.size_extract]; omega
  · omega
set_option maxRecDepth 100000 in
set_option maxHeartbeats 1000000 in
theorem some_any (p : ByteArray) (n : Nat) (w : World) (hm : p.size ≤ maxLen) (hn : n ≤ 1000) : Calls Try.prog 8 #[.string p, .int .i64 (n : Int)] w fun e w' => e = .returned (.string (someB p n)) ∧ w = w' := by
  unfold maxLen at hm
  unfold someB
  by_cases h : n < p.size
  · have d1 : decide ((n : Int) < (p.size : Int)) = true := by simpa using h
    rw [if_pos h]
    go_enter Try.func8, Try.ntmps8
    go_wp2_with fail
    go_ret
    exact ⟨rfl, rfl⟩
  · have d1 : decide ((n : Int) < (p.size : Int)) = false := by simpa using h
    rw [if_neg h]
    go_enter Try.func8, Try.ntmps8
    go_wp2_with fail
    go_ret
    exact ⟨rfl, rfl⟩

end Go.Proofs.Ytebpgfodelggoab
/- matcherkeep: checked. (Plain seats alone.) -/
set_option linter.unusedVariables false
set_option linter.unusedSimpArgs false
namespace Go.Proofs.Ytebpgfodelggoab
open Go.RowKit

theorem ins_two {w : World} {base : Nat} {v : Value} {l : List Mt.Ins} (h : ownIns w base v l) :
    (l = [] ∧ ∃ ao cap, v = .slice ao 0 cap) ∨
    (0 < l.length ∧ ∃ g cap, v = .slice (some ⟨g, 0, none⟩) l.length cap ∧ l.length ≤ cap ∧ g < w.heap.size ∧ base ≤ g ∧ ∀ k j, k < l.length → j < 4 → w.cell? ⟨g, k * 4 + j, none⟩ = (insCells (l.getD k Mt.ins0))[j]?) := by
  by_cases h0 : l = []
  · left
    subst h0
    refine ⟨rfl, ?_⟩
    rcases h.2 with ⟨rfl, _⟩ | ⟨g, cap, cur, rfl, _⟩
    · exact ⟨_, _, rfl⟩
    · exact ⟨_, _, rfl⟩
  · right
    have hp : 0 < l.length := List.length_pos_iff.2 h0
    refine ⟨hp, ?_⟩
    rcases h.2 with ⟨rfl, hn⟩ | ⟨g, cap, cur, rfl, hb, hg, h1, h2, h3, h4⟩
    · omega
    · refine ⟨g, cap, rfl, h1, (Array.getElem?_eq_some_iff.1 hg).1, hb, fun k j hk hj => ?_⟩
      have hc := World.ownsRow.cellAt (g := g) (cap := cap) h (k * 4 + j) (by omega)
      rw [hc, ins_flat_at l k j hk hj]

theorem checkR_code (p : ByteArray) : (Mt.codeR p).2 = (Mt.checkR p).1 ∧ ((Mt.checkR p).1 ≠ 0 → (Mt.codeR p).1 = []) ∧ ((Mt.checkR p).1 = 0 → ∃ c, (Mt.codeR p).1 = c ++ [⟨13, 0, 0, []⟩]) := by
  refine ⟨?_, fun h => by unfold Mt.codeR; rw [if_pos h], fun h => ?_⟩
  · unfold Mt.codeR
    split
    · rfl
    · rename_i x; simp at x; simp [x]
  · obtain ⟨f, _, _, _, _, _, hc, _⟩ := Mt.pattern_tree p h
    exact ⟨_, hc⟩

set_option maxRecDepth 100000 in
set_option maxHeartbeats 4000000 in
theorem checked_any (p : ByteArray) (w : World) (hm : p.size ≤ maxLen) : Calls Try.prog 10 #[.string p] w fun e w' => e = .returned (.tuple #[.int .i64 (Mt.checkR p).1, .bool true]) ∧ Below w.heap.size w w' := by
  have K1 : Hid (Calls Try.prog 29 #[.string p] w fun e w' => e = .returned (.tuple #[.int .i64 (Mt.checkR p).1, .int .i64 (Mt.checkR p).2]) ∧ Below w.heap.size w w') := Check_any p w hm
  have K2 : Hid (∀ z : World, Calls Try.prog 19 #[.string p] z fun e w' => ∃ v, e = .returned (.tuple #[v, .int .i64 (Mt.codeR p).2]) ∧ ownIns w' z.heap.size v (Mt.codeR p).1 ∧ Below z.heap.size z w') := fun z => Code_any p z hm
  obtain ⟨h1, h2, h3⟩ := checkR_code p
  have hl := (Mt.codeR_fit p).2
  have HE : Hid ((Mt.codeR p).2 = (Mt.checkR p).1) := h1
  have H2 : Hid ((Mt.checkR p).1 ≠ 0 → (Mt.codeR p).1 = []) := h2
  have H3 : Hid ((Mt.checkR p).1 = 0 → ∃ c, (Mt.codeR p).1 = c ++ [⟨13, 0, 0, []⟩]) := h3
  rw [HE.out] at K2
  clear h1 h2 h3 HE
  generalize (Mt.codeR p).1 = C at *
  generalize (Mt.checkR p).2 = P at *
  generalize (Mt.checkR p).1 = E at *
  go_enter Try.func10, Try.ntmps10
  go_wp2_with fail
  refine K1.out.mono ?_
  rintro e w1 ⟨rfl, hb1⟩
  have HB1 : Hid (Below w.heap.size w w1) := hb1
  clear hb1
  go_wp2_with fail
  refine (K2.out w1).mono ?_
  rintro e w2 ⟨v, rfl, ho, hb2⟩
  have HB2 : Hid (Below w.heap.size w w2) := HB1.out.trans (hb2.mono HB1.out.size)
  clear hb2
  by_cases hE : E = 0
  · obtain ⟨c, hc⟩ := H3.out hE
    rcases ins_two ho with ⟨e0, _⟩ | ⟨hpos, g, cap, rfl, hcap, hg, hgb, hcell⟩
    · rw [hc] at e0; simp at e0
    have hn : C.length = c.length + 1 := by rw [hc]; simp
    have c0 := hcell c.length 0 (by omega) (by omega)
    have e13 : C.getD c.length Mt.ins0 = ⟨13, 0, 0, []⟩ := by rw [hc, List.getD_eq_getElem?_getD, List.getElem?_append_right (Nat.le_refl _)]; simp
    rw [e13] at c0
    change w2.cell? ⟨g, c.length * 4, none⟩ = some (.int .i64 13) at c0
    have m0 : (E != 0) = false := by simpa using hE
    have m1 : (E != E) = false := by simp
    rw [hn] at hl hcap hpos ⊢
    clear ho hcell hc e13 H2 H3 K1 K2
    have hL : c.length + 1 ≤ 300 := hl
    generalize c.length = n at *
    subst hE
    have g1 : decide ((0 : Int) < (n : Int) + 1) = true := by rw [decide_eq_true_eq]; omega
    have g2 : decide (0 < n + 1) = true := by simp
    have i1 : (n : Int) < (n : Int) + 1 := by omega
    have i0 : (0 : Int) ≤ (n : Int) := by omega
    have i2 : (n : Int) + 1 - 1 = n := by omega
    go_wp2_with fail
    go_quiet (fail)
    go_wp2_with fail
    go_ret2
    exact ⟨rfl, below_drewN HB2.out _⟩
  · have hC := H2.out hE
    have m0 : (E != 0) = true := by simpa using hE
    have m1 : (E != E) = false := by simp
    subst hC
    rcases ins_two ho with ⟨_, ao, cap, rfl⟩ | ⟨hpos, _⟩
    · clear ho H2 H3 K1 K2
      go_wp2_with fail
      go_ret2
      exact ⟨rfl, HB2.out⟩
    · simp at hpos
end Go.Proofs.Ytebpgfodelggoab
