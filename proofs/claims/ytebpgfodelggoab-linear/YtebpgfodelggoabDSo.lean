import Derived.Test.YtebpgfodelggoabC41
import Derived.Test.YtebpgfodelggoabC13
import Derived.Test.YtebpgfodelggoabC14
import Derived.Test.YtebpgfodelggoabC52
import Derived.Test.YtebpgfodelggoabC17
/- code.Weight, matcher.Weight. -/
set_option linter.unusedVariables false
set_option linter.unusedSimpArgs false
namespace Go.Proofs.Ytebpgfodelggoab
open Go.RowKit

set_option maxRecDepth 100000 in
set_option maxHeartbeats 4000000 in
theorem codeWeight_any (c : List Mt.Ins) (hcl : ∀ k, (c.take k).countP Mt.isMark = (c.take k).countP Mt.isAgain + Mt.loopsAt c k) (hl : c.length ≤ 300) (hpos : 0 < c.length) (v : Value) (w : World) (h : ownIns w 0 v c) :
    Calls Try.prog 33 #[v] w fun e w' => e = .returned (.int .i64 (Mt.weightC c : Nat)) ∧ Below w.heap.size w w' := by
  obtain ⟨g, cap, rfl, _, hg⟩ := World.ownsRow.form h hpos
  have HL : Hid (Calls Try.prog 49 #[.slice (some ⟨g, 0, none⟩) c.length cap] w _) := Loops_any c hcl hl g cap w h
  clear h
  go_enter Try.func33, Try.ntmps33
  go_wp2_with fail
  refine HL.out.mono ?_
  rintro e w1 ⟨rfl, hown, hb1⟩
  have HO : Hid (rInts w1 w.heap.size (.slice (some ⟨w.heap.size, 0, none⟩) c.length c.length) (loopList c)) := hown
  have HB1 : Hid (Below w.heap.size w w1) := hb1
  clear hown hb1 HL
  go_wp2_with fail
  go_loopw [3, 9] (fun wt i wr => ∃ k : Nat, k ≤ c.length ∧ i = .int .i64 k ∧ wt = .int .i64 (Mt.weightTo c k : Nat) ∧ wr = w1) (fun _ i _ => c.length - (intOf i).toNat)
  case atStart => exact ⟨0, Nat.zero_le _, rfl, rfl, rfl⟩
  case round =>
    obtain ⟨k, hk, rfl, rfl, rfl⟩ := hrel
    by_cases hlt : k < c.length
    · obtain ⟨x1, x2⟩ := HO.out.at k (by rw [loopList_len]; exact hlt) (by rw [loopList_len])
      rw [loopList_at c k hlt] at x1
      have HW : Hid (Mt.weightTo c (k + 1) = Mt.weightTo c k + 1 + Mt.loopsAt c k) := Mt.weightTo_next c k
      have bl := Mt.loopsAt_le c k
      have bw := Mt.weightTo_le c k
      have bw2 : k * (c.length + 1) ≤ 300 * 301 := Nat.mul_le_mul (by omega) (by omega)
      have hk' : (k : Int) < (c.length : Int) := by omega
      generalize hLk : Mt.loopsAt c k = lk at *
      generalize hWk : Mt.weightTo c k = wk at *
      go_wp2_with fail
      go_roundw
      case rel => exact ⟨k + 1, by omega, by go_num, by rw [HW.out]; go_num, by trivial⟩
      case measure => simp [intOf]; omega
    · have hk2 : k = c.length := by omega
      subst hk2
      go_wp2_with fail
      go_ret
      exact ⟨rfl, HB1.out⟩

theorem codeR_loops (p : ByteArray) (h : (Mt.codeR p).2 = 0) (k : Nat) : ((Mt.codeR p).1.take k).countP Mt.isMark = ((Mt.codeR p).1.take k).countP Mt.isAgain + Mt.loopsAt (Mt.codeR p).1 k := by
  have h0 : (Mt.checkR p).1 = 0 := by
    unfold Mt.codeR at h
    split at h
    · rename_i x; exact absurd h x
    · rename_i x; simpa using x
  obtain ⟨f, _, _, _, _, _, hc, _⟩ := Mt.pattern_tree p h0
  exact Mt.code_loops f.re _ hc k

set_option maxRecDepth 100000 in
set_option maxHeartbeats 2000000 in
theorem Weight_any (p : ByteArray) (w : World) (hm : p.size ≤ maxLen) : Calls Try.prog 18 #[.string p] w fun e w' => e = .returned (.tuple #[.int .i64 (Mt.weightR p).1, .int .i64 (Mt.weightR p).2]) ∧ Below w.heap.size w w' := by
  have HC : Hid (Calls Try.prog 19 #[.string p] w fun e w' => ∃ v, e = .returned (.tuple #[v, .int .i64 (Mt.codeR p).2]) ∧ ownIns w' w.heap.size v (Mt.codeR p).1 ∧ Below w.heap.size w w') := Code_any p w hm
  have hl := (Mt.codeR_fit p).2
  unfold Mt.weightR
  cases he : ((Mt.codeR p).2 != 0)
  · have h0 : (Mt.codeR p).2 = 0 := by simpa using he
    rw [if_neg (by simpa using he)]
    have hpos : 0 < (Mt.codeR p).1.length := by
      have hc0 : (Mt.checkR p).1 = 0 := by
        unfold Mt.codeR at h0
        split at h0
        · rename_i x; exact absurd h0 x
        · rename_i x; simpa using x
      obtain ⟨A, hK⟩ := Mt.pattern_known p hc0
      exact hK.pos
    have HW : Hid (∀ (v : Value) (z : World), ownIns z 0 v (Mt.codeR p).1 → Calls Try.prog 33 #[v] z fun e w' => e = .returned (.int .i64 (Mt.weightC (Mt.codeR p).1 : Nat)) ∧ Below z.heap.size z w') := fun v z hz => codeWeight_any _ (codeR_loops p h0) hl hpos v z hz
    clear h0 hpos
    generalize Mt.codeR p = K at *
    go_enter Try.func18, Try.ntmps18
    go_wp2_with fail
    refine HC.out.mono ?_
    rintro e w1 ⟨v, rfl, ho, hb⟩
    have HO : Hid (ownIns w1 0 v K.1) := ho.base (Nat.zero_le _)
    have HB : Hid (Below w.heap.size w w1) := hb
    clear ho hb HC
    go_wp2_with fail
    refine (HW.out v w1 HO.out).mono ?_
    rintro e w2 ⟨rfl, hb2⟩
    have HB2 : Hid (Below w.heap.size w w2) := HB.out.trans (hb2.mono HB.out.size)
    clear hb2
    go_wp2_with fail
    go_ret2
    exact ⟨rfl, HB2.out⟩
  · rw [if_pos (by simpa using he)]
    generalize Mt.codeR p = K at *
    go_enter Try.func18, Try.ntmps18
    go_wp2_with fail
    refine HC.out.mono ?_
    rintro e w1 ⟨v, rfl, ho, hb⟩
    have HB : Hid (Below w.heap.size w w1) := hb
    clear ho hb HC
    go_wp2_with fail
    go_ret2
    exact ⟨rfl, HB.out⟩
end Go.Proofs.Ytebpgfodelggoab
/- WITH EVERY STATE IN THE TABLE a search takes few steps: P10. -/
set_option linter.unusedVariables false
namespace Mt
variable {E : Env} {A : Int → Att}

/-- The places in the table that a state can have. -/
def keysAt (E : Env) (p : Nat) : List Nat := (List.range (E.t.size + 1)).flatMap fun pos => (List.range (loopsAt E.c p + 1)).map fun l => (p * (E.t.size + 1) + pos) * 12 + l
def keysTo (E : Env) : Nat → List Nat
  | 0 => []
  | p + 1 => keysTo E p ++ keysAt E p
theorem flat_len {f : Nat → List Nat} {m : Nat} (h : ∀ i, (f i).length = m) : ∀ k, ((List.range k).flatMap f).length = k * m
  | 0 => by simp
  | k + 1 => by rw [List.range_succ, List.flatMap_append, List.length_append, flat_len h k]; simp [h, Nat.add_mul]
theorem keysTo_len (E : Env) : ∀ k, (keysTo E k).length = (E.t.size + 1) * weightTo E.c k
  | 0 => by simp [keysTo, weightTo]
  | k + 1 => by
    rw [keysTo, List.length_append, keysTo_len E k, weightTo_next]
    have : (keysAt E k).length = (E.t.size + 1) * (loopsAt E.c k + 1) := flat_len (fun i => by simp) _
    rw [this, Nat.add_assoc, Nat.mul_add (E.t.size + 1) (weightTo E.c k), Nat.add_comm 1]
theorem keysTo_mem (E : Env) {p pos l : Nat} (hpos : pos ≤ E.t.size) (hl : l ≤ loopsAt E.c p) : ∀ k, p < k → (p * (E.t.size + 1) + pos) * 12 + l ∈ keysTo E k
  | 0, h => by omega
  | k + 1, h => by
    rw [keysTo, List.mem_append]
    by_cases e : p < k
    · exact .inl (keysTo_mem E hpos hl k e)
    · obtain rfl : p = k := by omega
      right
      unfold keysAt
      rw [List.mem_flatMap]
      refine ⟨pos, by rw [List.mem_range]; omega, ?_⟩
      rw [List.mem_map]
      exact ⟨l, by rw [List.mem_range]; omega, rfl⟩
/-- How many of these stand in the table. -/
def inTab (E : Env) (kn : List Bool) : Nat := (keysTo E E.c.length).countP fun k => kn.getD k false
theorem inTab_le (E : Env) (kn : List Bool) : inTab E kn ≤ (E.t.size + 1) * weightC E.c := by
  unfold inTab weightC
  rw [← keysTo_len]; exact List.countP_le_length
theorem count_more {l : List Nat} {p q : Nat → Bool} (h : ∀ x, p x = true → q x = true) {k : Nat} (hk : k ∈ l) (h1 : p k = false) (h2 : q k = true) : l.countP p + 1 ≤ l.countP q := by
  induction l with
  | nil => simp at hk
  | cons a l ih =>
    rw [List.countP_cons, List.countP_cons]
    have hm : l.countP p ≤ l.countP q := List.countP_mono_left fun x _ => h x
    rcases List.mem_cons.1 hk with rfl | hk
    · rw [h1, h2]; simp; omega
    · have := ih hk
      by_cases ea : p a = true
      · rw [if_pos ea, if_pos (h a ea)]; omega
      · rw [if_neg ea]; split <;> omega

structure Str (E : Env) (A : Int → Att) : Prop where
  k : Kn E.c A
  ar : ∀ p, p < E.c.length → E.ar.getD p 0 = loopsAt E.c p
  inn : ∀ s, Good E.c.length E.t.size s → E.isIn s = true
  no11 : ∀ q, q < E.c.length → (E.c.getD q ins0).op ≠ 11
  few : (E.t.size + 1) * weightC E.c < 5000

/-- What a look at a state that is not dead puts in. -/
theorem put_in (hS : Str E A) {s : Sta} (hs : Nice E A s) {kn : List Bool} {room : Int} (hl : kn.length = E.c.length * (E.t.size + 1) * 12) (hr : 5000 ≤ room + inTab E kn) (hd : E.dead s kn = false) :
    inTab E kn + 1 ≤ inTab E (E.kn' s kn room) ∧ 5000 ≤ E.room' s kn room + inTab E (E.kn' s kn room) ∧ (E.kn' s kn room).length = E.c.length * (E.t.size + 1) * 12 := by
  have hin := hS.inn s hs.g
  have hb := inTab_le E kn
  have hf := hS.few
  have hr0 : 0 < room := by omega
  have hkn : kn.getD (E.key s) false = false := by unfold Env.dead at hd; rw [if_pos hin] at hd; exact hd
  have e1 : E.kn' s kn room = kn.set (E.key s) true := by unfold Env.kn' deadKn; rw [if_pos hin, if_neg (by rw [hkn]; simp), if_pos hr0]
  have e2 : E.room' s kn room = room - 1 := by unfold Env.room' deadRoom; rw [if_pos hin, if_neg (by rw [hkn]; simp), if_pos hr0]
  have hp := hs.g.pcOf_lt
  have a1 := hs.g.pos0; have a2 := hs.g.pos1
  have hpos : posOf s ≤ E.t.size := by unfold posOf; omega
  have hlev := lev_le s (loopsAt E.c (pcOf s))
  have hdd := hS.k.k.loops _ hp
  have hd11 := hS.k.dOk (q := ((pcOf s : Nat) : Int)) (by omega) (by omega)
  have ek : E.key s = (pcOf s * (E.t.size + 1) + posOf s) * 12 + lev s (loopsAt E.c (pcOf s)) := by unfold Env.key keyOf; rw [hS.ar _ hp, Int.toNat_natCast]
  have hmem : E.key s ∈ keysTo E E.c.length := by rw [ek]; exact keysTo_mem E hpos hlev.2 _ hp
  have hlt : E.key s < kn.length := by
    rw [ek, hl]
    have b1 : pcOf s * (E.t.size + 1) + posOf s + 1 ≤ E.c.length * (E.t.size + 1) := by
      have := Nat.mul_le_mul_right (E.t.size + 1) (show pcOf s + 1 ≤ E.c.length from hp)
      rw [Nat.add_mul] at this; omega
    have b2 := Nat.mul_le_mul_right 12 b1
    rw [Nat.add_mul] at b2
    omega
  have hm : inTab E kn + 1 ≤ inTab E (kn.set (E.key s) true) := by
    refine count_more (fun x hx => ?_) hmem hkn ?_
    · rw [getD_set_b]; split
      · rfl
      · exact hx
    · rw [getD_set_b, if_pos ⟨rfl, hlt⟩]
  rw [e1, e2]
  exact ⟨hm, by omega, by rw [List.length_set]; exact hl⟩

theorem look_few (hS : Str E A) : ∀ (N n : Nat) (s : Sta) (kn : List Bool) (room : Int), n ≤ N → Nice E A s → InR room → kn.length = E.c.length * (E.t.size + 1) * 12 → 5000 ≤ room + inTab E kn →
    n + 2 * inTab E kn ≤ (look E n s kn room).n + 2 * inTab E (look E n s kn room).kn + (if (look E n s kn room).over then 0 else 1) ∧ 5000 ≤ (look E n s kn room).room + inTab E (look E n s kn room).kn
  | N, 0, s, kn, room, _, _, _, _, hr => by rw [look_zero]; exact ⟨by simp, hr⟩
  | 0, n + 1, s, kn, room, hn, _, _, _, _ => by omega
  | N + 1, n + 1, s, kn, room, hn, hs, hR, hl, hr => by
    have ih := look_few hS N
    have hK := hS.k
    have i1 := E.room'_in s kn room hR
    cases hd : E.dead s kn with
    | true =>
      obtain ⟨a1, a2, _⟩ := dead_idle room hd
      rw [look_d hd, a1, a2]
      exact ⟨by simp; omega, hr⟩
    | false =>
    obtain ⟨p1, p2, p3⟩ := put_in hS hs hl hr hd
    by_cases h13 : (E.ins s).op = 13 ∨ (E.ins s).op = 12
    · rw [look_f hd h13]; exact ⟨by simp; omega, p2⟩
    by_cases o2 : (E.ins s).op = 2
    · obtain ⟨⟨x1, x2, x3⟩, ⟨y1, y2, y3⟩⟩ := step_split hK hs o2
      obtain ⟨r, hq⟩ : ∃ r, r = look E n (s.set 0 (E.ins s).x) (E.kn' s kn room) (E.room' s kn room) := ⟨_, rfl⟩
      have l1 := look_n E n (s.set 0 (E.ins s).x) (E.kn' s kn room) (E.room' s kn room)
      have g1 := look_good E hK.k.ok N n _ (E.kn' s kn room) (E.room' s kn room) (by omega) x1.g i1
      have j := ih n (s.set 0 (E.ins s).x) (E.kn' s kn room) (E.room' s kn room) (by omega) x1 i1 p3 p2
      rw [look_2 hd o2 hq]
      rw [← hq] at l1 g1 j
      by_cases hro : (r.ok || r.over) = true
      · rw [if_pos hro]
        exact ⟨by have := j.1; omega, j.2⟩
      · rw [if_neg hro]
        have hr2 : r.ok = false ∧ r.over = false := by simpa using hro
        have j1 := j.1
        rw [hr2.2] at j1
        simp only [Bool.false_eq_true, if_false] at j1
        obtain ⟨k1, k2⟩ := ih r.n (s.set 0 (E.ins s).y) r.kn r.room (by omega) y1 g1.2.2.1 (by rw [g1.2.1]; exact p3) j.2
        exact ⟨by omega, k2⟩
    have o11 : (E.ins s).op ≠ 11 := hS.no11 _ hs.g.pcOf_lt
    have o12 : (E.ins s).op ≠ 12 := fun e => h13 (.inr e)
    have o13 : (E.ins s).op ≠ 13 := fun e => h13 (.inl e)
    rw [look_1 hd o2 o11 o12 o13]
    by_cases hk : (oneP E.t s (E.ins s)).2 = true
    · rw [if_pos hk]
      obtain ⟨⟨z1, z2, z3, z4⟩, z5⟩ := step_one hK hs o2 o11 o12 o13 hk
      obtain ⟨k1, k2⟩ := ih n _ _ _ (by omega) z1 i1 p3 p2
      exact ⟨by omega, k2⟩
    · rw [if_neg hk]; exact ⟨by simp; omega, p2⟩

theorem search_few (hS : Str E A) (budget : Int) : ∀ (f p n : Nat) (kn : List Bool) (room : Int), p + f ≤ E.t.size + 1 → InR room → kn.length = E.c.length * (E.t.size + 1) * 12 → 5000 ≤ room + inTab E kn → f + 2 * ((E.t.size + 1) * weightC E.c) ≤ n + 2 * inTab E kn → 
    (search E budget f p n kn room).2 = false ∧ (search E budget f p n kn room).1.steps ≤ budget - n + f + 2 * ((E.t.size + 1) * weightC E.c : Nat) - 2 * (inTab E kn : Nat)
  | 0, p, n, kn, room, _, _, _, _, hn => by
    have := inTab_le E kn
    rw [search]
    refine ⟨rfl, ?_⟩
    dsimp only; omega
  | f + 1, p, n, kn, room, hpf, hR, hl, hr, hn => by
    have hs := start_nice (E := E) hS.k p (by omega)
    obtain ⟨k1, k2⟩ := look_few hS n n (startSt p) kn room (Nat.le_refl _) hs hR hl hr
    have g1 := look_good E hS.k.k.ok n n (startSt p) kn room (Nat.le_refl _) hs.g hR
    rw [search]
    generalize look E n (startSt p) kn room = r at *
    have hb := inTab_le E r.kn
    by_cases hov : r.over = true
    · rw [if_pos hov] at k1
      have := (g1.2.2.2.2 hov).2
      exfalso; omega
    rw [if_neg hov] at k1 ⊢
    by_cases hok : r.ok = true
    · rw [if_pos hok]
      refine ⟨rfl, ?_⟩
      dsimp only; omega
    · rw [if_neg hok]
      obtain ⟨z1, z2⟩ := search_few hS budget f (p + 1) r.n r.kn r.room (by omega) g1.2.2.1 (by rw [g1.2.1]; exact hl) k2 (by omega)
      exact ⟨z1, by omega⟩

/-- P10. -/
theorem linear_math {c : List Ins} {A : Int → Att} (hK : Kn c A) (t : ByteArray) (h8 : ∀ q, q < c.length → (c.getD q ins0).op ≠ 8) (h11 : ∀ q, q < c.length → (c.getD q ins0).op ≠ 11) (hb : (t.size + 1) * (2 * weightC c + 1) ≤ 10000) :
    (searchAll c t 1 0 5000 10000 0).2 = false ∧ (searchAll c t 1 0 5000 10000 0).1.steps ≤ ((t.size + 1) * (2 * weightC c + 1) : Nat) := by
  have e : (t.size + 1) * (2 * weightC c + 1) = 2 * ((t.size + 1) * weightC c) + (t.size + 1) := by
    rw [Nat.mul_add, Nat.mul_one, ← Nat.mul_assoc, Nat.mul_comm _ 2, Nat.mul_assoc]
  have hS : Str (envOf c t 1 0) A := by
    refine ⟨hK, (env_hy hK t 1 0).ar, fun s hg => ?_, h11, ?_⟩
    · have hq : pcOf s < c.length := hg.pcOf_lt
      show (chosen c 1 0).getD (pcOf s) false = true
      have hnb : hasBack c = false := by
        unfold hasBack
        rw [List.any_eq_false]
        intro x hx
        obtain ⟨i, hi, rfl⟩ := List.getElem_of_mem hx
        have := h8 i hi
        rw [List.getD_eq_getElem?_getD, List.getElem?_eq_getElem hi] at this
        simpa using this
      have hns : inSub c (pcOf s) = false := by
        unfold inSub
        rw [List.any_eq_false]
        intro x hx
        obtain ⟨i, hi, rfl⟩ := List.getElem_of_mem (List.mem_of_mem_take hx)
        have := h11 i hi
        rw [List.getD_eq_getElem?_getD, List.getElem?_eq_getElem hi] at this
        unfold isOver
        simp only [Option.getD_some] at this
        simp [this]
      unfold chosen
      rw [hnb, if_neg (by simp), List.getD_eq_getElem?_getD, List.getElem?_map, List.getElem?_range hq]
      simp only [Option.map_some, Option.getD_some]
      unfold chosenAt picked
      rw [hns]; simp
    · show (t.size + 1) * weightC c < 5000
      omega
  have h0 : inTab (envOf c t 1 0) (List.replicate (c.length * (t.size + 1) * 12) false) = 0 := by
    unfold inTab
    rw [List.countP_eq_zero]
    intro a _ h
    rw [List.getD_eq_getElem?_getD, List.getElem?_replicate] at h
    split at h <;> simp at h
  obtain ⟨a, b⟩ := search_few hS 10000 (t.size + 1 - 0) 0 (10000 : Int).toNat (List.replicate (c.length * (t.size + 1) * 12) false) 5000 (by show 0 + (t.size + 1 - 0) ≤ t.size + 1; omega) (by unfold InR; omega) (by simp [envOf]) (by rw [h0]; omega) (by rw [h0]; show _ + 2 * ((t.size + 1) * weightC c) ≤ 10000 + 2 * 0; omega)
  refine ⟨a, Int.le_trans b ?_⟩
  rw [h0, e]
  show (10000 : Int) - ((10000 : Nat) : Int) + ((t.size + 1 - 0 : Nat) : Int) + 2 * ((t.size + 1) * weightC c : Nat) - 2 * ((0 : Nat) : Int) ≤ _
  omega
end Mt
