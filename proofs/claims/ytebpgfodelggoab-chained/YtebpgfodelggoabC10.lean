import Derived.Test.YtebpgfodelggoabC09
import Derived.Test.YtebpgfodelggoabC01
/- MORE STEPS, THE SAME ANSWER: what the budget changes in a search. -/
set_option linter.unusedVariables false
namespace Mt

/-- Each look takes at least one step. -/
theorem look_n_lt (E : Env) (n : Nat) (s : Sta) (kn : List Bool) (room : Int) : (look E (n + 1) s kn room).n < n + 1 := by
  rw [look_step]
  split
  · exact Nat.lt_succ_self n
  split
  · exact Nat.lt_succ_self n
  split
  · have h1 := look_n E n (s.set 0 (E.ins s).x) (E.kn' s kn room) (E.room' s kn room)
    dsimp only
    generalize look E n (s.set 0 (E.ins s).x) (E.kn' s kn room) (E.room' s kn room) = r at *
    split
    · omega
    · have := look_n E r.n (s.set 0 (E.ins s).y) r.kn r.room; omega
  split
  · have h1 := look_n E n (s.set 0 (gt s 0 + 1)) (E.kn' s kn room) (E.room' s kn room)
    dsimp only
    generalize look E n (s.set 0 (gt s 0 + 1)) (E.kn' s kn room) (E.room' s kn room) = r at *
    split
    · dsimp only; omega
    split
    · have := look_n E r.n (apartP s (E.ins s) r.st r.ok).1 r.kn r.room; omega
    · dsimp only; omega
  split
  · have := look_n E n (oneP E.t s (E.ins s)).1 (E.kn' s kn room) (E.room' s kn room); omega
  · exact Nat.lt_succ_self n

/-- What does not go over stays as it is with d more steps left. -/
theorem look_more (E : Env) (d : Nat) : ∀ (N n : Nat) (s : Sta) (kn : List Bool) (room : Int), n ≤ N → (look E n s kn room).over = false →
    look E (n + d) s kn room = ⟨(look E n s kn room).st, (look E n s kn room).ok, (look E n s kn room).n + d, (look E n s kn room).kn, (look E n s kn room).room, false⟩
  | N, 0, s, kn, room, _, h => by rw [look_zero] at h; cases h
  | 0, n + 1, s, kn, room, hn, _ => by omega
  | N + 1, n + 1, s, kn, room, hn, h => by
    have ih : ∀ (n : Nat) (s : Sta) (kn : List Bool) (room : Int), n ≤ N → (look E n s kn room).over = false →
      look E (n + d) s kn room = ⟨(look E n s kn room).st, (look E n s kn room).ok, (look E n s kn room).n + d, (look E n s kn room).kn, (look E n s kn room).room, false⟩ := look_more E d N
    rw [show n + 1 + d = (n + d) + 1 by omega]
    rw [look_step E n] at h ⊢
    rw [look_step E (n + d)]
    by_cases hd : E.dead s kn = true
    · rw [if_pos hd, if_pos hd]
    rw [if_neg hd] at h ⊢
    rw [if_neg hd]
    by_cases h13 : (E.ins s).op = 13 ∨ (E.ins s).op = 12
    · rw [if_pos h13, if_pos h13]
    rw [if_neg h13] at h ⊢
    rw [if_neg h13]
    by_cases o2 : (E.ins s).op = 2
    · rw [if_pos o2] at h ⊢
      rw [if_pos o2]
      have i1 := ih n (s.set 0 (E.ins s).x) (E.kn' s kn room) (E.room' s kn room) (by omega)
      have n1 := look_n E n (s.set 0 (E.ins s).x) (E.kn' s kn room) (E.room' s kn room)
      dsimp only at h ⊢
      generalize look E n (s.set 0 (E.ins s).x) (E.kn' s kn room) (E.room' s kn room) = r at *
      by_cases hr : (r.ok || r.over) = true
      · rw [if_pos hr] at h ⊢
        rw [i1 h]
        have : r.ok = true := by simpa [h] using hr
        rw [if_pos (by simp [this])]
      · rw [if_neg hr] at h ⊢
        have hr2 : r.ok = false ∧ r.over = false := by simpa using hr
        rw [i1 hr2.2]
        rw [if_neg (by simp [hr2.1])]
        exact ih r.n _ r.kn r.room (by omega) h
    rw [if_neg o2] at h ⊢
    rw [if_neg o2]
    by_cases o11 : (E.ins s).op = 11
    · rw [if_pos o11] at h ⊢
      rw [if_pos o11]
      have i1 := ih n (s.set 0 (gt s 0 + 1)) (E.kn' s kn room) (E.room' s kn room) (by omega)
      have n1 := look_n E n (s.set 0 (gt s 0 + 1)) (E.kn' s kn room) (E.room' s kn room)
      dsimp only at h ⊢
      generalize look E n (s.set 0 (gt s 0 + 1)) (E.kn' s kn room) (E.room' s kn room) = r at *
      by_cases hr : r.over = true
      · rw [if_pos hr] at h; cases h
      · rw [if_neg hr] at h ⊢
        have hr2 : r.over = false := by simpa using hr
        rw [i1 hr2]
        dsimp only
        rw [if_neg (by simp)]
        by_cases hk : (apartP s (E.ins s) r.st r.ok).2 = true
        · rw [if_pos hk] at h ⊢
          rw [if_pos hk]
          exact ih r.n _ r.kn r.room (by omega) h
        · rw [if_neg hk, if_neg hk]
    rw [if_neg o11] at h ⊢
    rw [if_neg o11]
    by_cases hk : (oneP E.t s (E.ins s)).2 = true
    · rw [if_pos hk] at h ⊢
      rw [if_pos hk]
      exact ih n _ _ _ (by omega) h
    · rw [if_neg hk, if_neg hk]

/-- Where d steps are left at the end, d fewer would have done. -/
theorem look_less (E : Env) (d : Nat) : ∀ (N n : Nat) (s : Sta) (kn : List Bool) (room : Int), n ≤ N → (look E (n + d) s kn room).over = false → d ≤ (look E (n + d) s kn room).n → (look E n s kn room).over = false
  | N, 0, s, kn, room, _, h, hd => by
    cases d with
    | zero => rw [look_zero] at h; cases h
    | succ d =>
      have := look_n_lt E d s kn room
      rw [show 0 + (d + 1) = d + 1 by omega] at hd
      omega
  | 0, n + 1, s, kn, room, hn, _, _ => by omega
  | N + 1, n + 1, s, kn, room, hn, h, hd => by
    have ih : ∀ (n : Nat) (s : Sta) (kn : List Bool) (room : Int), n ≤ N → (look E (n + d) s kn room).over = false → d ≤ (look E (n + d) s kn room).n → (look E n s kn room).over = false := look_less E d N
    have im := fun (n : Nat) (s : Sta) (kn : List Bool) (room : Int) => look_more E d n n s kn room (Nat.le_refl _)
    rw [show n + 1 + d = (n + d) + 1 by omega] at h hd
    rw [look_step E n]
    rw [look_step E (n + d)] at h hd
    by_cases hde : E.dead s kn = true
    · rw [if_pos hde]
    rw [if_neg hde] at h hd ⊢
    by_cases h13 : (E.ins s).op = 13 ∨ (E.ins s).op = 12
    · rw [if_pos h13]
    rw [if_neg h13] at h hd ⊢
    by_cases o2 : (E.ins s).op = 2
    · rw [if_pos o2] at h hd ⊢
      have i1 := ih n (s.set 0 (E.ins s).x) (E.kn' s kn room) (E.room' s kn room) (by omega)
      have m1 := im n (s.set 0 (E.ins s).x) (E.kn' s kn room) (E.room' s kn room)
      have n1 := look_n E n (s.set 0 (E.ins s).x) (E.kn' s kn room) (E.room' s kn room)
      dsimp only at h hd ⊢
      generalize look E n (s.set 0 (E.ins s).x) (E.kn' s kn room) (E.room' s kn room) = r at *
      generalize look E (n + d) (s.set 0 (E.ins s).x) (E.kn' s kn room) (E.room' s kn room) = R at *
      by_cases hr : (R.ok || R.over) = true
      · rw [if_pos hr] at h hd
        have ho := i1 h hd
        have hm := m1 ho
        have hRo : R.ok = true := by simpa [h] using hr
        have : r.ok = true := by rw [hm] at hRo; exact hRo
        rw [if_pos (by simp [this])]; exact ho
      · rw [if_neg hr] at h hd
        have hr2 : R.ok = false ∧ R.over = false := by simpa using hr
        have hn2 := look_n E R.n (s.set 0 (E.ins s).y) R.kn R.room
        have ho := i1 hr2.2 (by omega)
        have hm := m1 ho
        rw [hm] at h hd hr2
        dsimp only at h hd hr2
        rw [if_neg (by simp [hr2.1, ho])]
        exact ih r.n _ r.kn r.room (by omega) h hd
    rw [if_neg o2] at h hd ⊢
    by_cases o11 : (E.ins s).op = 11
    · rw [if_pos o11] at h hd ⊢
      have i1 := ih n (s.set 0 (gt s 0 + 1)) (E.kn' s kn room) (E.room' s kn room) (by omega)
      have m1 := im n (s.set 0 (gt s 0 + 1)) (E.kn' s kn room) (E.room' s kn room)
      have n1 := look_n E n (s.set 0 (gt s 0 + 1)) (E.kn' s kn room) (E.room' s kn room)
      dsimp only at h hd ⊢
      generalize look E n (s.set 0 (gt s 0 + 1)) (E.kn' s kn room) (E.room' s kn room) = r at *
      generalize look E (n + d) (s.set 0 (gt s 0 + 1)) (E.kn' s kn room) (E.room' s kn room) = R at *
      by_cases hr : R.over = true
      · rw [if_pos hr] at h; cases h
      · rw [if_neg hr] at h hd
        have hr2 : R.over = false := by simpa using hr
        by_cases hk : (apartP s (E.ins s) R.st R.ok).2 = true
        · rw [if_pos hk] at h hd
          have hn2 := look_n E R.n (apartP s (E.ins s) R.st R.ok).1 R.kn R.room
          have ho := i1 hr2 (by omega)
          have hm := m1 ho
          rw [hm] at h hd hk
          dsimp only at h hd hk
          rw [if_neg (by simp [ho]), if_pos hk]
          exact ih r.n _ r.kn r.room (by omega) h hd
        · rw [if_neg hk] at h hd
          have ho := i1 hr2 hd
          have hm := m1 ho
          rw [hm] at hk
          dsimp only at hk
          rw [if_neg (by simp [ho]), if_neg hk]
    rw [if_neg o11] at h hd ⊢
    by_cases hk : (oneP E.t s (E.ins s)).2 = true
    · rw [if_pos hk] at h hd ⊢
      exact ih n _ _ _ (by omega) h hd
    · rw [if_neg hk]

/-- A search with b steps, and one with d more: the same, if the first is not over. -/
theorem search_more (E : Env) (b : Int) (d : Nat) : ∀ (f p n : Nat) (kn : List Bool) (room : Int), (search E b f p n kn room).2 = false → search E (b + d) f p (n + d) kn room = search E b f p n kn room
  | 0, p, n, kn, room, _ => by
    simp only [search]
    rw [show b + (d : Int) - ((n + d : Nat) : Int) = b - n by omega]
  | f + 1, p, n, kn, room, h => by
    have m := look_more E d n n (startSt p) kn room (Nat.le_refl _)
    rw [search] at h ⊢
    conv => rhs; rw [search]
    generalize look E n (startSt p) kn room = r at *
    by_cases ho : r.over = true
    · rw [if_pos ho] at h; cases h
    · have ho2 : r.over = false := by simpa using ho
      rw [if_neg ho] at h ⊢
      rw [m ho2]
      dsimp only
      rw [if_neg (by simp)]
      by_cases hk : r.ok = true
      · rw [if_pos hk, if_pos hk, show b + (d : Int) - ((r.n + d : Nat) : Int) = b - r.n by omega]
      · rw [if_neg hk] at h ⊢
        rw [if_neg hk]
        exact search_more E b d f (p + 1) r.n r.kn r.room h
/-- And if the longer one takes no more than b steps, the shorter one is not over. -/
theorem search_less (E : Env) (b : Int) (d : Nat) : ∀ (f p n : Nat) (kn : List Bool) (room : Int), (search E (b + d) f p (n + d) kn room).2 = false → (search E (b + d) f p (n + d) kn room).1.steps ≤ b → (search E b f p n kn room).2 = false
  | 0, p, n, kn, room, _, _ => by simp only [search]
  | f + 1, p, n, kn, room, h, hs => by
    have m := look_more E d n n (startSt p) kn room (Nat.le_refl _)
    have l := look_less E d n n (startSt p) kn room (Nat.le_refl _)
    rw [search] at h hs ⊢
    by_cases hle : d ≤ (look E (n + d) (startSt p) kn room).n
    · generalize look E n (startSt p) kn room = r at *
      generalize look E (n + d) (startSt p) kn room = R at *
      by_cases ho : R.over = true
      · rw [if_pos ho] at h; cases h
      · have ho2 : R.over = false := by simpa using ho
        have hr := l ho2 hle
        have hm := m hr
        rw [if_neg ho] at h hs
        rw [hm] at h hs
        dsimp only at h hs
        rw [if_neg (by simp [hr])]
        by_cases hk : r.ok = true
        · rw [if_pos hk]
        · rw [if_neg hk] at h hs ⊢
          exact search_less E b d f (p + 1) r.n r.kn r.room h hs
    · exfalso
      generalize look E (n + d) (startSt p) kn room = R at *
      by_cases ho : R.over = true
      · rw [if_pos ho] at h; cases h
      · rw [if_neg ho] at h hs
        by_cases hk : R.ok = true
        · rw [if_pos hk] at hs; dsimp only at hs; omega
        · rw [if_neg hk] at h hs
          have : ∀ (g q k : Nat) (kn : List Bool) (room : Int), k < d → (search E (b + d) g q k kn room).2 = false → b < (search E (b + d) g q k kn room).1.steps := by
            intro g
            induction g with
            | zero => intro q k kn room hk _; simp only [search]; omega
            | succ g ih =>
              intro q k kn room hk ho
              have hn := look_n E k (startSt q) kn room
              rw [search] at ho ⊢
              generalize look E k (startSt q) kn room = r at *
              by_cases h1 : r.over = true
              · rw [if_pos h1] at ho; cases ho
              · rw [if_neg h1] at ho ⊢
                by_cases h2 : r.ok = true
                · rw [if_pos h2]; dsimp only; omega
                · rw [if_neg h2] at ho ⊢
                  exact ih (q + 1) r.n r.kn r.room (by omega) ho
          have := this f (p + 1) R.n R.kn R.room (by omega) h
          omega
end Mt
/- THE PROGRAM'S TOKENS, plainly: sets of bytes, and what token.Read answers, out of the reference's tokens. -/
set_option linter.unusedVariables false
namespace Mt

/-- A set of bytes. -/
abbrev BSet := Nat → Bool
def none0 : BSet := fun _ => false
def addR (S : BSet) (a b : Int) : BSet := fun c => S c || (decide (a ≤ (c : Int)) && decide ((c : Int) ≤ b))
/-- The range is added as far as k. -/
def addTo (S : BSet) (a b : Int) (k : Nat) : BSet := fun c => if c < k then addR S a b c else S c
theorem addTo_zero (S : BSet) (a b : Int) : addTo S a b 0 = S := by funext c; simp [addTo]
theorem addTo_hit (S : BSet) (a b : Int) (k : Nat) (h : a ≤ (k : Int) ∧ (k : Int) ≤ b) : addTo S a b (k + 1) = fun c => if c = k then true else addTo S a b k c := by
  funext c
  simp only [addTo, addR]
  by_cases e : c = k
  · subst e; simp [h]
  · rw [if_neg e]
    by_cases l : c < k
    · rw [if_pos (by omega), if_pos l]
    · rw [if_neg (by omega), if_neg l]
theorem addTo_miss (S : BSet) (a b : Int) (k : Nat) (h : ¬ (a ≤ (k : Int) ∧ (k : Int) ≤ b)) : addTo S a b (k + 1) = addTo S a b k := by
  funext c
  simp only [addTo, addR]
  by_cases e : c = k
  · subst e
    rw [if_pos (by omega), if_neg (by omega)]
    have : (decide (a ≤ (c : Int)) && decide ((c : Int) ≤ b)) = false := by
      rw [← Bool.decide_and]; simpa using h
    rw [this]; simp
  · by_cases l : c < k
    · rw [if_pos (by omega), if_pos l]
    · rw [if_neg (by omega), if_neg l]
/-- Two sets are one below 256. -/
def sameB (S T : BSet) : Prop := ∀ c, c < 256 → S c = T c
theorem addTo_end (S : BSet) (a b : Int) : sameB (addTo S a b 256) (addR S a b) := fun c h => by simp [addTo, h]

def notTo (S : BSet) (k : Nat) : BSet := fun c => if c < k then !S c else S c
theorem notTo_next (S : BSet) (k : Nat) : notTo S (k + 1) = fun c => if c = k then !(S k) else notTo S k c := by
  funext c
  simp only [notTo]
  by_cases e : c = k
  · subst e; simp
  · rw [if_neg e]
    by_cases l : c < k
    · rw [if_pos (by omega), if_pos l]
    · rw [if_neg (by omega), if_neg l]

/-- The bytes of a set below n, rising. -/
def setTo (S : BSet) (n : Nat) : List UInt8 := ((List.range n).filter S).map UInt8.ofNat
theorem setTo_hit {S : BSet} {n : Nat} (h : S n = true) : setTo S (n + 1) = setTo S n ++ [UInt8.ofNat n] := by
  unfold setTo
  rw [List.range_succ, List.filter_append, List.map_append]
  congr 1
  rw [List.filter_cons, if_pos h]; rfl
theorem setTo_miss {S : BSet} {n : Nat} (h : S n = false) : setTo S (n + 1) = setTo S n := by
  unfold setTo
  rw [List.range_succ, List.filter_append, List.map_append, List.filter_cons, if_neg (by simp [h])]; simp
theorem setTo_len (S : BSet) (n : Nat) : (setTo S n).length ≤ n := by
  unfold setTo; rw [List.length_map]; exact Nat.le_trans (List.length_filter_le _ _) (by simp)
theorem setTo_same {S T : BSet} (h : sameB S T) : setTo S 256 = setTo T 256 := by
  unfold setTo
  congr 1
  apply List.filter_congr
  intro c hc
  exact h c (by simpa using hc)
theorem setTo_all (p : ByteArray) (a b : Int) (no : Bool) : setTo (fun c => inClass p a b (c : Int) != no) 256 = all p a b no := rfl
theorem filter_one (c : Nat) : ∀ n, (List.range n).filter (fun k : Nat => decide (k = c)) = if c < n then [c] else []
  | 0 => by simp
  | n + 1 => by
    rw [List.range_succ, List.filter_append, filter_one c n]
    by_cases e : n = c
    · subst e; simp
    · by_cases l : c < n
      · rw [if_pos l, if_pos (by omega)]; simp [e]
      · rw [if_neg l, if_neg (by omega)]; simp [e]
/-- One byte alone. -/
theorem set_one (c : Int) (h0 : 0 ≤ c) (h1 : c ≤ 255) : setTo (addR none0 c c) 256 = [UInt8.ofNat c.toNat] := by
  have : setTo (addR none0 c c) 256 = setTo (fun k => decide (k = c.toNat)) 256 := by
    refine setTo_same (fun k hk => ?_)
    simp only [addR, none0, Bool.false_or]
    rw [← Bool.decide_and]
    congr 1
    exact propext ⟨fun h => by omega, fun h => by omega⟩
  rw [this]
  unfold setTo
  rw [filter_one, if_pos (by omega)]; rfl
theorem inClass_empty (p : ByteArray) (i c : Int) : inClass p i i c = false := by rw [inClass_step, if_pos (Int.le_refl _)]
theorem set_any (p : ByteArray) (i : Int) : setTo (addR none0 0 255) 256 = all p i i true := by
  rw [← setTo_all]
  refine setTo_same (fun k hk => ?_)
  rw [inClass_empty]
  simp [addR, none0]; omega

/-- What a set letter stands for. -/
def addL (S : BSet) (w : Bool) : BSet := if w then addR (addR (addR (addR S 48 57) 65 90) 95 95) 97 122 else addR S 48 57
theorem addL_short (S : BSet) (w : Bool) (c : Nat) : addL S w c = (S c || shortB w (c : Int)) := by
  unfold addL shortB digB letB
  cases w
  · simp [addR]
  · simp only [addR, if_true, Bool.true_and]
    by_cases h1 : 48 ≤ (c : Int) ∧ (c : Int) ≤ 57 <;> by_cases h2 : 65 ≤ (c : Int) ∧ (c : Int) ≤ 90 <;> by_cases h3 : 97 ≤ (c : Int) ∧ (c : Int) ≤ 122 <;> by_cases h4 : (c : Int) = 95
    all_goals
      simp only [← Bool.decide_and]
      have h5 : (95 ≤ (c : Int) ∧ (c : Int) ≤ 95) ↔ (c : Int) = 95 := by omega
      simp only [h5, h1, h2, h3, h4]
      simp

/-- A set with the bytes of the item at i. -/
def addI (p : ByteArray) (i : Int) (S : BSet) : BSet :=
  if (item p i).2.2.2 then addL S (decide ((item p i).2.1 = 119)) else addR S (item p i).1 (item p i).2.1
theorem addI_in (p : ByteArray) (i b : Int) (S : BSet) (c : Nat) (h : i < b) (h0 : (item p i).2.2.1 ≠ 0) : (S c || inClass p i b (c : Int)) = (addI p i S c || inClass p (i + (item p i).2.2.1) b (c : Int)) := by
  rw [inClass_step, if_neg (by omega), if_neg h0]
  unfold addI
  cases hw : (item p i).2.2.2
  · simp only [Bool.false_eq_true, if_false]
    by_cases h1 : (item p i).1 ≤ (c : Int) ∧ (c : Int) ≤ (item p i).2.1
    · rw [if_pos h1]; simp [addR, h1]
    · rw [if_neg h1]
      have : (decide ((item p i).1 ≤ (c : Int)) && decide ((c : Int) ≤ (item p i).2.1)) = false := by rw [← Bool.decide_and]; simpa using h1
      simp only [addR, this, Bool.or_false]
  · simp only [if_true]
    rw [addL_short]
    cases hs : shortB (decide ((item p i).2.1 = 119)) (c : Int) <;> simp

/-- A token of the program. -/
structure PT where
  kind : Int
  en : Int
  group : Int
  number : Int
  least : Int
  most : Int
  mood : Int
  set : List UInt8
def pt0 : PT := ⟨0, 0, 0, 0, 0, 0, 0, []⟩
def kindP (k : Int) : Int := if k = 1 then 5 else if k = 2 then 6 else if k = 3 then 7 else if k = 4 then 8 else if k = 5 then 1 else if k = 6 then 2 else if k = 7 then 3 else if k = 8 then 4 else 0
def grpP (h : Int) : Int := if h = 4 then 1 else if h = 3 then 2 else h + 3
/-- The program's token that a token of the reference stands for. -/
def ptok (t : Tok) : PT :=
  ⟨kindP t.kind, t.to, if t.kind = 6 then grpP t.how else 0, if t.kind = 2 then t.n else 0, if t.kind = 8 then t.n else 0, if t.kind = 8 then t.m else 0, if t.kind = 8 then t.how + 1 else 0, t.set⟩
/-- What token.Read answers. -/
def readP (p : ByteArray) (i : Int) : PT × Int := if (nextT p i).2 = 0 then (ptok (nextT p i).1, 0) else (pt0, (nextT p i).2)
end Mt
