import Derived.Test.YtebpgfodelggoabC03
/- The tokens of a pattern are small, and no more than its bytes. Check as the reference answers it. -/
set_option linter.unusedVariables false
namespace Mt

theorem mood_how (p : ByteArray) (t : Int) : 0 ≤ (mood p t).1 ∧ (mood p t).1 ≤ 2 := by
  unfold mood
  split
  · simp
  · split <;> simp
theorem count_nm (p : ByteArray) (i : Int) : 0 ≤ (count p i).1 ∧ (count p i).1 ≤ 20 ∧ -1 ≤ (count p i).2.1 ∧ (count p i).2.1 ≤ 20 := by
  have b1 := number_bd p (i + 1)
  have b2 := number_bd p (i + 1 + (number p (i + 1)).2 + 1)
  unfold count
  split
  · simp
  · split
    · simp only; omega
    · split
      · simp
      · split
        · simp only; omega
        · split
          · simp
          · simp only; omega
theorem repeat_ok (p : ByteArray) (i : Int) : tokOk (repeatT p i).1 := by
  have m1 := mood_how p (i + 1)
  have m2 := mood_how p (count p i).2.2.1
  have c := count_nm p i
  unfold repeatT
  split
  · simp only [tokOk]; omega
  · split
    · simp only [tokOk]; omega
    · split
      · split
        · simp only [tokOk]; omega
        · simp [tokOk]
      · simp only [tokOk]; omega
theorem escape_ok (p : ByteArray) (i : Int) : tokOk (escape p i).1 := by
  unfold escape
  split
  · simp [tokOk]
  · split
    · simp [tokOk]
    · split
      · simp only [tokOk]; omega
      · simp [tokOk]
theorem opening_ok (p : ByteArray) (i : Int) : tokOk (opening p i).1 := by
  unfold opening
  split
  · simp [tokOk]
  · split
    · simp [tokOk]
    · split
      · simp [tokOk]
      · split
        · simp [tokOk]
        · split <;> simp [tokOk]
theorem class_ok (p : ByteArray) (i : Int) : tokOk (classT p i).1 := by
  unfold classT
  split <;> simp [tokOk]
theorem next_ok (p : ByteArray) (i : Int) : tokOk (nextT p i).1 := by
  unfold nextT
  split
  · simp [tokOk]
  split
  · simp [tokOk]
  split
  · simp [tokOk]
  split
  · simp [tokOk]
  split
  · exact escape_ok p i
  split
  · exact class_ok p i
  split
  · exact opening_ok p i
  split
  · exact repeat_ok p i
  split
  · simp [tokOk]
  · simp [tokOk]
theorem joined_ok {l : List Tok} {t : Tok} (h : tokOk t) (hl : l.length ≤ 64) : tokOk (joined l t) := by
  unfold joined
  split
  · rename_i hc
    have hk : t.kind = 6 := by simp [isCap] at hc; exact hc.1
    have := captures_bd l
    simp only [tokOk] at *
    omega
  · exact h

theorem readOn_ok (p : ByteArray) (hp : p.size ≤ 64) : ∀ (f : Nat) (l : List Tok) (i : Int), 0 ≤ i → i ≤ p.size → (p.size : Int) - i < f → toksOk l → (l.length : Int) ≤ i → toksOk (readOn p l i).1 ∧ ((readOn p l i).1.length : Int) ≤ p.size := by
  intro f
  induction f with
  | zero => intro l i h0 h1 h2; omega
  | succ f ih =>
    intro l i h0 h1 h2 hl hn
    rw [readOn_step p l i h0 h1]
    split
    · exact ⟨hl, by simp only; omega⟩
    · split
      · exact ⟨by simp [toksOk], by simp⟩
      · split
        · exact ⟨by simp [toksOk], by simp⟩
        · rename_i a b c
          have ht := nextT_to p i h0 (by omega) (by omega)
          refine ih _ _ (by omega) (by omega) (by omega) ?_ ?_
          · intro t hm
            rcases List.mem_append.1 hm with hm | hm
            · exact hl t hm
            · simp at hm; rw [hm]; exact joined_ok (next_ok p i) (by omega)
          · rw [List.length_append]; simp; omega
theorem tokens_small (p : ByteArray) : toksOk (tokens p).1 ∧ (tokens p).1.length ≤ 64 := by
  unfold tokens
  split
  · exact ⟨by simp [toksOk], by simp⟩
  · rename_i hp
    have h := readOn_ok p (by omega) ((p.size : Int) + 1).toNat [] 0 (by omega) (by omega) (by omega) (by simp [toksOk]) (by simp)
    rw [readOn_start p (by omega)]
    split
    · exact ⟨h.1, by have := h.2; omega⟩
    · split
      · exact ⟨by simp [toksOk], by simp⟩
      · exact ⟨h.1, by have := h.2; simp only; omega⟩

/-- Check: the error and its place. -/
def checkR (p : ByteArray) : Int × Int :=
  if (tokens p).2.1 ≠ 0 then (tokens p).2
  else if 300 < (coded (tokens p).1).length then (12, 0)
  else (0, 0)

theorem tokens_place (p : ByteArray) : 0 ≤ (tokens p).2.2 ∧ True := by
  refine ⟨?_, trivial⟩
  unfold tokens
  split
  · simp
  · rename_i hp
    rw [readOn_start p (by omega)]
    have key : ∀ (f : Nat) (l : List Tok) (i : Int), 0 ≤ i → i ≤ p.size → (p.size : Int) - i < f → 0 ≤ (readOn p l i).2.2 := by
      intro f
      induction f with
      | zero => intro l i h0 h1 h2; omega
      | succ f ih =>
        intro l i h0 h1 h2
        rw [readOn_step p l i h0 h1]
        split
        · exact h0
        · split
          · exact h0
          · split
            · exact h0
            · have ht := nextT_to p i h0 (by omega) (by omega)
              exact ih _ _ (by omega) (by omega) (by omega)
    split
    · exact key ((p.size : Int) + 1).toNat [] 0 (by omega) (by omega) (by omega)
    · split <;> simp

end Mt
/- Code and Weight as the reference answers them. -/
set_option linter.unusedVariables false
namespace Mt

/-- Code: the code, or the error. -/
def codeR (p : ByteArray) : List Ins × Int := if (checkR p).1 ≠ 0 then ([], (checkR p).1) else (coded (tokens p).1, 0)

def isLoop (p : Int) (i : Ins) : Bool := decide (i.op = 5 ∧ i.x + 1 < p)
/-- How many loops the instruction p stands in: counted from p up to k. -/
def loopsTo (c : List Ins) (p k : Nat) : Nat := ((c.drop p).take (k - p)).countP (isLoop p)
def loopsAt (c : List Ins) (p : Nat) : Nat := loopsTo c p c.length
theorem loopsTo_next (c : List Ins) (p k : Nat) (hp : p ≤ k) (hk : k < c.length) : loopsTo c p (k + 1) = loopsTo c p k + if isLoop p (c.getD k ins0) then 1 else 0 := by
  unfold loopsTo
  rw [show k + 1 - p = (k - p) + 1 by omega, List.take_succ_eq_append_getElem (by rw [List.length_drop]; omega), List.countP_append]
  have e : (c.drop p)[k - p]'(by rw [List.length_drop]; omega) = c.getD k ins0 := by
    rw [List.getElem_drop, List.getD_eq_getElem?_getD, List.getElem?_eq_getElem hk]
    simp only [Option.getD_some]
    congr 1; omega
  rw [e]
  simp [List.countP_cons]
theorem loopsTo_start (c : List Ins) (p : Nat) : loopsTo c p p = 0 := by unfold loopsTo; simp
theorem loopsTo_le (c : List Ins) (p k : Nat) : loopsTo c p k ≤ k := by
  unfold loopsTo
  refine Nat.le_trans List.countP_le_length ?_
  rw [List.length_take]; omega
theorem loopsAt_le (c : List Ins) (p : Nat) : loopsAt c p ≤ c.length := loopsTo_le _ _ _
theorem loopsAt_out (c : List Ins) (p : Nat) (h : c.length ≤ p) : loopsAt c p = 0 := by
  unfold loopsAt loopsTo; rw [List.drop_eq_nil_of_le h]; simp

/-- The weight of the first k instructions. -/
def weightTo (c : List Ins) (k : Nat) : Nat := ((List.range k).map fun i => 1 + loopsAt c i).sum
def weightC (c : List Ins) : Nat := weightTo c c.length
theorem weightTo_next (c : List Ins) (k : Nat) : weightTo c (k + 1) = weightTo c k + 1 + loopsAt c k := by
  unfold weightTo
  rw [List.range_succ, List.map_append, List.sum_append]
  simp; omega
theorem weightTo_le (c : List Ins) : ∀ k, weightTo c k ≤ k * (c.length + 1)
  | 0 => by simp [weightTo]
  | k + 1 => by
    rw [weightTo_next]
    have := weightTo_le c k
    have h2 := loopsAt_le c k
    rw [Nat.add_mul]; omega
/-- Weight, and the error. -/
def weightR (p : ByteArray) : Int × Int := if (codeR p).2 ≠ 0 then (0, (codeR p).2) else ((weightC (codeR p).1 : Int), 0)

theorem coded_fit (p : ByteArray) : fit 100000000 (coded (tokens p).1) := by
  have g := gen_fit (tokens p).1 (tokens_small p).1 283 0 0 (tokens p).1.length 0 (by omega) (by omega)
  have g1 : fit2 (2000 * ((283 : Nat) + 1 : Int)) (60000 * ((283 : Nat) + 1 : Int)) [(⟨13, 0, 0, []⟩ : Ins)] := fit2_one ⟨by simp only; omega, by simp only; omega, by simp only; omega, by simp only; omega⟩ (by omega)
  exact fit2_fit (fit2_behind g g1) (by omega) (by omega)
theorem checkR_len (p : ByteArray) (h : (checkR p).1 = 0) : (coded (tokens p).1).length ≤ 300 := by
  unfold checkR at h
  split at h
  · rename_i g; exact absurd h g
  · split at h
    · simp at h
    · omega
theorem codeR_fit (p : ByteArray) : fit 100000000 (codeR p).1 ∧ (codeR p).1.length ≤ 300 := by
  unfold codeR
  split
  · exact ⟨fit_nil (by omega), by simp⟩
  · rename_i h
    exact ⟨coded_fit p, checkR_len p (by simpa using h)⟩
end Mt
/- Which instructions are chosen, as the reference answers it. -/
set_option linter.unusedVariables false
namespace Mt

def isOver (p : Int) (i : Ins) : Bool := decide (i.op = 11 ∧ p < i.y)
def inSub (c : List Ins) (p : Nat) : Bool := (c.take p).any (isOver p)
def leadsI (x : Ins) (q p : Int) : Bool :=
  if x.op = 2 then (x.x == p || x.y == p)
  else if x.op = 3 ∨ x.op = 5 then x.x == p
  else if x.op = 11 then x.y == p
  else if x.op = 12 ∨ x.op = 13 then false
  else q + 1 == p
def leads (c : List Ins) (q : Nat) (p : Int) : Bool := leadsI (c.getD q ins0) q p
def isHead (p : Int) (i : Ins) : Bool := decide (i.op = 5 ∧ i.x = p)
def leadsTo (c : List Ins) (p : Int) (k : Nat) : Nat := (List.range k).countP fun q => leads c q p
theorem leadsTo_next (c : List Ins) (p : Int) (k : Nat) : leadsTo c p (k + 1) = leadsTo c p k + if leads c k p then 1 else 0 := by
  unfold leadsTo; rw [List.range_succ, List.countP_append]; simp [List.countP_cons]
theorem leadsTo_le (c : List Ins) (p : Int) (k : Nat) : leadsTo c p k ≤ k := by
  unfold leadsTo; refine Nat.le_trans List.countP_le_length ?_; simp
/-- Bit k of a mask. -/
def bitOf (mask : Int) (k : Nat) : Bool := ((mask / (2 : Int) ^ k).tmod 2 == 1)
def picked (c : List Ins) (p : Nat) (policy mask : Int) : Bool :=
  if policy = 2 ∧ c.any (isHead p) = true then true
  else if policy = 1 then true
  else if policy = 3 then decide (1 < leadsTo c p c.length)
  else if policy = 4 then bitOf mask (p % 32)
  else false
def hasBack (c : List Ins) : Bool := c.any fun i => decide (i.op = 8)
def chosenAt (c : List Ins) (policy mask : Int) (p : Nat) : Bool := if inSub c p then false else picked c p policy mask
def chosen (c : List Ins) (policy mask : Int) : List Bool := if hasBack c then List.replicate c.length false else (List.range c.length).map (chosenAt c policy mask)
def maySelect (policy mask : Int) : Bool := decide (0 ≤ policy ∧ policy ≤ 4 ∧ 0 ≤ mask ∧ mask ≤ 4294967295)
/-- The numbers of the chosen among the first k. -/
def numsTo (b : List Bool) (k : Nat) : List Int := ((List.range k).filter fun i => b.getD i false).map fun i : Nat => (i : Int)
theorem numsTo_next (b : List Bool) (k : Nat) : numsTo b (k + 1) = numsTo b k ++ if b.getD k false then [(k : Int)] else [] := by
  unfold numsTo
  rw [List.range_succ, List.filter_append, List.map_append]
  congr 1
  rw [List.filter_cons]
  cases h : b.getD k false <;> simp
theorem numsTo_len (b : List Bool) (k : Nat) : (numsTo b k).length ≤ k := by
  unfold numsTo; rw [List.length_map]; exact Nat.le_trans (List.length_filter_le _ _) (by simp)
def chosenR (p : ByteArray) (policy mask : Int) : List Int × Int :=
  if (codeR p).2 ≠ 0 then ([], (codeR p).2)
  else if maySelect policy mask = false then ([], 13)
  else (numsTo (chosen (codeR p).1 policy mask) (codeR p).1.length, 0)
theorem any_take (c : List Ins) (f : Ins → Bool) (k : Nat) (h : k < c.length) : (c.take (k + 1)).any f = ((c.take k).any f || f (c.getD k ins0)) := by
  rw [List.take_succ_eq_append_getElem h, List.any_append, List.getD_eq_getElem?_getD, List.getElem?_eq_getElem h]; simp
theorem any_of_take (c : List Ins) (f : Ins → Bool) (k n : Nat) (h : k < n) (hn : n ≤ c.length) (hf : f (c.getD k ins0) = true) : (c.take n).any f = true := by
  rw [List.any_eq_true]
  refine ⟨c.getD k ins0, ?_, hf⟩
  rw [List.getD_eq_getElem?_getD, List.getElem?_eq_getElem (by omega)]
  simp only [Option.getD_some]
  rw [List.mem_take_iff_getElem]
  exact ⟨k, by omega, rfl⟩
theorem chosen_len (c : List Ins) (policy mask : Int) : (chosen c policy mask).length = c.length := by
  unfold chosen; split <;> simp
end Mt
/- THE PLAIN MATHEMATICS OF matcherref/walk.go: a state is a list of 44 numbers: pc, pos, 20 places, 10 noted, 12 marks. -/
set_option linter.unusedVariables false
namespace Mt

abbrev Sta := List Int
def gt (s : Sta) (i : Nat) : Int := s.getD i 0

def hasTo (p : ByteArray) (c : Int) (k : Nat) : Bool := (p.data.toList.take k).any fun b => (b.toNat : Int) == c
def hasB (p : ByteArray) (c : Int) : Bool := p.data.toList.any fun b => (b.toNat : Int) == c
theorem hasTo_next (p : ByteArray) (c : Int) (k : Nat) (h : k < p.size) : hasTo p c (k + 1) = (hasTo p c k || ((p[k]'h).toNat : Int) == c) := by
  unfold hasTo
  have h' : k < p.data.toList.length := by simpa using h
  rw [List.take_succ_eq_append_getElem h', List.any_append]
  simp only [List.any_cons, List.any_nil, Bool.or_false]
  rfl
theorem hasTo_all (p : ByteArray) (c : Int) : hasTo p c p.size = hasB p c := by
  unfold hasTo hasB
  rw [List.take_of_length_le (by simp)]
theorem hasB_hit (p : ByteArray) (c : Int) (k : Nat) (h : k < p.size) (hc : (((p[k]'h).toNat : Int) == c) = true) : hasB p c = true := by
  unfold hasB
  rw [List.any_eq_true]
  refine ⟨p[k]'h, ?_, hc⟩
  have h' : k < p.data.toList.length := by simpa using h
  exact List.getElem_mem h'

/-- How many of the first n marks are equal to the position. -/
def levelTo (s : Sta) (k : Nat) : Nat := (List.range k).countP fun j => gt s (32 + j) == gt s 1
theorem levelTo_next (s : Sta) (k : Nat) : levelTo s (k + 1) = levelTo s k + if gt s (32 + k) == gt s 1 then 1 else 0 := by
  unfold levelTo; rw [List.range_succ, List.countP_append]; simp [List.countP_cons]
theorem levelTo_le (s : Sta) (k : Nat) : levelTo s k ≤ k := by
  unfold levelTo; refine Nat.le_trans List.countP_le_length ?_; simp

/-- The level of a state at an instruction that stands in a loops. -/
def lev (s : Sta) (a : Nat) : Nat := levelTo s (min a 12)
theorem lev_le (s : Sta) (a : Nat) : lev s a ≤ 12 ∧ lev s a ≤ a := by
  have := levelTo_le s (min a 12)
  unfold lev; omega
/-- The table's place of a state. -/
def keyOf (s : Sta) (pc pos T a : Nat) : Nat := (pc * (T + 1) + pos) * 12 + lev s a
def deadKn (kn : List Bool) (room : Int) (i : Nat) : List Bool := if kn.getD i false = true then kn else if 0 < room then kn.set i true else kn
def deadRoom (kn : List Bool) (room : Int) (i : Nat) : Int := if kn.getD i false = true then room else if 0 < room then room - 1 else room

end Mt
