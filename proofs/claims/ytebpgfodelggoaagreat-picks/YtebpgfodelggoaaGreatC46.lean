import Derived.Test.YtebpgfodelggoaaGreatC45
import Derived.Test.YtebpgfodelggoaaGreatC24
import Derived.Test.YtebpgfodelggoaaGreatC15
import Derived.Test.YtebpgfodelggoaaGreatC38
/- Lay; matcher.Code. -/
set_option linter.unusedVariables false
set_option linter.unusedSimpArgs false
namespace Go.Proofs.YtebpgfodelggoaaGreat
open Go.RowKit

theorem Tryz.sizeLy : (Tryz.prog.info? 144).map (·.size) = some 4 := by kernel_rfl
def lyA (b : Mt.PB) (so ao : Option Addr) (sc ac : Nat) : Array Value := #[.slice so b.seqs.length sc, .slice ao b.atoms.length ac, .slice none 0 0, .int .i64 0]
theorem layer_new {w w2 : World} {b : Mt.PB} {so ao : Option Addr} {sc ac L0 : Nat} (h : TreeAt L0 w b so ao sc ac) (hb : Below w.heap.size w w2) (hg : w2.heap[w.heap.size + 1]? = some (.cells (lyA b so ao sc ac) 144 (0, 0))) :
    LAt w.heap.size w2 (w.heap.size + 1) b so ao sc ac none 0 [] 0 := by
  have ls : ∀ k, blk so = some k → k < w.heap.size := fun k hk => (World.ownsRow.lt h.seqs k (by rw [ownBlock_blk]; exact hk)).2
  have la : ∀ k, blk ao = some k → k < w.heap.size := fun k hk => (World.ownsRow.lt h.atoms k (by rw [ownBlock_blk]; exact hk)).2
  exact ⟨hg, by omega, (h.below hb).lower (Nat.zero_le _), World.ownsRow_nil _ _ _ _, by simp [blk], fun e => by have := ls _ e; omega, fun e => by have := la _ e; omega, fun q hq => by simp [blk] at hq⟩

set_option maxRecDepth 100000 in
set_option maxHeartbeats 2000000 in
theorem Lay_any {b : Mt.PB} {so ao : Option Addr} {sc ac : Nat} (hna : b.atoms.length ≤ 1000) (hns : b.seqs.length ≤ 1000) (f : Mt.Fs) (hw : f.wf) (hok : f.ok) (hfl : f.flat.length ≤ 1000) (hre : f.re.len ≤ 900) (hs : 0 < b.seqs.length) (hst : Mt.standsF b 0 0 f (b.sAt 0).first (b.sAt 0).next) {L : Nat} {w : World} (hT : TreeAt L w b so ao sc ac) :
    Calls Tryz.prog 64 #[treeV b so ao sc ac] w fun e w' => ∃ v, e = .returned v ∧ ownIns w' w.heap.size v (f.re.code 0 0 ++ [⟨13, 0, 0, []⟩]) ∧ Below w.heap.size w w' := by
  have HA : Hid (Lays w.heap.size (w.heap.size + 1) b so ao sc ac 0 92 #[.pointer (some ⟨w.heap.size + 1, 0, none⟩), .int .i64 ((0 : Nat) : Int)] f.re) := altL_all hna hns (f.flat.length + 1) f hw hok (by omega) 0 hs hst 0 (by omega) (by omega)
  have HT : Hid (TreeAt L w b so ao sc ac) := hT
  have hlen : (f.re.code 0 0).length = f.re.len := Mt.Re.code_len _ _ _
  clear hT hst hw hok
  unfold treeV
  go_enter Tryz.func64, Tryz.ntmps64
  go_wp2_with (refine store_blk 144 4 Tryz.sizeLy (by rfl) (.tmp 3) (.tmp 5) (by rfl) (w.heap.size + 1) (lyA b so ao sc ac) (by rfl) (by rfl) (by exact heap_b3 _ _ _) (by rfl) (by rfl) (by simp [lyA, Value.oneCell']) ?_; intro w2 r1 r2 r3 r4)
  have B2 : Below w.heap.size w w2 := (((Below.refl _ _).alloc (Nat.le_refl _) _).alloc (by simp) _).trans (r4 _ (by omega))
  have A2 := layer_new HT.out B2 r1
  have H1' := HA.out w2 none 0 [] A2 (by simp; omega)
  simp only [List.nil_append, List.length_nil] at H1'
  have H1 : Hid (Calls Tryz.prog 92 #[.pointer (some ⟨w.heap.size + 1, 0, none⟩), .int .i64 ((0 : Nat) : Int)] w2 _) := H1'
  have HB2 : Hid (Below w.heap.size w w2 ∧ LAt w.heap.size w2 (w.heap.size + 1) b so ao sc ac none 0 [] 0) := ⟨B2, A2⟩
  clear r1 r2 r3 r4 B2 A2 H1'
  go_wp2_with fail
  refine H1.out.mono ?_
  rintro e w3 ⟨rfl, co3, cc3, hA, hS⟩
  have H2 : Hid (Calls Tryz.prog 93 #[.pointer (some ⟨w.heap.size + 1, 0, none⟩), .agg (insA ⟨13, 0, 0, []⟩)] w3 _) := put_prog (x := ⟨13, 0, 0, []⟩) hA (by show (f.re.code 0 0).length ≤ _; omega)
  have HS3 : Hid (LStep (w.heap.size + 1) none co3 w2 w3) := hS
  clear hA hS
  unfold insA at H2
  go_wp2_with fail
  refine H2.out.mono ?_
  rintro e w4 ⟨rfl, q, cap, hA, hS⟩
  have c2 := hA.cells.2.2.1
  have HO : Hid (ownIns w4 w.heap.size (.slice (some ⟨q, 0, none⟩) (f.re.code 0 0 ++ [(⟨13, 0, 0, []⟩ : Mt.Ins)]).length cap) (f.re.code 0 0 ++ [⟨13, 0, 0, []⟩])) := hA.code
  have HB4 : Hid (Below w.heap.size w w4) := HB2.out.1.trans ((HS3.out.trans hS).low HB2.out.2 HB2.out.1.size)
  clear hA hS
  generalize hC : f.re.code 0 0 ++ [(⟨13, 0, 0, []⟩ : Mt.Ins)] = C at *
  go_wp2_with fail
  go_ret
  exact ⟨_, rfl, by rw [hC]; exact HO.out, HB4.out⟩

set_option maxRecDepth 100000 in
set_option maxHeartbeats 4000000 in
theorem Code_any (p : ByteArray) (w : World) (hm : p.size ≤ maxLen) : Calls Tryz.prog 35 #[.string p] w fun e w' => ∃ v, e = .returned (.tuple #[v, .int .i64 (Mt.codeR p).2]) ∧ ownIns w' w.heap.size v (Mt.codeR p).1 ∧ Below w.heap.size w w' := by
  have HC : Hid (Calls Tryz.prog 55 #[.string p] w (Reads p w)) := read_any p w hm
  by_cases h0 : (Mt.checkR p).1 = 0
  · have ht0 : (Mt.tokens p).2.1 = 0 := by
      unfold Mt.checkR at h0
      split at h0
      · rename_i x; exact absurd h0 x
      · rename_i x; simpa using x
    obtain ⟨f, hw, hok, hfl, hst, hs0, hla, hls, hc1, hc2⟩ := Mt.forest p ht0
    have h300 : f.re.len + 1 ≤ 300 := by
      unfold Mt.checkR at h0
      rw [if_neg (by omega)] at h0
      split at h0
      · simp at h0
      · rename_i x
        have := fun y => x (hc1.2 y)
        omega
    have hcr : Mt.codeR p = (f.re.code 0 0 ++ [⟨13, 0, 0, []⟩], 0) := by unfold Mt.codeR; rw [if_neg (by omega), hc2 h300]
    have hts := (Mt.tokens_small p).2
    rw [hfl] at hts
    rw [hcr]
    have HL : Hid (∀ (so ao : Option Addr) (sc ac L : Nat) (W : World), TreeAt L W (Mt.PB.start.run (Mt.tokens p).1) so ao sc ac → Calls Tryz.prog 64 #[treeV (Mt.PB.start.run (Mt.tokens p).1) so ao sc ac] W fun e w' => ∃ v, e = .returned v ∧ ownIns w' W.heap.size v (f.re.code 0 0 ++ [⟨13, 0, 0, []⟩]) ∧ Below W.heap.size W w') := fun so ao sc ac L W hT => Lay_any (by omega) (by omega) f hw hok (by omega) (by omega) hs0 hst hT
    have H0 : Hid ((Mt.checkR p).1 = 0) := h0
    clear hst hw hok hfl hc1 hc2 hcr h0 ht0
    generalize f.re.code 0 0 ++ [(⟨13, 0, 0, []⟩ : Mt.Ins)] = C at *
    go_enter Tryz.func35, Tryz.ntmps35
    go_wp2_with fail
    refine HC.out.mono ?_
    rintro e w1 ⟨_, hg, hb⟩
    obtain ⟨so, ao, sc, ac, rfl, hT⟩ := hg H0.out
    have HB1 : Hid (Below w.heap.size w w1 ∧ TreeAt w.heap.size w1 (Mt.PB.start.run (Mt.tokens p).1) so ao sc ac) := ⟨hb, hT⟩
    clear hb hg hT HC
    generalize Mt.PB.start.run (Mt.tokens p).1 = b at *
    unfold treeV
    unfold treeV at HL
    go_wp2_with (first | (refine store_blk 107 2 Tryz.sizeT (by rfl) (.tmp 4) (.tmp 10) (by rfl) w1.heap.size (treeA b so ao sc ac) (by rfl) (by rfl) (by exact heap_b1 _ _) (by rfl) (by rfl) (by simp [treeA, Value.oneCell']) ?_; intro w2 r1 r2 r3 r4) | (refine load_blk 107 2 Tryz.underlying107 rfl Tryz.sizeT (by rfl) (.tmp 4) (by rfl) w1.heap.size (by rfl) r1 (by rfl) ?_))
    have hb2 : Below w1.heap.size w1 w2 := ((Below.refl _ _).alloc (Nat.le_refl _) _).trans (r4 _ (Nat.le_refl _))
    have hsz := HB1.out.1.size
    have hsz2 := hb2.size
    have HB2 : Hid (Below w.heap.size w w2 ∧ w.heap.size ≤ w2.heap.size) := ⟨HB1.out.1.trans (hb2.mono hsz), by omega⟩
    have H2 := HL.out so ao sc ac _ w2 (HB1.out.2.below hb2)
    refine H2.mono ?_
    clear H2 r1 r2 r3 r4 hb2
    rintro e w3 ⟨v, rfl, ho, hb3⟩
    have HO : Hid (ownIns w3 w.heap.size v C ∧ Below w.heap.size w w3) := ⟨ho.base HB2.out.2, HB2.out.1.trans (hb3.mono HB2.out.2)⟩
    clear ho hb3
    go_wp2_with fail
    go_ret2
    exact ⟨_, rfl, HO.out.1, HO.out.2⟩
  · have hcr : Mt.codeR p = ([], (Mt.checkR p).1) := by unfold Mt.codeR; rw [if_pos h0]
    rw [hcr]
    have H0 : Hid ((Mt.checkR p).1 ≠ 0) := h0
    have m2 : ((Mt.checkR p).1 != 0) = true := by simpa using h0
    have HC' := HC.out
    unfold Reads at HC'
    have HCX : Hid (Calls Tryz.prog 55 #[.string p] w _) := HC'
    clear hcr h0 HC' HC
    generalize (Mt.checkR p).1 = E at *
    generalize (Mt.checkR p).2 = K at *
    go_enter Tryz.func35, Tryz.ntmps35
    go_wp2_with fail
    refine HCX.out.mono ?_
    rintro e w1 ⟨hg, _, hb⟩
    obtain rfl := hg H0.out
    have HB : Hid (Below w.heap.size w w1) := hb
    clear hb hg HCX
    go_wp2_with (refine store_blk 107 2 Tryz.sizeT (by rfl) (.tmp 4) (.tmp 10) (by rfl) w1.heap.size nil2 (by rfl) (by rfl) (by exact heap_b1 _ _) (by rfl) (by rfl) nil2_all ?_; intro w2 r1 r2 r3 r4; have R2 : Hid (Below w.heap.size w w2) := (HB.out.alloc (HB.out.size) _).trans (r4 _ HB.out.size); clear r1 r2 r3 r4)
    go_ret2
    exact ⟨_, rfl, World.ownsRow_nil _ _ _ _, R2.out⟩
end Go.Proofs.YtebpgfodelggoaaGreat
/- Marks and Agains of a code come in pairs: how many loops an instruction stands in may be counted from the front. -/
set_option linter.unusedVariables false
namespace Mt
def isMark (i : Ins) : Bool := decide (i.op = 4)
def isAgain (i : Ins) : Bool := decide (i.op = 5)
theorem take_cons' (q : Ins → Bool) (n : Nat) (x : Ins) (l : List Ins) : ((x :: l).take n).countP q = (if 0 < n ∧ q x = true then 1 else 0) + (l.take (n - 1)).countP q := by
  cases n with
  | zero => simp
  | succ n =>
    rw [List.take_succ_cons, List.countP_cons, Nat.add_sub_cancel]
    cases h : q x <;> simp <;> omega
theorem take_app' (q : Ins → Bool) (n : Nat) (a b : List Ins) : ((a ++ b).take n).countP q = (a.take n).countP q + (b.take (n - a.length)).countP q := by
  rw [List.take_append, List.countP_append]
theorem marks_pair : ∀ (r : Re) (p d t : Int), ((r.code p d).take (t - p).toNat).countP isMark = (r.code p d).countP (isLoop t)
  | .eps, p, d, t => by simp [Re.code]
  | .one s, p, d, t => by rw [Re.code, take_cons']; simp [isMark, isLoop]
  | .back k, p, d, t => by rw [Re.code, take_cons']; simp [isMark, isLoop]
  | .head, p, d, t => by rw [Re.code, take_cons']; simp [isMark, isLoop]
  | .tail, p, d, t => by rw [Re.code, take_cons']; simp [isMark, isLoop]
  | .cat a b, p, d, t => by
    rw [Re.code, take_app', List.countP_append, marks_pair a, Re.code_len, show (t - p).toNat - a.len = (t - (p + a.len)).toNat by omega, marks_pair b]
  | .alt a b, p, d, t => by
    rw [Re.code, take_cons', take_app', take_cons', Re.code_len, List.countP_cons, List.countP_append, List.countP_cons, show (t - p).toNat - 1 = (t - (p + 1)).toNat by omega, marks_pair a, show (t - (p + 1)).toNat - a.len - 1 = (t - (p + a.len + 2)).toNat by omega, marks_pair b]
    simp [isMark, isLoop]
  | .cap k a, p, d, t => by
    rw [Re.code, take_cons', take_app', take_cons', List.countP_cons, List.countP_append, show (t - p).toNat - 1 = (t - (p + 1)).toNat by omega, marks_pair a]
    simp [isMark, isLoop]
  | .sub s a, p, d, t => by
    rw [Re.code, take_cons', take_app', take_cons', List.countP_cons, List.countP_append, show (t - p).toNat - 1 = (t - (p + 1)).toNat by omega, marks_pair a]
    simp [isMark, isLoop]
  | .opt late a, p, d, t => by
    rw [Re.code, take_cons', List.countP_cons, show (t - p).toNat - 1 = (t - (p + 1)).toNat by omega, marks_pair a]
    cases late <;> simp [isMark, isLoop, spl]
  | .loop late a, p, d, t => by
    rw [Re.code, take_cons', take_cons', take_app', take_cons', List.countP_cons, List.countP_cons, List.countP_append, show (t - p).toNat - 1 - 1 = (t - (p + 2)).toNat by omega, marks_pair a]
    have e : (0 < (t - p).toNat - 1) ↔ p + 1 < t := by omega
    cases late <;> simp [isMark, isLoop, spl, List.countP_cons] <;> split <;> split <;> omega
theorem agains_in : ∀ (r : Re) (p d t : Int) (x : Ins), x ∈ (r.code p d).take (t - p).toNat → x.op = 5 → x.x + 1 < t
  | .eps, p, d, t, x, h, h5 => by simp [Re.code] at h
  | .one s, p, d, t, x, h, h5 => by have := List.mem_of_mem_take h; simp [Re.code] at this; subst this; simp at h5
  | .back k, p, d, t, x, h, h5 => by have := List.mem_of_mem_take h; simp [Re.code] at this; subst this; simp at h5
  | .head, p, d, t, x, h, h5 => by have := List.mem_of_mem_take h; simp [Re.code] at this; subst this; simp at h5
  | .tail, p, d, t, x, h, h5 => by have := List.mem_of_mem_take h; simp [Re.code] at this; subst this; simp at h5
  | .cat a b, p, d, t, x, h, h5 => by
    rw [Re.code, List.take_append, List.mem_append, Re.code_len, show (t - p).toNat - a.len = (t - (p + a.len)).toNat by omega] at h
    rcases h with h | h
    · exact agains_in a _ _ _ x h h5
    · exact agains_in b _ _ _ x h h5
  | .alt a b, p, d, t, x, h, h5 => by
    rw [Re.code] at h
    rcases cons_take h with rfl | h
    · simp at h5
    rw [List.take_append, List.mem_append, Re.code_len, show (t - p).toNat - 1 = (t - (p + 1)).toNat by omega] at h
    rcases h with h | h
    · exact agains_in a _ _ _ x h h5
    rcases cons_take h with rfl | h
    · simp at h5
    rw [show (t - (p + 1)).toNat - a.len - 1 = (t - (p + a.len + 2)).toNat by omega] at h
    exact agains_in b _ _ _ x h h5
  | .cap k a, p, d, t, x, h, h5 => by
    rw [Re.code] at h
    rcases cons_take h with rfl | h
    · simp at h5
    rw [List.take_append, List.mem_append, show (t - p).toNat - 1 = (t - (p + 1)).toNat by omega] at h
    rcases h with h | h
    · exact agains_in a _ _ _ x h h5
    · have := List.mem_of_mem_take h; simp at this; subst this; simp at h5
  | .sub s a, p, d, t, x, h, h5 => by
    rw [Re.code] at h
    rcases cons_take h with rfl | h
    · simp at h5
    rw [List.take_append, List.mem_append, show (t - p).toNat - 1 = (t - (p + 1)).toNat by omega] at h
    rcases h with h | h
    · exact agains_in a _ _ _ x h h5
    · have := List.mem_of_mem_take h; simp at this; subst this; simp at h5
  | .opt late a, p, d, t, x, h, h5 => by
    rw [Re.code] at h
    rcases cons_take h with rfl | h
    · cases late <;> simp [spl] at h5
    rw [show (t - p).toNat - 1 = (t - (p + 1)).toNat by omega] at h
    exact agains_in a _ _ _ x h h5
  | .loop late a, p, d, t, x, h, h5 => by
    rw [Re.code] at h
    rcases cons_take h with rfl | h
    · cases late <;> simp [spl] at h5
    rcases cons_take h with rfl | h
    · simp at h5
    rw [List.take_append, List.mem_append, Re.code_len, show (t - p).toNat - 1 - 1 = (t - (p + 2)).toNat by omega] at h
    rcases h with h | h
    · exact agains_in a _ _ _ x h h5
    · have h' := List.mem_of_mem_take h
      simp at h'
      subst h'
      have : 0 < (t - (p + 2)).toNat - a.len := by
        rcases Nat.eq_zero_or_pos ((t - (p + 2)).toNat - a.len) with e | e
        · rw [e] at h; simp at h
        · exact e
      show p + 1 < t
      omega
where
  cons_take {x y : Ins} {l : List Ins} {n : Nat} (h : x ∈ (y :: l).take n) : x = y ∨ x ∈ l.take (n - 1) := by
    cases n with
    | zero => simp at h
    | succ n => rw [List.take_succ_cons, List.mem_cons] at h; exact h
/-- A pattern's code: the loops that an instruction stands in are the Marks before it that have no Again before it. -/
theorem code_loops (r : Re) (c : List Ins) (hc : c = r.code 0 0 ++ [⟨13, 0, 0, []⟩]) (k : Nat) : (c.take k).countP isMark = (c.take k).countP isAgain + loopsAt c k := by
  have m := marks_pair r 0 0 k
  rw [show ((k : Int) - 0).toNat = k by omega] at m
  have m1 : (c.take k).countP isMark = ((r.code 0 0).take k).countP isMark := by
    rw [hc, take_app', take_cons']; simp [isMark]
  have m2 : c.countP (isLoop k) = (r.code 0 0).countP (isLoop k) := by
    rw [hc, List.countP_append]; simp [isLoop]
  have m3 : (c.take k).countP (isLoop k) = (c.take k).countP isAgain := by
    refine List.countP_congr (fun x hx => ?_)
    unfold isLoop isAgain
    simp only [decide_eq_true_eq]
    constructor
    · exact fun h => h.1
    · intro h
      refine ⟨h, ?_⟩
      rw [hc, List.take_append, List.mem_append] at hx
      rcases hx with hx | hx
      · exact agains_in r 0 0 k x (by rw [show ((k : Int) - 0).toNat = k by omega]; exact hx) h
      · have := List.mem_of_mem_take hx; simp at this; subst this; simp at h
  have m4 : c.countP (isLoop k) = (c.take k).countP (isLoop k) + (c.drop k).countP (isLoop k) := by
    rw [← List.countP_append, List.take_append_drop]
  have m5 : loopsAt c k = (c.drop k).countP (isLoop k) := by
    unfold loopsAt loopsTo
    rw [List.take_of_length_le (by rw [List.length_drop]; exact Nat.le_refl _)]
  omega
theorem count_next (q : Ins → Bool) (c : List Ins) (k : Nat) (h : k < c.length) : (c.take (k + 1)).countP q = (c.take k).countP q + if q (c.getD k ins0) = true then 1 else 0 := by
  rw [List.take_succ_eq_append_getElem h, List.countP_append, List.getD_eq_getElem?_getD, List.getElem?_eq_getElem h]
  simp [List.countP_cons]
end Mt
/- WHAT STANDS AROUND AN INSTRUCTION of a pattern's code: the groups that are open, the loops, the run of its own. -/
set_option linter.unusedVariables false
namespace Mt

/-- The open groups; how many loops; where the run of its own goes on (0: it is none), and the groups that were open when it began. -/
structure Att where
  G : List Int
  d : Int
  y : Int
  B : List Int

/-- A says of each instruction of the tree's code at p what stands around it. -/
def Lies (A : Int → Att) : Re → Int → Att → Prop
  | .eps, p, a => A p = a
  | .one _, p, a => A p = a ∧ A (p + 1) = a
  | .back _, p, a => A p = a ∧ A (p + 1) = a
  | .head, p, a => A p = a ∧ A (p + 1) = a
  | .tail, p, a => A p = a ∧ A (p + 1) = a
  | .cat x y, p, a => Lies A x p a ∧ Lies A y (p + x.len) a
  | .alt x y, p, a => A p = a ∧ Lies A x (p + 1) a ∧ Lies A y (p + x.len + 2) a
  | .cap k x, p, a => A p = a ∧ Lies A x (p + 1) ⟨k :: a.G, a.d, a.y, a.B⟩ ∧ A (p + x.len + 2) = a
  | .sub _ x, p, a => A p = a ∧ Lies A x (p + 1) ⟨a.G, a.d, p + x.len + 2, a.G⟩ ∧ A (p + x.len + 2) = a
  | .opt _ x, p, a => A p = a ∧ Lies A x (p + 1) a
  | .loop _ x, p, a => A p = a ∧ A (p + 1) = a ∧ Lies A x (p + 2) ⟨a.G, a.d + 1, a.y, a.B⟩ ∧ A (p + x.len + 3) = a

theorem Lies.first {A : Int → Att} : ∀ {r : Re} {p : Int} {a : Att}, Lies A r p a → A p = a
  | .eps, p, a, h => h
  | .one _, p, a, h => h.1
  | .back _, p, a, h => h.1
  | .head, p, a, h => h.1
  | .tail, p, a, h => h.1
  | .cat x y, p, a, h => Lies.first h.1
  | .alt x y, p, a, h => h.1
  | .cap k x, p, a, h => h.1
  | .sub _ x, p, a, h => h.1
  | .opt _ x, p, a, h => h.1
  | .loop _ x, p, a, h => h.1
theorem Lies.last {A : Int → Att} : ∀ {r : Re} {p : Int} {a : Att}, Lies A r p a → A (p + r.len) = a
  | .eps, p, a, h => by
    have h' : A p = a := h
    rw [← h']; congr 1; simp only [Re.len]; omega
  | .one _, p, a, h => h.2
  | .back _, p, a, h => h.2
  | .head, p, a, h => h.2
  | .tail, p, a, h => h.2
  | .cat x y, p, a, h => by have := Lies.last h.2; simp only [Re.len]; rw [← this]; congr 1; omega
  | .alt x y, p, a, h => by have := Lies.last h.2.2; simp only [Re.len]; rw [← this]; congr 1; omega
  | .cap k x, p, a, h => by have := h.2.2; simp only [Re.len]; rw [← this]; congr 1; omega
  | .sub _ x, p, a, h => by have := h.2.2; simp only [Re.len]; rw [← this]; congr 1; omega
  | .opt _ x, p, a, h => by have := Lies.last h.2; simp only [Re.len]; rw [← this]; congr 1; omega
  | .loop _ x, p, a, h => by have := h.2.2.2; simp only [Re.len]; rw [← this]; congr 1; omega
theorem Lies.congr {A B : Int → Att} : ∀ {r : Re} {p : Int} {a : Att}, (∀ q, p ≤ q → q ≤ p + r.len → A q = B q) → Lies A r p a → Lies B r p a
  | .eps, p, a, e, h => by show B p = a; rw [← e p (by omega) (by omega)]; exact h
  | .one _, p, a, e, h => ⟨by rw [← e p (by omega) (by omega)]; exact h.1, by rw [← e (p + 1) (by omega) (by simp only [Re.len]; omega)]; exact h.2⟩
  | .back _, p, a, e, h => ⟨by rw [← e p (by omega) (by omega)]; exact h.1, by rw [← e (p + 1) (by omega) (by simp only [Re.len]; omega)]; exact h.2⟩
  | .head, p, a, e, h => ⟨by rw [← e p (by omega) (by omega)]; exact h.1, by rw [← e (p + 1) (by omega) (by simp only [Re.len]; omega)]; exact h.2⟩
  | .tail, p, a, e, h => ⟨by rw [← e p (by omega) (by omega)]; exact h.1, by rw [← e (p + 1) (by omega) (by simp only [Re.len]; omega)]; exact h.2⟩
  | .cat x y, p, a, e, h => ⟨Lies.congr (fun q h1 h2 => e q (by omega) (by simp only [Re.len]; omega)) h.1, Lies.congr (fun q h1 h2 => e q (by omega) (by simp only [Re.len]; omega)) h.2⟩
  | .alt x y, p, a, e, h => ⟨by rw [← e p (by omega) (by omega)]; exact h.1, Lies.congr (fun q h1 h2 => e q (by omega) (by simp only [Re.len]; omega)) h.2.1, Lies.congr (fun q h1 h2 => e q (by omega) (by simp only [Re.len]; omega)) h.2.2⟩
  | .cap k x, p, a, e, h => ⟨by rw [← e p (by omega) (by omega)]; exact h.1, Lies.congr (fun q h1 h2 => e q (by omega) (by simp only [Re.len]; omega)) h.2.1, by rw [← e _ (by omega) (by simp only [Re.len]; omega)]; exact h.2.2⟩
  | .sub _ x, p, a, e, h => ⟨by rw [← e p (by omega) (by omega)]; exact h.1, Lies.congr (fun q h1 h2 => e q (by omega) (by simp only [Re.len]; omega)) h.2.1, by rw [← e _ (by omega) (by simp only [Re.len]; omega)]; exact h.2.2⟩
  | .opt _ x, p, a, e, h => ⟨by rw [← e p (by omega) (by omega)]; exact h.1, Lies.congr (fun q h1 h2 => e q (by omega) (by simp only [Re.len]; omega)) h.2⟩
  | .loop _ x, p, a, e, h => ⟨by rw [← e p (by omega) (by omega)]; exact h.1, by rw [← e (p + 1) (by omega) (by simp only [Re.len]; omega)]; exact h.2.1, Lies.congr (fun q h1 h2 => e q (by omega) (by simp only [Re.len]; omega)) h.2.2.1, by rw [← e _ (by omega) (by simp only [Re.len]; omega)]; exact h.2.2.2⟩
theorem lies_some : ∀ (r : Re) (p : Int) (a : Att), ∃ A, Lies A r p a
  | .eps, p, a => ⟨fun _ => a, rfl⟩
  | .one _, p, a => ⟨fun _ => a, rfl, rfl⟩
  | .back _, p, a => ⟨fun _ => a, rfl, rfl⟩
  | .head, p, a => ⟨fun _ => a, rfl, rfl⟩
  | .tail, p, a => ⟨fun _ => a, rfl, rfl⟩
  | .cat x y, p, a => by
    obtain ⟨A, hA⟩ := lies_some x p a
    obtain ⟨B, hB⟩ := lies_some y (p + x.len) a
    refine ⟨fun q => if q < p + x.len then A q else B q, hA.congr (fun q h1 h2 => ?_), hB.congr (fun q h1 h2 => ?_)⟩
    · (try dsimp only); split
      · rfl
      · have e : q = p + x.len := by omega
        subst e; rw [hA.last, hB.first]
    · (try dsimp only); rw [if_neg (by omega)]
  | .alt x y, p, a => by
    obtain ⟨A, hA⟩ := lies_some x (p + 1) a
    obtain ⟨B, hB⟩ := lies_some y (p + x.len + 2) a
    refine ⟨fun q => if q ≤ p then a else if q < p + x.len + 2 then A q else B q, ?_, hA.congr (fun q h1 h2 => ?_), hB.congr (fun q h1 h2 => ?_)⟩
    · (try dsimp only); rw [if_pos (by omega)]
    · (try dsimp only); rw [if_neg (by omega), if_pos (by omega)]
    · (try dsimp only); rw [if_neg (by omega), if_neg (by omega)]
  | .cap k x, p, a => by
    obtain ⟨A, hA⟩ := lies_some x (p + 1) ⟨k :: a.G, a.d, a.y, a.B⟩
    refine ⟨fun q => if q ≤ p then a else if q < p + x.len + 2 then A q else a, ?_, hA.congr (fun q h1 h2 => ?_), ?_⟩
    · (try dsimp only); rw [if_pos (by omega)]
    · (try dsimp only); rw [if_neg (by omega), if_pos (by omega)]
    · (try dsimp only); rw [if_neg (by omega), if_neg (by omega)]
  | .sub _ x, p, a => by
    obtain ⟨A, hA⟩ := lies_some x (p + 1) ⟨a.G, a.d, p + x.len + 2, a.G⟩
    refine ⟨fun q => if q ≤ p then a else if q < p + x.len + 2 then A q else a, ?_, hA.congr (fun q h1 h2 => ?_), ?_⟩
    · (try dsimp only); rw [if_pos (by omega)]
    · (try dsimp only); rw [if_neg (by omega), if_pos (by omega)]
    · (try dsimp only); rw [if_neg (by omega), if_neg (by omega)]
  | .opt _ x, p, a => by
    obtain ⟨A, hA⟩ := lies_some x (p + 1) a
    refine ⟨fun q => if q ≤ p then a else A q, ?_, hA.congr (fun q h1 h2 => ?_)⟩
    · (try dsimp only); rw [if_pos (by omega)]
    · (try dsimp only); rw [if_neg (by omega)]
  | .loop _ x, p, a => by
    obtain ⟨A, hA⟩ := lies_some x (p + 2) ⟨a.G, a.d + 1, a.y, a.B⟩
    refine ⟨fun q => if q ≤ p + 1 then a else if q < p + x.len + 3 then A q else a, ?_, ?_, hA.congr (fun q h1 h2 => ?_), ?_⟩
    · (try dsimp only); rw [if_pos (by omega)]
    · (try dsimp only); rw [if_pos (by omega)]
    · (try dsimp only); rw [if_neg (by omega), if_pos (by omega)]
    · (try dsimp only); rw [if_neg (by omega), if_neg (by omega)]

/-- Groups in groups have greater numbers. -/
def Re.inc : Re → Int → Prop
  | .cat a b, n => a.inc n ∧ b.inc n
  | .alt a b, n => a.inc n ∧ b.inc n
  | .cap k a, n => n < k ∧ a.inc k
  | .sub _ a, n => a.inc n
  | .opt _ a, n => a.inc n
  | .loop _ a, n => a.inc n
  | _, _ => True
theorem Re.inc_less : ∀ (r : Re) (m n : Int), m ≤ n → r.inc n → r.inc m
  | .eps, _, _, _, _ => trivial
  | .one _, _, _, _, _ => trivial
  | .back _, _, _, _, _ => trivial
  | .head, _, _, _, _ => trivial
  | .tail, _, _, _, _ => trivial
  | .cat a b, m, n, h, i => ⟨Re.inc_less a m n h i.1, Re.inc_less b m n h i.2⟩
  | .alt a b, m, n, h, i => ⟨Re.inc_less a m n h i.1, Re.inc_less b m n h i.2⟩
  | .cap k a, m, n, h, i => ⟨by have := i.1; omega, i.2⟩
  | .sub _ a, m, n, h, i => Re.inc_less a m n h i
  | .opt _ a, m, n, h, i => Re.inc_less a m n h i
  | .loop _ a, m, n, h, i => Re.inc_less a m n h i
theorem timesA_inc {x : Re} {m : Int} (h : x.inc m) : ∀ n, (timesA x n).inc m
  | 0 => trivial
  | n + 1 => ⟨h, timesA_inc h n⟩
theorem optA_inc {x : Re} {m : Int} (late : Bool) (h : x.inc m) : ∀ n, (optA x late n).inc m
  | 0 => trivial
  | n + 1 => ⟨h, optA_inc late h n⟩
theorem repA_inc {x : Re} {m : Int} (h : x.inc m) (r : Tok) : (repA x r).inc m := by
  unfold repA
  dsimp only
  have t := timesA_inc h r.n.toNat
  have o := optA_inc (decide (r.how = 1)) h (r.m - r.n).toNat
  have c1 : (if 0 < r.n ∨ 0 < r.m then (if r.n < r.m then Re.cat (timesA x r.n.toNat) (optA x (decide (r.how = 1)) (r.m - r.n).toNat) else timesA x r.n.toNat) else Re.eps).inc m := by
    split
    · split
      · exact ⟨t, o⟩
      · exact t
    · trivial
  generalize (if 0 < r.n ∨ 0 < r.m then (if r.n < r.m then Re.cat (timesA x r.n.toNat) (optA x (decide (r.how = 1)) (r.m - r.n).toNat) else timesA x r.n.toNat) else Re.eps) = z at *
  have c2 : (if r.m < 0 then Re.cat z (.loop (decide (r.how = 1)) x) else z).inc m := by
    split
    · exact ⟨c1, h⟩
    · exact c1
  split
  · exact c2
  · exact c2
theorem part_inc {x : Re} {m : Int} (h : x.inc m) (r : Option Tok) : (part r x).inc m := by
  cases r with
  | none => exact h
  | some q => exact repA_inc h q
theorem joinRe_inc {b : Re × Option Re} {m : Int} (h : b.1.inc m ∧ ∀ a, b.2 = some a → a.inc m) : (joinRe b).inc m := by
  obtain ⟨x, y⟩ := b
  cases y with
  | none => exact h.1
  | some a => exact ⟨h.1, h.2 a rfl⟩
theorem both_inc : ∀ (f : Fs) (n : Int), f.wf → numd n f.flat → f.both.1.inc n ∧ ∀ a, f.both.2 = some a → a.inc n
  | .nil, n, _, _ => ⟨trivial, fun a e => (by cases e)⟩
  | .bar t r, n, h, hn => by
    have hc : isCap t = false := by have := h.1; unfold isCap; simp; omega
    simp only [Fs.flat, numd, hc] at hn
    have ih := both_inc r n h.2 (by simpa using hn.2)
    refine ⟨trivial, fun a e => ?_⟩
    simp only [Fs.both, Option.some.injEq] at e; subst e; exact joinRe_inc ih
  | .leaf t r s, n, h, hn => by
    simp only [Fs.flat, numd, cap_leaf h.1, numd_app, cap_rep h.2.1] at hn
    have ih := both_inc s n h.2.2 (by simpa using hn.2.2)
    refine ⟨⟨part_inc ?_ r, ih.1⟩, ih.2⟩
    unfold leafRe
    repeat' split
    all_goals trivial
  | .grp t i c r s, n, h, hn => by
    have hc7 : isCap c = false := by have := h.2.1; unfold isCap; simp; omega
    simp only [Fs.flat, numd, numd_app, hc7, cap_rep h.2.2.2.1] at hn
    obtain ⟨h1, h2, h3, h4⟩ := hn
    have hcb := captures_bd i.flat
    have ii := both_inc i _ h.2.2.1 h2
    have is := both_inc s _ h.2.2.2.2 h4.2
    refine ⟨⟨part_inc ?_ r, Re.inc_less _ n _ ?_ is.1⟩, fun a e => Re.inc_less _ n _ ?_ (is.2 a e)⟩
    · have j := joinRe_inc ii
      unfold grpRe
      split
      · exact Re.inc_less _ n _ (by split <;> omega) j
      split
      · rename_i h3' h4'
        have hcap : isCap t = true := by have := h.1; unfold isCap; simp [h4', this]
        rw [hcap] at j h1
        have e := h1 rfl
        simp only [if_true] at j
        exact ⟨by omega, by rw [e]; exact j⟩
      · exact Re.inc_less _ n _ (by split <;> omega) j
    · simp; split <;> omega
    · simp; split <;> omega
end Mt
