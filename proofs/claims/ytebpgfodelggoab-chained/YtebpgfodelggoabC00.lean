import Derived.Test.YtebpgfodelggoabRows
import Derived.WalkKit
import Derived.ProofKit
import Derived.OpenShut
import Derived.Carry
import Derived.Handed
import Derived.Deep.Slices
import Derived.JoinedCond
import Derived.Below
/- The frame of a row whose law leaves all old memory as it was. -/
set_option linter.unusedVariables false
namespace Go.Proofs.Ytebpgfodelggoab
open Go.ChangeShapes Go.WideShapes Go.ChangeAt Go.RowKit

theorem Try.ownK : ownKnob Try.prog.godebug = none := by kernel_rfl
/-- A law that leaves all old memory as it was. -/
theorem post_below {H : Type} {enc : TypeId × Value → H} {P : Program} {f : Func} {s : ChangeSpec} {apart fresh handsOn again : Bool} {W W' : World} {args : Array Value} {v : Value} {ds gs : List (DataW H)} {before pa pv : List MemPlace}
    (hW : DataW.Whole enc P f.params.toList s.vars apart W args.toList ds gs before)
    (hres : ∀ (b : Nat) (sp : Nat → Bool) (hd : Bool), DataW.TrodAll enc P W' b sp hd f.resultTypes.toList (v.resultList f.resultTypes.size) (s.fn H (ds ++ gs)).results [])
    (hargs : ∀ sp : Nat → Bool, (∀ p ∈ before, sp p.block = true) → DataW.TrodAll enc P W' 0 sp true f.params.toList args.toList (s.fn H (ds ++ gs)).args pa)
    (hvars : ∀ sp : Nat → Bool, (∀ p ∈ before, sp p.block = true) → DataW.TrodVars enc P W' sp s.vars (s.fn H (ds ++ gs)).vars pv)
    (hps : before = pa ++ pv) (hb : Below W.heap.size W W')
    (hok : ∀ (j : Nat) (t : TypeId) (r : Value), f.resultTypes[j]? = some t → (v.resultList f.resultTypes.size)[j]? = some r → Value.okWide P W' .any 0 t r) :
    s.post enc P f apart fresh handsOn again W args v W' := by
  have hlt := hW.lt
  have hold : ∀ p ∈ before, (fun b => decide (b < W.heap.size)) p.block = true := fun p hp => by simpa using hlt p hp
  refine ⟨ds, gs, before, [], pa, pv, hW, hres _ _ _, hargs _ hold, hvars _ hold, World.keptBut_mono (fun p hp => ⟨hp, ?_⟩) (hb.frame (· ∈ before)), fun _ => ?_⟩
  · rw [hps, List.mem_append] at hp
    exact Or.inr hp
  · obtain ⟨_, _, _, _, _, hz, hn⟩ := hW
    refine ⟨hok, _, _, ([] ++ pa) ++ pv, ⟨[] ++ pa, pv, trodAll_append (hargs _ (fun _ _ => rfl)) (hres _ _ _), hvars _ (fun _ _ => rfl), rfl, ?_, ?_⟩, ?_⟩
    · intro b off hp
      have hm : MemPlace.cell b off ∈ before := by rw [hps]; simpa using hp
      rw [hb.frozen (p := ⟨b, off, none⟩) (hlt _ hm)]
      exact hz b off hm
    · intro ha
      have := hn ha
      rw [hps] at this
      simpa using this
    · intro p hp _
      rw [hps]
      simpa using hp
end Go.Proofs.Ytebpgfodelggoab
/- THE PLAIN MATHEMATICS OF matcherref/read.go: bytes, classes, counts. Imports nothing of the program. -/
namespace Mt

/-- The byte at a place as a number; -1: there is none. -/
def atB (p : ByteArray) (i : Int) : Int := if i < 0 ∨ (p.size : Int) ≤ i then -1 else ((p.data.toList.getD i.toNat 0).toNat : Int)

theorem atB_lo (p : ByteArray) (i : Int) : -1 ≤ atB p i := by unfold atB; split <;> omega
theorem atB_hi (p : ByteArray) (i : Int) : atB p i ≤ 255 := by
  unfold atB; split
  · omega
  · have := (p.data.toList.getD i.toNat 0).toNat_lt; omega
theorem atB_out (p : ByteArray) (i : Int) (h : i < 0 ∨ (p.size : Int) ≤ i) : atB p i = -1 := by unfold atB; rw [if_pos h]
theorem atB_in (p : ByteArray) (i : Int) (h0 : 0 ≤ i) (h : i < (p.size : Int)) : atB p i = ((p.data.toList.getD i.toNat 0).toNat : Int) := by
  unfold atB; rw [if_neg (by omega)]
theorem atB_ge (p : ByteArray) (i : Int) (h : 0 ≤ atB p i) : 0 ≤ i ∧ i < (p.size : Int) := by
  unfold atB at h; split at h <;> omega

def digB (c : Int) : Bool := decide (48 ≤ c ∧ c ≤ 57)
def letB (c : Int) : Bool := decide ((97 ≤ c ∧ c ≤ 122) ∨ (65 ≤ c ∧ c ≤ 90))

/-- The class byte at i: its value, how many bytes it has; 0: none. -/
def classByte (p : ByteArray) (i : Int) : Int × Int :=
  if atB p i < 0 ∨ atB p i = 93 ∨ atB p i = 45 then (0, 0)
  else if atB p i ≠ 92 then (atB p i, 1)
  else if atB p (i + 1) < 0 ∨ digB (atB p (i + 1)) = true ∨ letB (atB p (i + 1)) = true then (0, 0)
  else (atB p (i + 1), 2)


theorem classByte_cases (p : ByteArray) (i : Int) :
    (decide (atB p i < 0) = true ∧ classByte p i = (0, 0)) ∨
    (0 ≤ atB p i ∧ decide (atB p i < 0) = false ∧
      (((atB p i == 93) = true ∧ classByte p i = (0, 0)) ∨
       ((atB p i == 93) = false ∧ (atB p i == 45) = true ∧ classByte p i = (0, 0)) ∨
       ((atB p i == 93) = false ∧ (atB p i == 45) = false ∧ (atB p i != 92) = true ∧ classByte p i = (atB p i, 1)) ∨
       ((atB p i == 93) = false ∧ (atB p i == 45) = false ∧ (atB p i != 92) = false ∧ decide (atB p (i + 1) < 0) = true ∧ classByte p i = (0, 0)) ∨
       ((atB p i == 93) = false ∧ (atB p i == 45) = false ∧ (atB p i != 92) = false ∧ 0 ≤ atB p (i + 1) ∧ decide (atB p (i + 1) < 0) = false ∧ digB (atB p (i + 1)) = true ∧ classByte p i = (0, 0)) ∨
       ((atB p i == 93) = false ∧ (atB p i == 45) = false ∧ (atB p i != 92) = false ∧ 0 ≤ atB p (i + 1) ∧ decide (atB p (i + 1) < 0) = false ∧ digB (atB p (i + 1)) = false ∧ letB (atB p (i + 1)) = true ∧ classByte p i = (0, 0)) ∨
       ((atB p i == 93) = false ∧ (atB p i == 45) = false ∧ (atB p i != 92) = false ∧ 0 ≤ atB p (i + 1) ∧ decide (atB p (i + 1) < 0) = false ∧ digB (atB p (i + 1)) = false ∧ letB (atB p (i + 1)) = false ∧ classByte p i = (atB p (i + 1), 2)))) := by
  unfold classByte
  generalize atB p i = c
  generalize atB p (i + 1) = d
  simp only [decide_eq_true_eq, decide_eq_false_iff_not, beq_iff_eq, beq_eq_false_iff_ne, bne_iff_ne, bne_eq_false_iff_eq]
  by_cases h1 : c < 0 ∨ c = 93 ∨ c = 45
  · rw [if_pos h1]; simp; omega
  · rw [if_neg h1]
    by_cases h2 : c ≠ 92
    · rw [if_pos h2]; simp; omega
    · rw [if_neg h2]
      cases h3 : digB d <;> cases h4 : letB d <;> simp <;> by_cases h5 : d < 0 <;> simp [h5] <;> omega

theorem classByte_bd (p : ByteArray) (i : Int) : 0 ≤ (classByte p i).1 ∧ (classByte p i).1 ≤ 255 ∧ 0 ≤ (classByte p i).2 ∧ (classByte p i).2 ≤ 2 := by
  have l1 := atB_hi p i
  have l2 := atB_hi p (i + 1)
  unfold classByte
  split
  · simp
  · split
    · simp only; omega
    · split
      · simp
      · simp only; omega

/-- Does \d (w false) or \w (w true) let c by? -/
def shortB (w : Bool) (c : Int) : Bool := digB c || (w && (letB c || decide (c = 95)))

/-- The item at i: its first and last byte, how many bytes it has (0: none), and whether it is a set letter. -/
def item (p : ByteArray) (i : Int) : Int × Int × Int × Bool :=
  if atB p i = 92 ∧ (atB p (i + 1) = 100 ∨ atB p (i + 1) = 119) then (92, atB p (i + 1), 2, true)
  else if (classByte p i).2 = 0 then (0, 0, 0, false)
  else if atB p (i + (classByte p i).2) ≠ 45 then ((classByte p i).1, (classByte p i).1, (classByte p i).2, false)
  else if (classByte p (i + (classByte p i).2 + 1)).2 = 0 ∨ (classByte p (i + (classByte p i).2 + 1)).1 < (classByte p i).1 then (0, 0, 0, false)
  else ((classByte p i).1, (classByte p (i + (classByte p i).2 + 1)).1, (classByte p i).2 + 1 + (classByte p (i + (classByte p i).2 + 1)).2, false)

theorem item_cases (p : ByteArray) (i : Int) :
    ((atB p i == 92) = true ∧ (atB p (i + 1) == 100) = true ∧ 0 ≤ atB p (i + 1) ∧ item p i = (92, atB p (i + 1), 2, true)) ∨
    ((atB p i == 92) = true ∧ (atB p (i + 1) == 100) = false ∧ (atB p (i + 1) == 119) = true ∧ 0 ≤ atB p (i + 1) ∧ item p i = (92, atB p (i + 1), 2, true)) ∨
    (((atB p i == 92) = false ∨ (atB p i == 92) = true ∧ (atB p (i + 1) == 100) = false ∧ (atB p (i + 1) == 119) = false) ∧
      ((((classByte p i).2 == 0) = true ∧ item p i = (0, 0, 0, false)) ∨
       (((classByte p i).2 == 0) = false ∧ (atB p (i + (classByte p i).2) != 45) = true ∧ item p i = ((classByte p i).1, (classByte p i).1, (classByte p i).2, false)) ∨
       (((classByte p i).2 == 0) = false ∧ (atB p (i + (classByte p i).2) != 45) = false ∧ ((classByte p (i + (classByte p i).2 + 1)).2 == 0) = true ∧ item p i = (0, 0, 0, false)) ∨
       (((classByte p i).2 == 0) = false ∧ (atB p (i + (classByte p i).2) != 45) = false ∧ ((classByte p (i + (classByte p i).2 + 1)).2 == 0) = false ∧ decide ((classByte p (i + (classByte p i).2 + 1)).1 < (classByte p i).1) = true ∧ item p i = (0, 0, 0, false)) ∨
       (((classByte p i).2 == 0) = false ∧ (atB p (i + (classByte p i).2) != 45) = false ∧ ((classByte p (i + (classByte p i).2 + 1)).2 == 0) = false ∧ decide ((classByte p (i + (classByte p i).2 + 1)).1 < (classByte p i).1) = false ∧
         item p i = ((classByte p i).1, (classByte p (i + (classByte p i).2 + 1)).1, (classByte p i).2 + 1 + (classByte p (i + (classByte p i).2 + 1)).2, false)))) := by
  unfold item
  generalize classByte p (i + (classByte p i).2 + 1) = y
  generalize atB p (i + (classByte p i).2) = z
  generalize classByte p i = x
  generalize atB p i = c
  generalize atB p (i + 1) = d
  simp only [decide_eq_true_eq, decide_eq_false_iff_not, beq_iff_eq, beq_eq_false_iff_ne, bne_iff_ne, bne_eq_false_iff_eq]
  by_cases h1 : c = 92 ∧ (d = 100 ∨ d = 119)
  · rw [if_pos h1]
    rcases h1 with ⟨rfl, rfl | rfl⟩ <;> simp
  · rw [if_neg h1]
    right; right
    refine ⟨by omega, ?_⟩
    by_cases h2 : x.2 = 0
    · rw [if_pos h2]; simp [h2]
    · rw [if_neg h2]
      by_cases h3 : z ≠ 45
      · rw [if_pos h3]; simp; omega
      · rw [if_neg h3]
        by_cases h4 : y.2 = 0 ∨ y.1 < x.1
        · rw [if_pos h4]; simp; omega
        · rw [if_neg h4]; simp; omega

theorem item_bd (p : ByteArray) (i : Int) : 0 ≤ (item p i).1 ∧ (item p i).1 ≤ 255 ∧ 0 ≤ (item p i).2.1 ∧ (item p i).2.1 ≤ 255 ∧ 0 ≤ (item p i).2.2.1 ∧ (item p i).2.2.1 ≤ 5 := by
  have b1 := classByte_bd p i
  have b2 := classByte_bd p (i + (classByte p i).2 + 1)
  unfold item
  split
  · simp only; omega
  · split
    · simp
    · split
      · simp only; omega
      · split
        · simp
        · simp only; omega

/-- Is c among the items from i to b? (with fuel) -/
def inC (p : ByteArray) (b c : Int) : Nat → Int → Bool
  | 0, _ => false
  | f + 1, i =>
    if b ≤ i then false
    else if (item p i).2.2.1 = 0 then false
    else if (item p i).2.2.2 then (if shortB (decide ((item p i).2.1 = 119)) c then true else inC p b c f (i + (item p i).2.2.1))
    else if (item p i).1 ≤ c ∧ c ≤ (item p i).2.1 then true
    else inC p b c f (i + (item p i).2.2.1)

theorem inC_fuel (p : ByteArray) (b c : Int) : ∀ (f g : Nat) (i : Int), b - i ≤ f → b - i ≤ g → inC p b c f i = inC p b c g i := by
  intro f
  induction f with
  | zero =>
    intro g i hf hg
    cases g with
    | zero => rfl
    | succ g => simp only [inC]; rw [if_pos (by omega)]
  | succ f ih =>
    intro g i hf hg
    cases g with
    | zero => simp only [inC]; rw [if_pos (by omega)]
    | succ g =>
      simp only [inC]
      have hb := item_bd p i
      by_cases h0 : (item p i).2.2.1 = 0
      · simp [h0]
      · rw [ih g (i + (item p i).2.2.1) (by omega) (by omega)]

def inClass (p : ByteArray) (a b c : Int) : Bool := inC p b c (b - a).toNat a

theorem inClass_step (p : ByteArray) (i b c : Int) : inClass p i b c =
    if b ≤ i then false
    else if (item p i).2.2.1 = 0 then false
    else if (item p i).2.2.2 then (if shortB (decide ((item p i).2.1 = 119)) c then true else inClass p (i + (item p i).2.2.1) b c)
    else if (item p i).1 ≤ c ∧ c ≤ (item p i).2.1 then true
    else inClass p (i + (item p i).2.2.1) b c := by
  have hb := item_bd p i
  by_cases h : b ≤ i
  · rw [if_pos h]; unfold inClass
    rw [show (b - i).toNat = 0 by omega]; rfl
  · rw [if_neg h]
    by_cases h0 : (item p i).2.2.1 = 0
    · rw [if_pos h0]; unfold inClass
      rw [show (b - i).toNat = (b - i).toNat - 1 + 1 by omega]; simp only [inC]
      rw [if_neg h, if_pos h0]
    · rw [if_neg h0]
      have e : inC p b c ((b - i).toNat - 1) (i + (item p i).2.2.1) = inClass p (i + (item p i).2.2.1) b c := inC_fuel _ _ _ _ _ _ (by omega) (by omega)
      rw [← e]
      unfold inClass
      rw [show (b - i).toNat = (b - i).toNat - 1 + 1 by omega]; simp only [inC]
      rw [if_neg h, if_neg h0]
      rfl

/-- The bytes let by, rising: of c below n. -/
def allTo (p : ByteArray) (a b : Int) (no : Bool) (n : Nat) : List UInt8 := ((List.range n).filter fun c : Nat => inClass p a b (c : Int) != no).map UInt8.ofNat
def all (p : ByteArray) (a b : Int) (no : Bool) : List UInt8 := allTo p a b no 256

/-- One or two digits at i: their value, how many they are. -/
def number (p : ByteArray) (i : Int) : Int × Int :=
  if atB p i < 48 ∨ 57 < atB p i then (0, 0)
  else if atB p (i + 1) < 48 ∨ 57 < atB p (i + 1) then (atB p i - 48, 1)
  else (10 * (atB p i - 48) + atB p (i + 1) - 48, 2)

theorem number_cases (p : ByteArray) (i : Int) :
    (decide (atB p i < 48) = true ∧ number p i = (0, 0)) ∨ (decide (atB p i < 48) = false ∧ decide (57 < atB p i) = true ∧ number p i = (0, 0)) ∨
    (48 ≤ atB p i ∧ atB p i ≤ 57 ∧ decide (atB p i < 48) = false ∧ decide (57 < atB p i) = false ∧
      ((decide (atB p (i + 1) < 48) = true ∧ number p i = (atB p i - 48, 1)) ∨
       (decide (atB p (i + 1) < 48) = false ∧ decide (57 < atB p (i + 1)) = true ∧ number p i = (atB p i - 48, 1)) ∨
       (48 ≤ atB p (i + 1) ∧ atB p (i + 1) ≤ 57 ∧ decide (atB p (i + 1) < 48) = false ∧ decide (57 < atB p (i + 1)) = false ∧ number p i = (10 * (atB p i - 48) + atB p (i + 1) - 48, 2)))) := by
  unfold number
  generalize atB p i = c
  generalize atB p (i + 1) = d
  simp only [decide_eq_true_eq, decide_eq_false_iff_not]
  by_cases h1 : c < 48 ∨ 57 < c
  · rw [if_pos h1]; simp; omega
  · rw [if_neg h1]
    by_cases h2 : d < 48 ∨ 57 < d
    · rw [if_pos h2]; simp; omega
    · rw [if_neg h2]; simp; omega

theorem number_bd (p : ByteArray) (i : Int) : 0 ≤ (number p i).1 ∧ (number p i).1 ≤ 99 ∧ 0 ≤ (number p i).2 ∧ (number p i).2 ≤ 2 := by
  unfold number
  split
  · simp
  · split
    · simp only; omega
    · simp only; omega

/-- The count that begins at i: N, M, where it ends; false: none does. -/
def count (p : ByteArray) (i : Int) : Int × Int × Int × Bool :=
  if (number p (i + 1)).2 = 0 ∨ 20 < (number p (i + 1)).1 then (0, 0, 0, false)
  else if atB p (i + 1 + (number p (i + 1)).2) = 125 then ((number p (i + 1)).1, (number p (i + 1)).1, i + 1 + (number p (i + 1)).2 + 1, true)
  else if atB p (i + 1 + (number p (i + 1)).2) ≠ 44 then (0, 0, 0, false)
  else if atB p (i + 1 + (number p (i + 1)).2 + 1) = 125 then ((number p (i + 1)).1, -1, i + 1 + (number p (i + 1)).2 + 2, true)
  else if (number p (i + 1 + (number p (i + 1)).2 + 1)).2 = 0 ∨ 20 < (number p (i + 1 + (number p (i + 1)).2 + 1)).1 ∨ (number p (i + 1 + (number p (i + 1)).2 + 1)).1 < (number p (i + 1)).1 ∨
      atB p (i + 1 + (number p (i + 1)).2 + 1 + (number p (i + 1 + (number p (i + 1)).2 + 1)).2) ≠ 125 then (0, 0, 0, false)
  else ((number p (i + 1)).1, (number p (i + 1 + (number p (i + 1)).2 + 1)).1, i + 1 + (number p (i + 1)).2 + 2 + (number p (i + 1 + (number p (i + 1)).2 + 1)).2, true)

theorem count_cases (p : ByteArray) (i : Int) :
    (((number p (i + 1)).2 == 0) = true ∧ count p i = (0, 0, 0, false)) ∨
    (((number p (i + 1)).2 == 0) = false ∧ decide (20 < (number p (i + 1)).1) = true ∧ count p i = (0, 0, 0, false)) ∨
    (((number p (i + 1)).2 == 0) = false ∧ decide (20 < (number p (i + 1)).1) = false ∧
      (((atB p (i + 1 + (number p (i + 1)).2) == 125) = true ∧ count p i = ((number p (i + 1)).1, (number p (i + 1)).1, i + 1 + (number p (i + 1)).2 + 1, true)) ∨
       ((atB p (i + 1 + (number p (i + 1)).2) == 125) = false ∧ (atB p (i + 1 + (number p (i + 1)).2) != 44) = true ∧ count p i = (0, 0, 0, false)) ∨
       ((atB p (i + 1 + (number p (i + 1)).2) == 125) = false ∧ (atB p (i + 1 + (number p (i + 1)).2) != 44) = false ∧
         (((atB p (i + 1 + (number p (i + 1)).2 + 1) == 125) = true ∧ count p i = ((number p (i + 1)).1, -1, i + 1 + (number p (i + 1)).2 + 2, true)) ∨
          ((atB p (i + 1 + (number p (i + 1)).2 + 1) == 125) = false ∧
            ((((number p (i + 1 + (number p (i + 1)).2 + 1)).2 == 0) = true ∧ count p i = (0, 0, 0, false)) ∨
             (((number p (i + 1 + (number p (i + 1)).2 + 1)).2 == 0) = false ∧ decide (20 < (number p (i + 1 + (number p (i + 1)).2 + 1)).1) = true ∧ count p i = (0, 0, 0, false)) ∨
             (((number p (i + 1 + (number p (i + 1)).2 + 1)).2 == 0) = false ∧ decide (20 < (number p (i + 1 + (number p (i + 1)).2 + 1)).1) = false ∧ decide ((number p (i + 1 + (number p (i + 1)).2 + 1)).1 < (number p (i + 1)).1) = true ∧ count p i = (0, 0, 0, false)) ∨
             (((number p (i + 1 + (number p (i + 1)).2 + 1)).2 == 0) = false ∧ decide (20 < (number p (i + 1 + (number p (i + 1)).2 + 1)).1) = false ∧ decide ((number p (i + 1 + (number p (i + 1)).2 + 1)).1 < (number p (i + 1)).1) = false ∧
               (atB p (i + 1 + (number p (i + 1)).2 + 1 + (number p (i + 1 + (number p (i + 1)).2 + 1)).2) != 125) = true ∧ count p i = (0, 0, 0, false)) ∨
             (((number p (i + 1 + (number p (i + 1)).2 + 1)).2 == 0) = false ∧ decide (20 < (number p (i + 1 + (number p (i + 1)).2 + 1)).1) = false ∧ decide ((number p (i + 1 + (number p (i + 1)).2 + 1)).1 < (number p (i + 1)).1) = false ∧
               (atB p (i + 1 + (number p (i + 1)).2 + 1 + (number p (i + 1 + (number p (i + 1)).2 + 1)).2) != 125) = false ∧
               count p i = ((number p (i + 1)).1, (number p (i + 1 + (number p (i + 1)).2 + 1)).1, i + 1 + (number p (i + 1)).2 + 2 + (number p (i + 1 + (number p (i + 1)).2 + 1)).2, true)))))))) := by
  unfold count
  generalize atB p (i + 1 + (number p (i + 1)).2 + 1 + (number p (i + 1 + (number p (i + 1)).2 + 1)).2) = z
  generalize number p (i + 1 + (number p (i + 1)).2 + 1) = y
  generalize atB p (i + 1 + (number p (i + 1)).2 + 1) = d
  generalize atB p (i + 1 + (number p (i + 1)).2) = c
  generalize number p (i + 1) = x
  simp only [decide_eq_true_eq, decide_eq_false_iff_not, beq_iff_eq, beq_eq_false_iff_ne, bne_iff_ne, bne_eq_false_iff_eq]
  by_cases h1 : x.2 = 0 ∨ 20 < x.1
  · rw [if_pos h1]; simp; omega
  · rw [if_neg h1]
    by_cases h2 : c = 125
    · rw [if_pos h2]; simp; omega
    · rw [if_neg h2]
      by_cases h3 : c ≠ 44
      · rw [if_pos h3]; simp; omega
      · rw [if_neg h3]
        by_cases h4 : d = 125
        · rw [if_pos h4]; simp; omega
        · rw [if_neg h4]
          by_cases h5 : y.2 = 0 ∨ 20 < y.1 ∨ y.1 < x.1 ∨ z ≠ 125
          · rw [if_pos h5]; simp; omega
          · rw [if_neg h5]; simp; omega

theorem count_bd (p : ByteArray) (i : Int) (h0 : 0 ≤ i) : 0 ≤ (count p i).1 ∧ (count p i).1 ≤ 20 ∧ -1 ≤ (count p i).2.1 ∧ (count p i).2.1 ≤ 20 ∧ 0 ≤ (count p i).2.2.1 ∧ (count p i).2.2.1 ≤ i + 7 := by
  have b1 := number_bd p (i + 1)
  have b2 := number_bd p (i + 1 + (number p (i + 1)).2 + 1)
  unfold count
  split
  · simp; omega
  · split
    · simp only; omega
    · split
      · simp; omega
      · split
        · simp only; omega
        · split
          · simp; omega
          · simp only; omega

end Mt
