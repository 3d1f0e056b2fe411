import Derived.Test.YtebpgfodelggoaaC12
import Derived.Test.YtebpgfodelggoaaC21
import Derived.Deep.AppendLies
import Derived.Deep.RegionLaw
import Derived.Deep.RegionHeld3
/- The program's builder in memory. -/
set_option linter.unusedVariables false
set_option linter.unusedSimpArgs false
namespace Go.Proofs.Ytebpgfodelggoaa
open Go.RowKit

def psC (s : Mt.PS) : List Value := [.int .i64 s.first, .int .i64 s.next]
def ptL (t : Mt.PT) : List Value := [.int .i64 t.kind, .int .i64 t.en, .int .i64 t.group, .int .i64 t.number, .int .i64 t.least, .int .i64 t.most, .int .i64 t.mood, .string ⟨t.set.toArray⟩]
def paC (a : Mt.PA) : List Value := ptL a.tok ++ .int .i64 a.num :: (ptL a.rep ++ [.int .i64 a.body, .int .i64 a.home, .int .i64 a.next])
def opL (l : List Nat) : List Value := l.map fun k : Nat => Value.int .i64 (k : Int)
def bA (b : Mt.PB) (so ao oo : Option Addr) (sc ac oc : Nat) : Array Value :=
  (.slice so b.seqs.length sc :: .slice ao b.atoms.length ac :: .int .i64 b.seq :: .int .i64 b.last :: .slice oo b.opn.length oc :: .int .i64 b.groups :: b.clo.map Value.bool).toArray
def blk (o : Option Addr) : Option Nat := o.map (·.block)

structure BAt (L : Nat) (w : World) (g : Nat) (b : Mt.PB) (so ao oo : Option Addr) (sc ac oc : Nat) : Prop where
  cell : w.heap[g]? = some (.cells (bA b so ao oo sc ac oc) 100 (0, 0))
  lo : L ≤ g
  seqs : w.ownsRow L 111 2 (.slice so b.seqs.length sc) b.seqs.length (b.seqs.flatMap psC)
  atoms : w.ownsRow L 125 20 (.slice ao b.atoms.length ac) b.atoms.length (b.atoms.flatMap paC)
  opn : w.ownsRow L 3 1 (.slice oo b.opn.length oc) b.opn.length (opL b.opn)
  ap : blk so ≠ some g ∧ blk ao ≠ some g ∧ blk oo ≠ some g ∧ (∀ q, blk so = some q → blk ao ≠ some q ∧ blk oo ≠ some q) ∧ (∀ q, blk ao = some q → blk oo ≠ some q)
  cl : b.clo.length = 10

/-- The blocks of the builder. -/
def own (g : Nat) (so ao oo : Option Addr) (k : Nat) : Prop := k = g ∨ blk so = some k ∨ blk ao = some k ∨ blk oo = some k
/-- What an operation of the builder turns: its own blocks; new ones come. -/
structure BStep (g : Nat) (so ao oo so' ao' oo' : Option Addr) (w w' : World) : Prop where
  os : w'.os = w.os
  tape : w'.tape = w.tape
  output : w'.output = w.output
  size : w.heap.size ≤ w'.heap.size
  block : ∀ k, k < w.heap.size → ¬ own g so ao oo k → w'.heap[k]? = w.heap[k]?
  sub : ∀ k, k < w.heap.size → own g so' ao' oo' k → own g so ao oo k
theorem BStep.refl (g : Nat) (so ao oo : Option Addr) (w : World) : BStep g so ao oo so ao oo w w := ⟨rfl, rfl, rfl, Nat.le_refl _, fun _ _ _ => rfl, fun _ _ h => h⟩
theorem BStep.trans {g : Nat} {so ao oo so' ao' oo' so2 ao2 oo2 : Option Addr} {a b c : World} (h : BStep g so ao oo so' ao' oo' a b) (k : BStep g so' ao' oo' so2 ao2 oo2 b c) : BStep g so ao oo so2 ao2 oo2 a c :=
  ⟨k.os.trans h.os, k.tape.trans h.tape, k.output.trans h.output, Nat.le_trans h.size k.size,
   fun i hi hn => (k.block i (Nat.lt_of_lt_of_le hi h.size) (fun ho => hn (h.sub i hi ho))).trans (h.block i hi hn),
   fun i hi ho => h.sub i hi (k.sub i (Nat.lt_of_lt_of_le hi h.size) ho)⟩
/-- New blocks alone. -/
theorem BStep.below {g : Nat} {so ao oo : Option Addr} {a b : World} (h : Below a.heap.size a b) : BStep g so ao oo so ao oo a b :=
  ⟨h.os, h.tape, h.output, h.size, fun i hi _ => h.block i hi, fun _ _ h => h⟩
theorem BStep.alloc {g : Nat} {so ao oo so' ao' oo' : Option Addr} {a w : World} (h : BStep g so ao oo so' ao' oo' a w) (o : Obj) : BStep g so ao oo so' ao' oo' a (w.alloc o) :=
  h.trans (BStep.below ((Below.refl _ _).alloc (Nat.le_refl _) o))
theorem BStep.drew {g : Nat} {so ao oo so' ao' oo' : Option Addr} {a w : World} (h : BStep g so ao oo so' ao' oo' a w) : BStep g so ao oo so' ao' oo' a w.drew := h.trans (BStep.below (Below.refl _ _).drew)
theorem BStep.set {g : Nat} {so ao oo so' ao' oo' : Option Addr} {a w : World} (h : BStep g so ao oo so' ao' oo' a w) {p : Addr} (hp : own g so' ao' oo' p.block) (u : Value) : BStep g so ao oo so' ao' oo' a (w.setCell p u) :=
  h.trans ⟨rfl, rfl, rfl, by simp [World.setCell], fun i hi hn => Below.heap_setCell _ _ _ _ (fun e => hn (by rw [e]; exact hp)), fun _ _ h => h⟩

section
variable {L : Nat} {w : World} {g : Nat} {b : Mt.PB} {so ao oo : Option Addr} {sc ac oc : Nat}
theorem row_keep {w' : World} {e : TypeId} {s n cap : Nat} {o : Option Addr} {xs : List Value} (h : w.ownsRow L e s (.slice o n cap) n xs) (hb : ∀ q, blk o = some q → w'.heap[q]? = w.heap[q]?) : w'.ownsRow L e s (.slice o n cap) n xs := by
  refine ⟨h.1, ?_⟩
  rcases h.2 with h' | ⟨g', cap', cur, hv, h0, hg, rest⟩
  · exact .inl h'
  · simp only [Value.slice.injEq] at hv
    obtain ⟨rfl, _, rfl⟩ := hv
    exact .inr ⟨g', cap, cur, rfl, h0, by rw [hb g' rfl]; exact hg, rest⟩
theorem BAt.keep {w' : World} (h : BAt L w g b so ao oo sc ac oc) (hk : ∀ k, own g so ao oo k → w'.heap[k]? = w.heap[k]?) : BAt L w' g b so ao oo sc ac oc :=
  ⟨by rw [hk g (Or.inl rfl)]; exact h.cell, h.lo, row_keep h.seqs (fun q hq => hk q (Or.inr (Or.inl hq))), row_keep h.atoms (fun q hq => hk q (Or.inr (Or.inr (Or.inl hq)))), row_keep h.opn (fun q hq => hk q (Or.inr (Or.inr (Or.inr hq)))), h.ap, h.cl⟩
theorem BAt.lt (h : BAt L w g b so ao oo sc ac oc) : ∀ k, own g so ao oo k → L ≤ k ∧ k < w.heap.size := by
  rintro k (rfl | hk | hk | hk)
  · exact ⟨h.lo, (Array.getElem?_eq_some_iff.1 h.cell).1⟩
  · exact World.ownsRow.lt h.seqs k (by cases so with | none => simp [blk] at hk | some a => simpa [blk, Value.ownBlock] using hk)
  · exact World.ownsRow.lt h.atoms k (by cases ao with | none => simp [blk] at hk | some a => simpa [blk, Value.ownBlock] using hk)
  · exact World.ownsRow.lt h.opn k (by cases oo with | none => simp [blk] at hk | some a => simpa [blk, Value.ownBlock] using hk)
theorem BAt.below {w' : World} (h : BAt L w g b so ao oo sc ac oc) (hb : Below w.heap.size w w') : BAt L w' g b so ao oo sc ac oc :=
  h.keep (fun k hk => hb.block k (h.lt k hk).2)
theorem BStep.low {so' ao' oo' : Option Addr} {w' : World} (h : BAt L w g b so ao oo sc ac oc) (hs : BStep g so ao oo so' ao' oo' w w') (hL : L ≤ w.heap.size) : Below L w w' :=
  ⟨hs.os, hs.tape, hs.output, hs.size, fun k hk => hs.block k (by omega) (fun ho => by have := (h.lt k ho).1; omega)⟩
theorem BAt.cells (h : BAt L w g b so ao oo sc ac oc) : w.cell? ⟨g, 0, none⟩ = some (.slice so b.seqs.length sc) ∧ w.cell? ⟨g, 1, none⟩ = some (.slice ao b.atoms.length ac) ∧ w.cell? ⟨g, 2, none⟩ = some (.int .i64 b.seq) ∧ w.cell? ⟨g, 3, none⟩ = some (.int .i64 b.last) ∧ w.cell? ⟨g, 4, none⟩ = some (.slice oo b.opn.length oc) ∧ w.cell? ⟨g, 5, none⟩ = some (.int .i64 b.groups) ∧
    (∀ k, k < 10 → w.cell? ⟨g, 6 + k, none⟩ = some (.bool (b.clo.getD k false))) ∧ (∀ k, w.frozen? ⟨g, k, none⟩ = false) := by
  have hb := cell_block h.cell
  refine ⟨hb.1 0, hb.1 1, hb.1 2, hb.1 3, hb.1 4, hb.1 5, fun k hk => ?_, hb.2⟩
  rw [hb.1]
  unfold bA
  rw [List.getElem?_toArray, show 6 + k = k + 1 + 1 + 1 + 1 + 1 + 1 by omega]
  simp only [List.getElem?_cons_succ, List.getElem?_map]
  rw [List.getD_eq_getElem?_getD, List.getElem?_eq_getElem (by rw [h.cl]; exact hk)]; rfl
/-- A field of the builder itself stored into. -/
theorem BAt.field {b' : Mt.PB} {so' ao' oo' : Option Addr} {sc' ac' oc' k : Nat} {v : Value} (h : BAt L w g b so ao oo sc ac oc) (he : (bA b so ao oo sc ac oc).setIfInBounds k v = bA b' so' ao' oo' sc' ac' oc')
    (h1 : w.ownsRow L 111 2 (.slice so' b'.seqs.length sc') b'.seqs.length (b'.seqs.flatMap psC)) (h2 : w.ownsRow L 125 20 (.slice ao' b'.atoms.length ac') b'.atoms.length (b'.atoms.flatMap paC)) (h3 : w.ownsRow L 3 1 (.slice oo' b'.opn.length oc') b'.opn.length (opL b'.opn))
    (hap : blk so' ≠ some g ∧ blk ao' ≠ some g ∧ blk oo' ≠ some g ∧ (∀ q, blk so' = some q → blk ao' ≠ some q ∧ blk oo' ≠ some q) ∧ (∀ q, blk ao' = some q → blk oo' ≠ some q)) (hcl : b'.clo.length = 10) :
    BAt L (w.setCell ⟨g, k, none⟩ v) g b' so' ao' oo' sc' ac' oc' := by
  have hc := Go.heap_setCell_same w g k _ _ v h.cell
  rw [he] at hc
  have o : ∀ q, q ≠ g → (w.setCell ⟨g, k, none⟩ v).heap[q]? = w.heap[q]? := fun q hq => Below.heap_setCell _ _ _ _ hq
  exact ⟨hc, h.lo, row_keep h1 (fun q hq => o q (fun e => hap.1 (by rw [← e]; exact hq))), row_keep h2 (fun q hq => o q (fun e => hap.2.1 (by rw [← e]; exact hq))), row_keep h3 (fun q hq => o q (fun e => hap.2.2.1 (by rw [← e]; exact hq))), hap, hcl⟩
end
end Go.Proofs.Ytebpgfodelggoaa
