import Derived.Test.YtebpgfodelggoaaC51
/- matcherkeep: twins. (Plain seats alone.) -/
set_option linter.unusedVariables false
set_option linter.unusedSimpArgs false
namespace Go.Proofs.Ytebpgfodelggoaa
open Go.RowKit

def yW (x : ByteArray) : ByteArray := ⟨#[40, 63, 58]⟩ ++ x ++ ⟨#[41]⟩
def twinA (x y : ByteArray) : Array Value :=
  #[.string x, .string y, .string (y ++ ⟨#[123, 49, 125]⟩), .string y, .string (y ++ ⟨#[123, 48, 125]⟩), .string ⟨#[]⟩, .string (y ++ ⟨#[123, 48, 44, 49, 125]⟩), .string (y ++ ⟨#[63]⟩), .string (y ++ ⟨#[123, 48, 44, 125]⟩), .string (y ++ ⟨#[42]⟩),
    .string (y ++ ⟨#[123, 49, 44, 125, 63]⟩), .string (y ++ ⟨#[43, 63]⟩), .string (y ++ ⟨#[123, 50, 125]⟩), .string (y ++ y), .string (y ++ ⟨#[43]⟩), .string (y ++ y ++ ⟨#[42]⟩), .string (y ++ ⟨#[43, 63]⟩), .string (y ++ y ++ ⟨#[42, 63]⟩),
    .string (y ++ ⟨#[123, 50, 44, 51, 125]⟩), .string (y ++ y ++ y ++ ⟨#[63]⟩), .string (y ++ ⟨#[123, 48, 44, 50, 125, 63]⟩), .string (⟨#[40, 63, 58]⟩ ++ y ++ y ++ ⟨#[63, 63, 41, 63, 63]⟩), .string (y ++ ⟨#[42, 43]⟩), .string (⟨#[40, 63, 62]⟩ ++ y ++ ⟨#[42, 41]⟩),
    .string (y ++ ⟨#[63, 43]⟩), .string (⟨#[40, 63, 62]⟩ ++ y ++ ⟨#[63, 41]⟩), .string (y ++ ⟨#[123, 49, 44, 125, 43]⟩), .string (⟨#[40, 63, 62]⟩ ++ y ++ y ++ ⟨#[42, 41]⟩)]

set_option maxRecDepth 100000 in
set_option maxHeartbeats 4000000 in
theorem twins_any (x : ByteArray) (w : World) (hx : x.size ≤ 12) : Calls Try.prog 11 #[.string x] w fun e w' => e = .returned (.slice (some ⟨w.heap.size, 0, none⟩) 28 28) ∧ w' = w.alloc (.cells (twinA x (yW x)) 9) := by
  go_enter Try.func11, Try.ntmps11
  go_wp2_with fail
  go_ret
  exact ⟨rfl, rfl⟩

theorem bp_self (x : ByteArray) : Mt.bp x.data.toList = x := by
  unfold Mt.bp; simp
theorem bp_app (a b : List UInt8) : Mt.bp a ++ Mt.bp b = Mt.bp (a ++ b) := by
  apply ByteArray.ext
  simp [Mt.bp, ByteArray.data_append]
theorem yW_bp (l : List UInt8) : yW (Mt.bp l) = Mt.bp (Mt.yB l) := by
  unfold yW
  rw [show (⟨#[40, 63, 58]⟩ : ByteArray) = Mt.bp [40, 63, 58] from rfl, show (⟨#[41]⟩ : ByteArray) = Mt.bp [41] from rfl, bp_app, bp_app]
  simp [Mt.yB]
def twinP (l : List UInt8) (i : Nat) : List UInt8 × List UInt8 := (Mt.twinL l).getD i ([], [])
theorem twinP_mem (l : List UInt8) (i : Nat) (h : i < 14) : twinP l i ∈ Mt.twinL l := by
  unfold twinP
  rw [List.getD_eq_getElem?_getD, List.getElem?_eq_getElem (by simpa [Mt.twinL] using h)]
  exact List.getElem_mem _
theorem twin_cells (l : List UInt8) : ∀ i, i < 14 → (twinA (Mt.bp l) (yW (Mt.bp l)))[i * 2]? = some (.string (Mt.bp (twinP l i).1)) ∧ (twinA (Mt.bp l) (yW (Mt.bp l)))[i * 2 + 1]? = some (.string (Mt.bp (twinP l i).2)) := by
  rw [yW_bp]
  intro i hi
  have e1 : ∀ a : List UInt8, (⟨a.toArray⟩ : ByteArray) = Mt.bp a := fun _ => rfl
  match i, hi with
  | 0, _ => exact ⟨rfl, rfl⟩
  | 1, _ => exact ⟨by rw [show twinP l 1 = (Mt.yB l ++ [123, 49, 125], Mt.yB l) from rfl, ← bp_app]; rfl, rfl⟩
  | 2, _ => exact ⟨by rw [show twinP l 2 = (Mt.yB l ++ [123, 48, 125], []) from rfl, ← bp_app]; rfl, rfl⟩
  | 3, _ => exact ⟨by rw [show (twinP l 3).1 = Mt.yB l ++ [123, 48, 44, 49, 125] from rfl, ← bp_app]; rfl, by rw [show (twinP l 3).2 = Mt.yB l ++ [63] from rfl, ← bp_app]; rfl⟩
  | 4, _ => exact ⟨by rw [show (twinP l 4).1 = Mt.yB l ++ [123, 48, 44, 125] from rfl, ← bp_app]; rfl, by rw [show (twinP l 4).2 = Mt.yB l ++ [42] from rfl, ← bp_app]; rfl⟩
  | 5, _ => exact ⟨by rw [show (twinP l 5).1 = Mt.yB l ++ [123, 49, 44, 125, 63] from rfl, ← bp_app]; rfl, by rw [show (twinP l 5).2 = Mt.yB l ++ [43, 63] from rfl, ← bp_app]; rfl⟩
  | 6, _ => exact ⟨by rw [show (twinP l 6).1 = Mt.yB l ++ [123, 50, 125] from rfl, ← bp_app]; rfl, by rw [show (twinP l 6).2 = Mt.yB l ++ Mt.yB l from rfl, ← bp_app]; rfl⟩
  | 7, _ => exact ⟨by rw [show (twinP l 7).1 = Mt.yB l ++ [43] from rfl, ← bp_app]; rfl, by rw [show (twinP l 7).2 = Mt.yB l ++ (Mt.yB l ++ [42]) from rfl, ← List.append_assoc, ← bp_app, ← bp_app]; rfl⟩
  | 8, _ => exact ⟨by rw [show (twinP l 8).1 = Mt.yB l ++ [43, 63] from rfl, ← bp_app]; rfl, by rw [show (twinP l 8).2 = Mt.yB l ++ (Mt.yB l ++ [42, 63]) from rfl, ← List.append_assoc, ← bp_app, ← bp_app]; rfl⟩
  | 9, _ => exact ⟨by rw [show (twinP l 9).1 = Mt.yB l ++ [123, 50, 44, 51, 125] from rfl, ← bp_app]; rfl, by rw [show (twinP l 9).2 = Mt.yB l ++ (Mt.yB l ++ (Mt.yB l ++ [63])) from rfl, ← List.append_assoc, ← List.append_assoc, ← bp_app, ← bp_app, ← bp_app]; rfl⟩
  | 10, _ => exact ⟨by rw [show (twinP l 10).1 = Mt.yB l ++ [123, 48, 44, 50, 125, 63] from rfl, ← bp_app]; rfl, by rw [show (twinP l 10).2 = [40, 63, 58] ++ (Mt.yB l ++ (Mt.yB l ++ [63, 63, 41, 63, 63])) from rfl, ← List.append_assoc, ← List.append_assoc, ← bp_app, ← bp_app, ← bp_app]; rfl⟩
  | 11, _ => exact ⟨by rw [show (twinP l 11).1 = Mt.yB l ++ [42, 43] from rfl, ← bp_app]; rfl, by rw [show (twinP l 11).2 = [40, 63, 62] ++ (Mt.yB l ++ [42, 41]) from rfl, ← List.append_assoc, ← bp_app, ← bp_app]; rfl⟩
  | 12, _ => exact ⟨by rw [show (twinP l 12).1 = Mt.yB l ++ [63, 43] from rfl, ← bp_app]; rfl, by rw [show (twinP l 12).2 = [40, 63, 62] ++ (Mt.yB l ++ [63, 41]) from rfl, ← List.append_assoc, ← bp_app, ← bp_app]; rfl⟩
  | 13, _ => exact ⟨by rw [show (twinP l 13).1 = Mt.yB l ++ [123, 49, 44, 125, 43] from rfl, ← bp_app]; rfl, by rw [show (twinP l 13).2 = [40, 63, 62] ++ (Mt.yB l ++ (Mt.yB l ++ [42, 41])) from rfl, ← List.append_assoc, ← List.append_assoc, ← bp_app, ← bp_app, ← bp_app]; rfl⟩
theorem code_a : Mt.codeR ⟨#[97]⟩ = ([⟨1, 0, 0, [97]⟩, ⟨13, 0, 0, []⟩], 0) := by kernel_rfl
theorem code_ab : Mt.codeR ⟨#[40, 97, 42, 41, 98]⟩ = ([⟨6, 1, 0, []⟩, ⟨2, 2, 5, []⟩, ⟨4, 0, 0, []⟩, ⟨1, 0, 0, [97]⟩, ⟨5, 1, 0, []⟩, ⟨7, 1, 0, []⟩, ⟨1, 0, 0, [98]⟩, ⟨13, 0, 0, []⟩], 0) := by kernel_rfl
end Go.Proofs.Ytebpgfodelggoaa
/- matcherkeep: codes, Sugar. (Plain seats alone.) -/
set_option linter.unusedVariables false
set_option linter.unusedSimpArgs false
namespace Go.Proofs.Ytebpgfodelggoaa
open Go.RowKit

theorem own_lit {w : World} {g : Nat} (l : List Mt.Ins) (hl : l.length ≤ 1000) (h : w.heap[g]? = some (.cells (l.flatMap insCells).toArray 35 (0, 0))) : ownIns w 0 (.slice (some ⟨g, 0, none⟩) l.length l.length) l := by
  have hlen : (l.flatMap insCells).length = l.length * 4 := by
    clear h hl
    induction l with
    | nil => rfl
    | cons a r ih => rw [List.flatMap_cons, List.length_append, ih, List.length_cons, Nat.add_mul]; simp [insCells]; omega
  refine ⟨hlen, Or.inr ⟨g, l.length, _, rfl, Nat.zero_le _, h, Nat.le_refl _, by unfold maxLen; omega, by simp [hlen], ?_⟩⟩
  rw [← hlen, List.take_length]

set_option maxRecDepth 100000 in
set_option maxHeartbeats 4000000 in
theorem codes_any (w : World) : Calls Try.prog 9 #[] w fun e w' => e = .returned (.bool true) ∧ Below w.heap.size w w' := by
  have K1 : Hid (Calls Try.prog 12 #[.string ⟨#[97]⟩] w fun e w' => ∃ v, e = .returned (.tuple #[v, .int .i64 0]) ∧ ownIns w' w.heap.size v [⟨1, 0, 0, [97]⟩, ⟨13, 0, 0, []⟩] ∧ Below w.heap.size w w') := by
    have := Code_any ⟨#[97]⟩ w (by decide)
    rw [code_a] at this; exact this
  have K2 : Hid (∀ z : World, Calls Try.prog 12 #[.string ⟨#[40, 97, 42, 41, 98]⟩] z fun e w' => ∃ v, e = .returned (.tuple #[v, .int .i64 0]) ∧ ownIns w' z.heap.size v [⟨6, 1, 0, []⟩, ⟨2, 2, 5, []⟩, ⟨4, 0, 0, []⟩, ⟨1, 0, 0, [97]⟩, ⟨5, 1, 0, []⟩, ⟨7, 1, 0, []⟩, ⟨1, 0, 0, [98]⟩, ⟨13, 0, 0, []⟩] ∧ Below z.heap.size z w') := fun z => by
    have := Code_any ⟨#[40, 97, 42, 41, 98]⟩ z (by decide)
    rw [code_ab] at this; exact this
  have L1 : Hid (∀ (z : World) (g : Nat), z.heap[g]? = some (.cells (([⟨1, 0, 0, [97]⟩, ⟨13, 0, 0, []⟩] : List Mt.Ins).flatMap insCells).toArray 35 (0, 0)) → ownIns z 0 (.slice (some ⟨g, 0, none⟩) 2 2) [⟨1, 0, 0, [97]⟩, ⟨13, 0, 0, []⟩]) := fun z g h => own_lit _ (by decide) h
  have L2 : Hid (∀ (z : World) (g : Nat), z.heap[g]? = some (.cells (([⟨6, 1, 0, []⟩, ⟨2, 2, 5, []⟩, ⟨4, 0, 0, []⟩, ⟨1, 0, 0, [97]⟩, ⟨5, 1, 0, []⟩, ⟨7, 1, 0, []⟩, ⟨1, 0, 0, [98]⟩, ⟨13, 0, 0, []⟩] : List Mt.Ins).flatMap insCells).toArray 35 (0, 0)) → ownIns z 0 (.slice (some ⟨g, 0, none⟩) 8 8) [⟨6, 1, 0, []⟩, ⟨2, 2, 5, []⟩, ⟨4, 0, 0, []⟩, ⟨1, 0, 0, [97]⟩, ⟨5, 1, 0, []⟩, ⟨7, 1, 0, []⟩, ⟨1, 0, 0, [98]⟩, ⟨13, 0, 0, []⟩]) := fun z g h => own_lit _ (by decide) h
  go_enter Try.func9, Try.ntmps9
  go_wp2_with fail
  refine K1.out.mono ?_
  rintro e w1 ⟨v1, rfl, o1, b1⟩
  have H1 : Hid (ownIns w1 0 v1 [⟨1, 0, 0, [97]⟩, ⟨13, 0, 0, []⟩] ∧ Below w.heap.size w w1) := ⟨o1.base (Nat.zero_le _), b1⟩
  clear o1 b1
  go_wp2_with fail
  refine (K2.out w1).mono ?_
  rintro e w2 ⟨v2, rfl, o2, b2⟩
  have H2 : Hid (ownIns w2 0 v1 [⟨1, 0, 0, [97]⟩, ⟨13, 0, 0, []⟩] ∧ ownIns w2 0 v2 [⟨6, 1, 0, []⟩, ⟨2, 2, 5, []⟩, ⟨4, 0, 0, []⟩, ⟨1, 0, 0, [97]⟩, ⟨5, 1, 0, []⟩, ⟨7, 1, 0, []⟩, ⟨1, 0, 0, [98]⟩, ⟨13, 0, 0, []⟩] ∧ Below w.heap.size w w2) := ⟨H1.out.1.below b2, o2.base (Nat.zero_le _), H1.out.2.trans (b2.mono H1.out.2.size)⟩
  clear o2 b2
  go_wp2_with fail
  refine (keepSame_same [⟨1, 0, 0, [97]⟩, ⟨13, 0, 0, []⟩] v1 (.slice (some ⟨w2.heap.size, 0, none⟩) 2 2) _ (H2.out.1.below ((Below.refl _ _).alloc (Nat.le_refl _) _)) (L1.out _ _ (heap_b1 _ _)) (by decide)).mono ?_
  rintro e w3 ⟨rfl, n3, hw3⟩
  have hb3 : Below w2.heap.size w2 w3 := by rw [hw3]; exact below_drewN ((Below.refl _ _).alloc (Nat.le_refl _) _) _
  have H3 : Hid (ownIns w3 0 v2 [⟨6, 1, 0, []⟩, ⟨2, 2, 5, []⟩, ⟨4, 0, 0, []⟩, ⟨1, 0, 0, [97]⟩, ⟨5, 1, 0, []⟩, ⟨7, 1, 0, []⟩, ⟨1, 0, 0, [98]⟩, ⟨13, 0, 0, []⟩] ∧ Below w.heap.size w w3) := ⟨H2.out.2.1.below hb3, H2.out.2.2.trans (hb3.mono H2.out.2.2.size)⟩
  clear hb3 hw3
  go_wp2_with fail
  refine (keepSame_same [⟨6, 1, 0, []⟩, ⟨2, 2, 5, []⟩, ⟨4, 0, 0, []⟩, ⟨1, 0, 0, [97]⟩, ⟨5, 1, 0, []⟩, ⟨7, 1, 0, []⟩, ⟨1, 0, 0, [98]⟩, ⟨13, 0, 0, []⟩] v2 (.slice (some ⟨w3.heap.size, 0, none⟩) 8 8) _ (H3.out.1.below ((Below.refl _ _).alloc (Nat.le_refl _) _)) (L2.out _ _ (heap_b1 _ _)) (by decide)).mono ?_
  rintro e w4 ⟨rfl, n4, hw4⟩
  have hb4 : Below w3.heap.size w3 w4 := by rw [hw4]; exact below_drewN ((Below.refl _ _).alloc (Nat.le_refl _) _) _
  have H4 : Hid (Below w.heap.size w w4) := H3.out.2.trans (hb4.mono H3.out.2.size)
  clear hb4 hw4
  go_wp2_with fail
  go_ret
  exact ⟨rfl, H4.out⟩

/-- The code's last instruction is Match, and the two codes are one. -/
theorem twin_code {l : List UInt8} (H : ∀ q ∈ Mt.twinL l, Mt.Same2 q.1 q.2) (i : Nat) (hi : i < 14) :
    Mt.codeR (Mt.bp (twinP l i).2) = Mt.codeR (Mt.bp (twinP l i).1) ∧ ((Mt.codeR (Mt.bp (twinP l i).1)).2 = 0 ∨ (Mt.codeR (Mt.bp (twinP l i).1)).2 = 12) ∧ ((Mt.codeR (Mt.bp (twinP l i).1)).2 = 0 → ∃ c, (Mt.codeR (Mt.bp (twinP l i).1)).1 = c ++ [⟨13, 0, 0, []⟩]) := by
  obtain ⟨a, b, c⟩ := H _ (twinP_mem l i hi)
  exact ⟨a.symm, b, c⟩
end Go.Proofs.Ytebpgfodelggoaa
