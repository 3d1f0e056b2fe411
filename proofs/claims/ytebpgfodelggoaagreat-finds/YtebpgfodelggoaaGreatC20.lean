import Derived.Test.YtebpgfodelggoaaGreatC19
import Derived.Test.YtebpgfodelggoaaGreatC17
import Derived.Great.BuildSlice
set_option linter.unusedVariables false
set_option linter.unusedSimpArgs false
namespace Go.Proofs.YtebpgfodelggoaaGreat
open Go.RowKit

theorem heap_fd2 (w : World) (A B : Obj) : ((w.alloc A).alloc B).heap[w.heap.size + 1]? = some B := heap_22 _ _ _
/-- What Keep says, where the walk's blocks are new. -/
theorem Keep.toBelow {wb gk : Nat} {a b : World} {N : Nat} (h : Keep wb gk a b) (hN : N ≤ a.heap.size) (h1 : N ≤ wb) (h2 : N ≤ gk) : Below N a b :=
  ⟨h.os, h.tape, h.output, h.size, fun i hi => h.block i (by omega) (by omega) (by omega)⟩

set_option maxRecDepth 100000 in
set_option maxHeartbeats 8000000 in
theorem refFind_any (p text : ByteArray) (frm policy mask room budget : Int) (w : World) (hp : p.size ≤ maxLen) (ht : text.size ≤ maxLen) :
    Calls Tryz.prog 12 #[.string p, .string text, .int .i64 frm, .agg #[.int .i64 policy, .int .i64 mask, .int .i64 room, .int .i64 budget]] w fun e w' =>
      e = .returned (.tuple #[fdV (Mt.findR p text frm policy mask room budget).1, .int .i64 (Mt.findR p text frm policy mask room budget).2]) ∧ Below w.heap.size w w' := by
  have KC : Hid (∀ z : World, Calls Tryz.prog 19 #[.string p] z fun e w' => ∃ v, e = .returned (.tuple #[v, .int .i64 (Mt.codeR p).2]) ∧ ownIns w' 0 v (Mt.codeR p).1 ∧ Below z.heap.size z w') := fun z => refCode_any p z hp
  have KM : Hid (∀ z : World, Calls Tryz.prog 20 #[.string text, .int .i64 frm, .agg #[.int .i64 policy, .int .i64 mask, .int .i64 room, .int .i64 budget]] z fun e w' => e = .returned (.int .i64 (Mt.mayFind text.size frm policy mask room budget)) ∧ Below z.heap.size z w') := fun z => mayFind_any text frm policy mask room budget z ht
  have hcf := Mt.codeR_fit p
  have hen := env_ok p text
  unfold Mt.findR
  generalize hC : Mt.codeR p = C at *
  have hmf : Mt.mayFind text.size frm policy mask room budget = 0 → text.size ≤ 60 ∧ (0 ≤ frm ∧ frm ≤ text.size) ∧ (0 ≤ mask ∧ mask ≤ 4294967295) ∧ (0 ≤ room ∧ room ≤ 5000) ∧ (0 ≤ budget ∧ budget ≤ 10000) := by
    intro h
    unfold Mt.mayFind at h
    split at h
    · omega
    split at h
    · rename_i h1 h2
      obtain ⟨hs, h3, h4, h5, h6, h7, h8⟩ := h2
      unfold Mt.maySelect at hs
      simp only [decide_eq_true_eq] at hs
      omega
    · omega
  generalize hM : Mt.mayFind text.size frm policy mask room budget = M at *
  have hzf : Obj.cells #[Value.bool false, Value.int IntKind.i64 0, Value.int IntKind.i64 0, Value.int IntKind.i64 0, Value.int IntKind.i64 0, Value.int IntKind.i64 0, Value.int IntKind.i64 0, Value.int IntKind.i64 0, Value.int IntKind.i64 0, Value.int IntKind.i64 0, Value.int IntKind.i64 0, Value.int IntKind.i64 0, Value.int IntKind.i64 0, Value.int IntKind.i64 0, Value.int IntKind.i64 0, Value.int IntKind.i64 0, Value.int IntKind.i64 0, Value.int IntKind.i64 0, Value.int IntKind.i64 0, Value.int IntKind.i64 0, Value.int IntKind.i64 0, Value.int IntKind.i64 0] 29 = zFd := rfl
  clear hC hM
  cases he : (C.2 != 0)
  · have hc0 : C.2 = 0 := by simpa using he
    rw [if_neg (by simpa using he)]
    cases hm : (M != 0)
    · have hm0 : M = 0 := by simpa using hm
      rw [if_neg (by simpa using hm)]
      obtain ⟨b1, b2, b3, b4, b5⟩ := hmf hm0
      obtain ⟨hE, hcl⟩ := hen hc0 b1
      obtain ⟨F, hF⟩ : ∃ F, F = Mt.searchAll C.1 text policy mask room budget frm.toNat := ⟨_, rfl⟩
      rw [← hF]
      have hFl : F.1.at'.length = 20 := by rw [hF]; exact search_len (Mt.envOf C.1 text policy mask) hE.ok hcl budget _ _ _ _ _ (by show _ ≤ text.size + 1; omega) b4
      have HF : Hid (F = Mt.searchAll C.1 text policy mask room budget frm.toNat) := hF
      have HFL : Hid (F.1.at'.length = 20) := hFl
      have HE : Hid (EnvOk C.1 text (loopNums C.1 C.1.length)) := hE
      have HFIT : Hid (Mt.fit 100000000 C.1 ∧ C.1.length ≤ 300) := hcf
      have HB : Hid (0 ≤ budget ∧ budget ≤ 10000) := b5
      have HBR : Hid (0 ≤ room ∧ room ≤ 5000) := b4
      have hSr : ∀ (wb gc gi ga gk cc ci ca ck : Nat) (z : World), WalkAt z wb gc gi ga gk cc ci ca ck C.1 text (Mt.chosen C.1 policy mask) (loopNums C.1 C.1.length) budget (List.replicate (C.1.length * (text.size + 1) * 12) false) room 0 false →
          Calls Tryz.prog 22 #[.pointer (some ⟨wb, 0, none⟩), .int .i64 frm] z fun e w' => e = .returned (fdV F.1) ∧ Keep wb gk z w' ∧ ∃ kn' room' used', WalkAt w' wb gc gi ga gk cc ci ca ck C.1 text (Mt.chosen C.1 policy mask) (loopNums C.1 C.1.length) budget kn' room' used' F.2 := by
        intro wb gc gi ga gk cc ci ca ck z hz
        have hb : (budget.toNat : Int) = budget := by omega
        have hfr : ((frm.toNat : Nat) : Int) = frm := by omega
        have := search_any wb gc gi ga gk cc ci ca ck C.1 text (Mt.chosen C.1 policy mask) (loopNums C.1 C.1.length) budget hE hcl b5.1 b5.2 (fun n hn => look_all wb gc gi ga gk cc ci ca ck C.1 text _ _ budget hE b5.1 b5.2 n n (Nat.le_refl _) hn) z frm.toNat budget.toNat (List.replicate (C.1.length * (text.size + 1) * 12) false) room (by omega) (by rw [hb, Int.sub_self]; exact hz) (by omega) (by simp) b4
        rw [hfr] at this
        rw [hF]
        exact this
      have HSr : Hid (∀ (wb gc gi ga gk cc ci ca ck : Nat) (z : World), WalkAt z wb gc gi ga gk cc ci ca ck C.1 text (Mt.chosen C.1 policy mask) (loopNums C.1 C.1.length) budget (List.replicate (C.1.length * (text.size + 1) * 12) false) room 0 false →
          Calls Tryz.prog 22 #[.pointer (some ⟨wb, 0, none⟩), .int .i64 frm] z fun e w' => e = .returned (fdV F.1) ∧ Keep wb gk z w' ∧ ∃ kn' room' used', WalkAt w' wb gc gi ga gk cc ci ca ck C.1 text (Mt.chosen C.1 policy mask) (loopNums C.1 C.1.length) budget kn' room' used' F.2) := hSr
      generalize hR : (if F.2 = true then (Mt.fnd0, (14 : Int)) else (F.1, 0)) = R
      have HRT : Hid (F.2 = true → R = (Mt.fnd0, 14)) := fun e => by rw [← hR, if_pos e]
      have HRF : Hid (F.2 = false → R = (F.1, 0)) := fun e => by rw [← hR, if_neg (by simp [e])]
      clear hR
      have HBM : Hid (0 ≤ mask ∧ mask ≤ 4294967295) := b3
      have HCL : Hid (0 < C.1.length) := hcl
      have HT : Hid (text.size ≤ 60) := b1
      clear hF hFl hE hcf hen hmf hSr b1 b2 b3 b4 b5 hcl hc0 hm0
      go_enter Tryz.func12, Tryz.ntmps12
      go_wp2_with fail
      refine (KC.out _).mono ?_
      rintro e w1 ⟨v1, rfl, q1, hb1⟩
      have HO : Hid (w1.heap[w.heap.size]? = some (.cells #[.int .i64 policy, .int .i64 mask, .int .i64 room, .int .i64 budget] 34 (0, 0))) := (hb1.block _ (by simp; omega)).trans (heap_21 _ _ _)
      have HZ : Hid (w1.heap[w.heap.size + 1]? = some zFd) := (hb1.block _ (by simp)).trans (heap_22 _ _ _)
      have hs1 := hb1.size
      have l1 : w.heap.size + 1 < w1.heap.size := by simp at hs1; omega
      have hB1 : Below w.heap.size w w1 := (((Below.refl _ _).alloc (Nat.le_refl _) _).alloc (by simp) _).trans (hb1.mono (by simp; omega))
      have y1 := (cell_block HO.out).1
      have y10 : w1.cell? ⟨w.heap.size, 0, none⟩ = some (.int .i64 policy) := y1 0
      have y11 : w1.cell? ⟨w.heap.size, 1, none⟩ = some (.int .i64 mask) := y1 1
      have y12 : w1.cell? ⟨w.heap.size, 2, none⟩ = some (.int .i64 room) := y1 2
      have y13 : w1.cell? ⟨w.heap.size, 3, none⟩ = some (.int .i64 budget) := y1 3
      have l2 : w.heap.size < w1.heap.size := by omega
      obtain ⟨gc, cc, hv1, lgc⟩ : ∃ gc cc, v1 = .slice (some ⟨gc, 0, none⟩) C.1.length cc ∧ gc < w1.heap.size := by
        rcases ins_cases q1 with ⟨e, _⟩ | ⟨_, g, cap, e, _, hg, _⟩
        · have := HCL.out; rw [e] at this; simp at this
        · exact ⟨g, cap, e, hg⟩
      subst hv1
      have Q1 : Hid (ownIns w1 0 (.slice (some ⟨gc, 0, none⟩) C.1.length cc) C.1) := q1
      clear hb1 q1 hs1 y1
      go_wp2_with fail
      refine (KM.out _).mono ?_
      rintro e w2 ⟨rfl, hb2⟩
      have hs2 := hb2.size
      have HZ2 : Hid (w2.heap[w.heap.size + 1]? = some zFd) := (hb2.block _ l1).trans HZ.out
      have HO2 : w2.heap[w.heap.size]? = some (.cells #[.int .i64 policy, .int .i64 mask, .int .i64 room, .int .i64 budget] 34 (0, 0)) := (hb2.block _ l2).trans HO.out
      have Q2 : Hid (ownIns w2 0 (.slice (some ⟨gc, 0, none⟩) C.1.length cc) C.1) := Q1.out.below hb2
      have hB2 : Below w.heap.size w w2 := hB1.trans (hb2.mono (by omega))
      have y1 := (cell_block HO2).1
      have x10 : w2.cell? ⟨w.heap.size, 0, none⟩ = some (.int .i64 policy) := y1 0
      have x11 : w2.cell? ⟨w.heap.size, 1, none⟩ = some (.int .i64 mask) := y1 1
      have x12 : w2.cell? ⟨w.heap.size, 2, none⟩ = some (.int .i64 room) := y1 2
      have x13 : w2.cell? ⟨w.heap.size, 3, none⟩ = some (.int .i64 budget) := y1 3
      have l3 : w.heap.size + 1 < w2.heap.size := by omega
      have l4 : w.heap.size < w2.heap.size := by omega
      clear HO HZ hb2 hB1 y10 y11 y12 y13 Q1 HO2 y1 hs2 l1 l2 lgc
      go_wp2_with fail
      refine (begin_any C.1 text policy mask room budget budget gc cc w2 Q2.out HCL.out HFIT.out.2 HFIT.out.1 HT.out HBM.out.1 HBM.out.2).mono ?_
      rintro e w3 ⟨wb, gi, ga, gk, ci, ca, ck, rfl, hW3, hb3, lwb, lgk⟩
      have HZ3 : Hid (w3.heap[w.heap.size + 1]? = some zFd) := (hb3.block _ l3).trans HZ2.out
      have hB3 : Below w.heap.size w w3 := hB2.trans (hb3.mono (by omega))
      have l5 : w.heap.size + 1 < w3.heap.size := by have := hb3.size; omega
      have HW3 : Hid (WalkAt w3 wb gc gi ga gk cc ci ca ck C.1 text (Mt.chosen C.1 policy mask) (loopNums C.1 C.1.length) budget (List.replicate (C.1.length * (text.size + 1) * 12) false) room 0 false) := hW3
      clear hW3 hb3 HZ2 hB2 x10 x11 x12 x13 Q2
      go_wp2_with fail
      refine (HSr.out wb gc gi ga gk cc ci ca ck w3 HW3.out).mono ?_
      rintro e w4 ⟨rfl, hk4, kn', room', used', hW4⟩
      have HZ4 : Hid (w4.heap[w.heap.size + 1]? = some zFd) := (hk4.blk _ l5 (by omega) (by omega)).trans HZ3.out
      have hB4 : Below w.heap.size w w4 := hB3.trans (hk4.toBelow (by omega) (by omega) (by omega))
      have l6 : w.heap.size + 1 < w4.heap.size := by have := hk4.size; omega
      have HW4 : Hid (WalkAt w4 wb gc gi ga gk cc ci ca ck C.1 text (Mt.chosen C.1 policy mask) (loopNums C.1 C.1.length) budget kn' room' used' F.2) := hW4
      have lwb4 : wb < w4.heap.size := hW4.lt.1
      clear hk4 hW4 HW3 HZ3 hB3 HSr
      unfold fdV
      cases hov : F.2 with
      | true =>
        have HRR : Hid (R = _) := HRT.out hov
        go_wp2_with (first | (refine wpList_store_fd (by rfl) (.tmp 13) (.tmp 39) (by rfl) w4.heap.size (fdA F.1) (by rfl) (by rfl) (by exact heap_alloc_new _ _) (by rfl) (fdA_size _ HFL.out) (fd_all _) ?_; intro w5 r1 r2 r3 r4; have B5 : Hid (Below w4.heap.size w4 w5) := (((Below.refl _ _).alloc (Nat.le_refl _) _).trans (r4 _ (Nat.le_refl _))); have k8 : w5.cell? ⟨wb, 8, none⟩ = some (.bool F.2) := ((cell_block (HW4.out.below B5.out).cell).1 8); have l7 : wb < w5.heap.size := (by have := B5.out.size; omega); have V5 : Hid (w5.heap[w.heap.size + 1]? = some zFd) := ((B5.out.block _ l6).trans HZ4.out); clear r1 r2 r3 r4) | (refine wpList_store_fd (by rfl) (.tmp 8) (.tmp 44) (by rfl) (w.heap.size + 1) (fdA Mt.fnd0) (by rfl) (by rfl) (by exact V5.out) (by rfl) (by rfl) (fd_all _) ?_; intro w6 r1 r2 r3 r4) | fail)
        refine bodyPost_ret (ret_fd2 rfl (by rfl) r1 (by rfl)) rfl ⟨?_, (hB4.trans (B5.out.mono (by omega))).trans (r4 _ (by omega))⟩
        rw [HRR.out]; rfl
      | false =>
        have HRR : Hid (R = _) := HRF.out hov
        go_wp2_with (first | (refine wpList_store_fd (by rfl) (.tmp 13) (.tmp 39) (by rfl) w4.heap.size (fdA F.1) (by rfl) (by rfl) (by exact heap_alloc_new _ _) (by rfl) (fdA_size _ HFL.out) (fd_all _) ?_; intro w5 r1 r2 r3 r4; have B5 : Hid (Below w4.heap.size w4 w5) := (((Below.refl _ _).alloc (Nat.le_refl _) _).trans (r4 _ (Nat.le_refl _))); have k8 : w5.cell? ⟨wb, 8, none⟩ = some (.bool F.2) := ((cell_block (HW4.out.below B5.out).cell).1 8); have l7 : wb < w5.heap.size := (by have := B5.out.size; omega); have V5 : Hid (w5.heap[w.heap.size + 1]? = some zFd) := ((B5.out.block _ l6).trans HZ4.out); have V6 : Hid (w5.heap[w4.heap.size]? = some (.cells (fdA F.1) 29 (0, 0))) := (r1); clear r1 r2 r3 r4) | (refine wpList_load_fd (by rfl) (.tmp 13) (by rfl) w4.heap.size (by rfl) (by exact V6.out) (fdA_size _ HFL.out) ?_) | (refine wpList_store_fd (by rfl) (.tmp 8) (.tmp 45) (by rfl) (w.heap.size + 1) (fdA F.1) (by rfl) (by rfl) (by exact V5.out) (by rfl) (fdA_size _ HFL.out) (fd_all _) ?_; intro w6 r1 r2 r3 r4) | fail)
        refine bodyPost_ret (ret_fd2 rfl (by rfl) r1 (fdA_size _ HFL.out)) rfl ⟨?_, (hB4.trans (B5.out.mono (by omega))).trans (r4 _ (by omega))⟩
        rw [HRR.out]; rfl
    · rw [if_pos (by simpa using hm)]
      clear hcf hen hmf
      go_enter Tryz.func12, Tryz.ntmps12
      go_wp2_with fail
      refine (KC.out _).mono ?_
      rintro e w1 ⟨v1, rfl, q1, hb1⟩
      have HO : Hid (w1.heap[w.heap.size]? = some (.cells #[.int .i64 policy, .int .i64 mask, .int .i64 room, .int .i64 budget] 34 (0, 0))) := (hb1.block _ (by simp; omega)).trans (heap_21 _ _ _)
      have HZ : Hid (w1.heap[w.heap.size + 1]? = some zFd) := (hb1.block _ (by simp)).trans (heap_22 _ _ _)
      have hs1 := hb1.size
      have l1 : w.heap.size + 1 < w1.heap.size := by simp at hs1; omega
      have hB1 : Below w.heap.size w w1 := (((Below.refl _ _).alloc (Nat.le_refl _) _).alloc (by simp) _).trans (hb1.mono (by simp; omega))
      have y1 := (cell_block HO.out).1
      have y10 : w1.cell? ⟨w.heap.size, 0, none⟩ = some (.int .i64 policy) := y1 0
      have y11 : w1.cell? ⟨w.heap.size, 1, none⟩ = some (.int .i64 mask) := y1 1
      have y12 : w1.cell? ⟨w.heap.size, 2, none⟩ = some (.int .i64 room) := y1 2
      have y13 : w1.cell? ⟨w.heap.size, 3, none⟩ = some (.int .i64 budget) := y1 3
      have l2 : w.heap.size < w1.heap.size := by omega
      clear hb1 q1 hs1 y1
      go_wp2_with fail
      refine (KM.out _).mono ?_
      rintro e w2 ⟨rfl, hb2⟩
      have HZ2 : Hid (w2.heap[w.heap.size + 1]? = some zFd) := (hb2.block _ l1).trans HZ.out
      have hB2 : Below w.heap.size w w2 := hB1.trans (hb2.mono (by omega))
      clear HO HZ hb2 hB1 y10 y11 y12 y13
      go_wp2_with (first | (refine wpList_store_fd (by rfl) (.tmp 8) (.tmp 29) (by rfl) (w.heap.size + 1) (fdA Mt.fnd0) (by rfl) (by rfl) (by exact HZ2.out) (by rfl) (by rfl) (fd_all _) ?_; intro w5 r1 r2 r3 r4) | fail)
      refine bodyPost_ret (ret_fd2 rfl (by rfl) r1 (by rfl)) rfl ⟨?_, hB2.trans (r4 _ (by omega))⟩
      rfl
  · rw [if_pos (by simpa using he)]
    clear hcf hen hmf
    go_enter Tryz.func12, Tryz.ntmps12
    go_wp2_with fail
    refine (KC.out _).mono ?_
    rintro e w1 ⟨v1, rfl, q1, hb1⟩
    have HZ : Hid (w1.heap[w.heap.size + 1]? = some zFd) := (hb1.block _ (by simp)).trans (heap_22 _ _ _)
    have hB1 : Below w.heap.size w w1 := (((Below.refl _ _).alloc (Nat.le_refl _) _).alloc (by simp) _).trans (hb1.mono (by simp; omega))
    clear hb1 q1
    go_wp2_with (first | (refine wpList_store_fd (by rfl) (.tmp 8) (.tmp 21) (by rfl) (w.heap.size + 1) (fdA Mt.fnd0) (by rfl) (by rfl) (by exact HZ.out) (by rfl) (by rfl) (fd_all _) ?_; intro w5 r1 r2 r3 r4) | fail)
    refine bodyPost_ret (ret_fd2 rfl (by rfl) r1 (by rfl)) rfl ⟨?_, hB1.trans (r4 _ (by omega))⟩
    rfl
end Go.Proofs.YtebpgfodelggoaaGreat
/- FindAll OF THE REFERENCE, plain; where a match lies; how many steps a search takes. -/
set_option linter.unusedVariables false
namespace Mt

theorem oneP_pos {c : List Ins} {t : ByteArray} {s : Sta} (h : Good c.length t.size s) (x : Ins) (hi : insOk c (pcOf s) x) (ok : (oneP t s x).2 = true) : gt s 1 ≤ gt (oneP t s x).1 1 := by
  have hl := h.len
  have hx6 := hi.2.2.2.2.1
  have key : ∀ (i : Nat) (v : Int), i ≠ 1 → gt (s.set i v) 1 = gt s 1 := fun i v hi => gt_set_ne _ _ _ _ hi
  unfold oneP at ok ⊢
  by_cases o1 : x.op = 1
  · rw [if_pos o1]
    dsimp only
    rw [gt_set_ne _ _ _ _ (by omega), gt_set_same _ _ _ (by omega)]; omega
  rw [if_neg o1] at ok ⊢
  by_cases o3 : x.op = 3
  · rw [if_pos o3]; dsimp only; rw [key _ _ (by omega)]; exact Int.le_refl _
  rw [if_neg o3] at ok ⊢
  by_cases o4 : x.op = 4
  · rw [if_pos o4]; dsimp only; rw [gt_set_ne _ _ _ _ (by omega), gt_set_ne _ _ _ _ (by omega)]; exact Int.le_refl _
  rw [if_neg o4] at ok ⊢
  by_cases o5 : x.op = 5
  · rw [if_pos o5]; dsimp only; rw [key _ _ (by omega)]; exact Int.le_refl _
  rw [if_neg o5] at ok ⊢
  by_cases o6 : x.op = 6
  · rw [if_pos o6]; dsimp only; rw [gt_set_ne _ _ _ _ (by omega), gt_set_ne _ _ _ _ (by omega)]; exact Int.le_refl _
  rw [if_neg o6] at ok ⊢
  by_cases o7 : x.op = 7
  · rw [if_pos o7]; dsimp only; rw [gt_set_ne _ _ _ _ (by omega), gt_set_ne _ _ _ _ (by omega), gt_set_ne _ _ _ _ (by omega)]; exact Int.le_refl _
  rw [if_neg o7] at ok ⊢
  by_cases o8 : x.op = 8
  · rw [if_pos o8] at ok ⊢
    have hk := hx6 (.inr (.inr o8))
    have hpl := h.place x.x.toNat (by omega)
    rw [show 2 * x.x.toNat = (2 * x.x).toNat by omega] at hpl
    rw [show (2 * x.x).toNat + 1 = (2 * x.x + 1).toNat by omega] at hpl
    unfold backP at ok ⊢
    split
    · exact Int.le_refl _
    split
    · exact Int.le_refl _
    · dsimp only
      rw [gt_set_ne _ _ _ _ (by omega), gt_set_same _ _ _ (by omega)]; omega
  rw [if_neg o8] at ok ⊢
  split
  · dsimp only; rw [key _ _ (by omega)]; exact Int.le_refl _
  split
  · dsimp only; rw [key _ _ (by omega)]; exact Int.le_refl _
  · dsimp only; rw [key _ _ (by omega)]; exact Int.le_refl _

/-- A look never goes back in the text. -/
theorem look_pos (E : Env) (hc : codeOk E.c) : ∀ (N n : Nat) (s : Sta) (kn : List Bool) (room : Int), n ≤ N → Good E.c.length E.t.size s → 0 ≤ room ∧ room ≤ 5000 → (look E n s kn room).ok = true → gt s 1 ≤ gt (look E n s kn room).st 1
  | N, 0, s, kn, room, _, h, hr, ok => by rw [look_zero] at ok; cases ok
  | 0, n + 1, s, kn, room, hn, _, _, _ => by omega
  | N + 1, n + 1, s, kn, room, hn, h, hr, ok => by
    have ih : ∀ (n : Nat) (s : Sta) (kn : List Bool) (room : Int), n ≤ N → Good E.c.length E.t.size s → 0 ≤ room ∧ room ≤ 5000 → (look E n s kn room).ok = true → gt s 1 ≤ gt (look E n s kn room).st 1 := look_pos E hc N
    have hgood := fun (m : Nat) (u : Sta) (k : List Bool) (r : Int) (hu : Good E.c.length E.t.size u) (hr' : 0 ≤ r ∧ r ≤ 5000) => look_good E hc m m u k r (Nat.le_refl _) hu hr'
    rw [look_step] at ok ⊢
    have hR := E.room'_in s kn room hr
    have hi := hc (pcOf s) h.pcOf_lt
    have hpc : ((pcOf s : Nat) : Int) = gt s 0 := by have := h.pc0; unfold pcOf; omega
    have hpc0 := h.pc0
    by_cases hd : E.dead s kn = true
    · rw [if_pos hd] at ok; cases ok
    rw [if_neg hd] at ok ⊢
    by_cases h13 : (E.ins s).op = 13 ∨ (E.ins s).op = 12
    · rw [if_pos h13]; exact Int.le_refl _
    rw [if_neg h13] at ok ⊢
    by_cases o2 : (E.ins s).op = 2
    · rw [if_pos o2] at ok ⊢
      have i2 := hi.1 o2
      have g1 := h.at_pc (E.ins s).x i2.1 i2.2.1
      have g2 := h.at_pc (E.ins s).y i2.2.2.1 i2.2.2.2
      have p1 := ih n (s.set 0 (E.ins s).x) (E.kn' s kn room) (E.room' s kn room) (by omega) g1 hR
      have q1 := hgood n (s.set 0 (E.ins s).x) (E.kn' s kn room) (E.room' s kn room) g1 hR
      have n1 := look_n E n (s.set 0 (E.ins s).x) (E.kn' s kn room) (E.room' s kn room)
      dsimp only at ok ⊢
      generalize look E n (s.set 0 (E.ins s).x) (E.kn' s kn room) (E.room' s kn room) = r at *
      rw [gt_set_ne _ _ _ _ (by omega)] at p1
      split at ok
      · rename_i hh; rw [if_pos hh]; exact p1 ok
      · rename_i hh; rw [if_neg hh]
        have := ih r.n (s.set 0 (E.ins s).y) r.kn r.room (by omega) g2 q1.2.2.1 ok
        rw [gt_set_ne _ _ _ _ (by omega)] at this
        exact this
    rw [if_neg o2] at ok ⊢
    by_cases o11 : (E.ins s).op = 11
    · rw [if_pos o11] at ok ⊢
      have i11 := hi.2.2.2.2.2.1 o11
      have hnx : pcOf s + 1 < E.c.length := hi.2.2.2.2.2.2.1 (by show (E.ins s).op ≠ 13; omega)
      have g1 := h.at_pc (gt s 0 + 1) (by omega) (by omega)
      have p1 := ih n (s.set 0 (gt s 0 + 1)) (E.kn' s kn room) (E.room' s kn room) (by omega) g1 hR
      have q1 := hgood n (s.set 0 (gt s 0 + 1)) (E.kn' s kn room) (E.room' s kn room) g1 hR
      have n1 := look_n E n (s.set 0 (gt s 0 + 1)) (E.kn' s kn room) (E.room' s kn room)
      dsimp only at ok ⊢
      generalize look E n (s.set 0 (gt s 0 + 1)) (E.kn' s kn room) (E.room' s kn room) = r at *
      rw [gt_set_ne _ _ _ _ (by omega)] at p1
      split at ok
      · cases ok
      rename_i hov
      rw [if_neg hov]
      split at ok
      · rename_i hk
        rw [if_pos hk]
        have := ih r.n _ r.kn r.room (by omega) (apartP_good h q1.1 (E.ins s) i11.1 i11.2.1 hk) q1.2.2.1 ok
        refine Int.le_trans ?_ this
        unfold apartP at hk ⊢
        by_cases x0 : (E.ins s).x = 0
        · rw [if_pos x0] at hk ⊢
          dsimp only at hk ⊢
          rw [gt_set_ne _ _ _ _ (by omega)]; exact p1 hk
        rw [if_neg x0] at hk ⊢
        by_cases x1 : (E.ins s).x = 1
        · rw [if_pos x1] at hk ⊢
          dsimp only at hk ⊢
          rw [gt_set_ne _ _ _ _ (by omega), gt_withAt s r.st h.len (q1.1 hk).len, if_neg (by omega)]; exact Int.le_refl _
        rw [if_neg x1]
        dsimp only
        rw [gt_set_ne _ _ _ _ (by omega)]; exact Int.le_refl _
      · cases ok
    rw [if_neg o11] at ok ⊢
    split at ok
    · rename_i hk
      rw [if_pos hk]
      have hg := oneP_good hc h o2 o11 (by show (E.ins s).op ≠ 13; omega) hk
      have := ih n _ (E.kn' s kn room) (E.room' s kn room) (by omega) hg hR ok
      exact Int.le_trans (oneP_pos h (E.ins s) hi hk) this
    · cases ok

/-- What a search finds: it lies in the text, from p on; its steps are within the budget. -/
theorem search_in (E : Env) (hc : codeOk E.c) (hc0 : 0 < E.c.length) (budget : Int) : ∀ (f p n : Nat) (kn : List Bool) (room : Int), p + f ≤ E.t.size + 1 → (0 ≤ room ∧ room ≤ 5000) → (n : Int) ≤ budget → (search E budget f p n kn room).2 = false →
    (0 ≤ (search E budget f p n kn room).1.steps ∧ (search E budget f p n kn room).1.steps ≤ budget) ∧ ((search E budget f p n kn room).1.ok = true → ∃ a b : Nat, (search E budget f p n kn room).1.at'.getD 0 0 = (a : Int) ∧ (search E budget f p n kn room).1.at'.getD 1 0 = (b : Int) ∧ p ≤ a ∧ a ≤ b ∧ b ≤ E.t.size)
  | 0, p, n, kn, room, _, _, hn, _ => by
    simp only [search]
    exact ⟨by omega, fun h => by cases h⟩
  | f + 1, p, n, kn, room, hp, hr, hn, ho => by
    have hst := startSt_good E.c.length E.t.size p hc0 (by omega)
    have hg := look_good E hc n n (startSt p) kn room (Nat.le_refl _) hst hr
    have hpos := look_pos E hc n n (startSt p) kn room (Nat.le_refl _) hst hr
    have hln := look_n E n (startSt p) kn room
    rw [search] at ho ⊢
    generalize look E n (startSt p) kn room = r at *
    by_cases hov : r.over = true
    · rw [if_pos hov] at ho; cases ho
    rw [if_neg hov] at ho ⊢
    by_cases hok : r.ok = true
    · rw [if_pos hok]
      have h1 := hpos hok
      have h2 := (hg.1 hok).pos1
      have e1 : gt (startSt p) 1 = p := rfl
      rw [e1] at h1
      refine ⟨by dsimp only; omega, fun _ => ⟨p, (gt r.st 1).toNat, rfl, ?_, Nat.le_refl _, by omega, by omega⟩⟩
      show gt r.st 1 = _
      omega
    · rw [if_neg hok] at ho ⊢
      obtain ⟨h1, h2⟩ := search_in E hc hc0 budget f (p + 1) r.n r.kn r.room (by omega) hg.2.2.1 (by omega) ho
      refine ⟨h1, fun h => ?_⟩
      obtain ⟨a, b, x1, x2, x3, x4, x5⟩ := h2 h
      exact ⟨a, b, x1, x2, by omega, x4, x5⟩

/-- From where the next search begins. -/
def nextFrom (f : Fnd) : Nat := if f.at'.getD 0 0 = f.at'.getD 1 0 then (f.at'.getD 1 0).toNat + 1 else (f.at'.getD 1 0).toNat
/-- Searching again and again: F: fuel. -/
def allFrom (c : List Ins) (text : ByteArray) (policy mask room budget : Int) : Nat → Nat → Int → List Fnd → List Fnd × Int × Int
  | 0, _, used, l => (l, used, 0)
  | F + 1, frm, used, l =>
    if text.size < frm then (l, used, 0)
    else if (searchAll c text policy mask room (budget - used) frm).2 then ([], 0, 14)
    else if (searchAll c text policy mask room (budget - used) frm).1.ok = false then (l, used + (searchAll c text policy mask room (budget - used) frm).1.steps, 0)
    else allFrom c text policy mask room budget F (nextFrom (searchAll c text policy mask room (budget - used) frm).1) (used + (searchAll c text policy mask room (budget - used) frm).1.steps) (l ++ [(searchAll c text policy mask room (budget - used) frm).1])
def findAllR (p text : ByteArray) (policy mask room budget : Int) : List Fnd × Int × Int :=
  if (codeR p).2 ≠ 0 then ([], 0, (codeR p).2)
  else if mayFind text.size 0 policy mask room budget ≠ 0 then ([], 0, mayFind text.size 0 policy mask room budget)
  else allFrom (codeR p).1 text policy mask room budget (text.size + 2) 0 0 []
end Mt
set_option linter.unusedVariables false
set_option linter.unusedSimpArgs false
namespace Go.Proofs.YtebpgfodelggoaaGreat
open Go.RowKit

theorem Tryz.infoF : (Tryz.prog.info? 29).map (fun i => (i.zero, i.size, i.bytes)) = some (some (.agg (fdA Mt.fnd0)), 22, 176) := by kernel_rfl
def fdL (f : Mt.Fnd) : List Value := Value.bool f.ok :: (f.at'.map (Value.int .i64) ++ [Value.int .i64 f.steps])
theorem fdL_len (f : Mt.Fnd) (h : f.at'.length = 20) : (fdL f).length = 22 := by simp [fdL, h]
theorem fdL_one (f : Mt.Fnd) : ∀ u ∈ fdL f, u.oneCell' = true := by
  intro u hu
  simp only [fdL, List.mem_cons, List.mem_append, List.mem_map, List.not_mem_nil, or_false] at hu
  rcases hu with rfl | ⟨x, _, rfl⟩ | rfl <;> rfl
def ownFds (w : World) (base : Nat) (v : Value) (l : List Mt.Fnd) : Prop := w.ownsRow base 29 22 v l.length (l.flatMap fdL)
theorem fdA_get (f : Mt.Fnd) (h : f.at'.length = 20) : (fdA f)[0]? = some (.bool f.ok) ∧ (fdA f)[1]? = some (.int .i64 (f.at'.getD 0 0)) ∧ (fdA f)[2]? = some (.int .i64 (f.at'.getD 1 0)) ∧ (fdA f)[21]? = some (.int .i64 f.steps) := by
  obtain ⟨a0, a1, a2, a3, a4, a5, a6, a7, a8, a9, a10, a11, a12, a13, a14, a15, a16, a17, a18, a19, e⟩ := len20 h
  obtain ⟨ok, l, st⟩ := f
  dsimp only at e
  subst e
  exact ⟨rfl, rfl, rfl, rfl⟩
set_option maxRecDepth 100000 in
theorem fill_fd (f : Mt.Fnd) (h : f.at'.length = 20) : Instr.fill (fun i => some (i * 22, 22)) ((Array.range (1 * 22)).map ((Value.agg (fdA Mt.fnd0)).cells[· % (Value.agg (fdA Mt.fnd0)).cells.size]!)) [(0, .agg (fdA f))] = some (fdA f) := by
  obtain ⟨a0, a1, a2, a3, a4, a5, a6, a7, a8, a9, a10, a11, a12, a13, a14, a15, a16, a17, a18, a19, e⟩ := len20 h
  obtain ⟨ok, l, st⟩ := f
  dsimp only at e
  subst e
  kernel_rfl
theorem wpList_build_fd {ops : Array Oper} {rest : List Oper} {o : Oper} {a : Act} {w : World} {Q : Exit → Act → World → Prop} (hg : o.guard = none) (x : Operand) (ho : o.op = .buildSlice 117 1 #[(0, x)]) (f : Mt.Fnd) (hf : f.at'.length = 20) (hx : a.eval x = .agg (fdA f))
    (h : wpList Tryz.prog ops Q rest (a.put o.dst (.slice (some ⟨w.heap.size, 0, none⟩) 1 1)) (w.alloc (.cells (fdL f).toArray 29))) : wpList Tryz.prog ops Q (o :: rest) a w := by
  obtain ⟨i0, hi, hz0, hz1, hz2⟩ := info_parts Tryz.infoF
  refine wpList_buildSlice hg 117 29 1 _ ho (fdA f) i0 _ Tryz.underlying117 hi hz0 (by rw [hz1]; decide) (by rw [hz1]; decide) ?_ h
  rw [hz1]
  simp only [List.map_toArray, List.map_cons, List.map_nil, hx]
  exact fill_fd f hf
theorem own_fds_snoc {w : World} {base : Nat} {v : Value} {l : List Mt.Fnd} {t : Mt.Fnd} (h : w.ownsRow base 29 22 v (l.length + 1) (l.flatMap fdL ++ fdL t)) : ownFds w base v (l ++ [t]) := by
  unfold ownFds
  rw [List.length_append, List.flatMap_append]
  simpa using h
end Go.Proofs.YtebpgfodelggoaaGreat
