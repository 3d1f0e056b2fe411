import Derived.Test.YtedcboimnmhdaaaGreatC01
import Derived.Laws.IdiomStrings
set_option linter.unusedVariables false
set_option linter.unusedSimpArgs false
namespace Go.Proofs.YtedcboimnmhdaaaGreat
open Go.RowKit

theorem inC_out {p : ByteArray} {k b c : Int} (h : b ≤ k) : Mt.inClass p k b c = false := by rw [Mt.inClass_step, if_pos h]
theorem inC_no {p : ByteArray} {k b c : Int} (h : k < b) (h0 : ((Mt.item p k).2.2.1 == 0) = true) : Mt.inClass p k b c = false := by
  rw [Mt.inClass_step, if_neg (by omega), if_pos (by simpa using h0)]
theorem inC_set {p : ByteArray} {k b c : Int} (h : k < b) (h0 : ((Mt.item p k).2.2.1 == 0) = false) (hs : (Mt.item p k).2.2.2 = true) (hy : Mt.shortB ((Mt.item p k).2.1 == 119) c = true) : Mt.inClass p k b c = true := by
  rw [Mt.inClass_step, if_neg (by omega), if_neg (by simpa using h0), if_pos hs, if_pos (by rw [← hy]; congr 1)]
theorem inC_set_on {p : ByteArray} {k b c : Int} (h : k < b) (h0 : ((Mt.item p k).2.2.1 == 0) = false) (hs : (Mt.item p k).2.2.2 = true) (hy : Mt.shortB ((Mt.item p k).2.1 == 119) c = false) : Mt.inClass p k b c = Mt.inClass p (k + (Mt.item p k).2.2.1) b c := by
  rw [Mt.inClass_step, if_neg (by omega), if_neg (by simpa using h0), if_pos hs, if_neg (by rw [Bool.not_eq_true, ← hy]; congr 1)]
theorem inC_in {p : ByteArray} {k b c : Int} (h : k < b) (h0 : ((Mt.item p k).2.2.1 == 0) = false) (hs : (Mt.item p k).2.2.2 = false) (h1 : decide ((Mt.item p k).1 ≤ c) = true) (h2 : decide (c ≤ (Mt.item p k).2.1) = true) : Mt.inClass p k b c = true := by
  rw [Mt.inClass_step, if_neg (by omega), if_neg (by simpa using h0), if_neg (by simp [hs]), if_pos ⟨by simpa using h1, by simpa using h2⟩]
theorem inC_lo {p : ByteArray} {k b c : Int} (h : k < b) (h0 : ((Mt.item p k).2.2.1 == 0) = false) (hs : (Mt.item p k).2.2.2 = false) (h1 : decide ((Mt.item p k).1 ≤ c) = false) : Mt.inClass p k b c = Mt.inClass p (k + (Mt.item p k).2.2.1) b c := by
  rw [Mt.inClass_step, if_neg (by omega), if_neg (by simpa using h0), if_neg (by simp [hs]), if_neg (by intro x; simp at h1; omega)]
theorem inC_hi {p : ByteArray} {k b c : Int} (h : k < b) (h0 : ((Mt.item p k).2.2.1 == 0) = false) (hs : (Mt.item p k).2.2.2 = false) (h1 : decide (c ≤ (Mt.item p k).2.1) = false) : Mt.inClass p k b c = Mt.inClass p (k + (Mt.item p k).2.2.1) b c := by
  rw [Mt.inClass_step, if_neg (by omega), if_neg (by simpa using h0), if_neg (by simp [hs]), if_neg (by intro x; simp at h1; omega)]

set_option maxHeartbeats 1000000 in
theorem inClass_any (p : ByteArray) (a b c : Int) (w : World) (hp : p.size ≤ 64) (ha0 : 0 ≤ a) (ha1 : a ≤ 200) (hb1 : b ≤ 200) (hc0 : 0 ≤ c) (hc1 : c ≤ 255) :
    Calls Tryz.prog 105 #[.string p, .int .i64 a, .int .i64 b, .int .u8 c] w fun e w' => e = .returned (.bool (Mt.inClass p a b c)) ∧ w = w' := by
  go_enter Tryz.func105, Tryz.ntmps105
  go_wp2_with fail
  go_loop [9] (fun i => ∃ k : Int, a ≤ k ∧ k ≤ 300 ∧ i = .int .i64 k ∧ Mt.inClass p a b c = Mt.inClass p k b c) (fun i => (b - intOf i).toNat)
  case atStart => exact ⟨a, by omega, by omega, rfl, rfl⟩
  case round =>
    obtain ⟨k, hk1, hk2, rfl, hr⟩ := hrel
    have H : Hid (Mt.inClass p a b c = Mt.inClass p k b c) := hr
    clear hr
    have ⟨d1, d2, d3, d4, d5, d6⟩ := Mt.item_bd p k
    by_cases hlt : k < b
    · cases h0 : ((Mt.item p k).2.2.1 == 0)
      · have h1 : 1 ≤ (Mt.item p k).2.2.1 := by have : (Mt.item p k).2.2.1 ≠ 0 := by simpa using h0
                                                omega
        cases hs : (Mt.item p k).2.2.2
        · cases q1 : decide ((Mt.item p k).1 ≤ c)
          · have R : Hid (Mt.inClass p a b c = Mt.inClass p (k + (Mt.item p k).2.2.1) b c) := H.out.trans (inC_lo hlt h0 hs q1)
            go_wp2_with (first | (go_at_call 103; refine (item_any _ _ _ hp (by omega) (by omega)).mono ?_; rintro e w' ⟨rfl, rfl⟩))
            go_round
            case rel => exact ⟨_, by omega, by omega, rfl, R.out⟩
            case measure => simp [intOf]; omega
          · cases q2 : decide (c ≤ (Mt.item p k).2.1)
            · have R : Hid (Mt.inClass p a b c = Mt.inClass p (k + (Mt.item p k).2.2.1) b c) := H.out.trans (inC_hi hlt h0 hs q2)
              go_wp2_with (first | (go_at_call 103; refine (item_any _ _ _ hp (by omega) (by omega)).mono ?_; rintro e w' ⟨rfl, rfl⟩))
              go_round
              case rel => exact ⟨_, by omega, by omega, rfl, R.out⟩
              case measure => simp [intOf]; omega
            · have R : Hid (Mt.inClass p a b c = true) := H.out.trans (inC_in hlt h0 hs q1 q2)
              go_wp2_with (first | (go_at_call 103; refine (item_any _ _ _ hp (by omega) (by omega)).mono ?_; rintro e w' ⟨rfl, rfl⟩))
              go_ret
              exact ⟨ret_bool (by rw [R.out]), rfl⟩
        · cases q1 : Mt.shortB ((Mt.item p k).2.1 == 119) c
          · have R : Hid (Mt.inClass p a b c = Mt.inClass p (k + (Mt.item p k).2.2.1) b c) := H.out.trans (inC_set_on hlt h0 hs q1)
            go_wp2_with (first | (go_at_call 103; refine (item_any _ _ _ hp (by omega) (by omega)).mono ?_; rintro e w' ⟨rfl, rfl⟩) | (go_at_call 129; refine (short_any _ _ _ (by omega) (by omega)).mono ?_; rintro e w' ⟨rfl, rfl⟩))
            go_round
            case rel => exact ⟨_, by omega, by omega, rfl, R.out⟩
            case measure => simp [intOf]; omega
          · have R : Hid (Mt.inClass p a b c = true) := H.out.trans (inC_set hlt h0 hs q1)
            go_wp2_with (first | (go_at_call 103; refine (item_any _ _ _ hp (by omega) (by omega)).mono ?_; rintro e w' ⟨rfl, rfl⟩) | (go_at_call 129; refine (short_any _ _ _ (by omega) (by omega)).mono ?_; rintro e w' ⟨rfl, rfl⟩))
            go_ret
            exact ⟨ret_bool (by rw [R.out]), rfl⟩
      · have R : Hid (Mt.inClass p a b c = false) := H.out.trans (inC_no hlt h0)
        go_wp2_with (first | (go_at_call 103; refine (item_any _ _ _ hp (by omega) (by omega)).mono ?_; rintro e w' ⟨rfl, rfl⟩))
        go_ret
        exact ⟨ret_bool (by rw [R.out]), rfl⟩
    · have R : Hid (Mt.inClass p a b c = false) := H.out.trans (inC_out (by omega))
      go_wp2_with fail
      go_ret
      exact ⟨ret_bool (by rw [R.out]), rfl⟩
end Go.Proofs.YtedcboimnmhdaaaGreat
set_option linter.unusedVariables false
set_option linter.unusedSimpArgs false
namespace Go.Proofs.YtedcboimnmhdaaaGreat
open Go.RowKit

def bcells (l : List UInt8) : List Value := l.map fun b => Value.int .u8 (b.toNat : Int)
theorem bcells_len (l : List UInt8) : (bcells l).length = l.length := by simp [bcells]
theorem allTo_len (p : ByteArray) (a b : Int) (no : Bool) (n : Nat) : (Mt.allTo p a b no n).length ≤ n := by
  unfold Mt.allTo
  rw [List.length_map]
  exact Nat.le_trans (List.length_filter_le _ _) (by simp)
theorem allTo_hit {p : ByteArray} {a b : Int} {no : Bool} {n : Nat} (hn : n < 256) (h : (Mt.inClass p a b (n : Int) != no) = true) : bcells (Mt.allTo p a b no (n + 1)) = bcells (Mt.allTo p a b no n) ++ [.int .u8 (n : Int)] ∧ (Mt.allTo p a b no (n + 1)).length = (Mt.allTo p a b no n).length + 1 := by
  have e : Mt.allTo p a b no (n + 1) = Mt.allTo p a b no n ++ [UInt8.ofNat n] := by
    unfold Mt.allTo
    rw [List.range_succ, List.filter_append, List.map_append]
    congr 1
    rw [List.filter_cons, if_pos h]; rfl
  rw [e]
  refine ⟨?_, by simp⟩
  simp only [bcells, List.map_append, List.map_cons, List.map_nil]
  have : (UInt8.ofNat n).toNat = n := by simp; omega
  rw [this]
theorem allTo_miss {p : ByteArray} {a b : Int} {no : Bool} {n : Nat} (h : (Mt.inClass p a b (n : Int) != no) = false) : Mt.allTo p a b no (n + 1) = Mt.allTo p a b no n := by
  unfold Mt.allTo
  rw [List.range_succ, List.filter_append, List.map_append]
  have : List.filter (fun c : Nat => Mt.inClass p a b (c : Int) != no) [n] = [] := by rw [List.filter_cons, if_neg (by simp [h])]; rfl
  rw [this]; simp

theorem Tryz.info5 : (Tryz.prog.info? 5).map (fun i => (i.zero, i.size, i.bytes)) = some (some (.int .u8 0), 1, 1) := by kernel_rfl

/-- string(l) of a row of bytes that the call owns. -/
theorem conv_owned (w : World) (base : Nat) (v : Value) (l : List UInt8) (h : w.ownsRow base 5 1 v l.length (bcells l)) :
    (convert 158 9 v).run Tryz.prog w = .ok (.string ⟨l.toArray⟩) w := by
  rcases h.2 with ⟨rfl, hn⟩ | ⟨g, cap, cur, rfl, hb, hg, h1, h2, h3, h4⟩
  · have : l = [] := List.length_eq_zero_iff.1 hn
    subst this
    rw [run_convert_bytes_string w _ _ _ none 0 0 Tryz.underlying158 Tryz.underlying5 Tryz.underlying9]; simp [Conv.bytesToString]; rfl
  · refine run_convert_bytes_back w _ _ _ ⟨g, 0, none⟩ cap l Tryz.underlying158 Tryz.underlying5 Tryz.underlying9 ?_
    intro j hj
    have := h.cells (g := g) rfl j (.int .u8 (l[j].toNat : Int)) (by simp [bcells, hj])
    exact this

set_option maxRecDepth 100000 in
set_option maxHeartbeats 1000000 in
theorem all_any (p : ByteArray) (a b : Int) (no : Bool) (w : World) (hp : p.size ≤ 64) (ha0 : 0 ≤ a) (ha1 : a ≤ 200) (hb1 : b ≤ 200) :
    Calls Tryz.prog 78 #[.string p, .int .i64 a, .int .i64 b, .bool no] w fun e w' => e = .returned (.string ⟨(Mt.all p a b no).toArray⟩) ∧ Below w.heap.size w w' := by
  obtain ⟨i0, hi, hz0, hz1, hz2⟩ := info_parts Tryz.info5
  go_enter Tryz.func78, Tryz.ntmps78
  go_wp2_with fail
  go_loopw [9, 10] (fun v i wr => ∃ k : Nat, k ≤ 256 ∧ i = .int .i64 k ∧ wr.ownsRow w.heap.size 5 1 v (Mt.allTo p a b no k).length (bcells (Mt.allTo p a b no k)) ∧ Below w.heap.size w wr) (fun _ i _ => 256 - (intOf i).toNat)
  case atStart => exact ⟨0, by omega, rfl, World.ownsRow_nil _ _ _ _, Below.refl _ _⟩
  case round =>
    obtain ⟨k, hk, rfl, hown, hbel⟩ := hrel
    have hl := allTo_len p a b no k
    have hsz := hbel.size
    by_cases hlt : k < 256
    · cases hq : (!(Mt.inClass p a b (k : Int) == no))
      · have em := allTo_miss hq
        have H1 : Hid (wr.ownsRow w.heap.size 5 1 u9 (Mt.allTo p a b no (k + 1)).length (bcells (Mt.allTo p a b no (k + 1)))) := by rw [em]; exact hown
        clear em
        go_wp2_with (first | (go_at_call 105; refine (inClass_any _ _ _ _ _ hp (by omega) (by omega) (by omega) (by omega) (by omega)).mono ?_; rintro e w' ⟨rfl, rfl⟩))
        go_roundw
        case rel => exact ⟨k + 1, by omega, by go_num, H1.out, hbel⟩
        case measure => simp [intOf]; omega
      · have eh := allTo_hit hlt hq
        have H1 : Hid (bcells (Mt.allTo p a b no (k + 1)) = bcells (Mt.allTo p a b no k) ++ [.int .u8 (k : Int)] ∧ (Mt.allTo p a b no (k + 1)).length = (Mt.allTo p a b no k).length + 1) := eh
        clear eh
        go_wp2_with (first | (go_at_call 105; refine (inClass_any _ _ _ _ _ hp (by omega) (by omega) (by omega) (by omega) (by omega)).mono ?_; rintro e w' ⟨rfl, rfl⟩) | (at_builtin; refine wpList_append_own _ rfl _ _ 158 rfl w.heap.size 5 i0 (.int .u8 0) 1 1 Tryz.underlying158 hi hz0 hz1 hz2 rfl (by decide) _ _ _ rfl (hown.alloc _) ⟨wr.heap.size, 0, none⟩ 1 1 [.int .u8 (k : Int)] rfl rfl ?c1 ?c2 ?c3 ?c4 ?c5 ?_))
        case c1 =>
          intro j u hj
          match j, hj with
          | 0, hj => simp at hj; subst hj; simp [Addr.add]
        case c2 => intro u hu; simp at hu; subst hu; rfl
        case c3 => unfold maxLen; omega
        case c4 => omega
        case c5 => simp; omega
        · intro v' w1 hown' hgrow _
          have R1 : Hid (w1.ownsRow w.heap.size 5 1 v' (Mt.allTo p a b no (k + 1)).length (bcells (Mt.allTo p a b no (k + 1)))) := by
            show w1.ownsRow _ _ _ _ _ _
            rw [H1.out.1, H1.out.2]; exact hown'
          have R2 : Below w.heap.size w w1 := (hbel.alloc hsz _).grown hgrow (by simp; omega) (fun q hq' => (hown.lt q hq').1)
          clear hown' hgrow hown
          go_wp2
          go_roundw
          case rel => exact ⟨k + 1, by omega, by go_num, R1.out, R2⟩
          case measure => simp [intOf]; omega
    · have hk2 : k = 256 := by omega
      subst hk2
      have hcv := conv_owned wr w.heap.size _ _ hown
      go_wp2_with fail
      go_ret
      exact ⟨rfl, hbel⟩
end Go.Proofs.YtedcboimnmhdaaaGreat
