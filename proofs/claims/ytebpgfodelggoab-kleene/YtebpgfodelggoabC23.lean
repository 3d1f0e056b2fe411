import Derived.Test.YtebpgfodelggoabC22
set_option linter.unusedVariables false
set_option linter.unusedSimpArgs false
set_option maxRecDepth 100000
set_option maxHeartbeats 4000000
namespace Go.Proofs.Ytebpgfodelggoab
open Go.RowKit
theorem zero_pd (p:ByteArray) (d:Int):(Try.zeroCells57.setIfInBounds 0 (.string p)).setIfInBounds 1 (.int .i64 d)=shA p d none2:=by rw [zero_p,shA_deep]
theorem shAt_cell {w:World} {g:Nat} {p:ByteArray} {d:Int} {T:Nat→Nat→Bool} (h:shAt w g p d T) {i j:Nat} (hi:i≤10) (hj:j≤10):w.cell? ⟨g,2+i*11+j,none⟩=some (.bool (T i j)):=by
 unfold shAt at h
 rw [(cell_block h).1,shA_get _ _ _ hi hj]
theorem shAt_free {w:World} {g:Nat} {p:ByteArray} {d:Int} {T:Nat→Nat→Bool} (h:shAt w g p d T) (o:Nat):w.frozen? ⟨g,o,none⟩=false:=(cell_block (show w.heap[g]?=_ from h)).2 _
theorem shAt_far {w:World} {g k:Nat} {p:ByteArray} {d:Int} {T:Nat→Nat→Bool} (h:shAt w g p d T) (hk:g≠k) (o:Nat) (v:Value):shAt (w.setCell ⟨k,o,none⟩ v) g p d T:=(Below.heap_setCell w ⟨k,o,none⟩ v g hk).trans h
structure BothAt (w0:World) (m:Nat) (px py P:ByteArray) (dx dy D:Int) (X Y:Nat→Nat→Bool) (a k j:Nat) (wr:World):Prop where
 xb:shAt wr m px dx X
 yb:shAt wr (m+1) py dy Y
 zb:wr.heap[m+2]?=some (.cells Try.zeroCells57 57 (0,0))
 sb:∃ C,shAt wr (m+3) P D C∧(∀ u v,C u v=true→∃ q,u≤q∧q≤v∧X u q=true∧Y q v=true)∧(∀ u q v,u≤q→q≤v→v≤10→(u<a∨(u=a∧(q<k∨(q=k∧v<j))))→X u q=true→Y q v=true→C u v=true)
 below:Below m w0 wr
section
variable {w0 wr:World} {m:Nat} {px py P:ByteArray} {dx dy D:Int} {X Y:Nat→Nat→Bool} {a k j:Nat}
theorem BothAt.to {a' k' j':Nat} (h:BothAt w0 m px py P dx dy D X Y a k j wr) (ht:∀ u q v,u≤q→q≤v→v≤10→(u<a'∨(u=a'∧(q<k'∨(q=k'∧v<j'))))→(u<a∨(u=a∧(q<k∨(q=k∧v<j))))):BothAt w0 m px py P dx dy D X Y a' k' j' wr:=by
 obtain ⟨h1,h2,h3,⟨C,h4,h5,h6⟩,h7⟩:=h
 exact ⟨h1,h2,h3,⟨C,h4,h5,fun u q v g1 g2 g3 g4=>h6 u q v g1 g2 g3 (ht u q v g1 g2 g3 g4)⟩,h7⟩
theorem BothAt.skip (h:BothAt w0 m px py P dx dy D X Y a k j wr) (hn:¬ (X a k=true∧Y k j=true)):BothAt w0 m px py P dx dy D X Y a k (j+1) wr:=by
 obtain ⟨h1,h2,h3,⟨C,h4,h5,h6⟩,h7⟩:=h
 refine ⟨h1,h2,h3,⟨C,h4,h5,fun u q v g1 g2 g3 g4 g5 g6=>?_⟩,h7⟩
 by_cases e:u=a∧q=k∧v=j
 ·obtain ⟨rfl,rfl,rfl⟩:=e
  exact absurd ⟨g5,g6⟩ hn
 ·exact h6 u q v g1 g2 g3 (by omega) g5 g6
theorem BothAt.put (h:BothAt w0 m px py P dx dy D X Y a k j wr) (ha:a≤k) (hk:k≤j) (hj:j≤10) (h1:X a k=true) (h2:Y k j=true):BothAt w0 m px py P dx dy D X Y a k (j+1) (wr.setCell ⟨m+3,2+a*11+j,none⟩ (.bool true)):=by
 obtain ⟨x1,x2,x3,⟨C,x4,x5,x6⟩,x7⟩:=h
 refine ⟨shAt_far x1 (by omega) _ _,shAt_far x2 (by omega) _ _,(Below.heap_setCell _ _ _ _ (by show m+2≠m+3;omega)).trans x3,⟨upd C a j true,shAt_set x4 (by omega) hj _,fun u v g=>?_,fun u q v g1 g2 g3 g4 g5 g6=>?_⟩,x7.setCell (by show m≤m+3;omega) _⟩
 ·unfold upd at g
  by_cases e:u=a∧v=j
  ·obtain ⟨rfl,rfl⟩:=e
   exact ⟨k,ha,hk,h1,h2⟩
  ·rw [if_neg e] at g;exact x5 u v g
 ·unfold upd
  by_cases e:u=a∧v=j
  ·rw [if_pos e]
  ·rw [if_neg e];exact x6 u q v g1 g2 g3 (by omega) g5 g6
end
theorem both_any (px py:ByteArray) (dx dy:Int) (X Y:Nat→Nat→Bool) (w:World) (hp:px.size≤1000) (hq:py.size≤1000) :
  Calls Try.prog 37 #[.agg (shA px dx X),.agg (shA py dy Y)] w fun e w'=>(∃ C,e=.returned (.agg (shA (px++py) (max dx dy) C))∧∀ u v,u≤10→v≤10→(C u v=true↔∃ q,u≤q∧q≤v∧X u q=true∧Y q v=true))∧Below w.heap.size w w':=by
 have zs:((Try.zeroCells57.setIfInBounds 0 (.string (px++py))).setIfInBounds 1 (.int .i64 dx)).size=123:=by rw [zero_pd,shA_size]
 have za:((Try.zeroCells57.setIfInBounds 0 (.string (px++py))).setIfInBounds 1 (.int .i64 dx)).all (·.oneCell')=true:=by rw [zero_pd];exact shA_all _ _ _
 have zp:=zero_pd (px++py) dx
 go_enter Try.func37,Try.ntmps37
 go_upto_region 1 with fail
 obtain ⟨z,hz⟩:∃ z,z=((w.alloc (.cells (shA px dx X) 57)).alloc (.cells (shA py dy Y) 57)).alloc (.cells Try.zeroCells57 57):=⟨_,rfl⟩
 have q1:shAt z w.heap.size px dx X:=by
  unfold shAt;rw [hz,heap_old _ _ _ (by simp;omega)];exact heap_b2 _ _ _
 have q2:shAt z (w.heap.size+1) py dy Y:=by
  unfold shAt;rw [hz,heap_old _ _ _ (by simp)];exact heap_b3 _ _ _
 have q3:z.heap[w.heap.size+2]?=some (.cells Try.zeroCells57 57 (0,0)):=by
  rw [hz]
  have:=heap_b1 ((w.alloc (.cells (shA px dx X) 57)).alloc (.cells (shA py dy Y) 57)) (.cells Try.zeroCells57 57)
  simpa using this
 have B1:Below w.heap.size w z:=by rw [hz];exact (((Below.refl _ _).alloc (Nat.le_refl _) _).alloc (by simp) _).alloc (by simp;omega) _
 have sz:z.heap.size=w.heap.size+3:=by rw [hz];simp
 rw [← hz]
 clear hz
 have c0:z.cell? ⟨w.heap.size,0,none⟩=some (.string px):=((cell_block q1).1 _).trans (shA_p _ _ _)
 have c1:z.cell? ⟨w.heap.size,1,none⟩=some (.int .i64 dx):=((cell_block q1).1 _).trans (shA_d _ _ _)
 have c2:z.cell? ⟨w.heap.size+1,0,none⟩=some (.string py):=((cell_block q2).1 _).trans (shA_p _ _ _)
 have HQ1:Hid (shAt z w.heap.size px dx X):=q1
 have HQ2:Hid (shAt z (w.heap.size+1) py dy Y):=q2
 have HQ3:Hid (z.heap[w.heap.size+2]?=some (.cells Try.zeroCells57 57 (0,0))):=q3
 have HB1:Hid (Below w.heap.size w z):=B1
 clear q1 q2 q3 B1
 generalize hm:w.heap.size=m at *
 go_upto_region 2 with (refine store_blk 57 123 Try.sizeSh (by rfl) (.tmp 5) (.tmp 16) (by rfl) (m+3) ((Try.zeroCells57.setIfInBounds 0 (.string (px++py))).setIfInBounds 1 (.int .i64 dx)) (by rfl) (by rfl) (by have hx:=heap_b1 z (.cells Try.zeroCells57 57);rw [sz] at hx;exact hx) zero_size zs za ?_;intro w2 s1 s2 s3 s4)
 rw [zp] at s1
 have h2:shAt w2 m px dx X∧shAt w2 (m+1) py dy Y∧w2.heap[m+2]?=some (.cells Try.zeroCells57 57 (0,0))∧Below m w w2 :=
  ⟨(s2 _ (by omega)).trans ((heap_old _ _ _ (by rw [sz];omega)).trans HQ1.out),(s2 _ (by omega)).trans ((heap_old _ _ _ (by rw [sz];omega)).trans HQ2.out),(s2 _ (by omega)).trans ((heap_old _ _ _ (by rw [sz];omega)).trans HQ3.out),HB1.out.trans (((Below.refl _ _).alloc (by rw [sz];omega) _).trans (s4 _ (by omega)))⟩
 have S0:shAt w2 (m+3) (px++py) dx none2:=s1
 clear s1 s2 s3 s4 HQ1 HQ2 HQ3 HB1 zs za zp c0 c1 c2 sz
 have c1:w2.cell? ⟨m,1,none⟩=some (.int .i64 dx):=((cell_block h2.1).1 _).trans (shA_d _ _ _)
 have c2:w2.cell? ⟨m+1,1,none⟩=some (.int .i64 dy):=((cell_block h2.2.1).1 _).trans (shA_d _ _ _)
 have c3:w2.cell? ⟨m+3,1,none⟩=some (.int .i64 dx):=((cell_block S0).1 _).trans (shA_d _ _ _)
 have c4:=shAt_free S0 1
 have none_ok:∀ u v:Nat,none2 u v=true→∃ q,u≤q∧q≤v∧X u q=true∧Y q v=true:=fun u v h=>by simp [none2] at h
 have HA:Hid (BothAt w m px py (px++py) dx dy dx X Y 0 0 0 w2):=⟨h2.1,h2.2.1,h2.2.2.1,⟨none2,S0,none_ok,fun u q v _ _ _ g=>by omega⟩,h2.2.2.2⟩
 have HB:Hid (BothAt w m px py (px++py) dx dy dy X Y 0 0 0 (w2.setCell ⟨m+3,1,none⟩ (.int .i64 dy))):=by
  refine ⟨shAt_far h2.1 (by omega) _ _,shAt_far h2.2.1 (by omega) _ _,(Below.heap_setCell _ _ _ _ (by show m+2≠m+3;omega)).trans h2.2.2.1,⟨none2,?_,none_ok,fun u q v _ _ _ g=>by omega⟩,h2.2.2.2.setCell (by show m≤m+3;omega) _⟩
  have:=Go.heap_setCell_same w2 (m+3) 1 _ _ (.int .i64 dy) S0
  unfold shAt
  rw [shA_deep] at this
  exact this
 clear h2 S0 none_ok
 generalize hP:px++py=P at *
 by_cases hd:dx<dy
 ·have dd:decide (dx<dy)=true:=by rw [decide_eq_true_eq];exact hd
  have hD:max dx dy=dy:=by omega
  have H3:Hid (BothAt w m px py P dx dy dy X Y 0 0 0 (w2.setCell ⟨m+3,1,none⟩ (.int .i64 dy))):=HB
  clear HA HB
  go_upto_region 4 with fail
  generalize w2.setCell ⟨m+3,1,none⟩ (.int .i64 dy)=w4 at *
  clear c1 c2 c3 c4
  go_wp2_with fail
  go_loopw [6] (fun i wr=>∃ a:Nat,a≤11∧i=.int .i64 a∧Hid (BothAt w m px py P dx dy dy X Y a 0 0 wr)) (fun i _=>11-(intOf i).toNat)
  case atStart=>exact ⟨0,by omega,rfl,H3⟩
  case round =>
   obtain ⟨a,ha,rfl,HI⟩:=hrel
   by_cases ha':a≤10
   ·have d1:decide ((a:Int)≤10)=true:=by rw [decide_eq_true_eq];omega
    go_wp2_with fail
    go_loopw [7] (fun i wr=>∃ k:Nat,a≤k∧k≤11∧i=.int .i64 k∧Hid (BothAt w m px py P dx dy dy X Y a k 0 wr)) (fun i _=>11-(intOf i).toNat)
    case atStart=>exact ⟨a,by omega,by omega,rfl,HI.out.to (by omega)⟩
    case round =>
     obtain ⟨k,hk,hk2,rfl,HJ⟩:=hrel
     by_cases hk':k≤10
     ·have d2:decide ((k:Int)≤10)=true:=by rw [decide_eq_true_eq];omega
      go_wp2_with fail
      go_loopw [8] (fun i wr=>∃ j:Nat,k≤j∧j≤11∧i=.int .i64 j∧Hid (BothAt w m px py P dx dy dy X Y a k j wr)) (fun i _=>11-(intOf i).toNat)
      case atStart=>exact ⟨k,by omega,by omega,rfl,HJ.out.to (by omega)⟩
      case round =>
       obtain ⟨j,hj,hj2,rfl,HK⟩:=hrel
       by_cases hj':j≤10
       ·have d3:decide ((j:Int)≤10)=true:=by rw [decide_eq_true_eq];omega
        have e1:(a:Int)<11:=by omega
        have e2:(k:Int)<11:=by omega
        have e3:(j:Int)<11:=by omega
        have x1:=shAt_cell HK.out.xb ha' hk'
        have x2:=shAt_cell HK.out.yb hk' hj'
        obtain ⟨C,hC,_⟩:=HK.out.sb
        have x3:=shAt_cell hC ha' hj'
        have x4:=shAt_free hC (2+a*11+j)
        clear hC
        have HSk:Hid (¬ (X a k=true∧Y k j=true)→BothAt w m px py P dx dy dy X Y a k (j+1) wr):=fun h=>HK.out.skip h
        have HPt:Hid (X a k=true→Y k j=true→BothAt w m px py P dx dy dy X Y a k (j+1) (wr.setCell ⟨m+3,2+a*11+j,none⟩ (.bool true))):=fun h1 h2=>HK.out.put hk hj hj' h1 h2
        clear HK
        generalize X a k=b1 at *
        generalize Y k j=b2 at *
        generalize C a j=b3 at *
        cases b1
        ·have HN:=HSk.out (by simp)
         have HN2:Hid _:=HN
         clear HN HSk HPt
         go_wp2_with fail
         go_roundw
         case rel=>exact ⟨j+1,by omega,by omega,by go_num,HN2⟩
         case measure=>simp [intOf];omega
        ·cases b2
         ·have HN:=HSk.out (by simp)
          have HN2:Hid _:=HN
          clear HN HSk HPt
          go_wp2_with fail
          go_roundw
          case rel=>exact ⟨j+1,by omega,by omega,by go_num,HN2⟩
          case measure=>simp [intOf];omega
         ·have HN:=HPt.out rfl rfl
          have HN2:Hid _:=HN
          clear HN HSk HPt
          go_wp2_with fail
          go_roundw
          case rel=>exact ⟨j+1,by omega,by omega,by go_num,HN2⟩
          case measure=>simp [intOf];omega
       ·have d3:decide ((j:Int)≤10)=false:=by rw [decide_eq_false_iff_not];omega
        go_wp2_with fail
        go_roundw
        case rel=>exact ⟨k+1,by omega,by omega,by go_num,HK.out.to (by omega)⟩
        case measure=>simp [intOf];omega
     ·have d2:decide ((k:Int)≤10)=false:=by rw [decide_eq_false_iff_not];omega
      go_wp2_with fail
      go_roundw
      case rel=>exact ⟨a+1,by omega,by go_num,HJ.out.to (by omega)⟩
      case measure=>simp [intOf];omega
   ·have d1:decide ((a:Int)≤10)=false:=by rw [decide_eq_false_iff_not];omega
    obtain ⟨C,hC,hC1,hC2⟩:=HI.out.sb
    have HS:Hid (shAt wr (m+3) P dy C):=hC
    have HC1:Hid _:=hC1
    have HC2:Hid _:=hC2
    clear hC hC1 hC2
    go_wp2_with (first | (refine load_blk 57 123 Try.underlying57 rfl Try.sizeSh (by rfl) (.tmp 5) (by rfl) (m+3) (by rfl) HS.out (shA_size _ _ _) ?_) | (refine store_blk 57 123 Try.sizeSh (by rfl) (.tmp 4) (.tmp 58) (by rfl) (m+2) (shA P dy C) (by rfl) (by rfl) HI.out.zb zero_size (shA_size _ _ _) (shA_all _ _ _) ?_;intro w3 r1 r2 r3 r4))
    refine bodyPost_ret (ret_blk1 57 123 Try.underlying57 rfl Try.sizeSh rfl (by rfl) r1 (shA_size _ _ _)) rfl ⟨⟨C,by first | rfl | (rw [hP];rfl) | (rw [hP,hD]),fun u v hu hv=>⟨HC1.out u v,fun ⟨q,g1,g2,g3,g4⟩=>HC2.out u q v g1 g2 hv (.inl (by omega)) g3 g4⟩⟩,?_⟩
    first
     | exact HI.out.below.trans (r4 _ (by omega))
     | (rw [hm];exact HI.out.below.trans (r4 _ (by omega)))
 ·have dd:decide (dx<dy)=false:=by rw [decide_eq_false_iff_not];exact hd
  have hD:max dx dy=dx:=by omega
  have H3:Hid (BothAt w m px py P dx dy dx X Y 0 0 0 w2):=HA
  clear HA HB
  go_upto_region 4 with fail
  clear c1 c2 c3 c4
  go_wp2_with fail
  go_loopw [6] (fun i wr=>∃ a:Nat,a≤11∧i=.int .i64 a∧Hid (BothAt w m px py P dx dy dx X Y a 0 0 wr)) (fun i _=>11-(intOf i).toNat)
  case atStart=>exact ⟨0,by omega,rfl,H3⟩
  case round =>
   obtain ⟨a,ha,rfl,HI⟩:=hrel
   by_cases ha':a≤10
   ·have d1:decide ((a:Int)≤10)=true:=by rw [decide_eq_true_eq];omega
    go_wp2_with fail
    go_loopw [7] (fun i wr=>∃ k:Nat,a≤k∧k≤11∧i=.int .i64 k∧Hid (BothAt w m px py P dx dy dx X Y a k 0 wr)) (fun i _=>11-(intOf i).toNat)
    case atStart=>exact ⟨a,by omega,by omega,rfl,HI.out.to (by omega)⟩
    case round =>
     obtain ⟨k,hk,hk2,rfl,HJ⟩:=hrel
     by_cases hk':k≤10
     ·have d2:decide ((k:Int)≤10)=true:=by rw [decide_eq_true_eq];omega
      go_wp2_with fail
      go_loopw [8] (fun i wr=>∃ j:Nat,k≤j∧j≤11∧i=.int .i64 j∧Hid (BothAt w m px py P dx dy dx X Y a k j wr)) (fun i _=>11-(intOf i).toNat)
      case atStart=>exact ⟨k,by omega,by omega,rfl,HJ.out.to (by omega)⟩
      case round =>
       obtain ⟨j,hj,hj2,rfl,HK⟩:=hrel
       by_cases hj':j≤10
       ·have d3:decide ((j:Int)≤10)=true:=by rw [decide_eq_true_eq];omega
        have e1:(a:Int)<11:=by omega
        have e2:(k:Int)<11:=by omega
        have e3:(j:Int)<11:=by omega
        have x1:=shAt_cell HK.out.xb ha' hk'
        have x2:=shAt_cell HK.out.yb hk' hj'
        obtain ⟨C,hC,_⟩:=HK.out.sb
        have x3:=shAt_cell hC ha' hj'
        have x4:=shAt_free hC (2+a*11+j)
        clear hC
        have HSk:Hid (¬ (X a k=true∧Y k j=true)→BothAt w m px py P dx dy dx X Y a k (j+1) wr):=fun h=>HK.out.skip h
        have HPt:Hid (X a k=true→Y k j=true→BothAt w m px py P dx dy dx X Y a k (j+1) (wr.setCell ⟨m+3,2+a*11+j,none⟩ (.bool true))):=fun h1 h2=>HK.out.put hk hj hj' h1 h2
        clear HK
        generalize X a k=b1 at *
        generalize Y k j=b2 at *
        generalize C a j=b3 at *
        cases b1
        ·have HN:=HSk.out (by simp)
         have HN2:Hid _:=HN
         clear HN HSk HPt
         go_wp2_with fail
         go_roundw
         case rel=>exact ⟨j+1,by omega,by omega,by go_num,HN2⟩
         case measure=>simp [intOf];omega
        ·cases b2
         ·have HN:=HSk.out (by simp)
          have HN2:Hid _:=HN
          clear HN HSk HPt
          go_wp2_with fail
          go_roundw
          case rel=>exact ⟨j+1,by omega,by omega,by go_num,HN2⟩
          case measure=>simp [intOf];omega
         ·have HN:=HPt.out rfl rfl
          have HN2:Hid _:=HN
          clear HN HSk HPt
          go_wp2_with fail
          go_roundw
          case rel=>exact ⟨j+1,by omega,by omega,by go_num,HN2⟩
          case measure=>simp [intOf];omega
       ·have d3:decide ((j:Int)≤10)=false:=by rw [decide_eq_false_iff_not];omega
        go_wp2_with fail
        go_roundw
        case rel=>exact ⟨k+1,by omega,by omega,by go_num,HK.out.to (by omega)⟩
        case measure=>simp [intOf];omega
     ·have d2:decide ((k:Int)≤10)=false:=by rw [decide_eq_false_iff_not];omega
      go_wp2_with fail
      go_roundw
      case rel=>exact ⟨a+1,by omega,by go_num,HJ.out.to (by omega)⟩
      case measure=>simp [intOf];omega
   ·have d1:decide ((a:Int)≤10)=false:=by rw [decide_eq_false_iff_not];omega
    obtain ⟨C,hC,hC1,hC2⟩:=HI.out.sb
    have HS:Hid (shAt wr (m+3) P dx C):=hC
    have HC1:Hid _:=hC1
    have HC2:Hid _:=hC2
    clear hC hC1 hC2
    go_wp2_with (first | (refine load_blk 57 123 Try.underlying57 rfl Try.sizeSh (by rfl) (.tmp 5) (by rfl) (m+3) (by rfl) HS.out (shA_size _ _ _) ?_) | (refine store_blk 57 123 Try.sizeSh (by rfl) (.tmp 4) (.tmp 58) (by rfl) (m+2) (shA P dx C) (by rfl) (by rfl) HI.out.zb zero_size (shA_size _ _ _) (shA_all _ _ _) ?_;intro w3 r1 r2 r3 r4))
    refine bodyPost_ret (ret_blk1 57 123 Try.underlying57 rfl Try.sizeSh rfl (by rfl) r1 (shA_size _ _ _)) rfl ⟨⟨C,by first | rfl | (rw [hP];rfl) | (rw [hP,hD]),fun u v hu hv=>⟨HC1.out u v,fun ⟨q,g1,g2,g3,g4⟩=>HC2.out u q v g1 g2 hv (.inl (by omega)) g3 g4⟩⟩,?_⟩
    first
     | exact HI.out.below.trans (r4 _ (by omega))
     | (rw [hm];exact HI.out.below.trans (r4 _ (by omega)))
structure EithAt (w0:World) (m:Nat) (px py P:ByteArray) (dx dy D:Int) (X Y:Nat→Nat→Bool) (a j:Nat) (wr:World):Prop where
 xb:shAt wr m px dx X
 yb:shAt wr (m+1) py dy Y
 zb:wr.heap[m+2]?=some (.cells Try.zeroCells57 57 (0,0))
 sb:∃ C,shAt wr (m+3) P D C∧(∀ u v,C u v=true→u≤v∧(X u v=true∨Y u v=true))∧(∀ u v,u≤v→v≤10→(u<a∨(u=a∧v<j))→(X u v=true∨Y u v=true)→C u v=true)
 below:Below m w0 wr
section
variable {w0 wr:World} {m:Nat} {px py P:ByteArray} {dx dy D:Int} {X Y:Nat→Nat→Bool} {a j:Nat}
theorem EithAt.to {a' j':Nat} (h:EithAt w0 m px py P dx dy D X Y a j wr) (ht:∀ u v,u≤v→v≤10→(u<a'∨(u=a'∧v<j'))→(u<a∨(u=a∧v<j))):EithAt w0 m px py P dx dy D X Y a' j' wr:=by
 obtain ⟨h1,h2,h3,⟨C,h4,h5,h6⟩,h7⟩:=h
 exact ⟨h1,h2,h3,⟨C,h4,h5,fun u v g1 g2 g3=>h6 u v g1 g2 (ht u v g1 g2 g3)⟩,h7⟩
theorem EithAt.put (h:EithAt w0 m px py P dx dy D X Y a j wr) (ha:a≤j) (hj:j≤10):EithAt w0 m px py P dx dy D X Y a (j+1) (wr.setCell ⟨m+3,2+a*11+j,none⟩ (.bool (X a j||Y a j))):=by
 obtain ⟨x1,x2,x3,⟨C,x4,x5,x6⟩,x7⟩:=h
 refine ⟨shAt_far x1 (by omega) _ _,shAt_far x2 (by omega) _ _,(Below.heap_setCell _ _ _ _ (by show m+2≠m+3;omega)).trans x3,⟨upd C a j (X a j||Y a j),shAt_set x4 (by omega) hj _,fun u v g=>?_,fun u v g1 g2 g3 g4=>?_⟩,x7.setCell (by show m≤m+3;omega) _⟩
 ·unfold upd at g
  by_cases e:u=a∧v=j
  ·obtain ⟨rfl,rfl⟩:=e
   rw [if_pos ⟨rfl,rfl⟩] at g
   exact ⟨ha,by simpa using g⟩
  ·rw [if_neg e] at g;exact x5 u v g
 ·unfold upd
  by_cases e:u=a∧v=j
  ·obtain ⟨rfl,rfl⟩:=e
   rw [if_pos ⟨rfl,rfl⟩];simpa using g4
  ·rw [if_neg e];exact x6 u v g1 g2 (by omega) g4
end
theorem either_any (px py:ByteArray) (dx dy:Int) (X Y:Nat→Nat→Bool) (w:World) (hp:px.size≤1000) (hq:py.size≤1000) (hdx:0≤dx∧dx≤1000) (hdy:0≤dy∧dy≤1000) :
  Calls Try.prog 38 #[.agg (shA px dx X),.agg (shA py dy Y)] w fun e w'=>(∃ C,e=.returned (.agg (shA (((((⟨#[40,63,58]⟩:ByteArray)++px)++⟨#[124]⟩)++py)++⟨#[41]⟩) (max dx dy+1) C))∧∀ u v,u≤10→v≤10→(C u v=true↔u≤v∧(X u v=true∨Y u v=true)))∧Below w.heap.size w w':=by
 have zs:((Try.zeroCells57.setIfInBounds 0 (.string (((((⟨#[40,63,58]⟩:ByteArray)++px)++⟨#[124]⟩)++py)++⟨#[41]⟩))).setIfInBounds 1 (.int .i64 (dx+1))).size=123:=by rw [zero_pd,shA_size]
 have za:((Try.zeroCells57.setIfInBounds 0 (.string (((((⟨#[40,63,58]⟩:ByteArray)++px)++⟨#[124]⟩)++py)++⟨#[41]⟩))).setIfInBounds 1 (.int .i64 (dx+1))).all (·.oneCell')=true:=by rw [zero_pd];exact shA_all _ _ _
 have zp:=zero_pd (((((⟨#[40,63,58]⟩:ByteArray)++px)++⟨#[124]⟩)++py)++⟨#[41]⟩) (dx+1)
 go_enter Try.func38,Try.ntmps38
 go_upto_region 1 with fail
 obtain ⟨z,hz⟩:∃ z,z=((w.alloc (.cells (shA px dx X) 57)).alloc (.cells (shA py dy Y) 57)).alloc (.cells Try.zeroCells57 57):=⟨_,rfl⟩
 have q1:shAt z w.heap.size px dx X:=by
  unfold shAt;rw [hz,heap_old _ _ _ (by simp;omega)];exact heap_b2 _ _ _
 have q2:shAt z (w.heap.size+1) py dy Y:=by
  unfold shAt;rw [hz,heap_old _ _ _ (by simp)];exact heap_b3 _ _ _
 have q3:z.heap[w.heap.size+2]?=some (.cells Try.zeroCells57 57 (0,0)):=by
  rw [hz]
  have:=heap_b1 ((w.alloc (.cells (shA px dx X) 57)).alloc (.cells (shA py dy Y) 57)) (.cells Try.zeroCells57 57)
  simpa using this
 have B1:Below w.heap.size w z:=by rw [hz];exact (((Below.refl _ _).alloc (Nat.le_refl _) _).alloc (by simp) _).alloc (by simp;omega) _
 have sz:z.heap.size=w.heap.size+3:=by rw [hz];simp
 rw [← hz]
 clear hz
 have c0:z.cell? ⟨w.heap.size,0,none⟩=some (.string px):=((cell_block q1).1 _).trans (shA_p _ _ _)
 have c1:z.cell? ⟨w.heap.size,1,none⟩=some (.int .i64 dx):=((cell_block q1).1 _).trans (shA_d _ _ _)
 have c2:z.cell? ⟨w.heap.size+1,0,none⟩=some (.string py):=((cell_block q2).1 _).trans (shA_p _ _ _)
 have HQ1:Hid (shAt z w.heap.size px dx X):=q1
 have HQ2:Hid (shAt z (w.heap.size+1) py dy Y):=q2
 have HQ3:Hid (z.heap[w.heap.size+2]?=some (.cells Try.zeroCells57 57 (0,0))):=q3
 have HB1:Hid (Below w.heap.size w z):=B1
 clear q1 q2 q3 B1
 generalize hm:w.heap.size=m at *
 go_upto_region 2 with (refine store_blk 57 123 Try.sizeSh (by rfl) (.tmp 5) (.tmp 19) (by rfl) (m+3) ((Try.zeroCells57.setIfInBounds 0 (.string (((((⟨#[40,63,58]⟩:ByteArray)++px)++⟨#[124]⟩)++py)++⟨#[41]⟩))).setIfInBounds 1 (.int .i64 (dx+1))) (by rfl) (by rfl) (by have hx:=heap_b1 z (.cells Try.zeroCells57 57);rw [sz] at hx;exact hx) zero_size zs za ?_;intro w2 s1 s2 s3 s4)
 rw [zp] at s1
 have h2:shAt w2 m px dx X∧shAt w2 (m+1) py dy Y∧w2.heap[m+2]?=some (.cells Try.zeroCells57 57 (0,0))∧Below m w w2 :=
  ⟨(s2 _ (by omega)).trans ((heap_old _ _ _ (by rw [sz];omega)).trans HQ1.out),(s2 _ (by omega)).trans ((heap_old _ _ _ (by rw [sz];omega)).trans HQ2.out),(s2 _ (by omega)).trans ((heap_old _ _ _ (by rw [sz];omega)).trans HQ3.out),HB1.out.trans (((Below.refl _ _).alloc (by rw [sz];omega) _).trans (s4 _ (by omega)))⟩
 have S0:shAt w2 (m+3) (((((⟨#[40,63,58]⟩:ByteArray)++px)++⟨#[124]⟩)++py)++⟨#[41]⟩) (dx+1) none2:=s1
 clear s1 s2 s3 s4 HQ1 HQ2 HQ3 HB1 zs za zp c0 c1 c2 sz
 have c1:w2.cell? ⟨m,1,none⟩=some (.int .i64 dx):=((cell_block h2.1).1 _).trans (shA_d _ _ _)
 have c2:w2.cell? ⟨m+1,1,none⟩=some (.int .i64 dy):=((cell_block h2.2.1).1 _).trans (shA_d _ _ _)
 have c3:w2.cell? ⟨m+3,1,none⟩=some (.int .i64 (dx+1)):=((cell_block S0).1 _).trans (shA_d _ _ _)
 have c4:=shAt_free S0 1
 have none_ok:∀ u v:Nat,none2 u v=true→u≤v∧(X u v=true∨Y u v=true):=fun u v h=>by simp [none2] at h
 have HA:Hid (EithAt w m px py (((((⟨#[40,63,58]⟩:ByteArray)++px)++⟨#[124]⟩)++py)++⟨#[41]⟩) dx dy (dx+1) X Y 0 0 w2):=⟨h2.1,h2.2.1,h2.2.2.1,⟨none2,S0,none_ok,fun u v _ _ g=>by omega⟩,h2.2.2.2⟩
 have HB:Hid (EithAt w m px py (((((⟨#[40,63,58]⟩:ByteArray)++px)++⟨#[124]⟩)++py)++⟨#[41]⟩) dx dy (dy+1) X Y 0 0 (w2.setCell ⟨m+3,1,none⟩ (.int .i64 (dy+1)))):=by
  refine ⟨shAt_far h2.1 (by omega) _ _,shAt_far h2.2.1 (by omega) _ _,(Below.heap_setCell _ _ _ _ (by show m+2≠m+3;omega)).trans h2.2.2.1,⟨none2,?_,none_ok,fun u v _ _ g=>by omega⟩,h2.2.2.2.setCell (by show m≤m+3;omega) _⟩
  have:=Go.heap_setCell_same w2 (m+3) 1 _ _ (.int .i64 (dy+1)) S0
  unfold shAt
  rw [shA_deep] at this
  exact this
 clear h2 S0 none_ok
 generalize hP:((((⟨#[40,63,58]⟩:ByteArray)++px)++⟨#[124]⟩)++py)++⟨#[41]⟩=P at *
 by_cases hd:dx<dy
 ·have dd:decide (dx<dy)=true:=by rw [decide_eq_true_eq];exact hd
  have hD:max dx dy=dy:=by omega
  have H3:Hid (EithAt w m px py P dx dy (dy+1) X Y 0 0 (w2.setCell ⟨m+3,1,none⟩ (.int .i64 (dy+1)))):=HB
  clear HA HB
  go_upto_region 4 with fail
  generalize w2.setCell ⟨m+3,1,none⟩ (.int .i64 (dy+1))=w4 at *
  clear c1 c2 c3 c4
  go_wp2_with fail
  go_loopw [6] (fun i wr=>∃ a:Nat,a≤11∧i=.int .i64 a∧Hid (EithAt w m px py P dx dy (dy+1) X Y a 0 wr)) (fun i _=>11-(intOf i).toNat)
  case atStart=>exact ⟨0,by omega,rfl,H3⟩
  case round =>
   obtain ⟨a,ha,rfl,HI⟩:=hrel
   by_cases ha':a≤10
   ·have d1:decide ((a:Int)≤10)=true:=by rw [decide_eq_true_eq];omega
    go_wp2_with fail
    go_loopw [7] (fun i wr=>∃ j:Nat,a≤j∧j≤11∧i=.int .i64 j∧Hid (EithAt w m px py P dx dy (dy+1) X Y a j wr)) (fun i _=>11-(intOf i).toNat)
    case atStart=>exact ⟨a,by omega,by omega,rfl,HI.out.to (by omega)⟩
    case round =>
     obtain ⟨j,hj,hj2,rfl,HK⟩:=hrel
     by_cases hj':j≤10
     ·have d3:decide ((j:Int)≤10)=true:=by rw [decide_eq_true_eq];omega
      have e1:(a:Int)<11:=by omega
      have e3:(j:Int)<11:=by omega
      have x1:=shAt_cell HK.out.xb ha' hj'
      have x2:=shAt_cell HK.out.yb ha' hj'
      obtain ⟨C,hC,_⟩:=HK.out.sb
      have x3:=shAt_cell hC ha' hj'
      have x4:=shAt_free hC (2+a*11+j)
      clear hC
      have HPt:Hid (EithAt w m px py P dx dy (dy+1) X Y a (j+1) (wr.setCell ⟨m+3,2+a*11+j,none⟩ (.bool (X a j||Y a j)))):=HK.out.put hj hj'
      clear HK
      generalize X a j=b1 at *
      generalize Y a j=b2 at *
      generalize C a j=b3 at *
      cases b1
      ·cases b2
       all_goals
        go_upto_region 10 with fail
        go_region
        go_wp2_with fail
        go_roundw
        case rel=>exact ⟨j+1,by omega,by omega,by go_num,⟨HPt.out.xb,HPt.out.yb,HPt.out.zb,HPt.out.sb,HPt.out.below.trans (Below.refl _ _).drew⟩⟩
        case measure=>simp [intOf];omega
      ·go_upto_region 10 with fail
       go_region
       go_wp2_with fail
       go_roundw
       case rel=>exact ⟨j+1,by omega,by omega,by go_num,⟨HPt.out.xb,HPt.out.yb,HPt.out.zb,HPt.out.sb,HPt.out.below.trans (Below.refl _ _).drew⟩⟩
       case measure=>simp [intOf];omega
     ·have d3:decide ((j:Int)≤10)=false:=by rw [decide_eq_false_iff_not];omega
      go_wp2_with fail
      go_roundw
      case rel=>exact ⟨a+1,by omega,by go_num,HK.out.to (by omega)⟩
      case measure=>simp [intOf];omega
   ·have d1:decide ((a:Int)≤10)=false:=by rw [decide_eq_false_iff_not];omega
    obtain ⟨C,hC,hC1,hC2⟩:=HI.out.sb
    have HS:Hid (shAt wr (m+3) P (dy+1) C):=hC
    have HC1:Hid _:=hC1
    have HC2:Hid _:=hC2
    clear hC hC1 hC2
    go_wp2_with (first | (refine load_blk 57 123 Try.underlying57 rfl Try.sizeSh (by rfl) (.tmp 5) (by rfl) (m+3) (by rfl) HS.out (shA_size _ _ _) ?_) | (refine store_blk 57 123 Try.sizeSh (by rfl) (.tmp 4) (.tmp 57) (by rfl) (m+2) (shA P (dy+1) C) (by rfl) (by rfl) HI.out.zb zero_size (shA_size _ _ _) (shA_all _ _ _) ?_;intro w3 r1 r2 r3 r4))
    refine bodyPost_ret (ret_blk1 57 123 Try.underlying57 rfl Try.sizeSh rfl (by rfl) r1 (shA_size _ _ _)) rfl ⟨⟨C,by first | rfl | (rw [hP];rfl) | (rw [hP,hD]) | (rw [hD]),fun u v hu hv=>⟨HC1.out u v,fun ⟨g1,g2⟩=>HC2.out u v g1 hv (.inl (by omega)) g2⟩⟩,?_⟩
    first
     | exact HI.out.below.trans (r4 _ (by omega))
     | (rw [hm];exact HI.out.below.trans (r4 _ (by omega)))
 ·have dd:decide (dx<dy)=false:=by rw [decide_eq_false_iff_not];exact hd
  have hD:max dx dy=dx:=by omega
  have H3:Hid (EithAt w m px py P dx dy (dx+1) X Y 0 0 w2):=HA
  clear HA HB
  go_upto_region 4 with fail
  clear c1 c2 c3 c4
  go_wp2_with fail
  go_loopw [6] (fun i wr=>∃ a:Nat,a≤11∧i=.int .i64 a∧Hid (EithAt w m px py P dx dy (dx+1) X Y a 0 wr)) (fun i _=>11-(intOf i).toNat)
  case atStart=>exact ⟨0,by omega,rfl,H3⟩
  case round =>
   obtain ⟨a,ha,rfl,HI⟩:=hrel
   by_cases ha':a≤10
   ·have d1:decide ((a:Int)≤10)=true:=by rw [decide_eq_true_eq];omega
    go_wp2_with fail
    go_loopw [7] (fun i wr=>∃ j:Nat,a≤j∧j≤11∧i=.int .i64 j∧Hid (EithAt w m px py P dx dy (dx+1) X Y a j wr)) (fun i _=>11-(intOf i).toNat)
    case atStart=>exact ⟨a,by omega,by omega,rfl,HI.out.to (by omega)⟩
    case round =>
     obtain ⟨j,hj,hj2,rfl,HK⟩:=hrel
     by_cases hj':j≤10
     ·have d3:decide ((j:Int)≤10)=true:=by rw [decide_eq_true_eq];omega
      have e1:(a:Int)<11:=by omega
      have e3:(j:Int)<11:=by omega
      have x1:=shAt_cell HK.out.xb ha' hj'
      have x2:=shAt_cell HK.out.yb ha' hj'
      obtain ⟨C,hC,_⟩:=HK.out.sb
      have x3:=shAt_cell hC ha' hj'
      have x4:=shAt_free hC (2+a*11+j)
      clear hC
      have HPt:Hid (EithAt w m px py P dx dy (dx+1) X Y a (j+1) (wr.setCell ⟨m+3,2+a*11+j,none⟩ (.bool (X a j||Y a j)))):=HK.out.put hj hj'
      clear HK
      generalize X a j=b1 at *
      generalize Y a j=b2 at *
      generalize C a j=b3 at *
      cases b1
      ·cases b2
       all_goals
        go_upto_region 10 with fail
        go_region
        go_wp2_with fail
        go_roundw
        case rel=>exact ⟨j+1,by omega,by omega,by go_num,⟨HPt.out.xb,HPt.out.yb,HPt.out.zb,HPt.out.sb,HPt.out.below.trans (Below.refl _ _).drew⟩⟩
        case measure=>simp [intOf];omega
      ·go_upto_region 10 with fail
       go_region
       go_wp2_with fail
       go_roundw
       case rel=>exact ⟨j+1,by omega,by omega,by go_num,⟨HPt.out.xb,HPt.out.yb,HPt.out.zb,HPt.out.sb,HPt.out.below.trans (Below.refl _ _).drew⟩⟩
       case measure=>simp [intOf];omega
     ·have d3:decide ((j:Int)≤10)=false:=by rw [decide_eq_false_iff_not];omega
      go_wp2_with fail
      go_roundw
      case rel=>exact ⟨a+1,by omega,by go_num,HK.out.to (by omega)⟩
      case measure=>simp [intOf];omega
   ·have d1:decide ((a:Int)≤10)=false:=by rw [decide_eq_false_iff_not];omega
    obtain ⟨C,hC,hC1,hC2⟩:=HI.out.sb
    have HS:Hid (shAt wr (m+3) P (dx+1) C):=hC
    have HC1:Hid _:=hC1
    have HC2:Hid _:=hC2
    clear hC hC1 hC2
    go_wp2_with (first | (refine load_blk 57 123 Try.underlying57 rfl Try.sizeSh (by rfl) (.tmp 5) (by rfl) (m+3) (by rfl) HS.out (shA_size _ _ _) ?_) | (refine store_blk 57 123 Try.sizeSh (by rfl) (.tmp 4) (.tmp 57) (by rfl) (m+2) (shA P (dx+1) C) (by rfl) (by rfl) HI.out.zb zero_size (shA_size _ _ _) (shA_all _ _ _) ?_;intro w3 r1 r2 r3 r4))
    refine bodyPost_ret (ret_blk1 57 123 Try.underlying57 rfl Try.sizeSh rfl (by rfl) r1 (shA_size _ _ _)) rfl ⟨⟨C,by first | rfl | (rw [hP];rfl) | (rw [hP,hD]) | (rw [hD]),fun u v hu hv=>⟨HC1.out u v,fun ⟨g1,g2⟩=>HC2.out u v g1 hv (.inl (by omega)) g2⟩⟩,?_⟩
    first
     | exact HI.out.below.trans (r4 _ (by omega))
     | (rw [hm];exact HI.out.below.trans (r4 _ (by omega)))
end Go.Proofs.Ytebpgfodelggoab
