import Derived.Test.YtebpgfodelggoaaDoorC08
import Derived.Test.YtebpgfodelggoaaDoorC23
set_option linter.unusedVariables false
set_option linter.unusedSimpArgs false
set_option maxRecDepth 100000
set_option maxHeartbeats 1000000
namespace Go.Proofs.YtebpgfodelggoaaDoor
open Go.RowKit
theorem small_any (n:Nat) (hn:n≤20) (w:World):Calls Tryd.prog 32 #[.int .i64 (n:Int)] w fun e w'=>e=.returned (.string ⟨(Mt.digL n).toArray⟩)∧w'=w:=by
 by_cases h:n<10
 ·have d1:decide ((n:Int)<10)=true:=by rw [decide_eq_true_eq];omega
  go_enter Tryd.func32,Tryd.ntmps32
  go_wp2_with fail
  go_ret
  refine ⟨?_,rfl⟩
  have hc:n=0∨n=1∨n=2∨n=3∨n=4∨n=5∨n=6∨n=7∨n=8∨n=9:=by omega
  clear d1
  rcases hc with rfl | rfl | rfl | rfl | rfl | rfl | rfl | rfl | rfl | rfl <;> rfl
 ·have d1:decide ((n:Int)<10)=false:=by rw [decide_eq_false_iff_not];omega
  go_enter Tryd.func32,Tryd.ntmps32
  go_wp2_with fail
  go_ret
  refine ⟨?_,rfl⟩
  have hc:n=10∨n=11∨n=12∨n=13∨n=14∨n=15∨n=16∨n=17∨n=18∨n=19∨n=20:=by omega
  clear d1
  rcases hc with rfl | rfl | rfl | rfl | rfl | rfl | rfl | rfl | rfl | rfl | rfl <;> rfl
theorem format_any (n:Nat) (hn:n≤20) (w:World):Calls Tryd.prog 23 #[.int .i64 (n:Int),.int .i64 10] w fun e w'=>e=.returned (.string ⟨(Mt.digL n).toArray⟩)∧w'=w:=by
 have K:Hid (∀ z:World,Calls Tryd.prog 32 #[.int .i64 (n:Int)] z fun e w'=>e=.returned (.string ⟨(Mt.digL n).toArray⟩)∧w'=z):=fun z=>small_any n hn z
 generalize (⟨(Mt.digL n).toArray⟩:ByteArray)=D at *
 have d1:decide ((0:Int)≤(n:Int))=true:=by rw [decide_eq_true_eq];omega
 have d2:decide ((n:Int)<100)=true:=by rw [decide_eq_true_eq];omega
 go_enter Tryd.func23,Tryd.ntmps23
 go_wp2_with fail
 refine (K.out _).mono ?_
 rintro e w' ⟨rfl,rfl⟩
 go_wp2_with fail
 go_ret
 exact ⟨rfl,rfl⟩
theorem itoa1_any (n:Nat) (hn:n≤20) (w:World):Calls Tryd.prog 14 #[.int .i64 (n:Int)] w fun e w'=>e=.returned (.string ⟨(Mt.digL n).toArray⟩)∧w'=w:=by
 have K:Hid (∀ z:World,Calls Tryd.prog 23 #[.int .i64 (n:Int),.int .i64 10] z fun e w'=>e=.returned (.string ⟨(Mt.digL n).toArray⟩)∧w'=z):=fun z=>format_any n hn z
 generalize (⟨(Mt.digL n).toArray⟩:ByteArray)=D at *
 go_enter Tryd.func14,Tryd.ntmps14
 go_wp2_with fail
 refine (K.out _).mono ?_
 rintro e w' ⟨rfl,rfl⟩
 go_wp2_with fail
 go_ret
 exact ⟨rfl,rfl⟩
theorem itoa_any (n:Nat) (hn:n≤20) (w:World):Calls Tryd.prog 7 #[.int .i64 (n:Int)] w fun e w'=>e=.returned (.string ⟨(Mt.digL n).toArray⟩)∧w'=w:=by
 have K:Hid (∀ z:World,Calls Tryd.prog 14 #[.int .i64 (n:Int)] z fun e w'=>e=.returned (.string ⟨(Mt.digL n).toArray⟩)∧w'=z):=fun z=>itoa1_any n hn z
 generalize (⟨(Mt.digL n).toArray⟩:ByteArray)=D at *
 go_enter Tryd.func7,Tryd.ntmps7
 go_wp2_with fail
 refine (K.out _).mono ?_
 rintro e w' ⟨rfl,rfl⟩
 go_wp2_with fail
 go_ret
 exact ⟨rfl,rfl⟩
end Go.Proofs.YtebpgfodelggoaaDoor
