import Derived.Test.YtebpgfodelggoabC03
import Derived.Test.YtebpgfodelggoabC06
import Derived.Deep.DeepCutAuto
import Derived.Deep.QuietTactic
import Derived.BigQuiet
set_option linter.unusedVariables false
set_option linter.unusedSimpArgs false
set_option maxRecDepth 100000
set_option maxHeartbeats 1000000
namespace Go.Proofs.Ytebpgfodelggoab
open Go.RowKit
def fpA (f:Mt.Fnd):Array Value:=(Value.bool f.ok::(f.at'.map (Value.int .i64)++[Value.int .i64 f.steps])).toArray
theorem fpA_size (f:Mt.Fnd) (h:f.at'.length=20):(fpA f).size=22:=by simp [fpA,h]
theorem fpA_all (f:Mt.Fnd):(fpA f).all (·.oneCell')=true:=by
 unfold fpA
 rw [List.all_toArray,List.all_eq_true]
 intro u hu
 simp only [List.mem_cons,List.mem_append,List.mem_map,List.not_mem_nil,or_false] at hu
 rcases hu with rfl | ⟨i,_,rfl⟩ | rfl <;> rfl
theorem fpA_set (b:Bool) (l:List Int) (u:Int) (i:Nat) (v:Int) (hi:i<l.length):(fpA ⟨b,l,u⟩).setIfInBounds (1+i) (.int .i64 v)=fpA ⟨b,l.set i v,u⟩:=by
 unfold fpA
 dsimp only
 rw [List.setIfInBounds_toArray,show 1+i=i+1 by omega,List.set_cons_succ,List.set_append_left _ _ (by simpa using hi),List.map_set]
theorem fpA_at (b:Bool) (l:List Int) (u:Int) (i:Nat) (hi:i<l.length):(fpA ⟨b,l,u⟩)[1+i]?=some (.int .i64 (l.getD i 0)):=by
 unfold fpA
 dsimp only
 rw [List.getElem?_toArray,show 1+i=i+1 by omega,List.getElem?_cons_succ,List.getElem?_append_left (by simpa using hi),List.getElem?_map,List.getD_eq_getElem?_getD,List.getElem?_eq_getElem hi];rfl
theorem Try.sizeFd:(Try.prog.info? 31).map (·.size)=some 22:=by kernel_rfl
theorem fpA_ok (f:Mt.Fnd):(fpA f)[0]?=some (.bool f.ok):=by unfold fpA;rfl
theorem fpA_get (f:Mt.Fnd) (h:f.at'.length=20) (k:Nat) (hk:k<20):(fpA f)[1+k]?=some (.int .i64 (f.at'.getD k 0)):=fpA_at f.ok f.at' f.steps k (by omega)
theorem fpA_steps (f:Mt.Fnd) (h:f.at'.length=20):(fpA f)[21]?=some (.int .i64 f.steps):=by
 unfold fpA
 rw [List.getElem?_toArray,List.getElem?_cons_succ,List.getElem?_append_right (by simp [h]),List.length_map,h];rfl
def pickI (c:Int) (n:Nat):Int:=(if c<0 then -(c+1) else c).tmod n
theorem pickI_in (c:Int) (n:Nat) (h:0<n):0≤pickI c n∧pickI c n<n:=by
 unfold pickI
 have h0:0≤(if c<0 then -(c+1) else c):=by split <;> omega
 rw [Int.tmod_eq_emod_of_nonneg h0]
 exact ⟨Int.emod_nonneg _ (by omega),Int.emod_lt_of_pos _ (by omega)⟩
def I64 (c:Int):Prop:=-9223372036854775808≤c∧c≤9223372036854775807
theorem kpick_any (c:Int) (n:Nat) (w:World) (hc:I64 c) (hn:0<n) (hn2:n≤4294967296):Calls Try.prog 9 #[.int .i64 c,.int .i64 (n:Int)] w fun e w'=>e=.returned (.int .i64 (pickI c n))∧w=w':=by
 obtain ⟨h1,h2⟩:=hc
 have hr:=pickI_in c n hn
 have HR:Hid (0≤pickI c n∧pickI c n<n):=hr
 have hn0:((n:Int)==0)=false:=by rw [beq_eq_false_iff_ne];omega
 have hn1:((n:Int)==-1)=false:=by rw [beq_eq_false_iff_ne];omega
 unfold pickI at *
 by_cases h:c<0
 ·have d1:decide (c<0)=true:=by simpa using h
  rw [if_pos h] at *
  have b1:-9223372036854775808≤c+1:=by omega
  have b2:c+1≤9223372036854775807:=by omega
  have b3:-9223372036854775808≤-(c+1):=by omega
  have b4:-(c+1)≤9223372036854775807:=by omega
  go_enter Try.func9,Try.ntmps9
  go_wp2_with fail
  go_ret
  refine ⟨?_,rfl⟩
  show Ending.returned (.int .i64 (-((c+1).tmod n)))=_
  rw [Int.neg_tmod]
 ·have d1:decide (c<0)=false:=by simpa using h
  rw [if_neg h] at *
  go_enter Try.func9,Try.ntmps9
  go_wp2_with fail
  go_ret
  refine ⟨?_,rfl⟩
  show Ending.returned (.int .i64 (c % n))=_
  rw [Int.tmod_eq_emod_of_nonneg (by omega)]
theorem Try.sizeOp4:(Try.prog.info? 23).map (·.size)=some 4:=by kernel_rfl
theorem kset_any (p m r:Int) (w:World) (hp:I64 p) (hm:I64 m) (hr:I64 r):Calls Try.prog 12 #[.int .i64 p,.int .i64 m,.int .i64 r] w fun e w'=>e=.returned (.agg #[.int .i64 (pickI p 5),.int .i64 (pickI m 4294967296),.int .i64 (pickI r 5001),.int .i64 10000])∧Below w.heap.size w w':=by
 have K1:Hid (∀ z:World,Calls Try.prog 9 #[.int .i64 p,.int .i64 5] z fun e w'=>e=.returned (.int .i64 (pickI p 5))∧z=w'):=fun z=>kpick_any p 5 z hp (by omega) (by omega)
 have K2:Hid (∀ z:World,Calls Try.prog 9 #[.int .i64 m,.int .i64 4294967296] z fun e w'=>e=.returned (.int .i64 (pickI m 4294967296))∧z=w'):=fun z=>kpick_any m 4294967296 z hm (by omega) (by omega)
 have K3:Hid (∀ z:World,Calls Try.prog 9 #[.int .i64 r,.int .i64 5001] z fun e w'=>e=.returned (.int .i64 (pickI r 5001))∧z=w'):=fun z=>kpick_any r 5001 z hr (by omega) (by omega)
 generalize pickI p 5=P at *
 generalize pickI m 4294967296=M at *
 generalize pickI r 5001=R at *
 clear hp hm hr
 go_enter Try.func12,Try.ntmps12
 go_wp2_with fail
 refine (K1.out _).mono ?_
 rintro e w' ⟨rfl,rfl⟩
 go_wp2_with fail
 refine (K2.out _).mono ?_
 rintro e w' ⟨rfl,rfl⟩
 go_wp2_with fail
 refine (K3.out _).mono ?_
 rintro e w' ⟨rfl,rfl⟩
 go_wp2_with fail
 go_returns
 refine ⟨rfl,?_⟩
 go_grown
end Go.Proofs.Ytebpgfodelggoab
