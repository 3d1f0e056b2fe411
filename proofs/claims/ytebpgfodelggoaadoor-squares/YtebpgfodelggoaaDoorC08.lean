import Derived.Test.YtebpgfodelggoaaDoorC03
import Derived.Test.YtebpgfodelggoaaDoorC07
import Derived.Deep.DeepCutAuto
import Derived.Deep.QuietTactic
import Derived.BigQuiet
import Derived.Test.YtebpgfodelggoaaDoorC00
import Derived.ChangeMaps5
import Derived.Lib.SmallJoins
set_option linter.unusedVariables false
set_option linter.unusedSimpArgs false
set_option maxRecDepth 100000
set_option maxHeartbeats 1000000
namespace Go.Proofs.YtebpgfodelggoaaDoor
open Go.RowKit
def fpA (f:Mt.Fnd):Array Value:=(Value.bool f.ok::(f.at'.map (Value.int .i64)++[Value.int .i64 f.steps])).toArray
theorem fpA_size (f:Mt.Fnd) (h:f.at'.length=20):(fpA f).size=22:=by simp [fpA,h]
theorem fpA_all (f:Mt.Fnd):(fpA f).all (·.oneCell')=true:=by
 unfold fpA
 rw [List.all_toArray,List.all_eq_true]
 intro u hu
 simp only [List.mem_cons,List.mem_append,List.mem_map,List.not_mem_nil,or_false] at hu
 rcases hu with rfl | ⟨i,_,rfl⟩ | rfl <;> rfl
theorem fpA_set (b:Bool) (l:List Int) (u:Int) (i:Nat) (v:Int) (hi:i<l.length):(fpA ⟨b,l,u⟩).setIfInBounds (1+i) (.int .i64 v)=fpA ⟨b,l.set i v,u⟩:=by
 unfold fpA
 dsimp only
 rw [List.setIfInBounds_toArray,show 1+i=i+1 by omega,List.set_cons_succ,List.set_append_left _ _ (by simpa using hi),List.map_set]
theorem fpA_at (b:Bool) (l:List Int) (u:Int) (i:Nat) (hi:i<l.length):(fpA ⟨b,l,u⟩)[1+i]?=some (.int .i64 (l.getD i 0)):=by
 unfold fpA
 dsimp only
 rw [List.getElem?_toArray,show 1+i=i+1 by omega,List.getElem?_cons_succ,List.getElem?_append_left (by simpa using hi),List.getElem?_map,List.getD_eq_getElem?_getD,List.getElem?_eq_getElem hi];rfl
theorem Tryd.sizeFd:(Tryd.prog.info? 26).map (·.size)=some 22:=by kernel_rfl
theorem fpA_ok (f:Mt.Fnd):(fpA f)[0]?=some (.bool f.ok):=by unfold fpA;rfl
theorem fpA_get (f:Mt.Fnd) (h:f.at'.length=20) (k:Nat) (hk:k<20):(fpA f)[1+k]?=some (.int .i64 (f.at'.getD k 0)):=fpA_at f.ok f.at' f.steps k (by omega)
theorem fpA_steps (f:Mt.Fnd) (h:f.at'.length=20):(fpA f)[21]?=some (.int .i64 f.steps):=by
 unfold fpA
 rw [List.getElem?_toArray,List.getElem?_cons_succ,List.getElem?_append_right (by simp [h]),List.length_map,h];rfl
def pickI (c:Int) (n:Nat):Int:=(if c<0 then -(c+1) else c).tmod n
theorem pickI_in (c:Int) (n:Nat) (h:0<n):0≤pickI c n∧pickI c n<n:=by
 unfold pickI
 have h0:0≤(if c<0 then -(c+1) else c):=by split <;> omega
 rw [Int.tmod_eq_emod_of_nonneg h0]
 exact ⟨Int.emod_nonneg _ (by omega),Int.emod_lt_of_pos _ (by omega)⟩
def I64 (c:Int):Prop:=-9223372036854775808≤c∧c≤9223372036854775807
theorem kpick_any (c:Int) (n:Nat) (w:World) (hc:I64 c) (hn:0<n) (hn2:n≤4294967296):Calls Tryd.prog 4 #[.int .i64 c,.int .i64 (n:Int)] w fun e w'=>e=.returned (.int .i64 (pickI c n))∧w=w':=by
 obtain ⟨h1,h2⟩:=hc
 have hr:=pickI_in c n hn
 have HR:Hid (0≤pickI c n∧pickI c n<n):=hr
 have hn0:((n:Int)==0)=false:=by rw [beq_eq_false_iff_ne];omega
 have hn1:((n:Int)==-1)=false:=by rw [beq_eq_false_iff_ne];omega
 unfold pickI at *
 by_cases h:c<0
 ·have d1:decide (c<0)=true:=by simpa using h
  rw [if_pos h] at *
  have b1:-9223372036854775808≤c+1:=by omega
  have b2:c+1≤9223372036854775807:=by omega
  have b3:-9223372036854775808≤-(c+1):=by omega
  have b4:-(c+1)≤9223372036854775807:=by omega
  go_enter Tryd.func4,Tryd.ntmps4
  go_wp2_with fail
  go_ret
  refine ⟨?_,rfl⟩
  show Ending.returned (.int .i64 (-((c+1).tmod n)))=_
  rw [Int.neg_tmod]
 ·have d1:decide (c<0)=false:=by simpa using h
  rw [if_neg h] at *
  go_enter Tryd.func4,Tryd.ntmps4
  go_wp2_with fail
  go_ret
  refine ⟨?_,rfl⟩
  show Ending.returned (.int .i64 (c % n))=_
  rw [Int.tmod_eq_emod_of_nonneg (by omega)]
theorem Tryd.sizeOp4:(Tryd.prog.info? 32).map (·.size)=some 4:=by kernel_rfl
theorem kset_any (p m r:Int) (w:World) (hp:I64 p) (hm:I64 m) (hr:I64 r):Calls Tryd.prog 8 #[.int .i64 p,.int .i64 m,.int .i64 r] w fun e w'=>e=.returned (.agg #[.int .i64 (pickI p 5),.int .i64 (pickI m 4294967296),.int .i64 (pickI r 5001),.int .i64 10000])∧Below w.heap.size w w':=by
 have K1:Hid (∀ z:World,Calls Tryd.prog 4 #[.int .i64 p,.int .i64 5] z fun e w'=>e=.returned (.int .i64 (pickI p 5))∧z=w'):=fun z=>kpick_any p 5 z hp (by omega) (by omega)
 have K2:Hid (∀ z:World,Calls Tryd.prog 4 #[.int .i64 m,.int .i64 4294967296] z fun e w'=>e=.returned (.int .i64 (pickI m 4294967296))∧z=w'):=fun z=>kpick_any m 4294967296 z hm (by omega) (by omega)
 have K3:Hid (∀ z:World,Calls Tryd.prog 4 #[.int .i64 r,.int .i64 5001] z fun e w'=>e=.returned (.int .i64 (pickI r 5001))∧z=w'):=fun z=>kpick_any r 5001 z hr (by omega) (by omega)
 generalize pickI p 5=P at *
 generalize pickI m 4294967296=M at *
 generalize pickI r 5001=R at *
 clear hp hm hr
 go_enter Tryd.func8,Tryd.ntmps8
 go_wp2_with fail
 refine (K1.out _).mono ?_
 rintro e w' ⟨rfl,rfl⟩
 go_wp2_with fail
 refine (K2.out _).mono ?_
 rintro e w' ⟨rfl,rfl⟩
 go_wp2_with fail
 refine (K3.out _).mono ?_
 rintro e w' ⟨rfl,rfl⟩
 go_wp2_with fail
 go_returns
 refine ⟨rfl,?_⟩
 go_grown
end Go.Proofs.YtebpgfodelggoaaDoor
set_option maxRecDepth 100000
namespace Go.Proofs.YtebpgfodelggoaaDoor
open Go.ChangeShapes Go.WideShapes Go.ChangeAt Go.RowKit Go.ChangeMaps Go.Joins
theorem wf_i64 {n:Int} (h:(Lit.int .i64 n).wf=true):I64 n:=by
 unfold Lit.wf at h
 rw [Bool.and_eq_true,decide_eq_true_eq,decide_eq_true_eq] at h
 exact ⟨h.1,h.2⟩
def optD {H:Type} (a b c d:Int):DataW H:=.agg [.lit (.int .i64 a),.lit (.int .i64 b),.lit (.int .i64 c),.lit (.int .i64 d)]
theorem opt_open {H:Type} {enc:TypeId × Value→H} {w:World} {base:Nat} {spare:Nat→Bool} {held:Bool} {r:Reach} {b0:Nat} {v:Value} {d:DataW H} {p:List MemPlace} (hv:Value.okWide Tryd.prog w r b0 32 v) (h:DataW.Trod enc Tryd.prog w base spare held 32 v d p) :
  ∃ a b c e:Int,v=.agg #[.int .i64 a,.int .i64 b,.int .i64 c,.int .i64 e]∧d=optD a b c e∧p=[]∧((Lit.int .i64 a).wf=true∧(Lit.int .i64 b).wf=true∧(Lit.int .i64 c).wf=true∧(Lit.int .i64 e).wf=true):=by
 obtain ⟨v0,v1,v2,v3,y0,y1,y2,y3,n,rfl,rfl,rfl,h0,h1,h2,h3⟩:=open_agg4 Tryd.underlying32 (by kernel_rfl) (by kernel_rfl) hv h
 obtain ⟨a,ha,rfl,wa⟩:=DataW.trod_int Tryd.underlying3 h0
 obtain ⟨b,hb,rfl,wb⟩:=DataW.trod_int Tryd.underlying3 h1
 obtain ⟨c,hc,rfl,wc⟩:=DataW.trod_int Tryd.underlying3 h2
 obtain ⟨e,he,rfl,we⟩:=DataW.trod_int Tryd.underlying3 h3
 simp only [List.cons.injEq,and_true] at ha hb hc he
 subst ha;subst hb;subst hc;subst he
 exact ⟨a,b,c,e,rfl,rfl,rfl,wa,wb,wc,we⟩
theorem opt_shut {H:Type} {enc:TypeId × Value→H} {w:World} {base:Nat} {spare:Nat→Bool} {held:Bool} {a b c e:Int} (h:(Lit.int .i64 a).wf=true∧(Lit.int .i64 b).wf=true∧(Lit.int .i64 c).wf=true∧(Lit.int .i64 e).wf=true) :
  DataW.Trod enc Tryd.prog w base spare held 32 (.agg #[.int .i64 a,.int .i64 b,.int .i64 c,.int .i64 e]) (optD a b c e) []:=by
 have key:∀ n:Int,(Lit.int .i64 n).wf=true→∃ k,DataW.trod enc Tryd.prog w base spare held k 3 [.int .i64 n]=some (.lit (.int .i64 n),[]):=fun n hn=>⟨1,by simp [DataW.trod,Tryd.underlying3,hn]⟩
 exact shut_agg4 (y0:=(.lit (.int .i64 a),[])) (y1:=(.lit (.int .i64 b),[])) (y2:=(.lit (.int .i64 c),[])) (y3:=(.lit (.int .i64 e),[])) Tryd.underlying32 (by kernel_rfl) (by kernel_rfl) (key a h.1) (key b h.2.1) (key c h.2.2.1) (key e h.2.2.2)
theorem trodAll_five {H:Type} {enc:TypeId × Value→H} {P:Program} {w:World} {base:Nat} {spare:Nat→Bool} {held:Bool} {t0 t1 t2 t3 t4:TypeId} {args:Array Value} {ds:List (DataW H)} {ps:List MemPlace} (h:DataW.TrodAll enc P w base spare held [t0,t1,t2,t3,t4] args.toList ds ps) :
  ∃ v0 v1 v2 v3 v4 d0 d1 d2 d3 d4 p0 p1 p2 p3 p4,args=#[v0,v1,v2,v3,v4]∧ds=[d0,d1,d2,d3,d4]∧ps=p0++(p1++(p2++(p3++p4)))∧DataW.Trod enc P w base spare held t0 v0 d0 p0∧DataW.Trod enc P w base spare held t1 v1 d1 p1∧DataW.Trod enc P w base spare held t2 v2 d2 p2∧DataW.Trod enc P w base spare held t3 v3 d3 p3∧DataW.Trod enc P w base spare held t4 v4 d4 p4:=by
 obtain ⟨v0,l0,d0,e0,p0,q0,ha,rfl,rfl,h0,h⟩:=trodAll_cons h
 obtain ⟨v1,l1,d1,e1,p1,q1,rfl,rfl,rfl,h1,h⟩:=trodAll_cons h
 obtain ⟨v2,l2,d2,e2,p2,q2,rfl,rfl,rfl,h2,h⟩:=trodAll_cons h
 obtain ⟨v3,l3,d3,e3,p3,q3,rfl,rfl,rfl,h3,h⟩:=trodAll_cons h
 obtain ⟨v4,l4,d4,e4,p4,q4,rfl,rfl,rfl,h4,h⟩:=trodAll_cons h
 obtain ⟨rfl,rfl,rfl⟩:=trodAll_nil h
 exact ⟨v0,v1,v2,v3,v4,d0,d1,d2,d3,d4,p0,p1,p2,p3,p4,by cases args;simp_all,rfl,by simp,h0,h1,h2,h3,h4⟩
end Go.Proofs.YtebpgfodelggoaaDoor
