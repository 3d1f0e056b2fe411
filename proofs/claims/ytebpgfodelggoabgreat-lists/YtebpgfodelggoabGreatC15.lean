import Derived.Test.YtebpgfodelggoabGreatC14
import Derived.Deep.MidRow
import Derived.Laws.ResultCell
set_option linter.unusedVariables false
set_option linter.unusedSimpArgs false
set_option maxRecDepth 100000
set_option maxHeartbeats 4000000
namespace Go.Proofs.YtebpgfodelggoabGreat
open Go.RowKit
theorem Tryz.size117:(Tryz.prog.info? 139).map (·.size)=some 44:=by kernel_rfl
theorem zC3 (b:Nat) (t:TypeId):∀ (vs:List Value) (o:Nat) (w:World) (C:Array Value),w.heap[b]?=some (.cells C t (0,0))→∃ D:Array Value,(w.setCells b o vs).heap[b]?=some (.cells D t (0,0))∧D.size=C.size
 | [],o,w,C,h=>⟨C,h,rfl⟩
 | v::r,o,w,C,h=>by
  obtain ⟨D,h1,h2⟩:=zC3 b t r (o+1) (w.setCell ⟨b,o,none⟩ v) _ (Go.heap_setCell_same w b o C t v h)
  exact ⟨D,h1,by rw [h2];simp⟩
theorem yT (b:Nat):∀ (vs:List Value) (o:Nat) (w:World) (k:Nat),k≠b→(w.setCells b o vs).heap[k]?=w.heap[k]?
 | [],o,w,k,h=>rfl
 | v::r,o,w,k,h=>by
  show ((w.setCell ⟨b,o,none⟩ v).setCells b (o+1) r).heap[k]?=_
  rw [yT b r (o+1) _ k h,Below.heap_setCell _ _ _ _ h]
theorem zAV {w:World} {b:Nat} {t:TypeId} {B:Array Value} (h:w.heap[b]?=some (.cells B t (0,0))) (cs:Array Value) (hs:cs.size=B.size) :
  (w.setCells b 0 cs.toList).heap[b]?=some (.cells cs t (0,0)):=by
 obtain ⟨D,h1,h2⟩:=zC3 b t cs.toList 0 w B h
 have hb:=zA h
 obtain ⟨w2,e,q1,_⟩:=zCo hb.1 hb.2 cs hs
 have hd:=zA h1
 have:D=cs:=by
  apply Array.ext (by omega)
  intro i hi1 hi2
  have a1:=hd.1 i
  have a2:=q1 i
  rw [e] at a2
  rw [a2,Array.getElem?_eq_getElem hi1,Array.getElem?_eq_getElem hi2] at a1
  simpa using a1.symm
 rw [h1,this]
theorem yP {w:World} {b:Nat} {t:TypeId} {A:Array Value} (h:w.heap[b]?=some (.cells A t (0,0))):w.rangeAt b 0 A.toList:=fun j v hv=>by
 rw [Nat.zero_add,(zA h).1 j];simpa using hv
theorem zG {ops:Array Oper} {rest:List Oper} {op:Oper} {a:Act} {w:World} {Q:Exit→Act→World→Prop} (hgd:op.guard=none) (x:Operand) (ho:op.op=.load 139 x)
  (b:Nat) (hx:a.eval x=.pointer (some ⟨b,0,none⟩)) {t:TypeId} {A:Array Value} (hA:w.heap[b]?=some (.cells A t (0,0))) (hs:A.size=44)
  (h:wpList Tryz.prog ops Q rest (a.put op.dst (.agg A)) w):wpList Tryz.prog ops Q (op::rest) a w :=
 wpList_load_mid hgd _ x ho b 0 hx A.toList _ (yP hA) Tryz.underlying139 rfl (by rw [Tryz.size117];simp [hs]) h
theorem zF {ops:Array Oper} {rest:List Oper} {op:Oper} {a:Act} {w:World} {Q:Exit→Act→World→Prop} (hgd:op.guard=none) (x y:Operand) (ho:op.op=.store 139 x y)
  (b:Nat) (cs:Array Value) (hx:a.eval x=.pointer (some ⟨b,0,none⟩)) (hy:a.eval y=.agg cs) {t:TypeId} {B:Array Value} (hB:w.heap[b]?=some (.cells B t (0,0))) (hs:B.size=44) (hc:cs.size=44) (h1:cs.all (·.oneCell')=true)
  (h:∀ w2:World,w2.heap[b]?=some (.cells cs t (0,0))→(∀ k,k≠b→w2.heap[k]?=w.heap[k]?)→w2.heap.size=w.heap.size→(∀ L,L≤b→Below L w w2)→wpList Tryz.prog ops Q rest (a.put op.dst undef) w2):wpList Tryz.prog ops Q (op::rest) a w:=by
 have hb:=zA hB
 refine wpList_store_mid hgd _ x y ho b 0 cs hx hy (yS hb.1 hb.2 _ (by omega)) (by rw [Tryz.size117,hc]) h1 ?_
 exact h _ (zAV hB cs (by omega)) (fun k hk=>yT b _ 0 w k hk) (below_setCells b _ 0 w 0 (Nat.zero_le _)).2 (fun L hL=>(below_setCells b _ 0 w L hL).1)
theorem vP {fn:Func} {p u:Tmp} (hr:fn.results=#[.cell p 139,.tmp u]) {tmps:Array Value} {w:World} {b:Nat} {t:TypeId} {A:Array Value} (hp:tmps.getD p undef=.pointer (some ⟨b,0,none⟩)) (hA:w.heap[b]?=some (.cells A t (0,0))) (hs:A.size=44) :
  (results fn tmps).run Tryz.prog w=.ok (.tuple #[.agg A,tmps.getD u undef]) w:=by
 rw [results_cell_tmp hr,hp]
 have:=run_loadVar_mid (P:=Tryz.prog) w b 0 139 A.toList _ (yP hA) Tryz.underlying139 rfl (by rw [Tryz.size117];simp [hs])
 simp [asAddr,Result.andThen,this]
theorem zA5 (w:World) (A B C:Obj):(((w.alloc A).alloc B).alloc C).heap[w.heap.size]?=some A:=by
 rw [kG _ _ _ (by simp;omega),kG _ _ _ (by simp),heap_alloc_new]
theorem zCi (w:World) (A B C:Obj):(((w.alloc A).alloc B).alloc C).heap[w.heap.size+1+1]?=some C:=by
 have:((w.alloc A).alloc B).heap.size=w.heap.size+1+1:=by simp
 rw [← this,heap_alloc_new]
def zDc:Obj:=.cells #[Value.int IntKind.i64 0,Value.int IntKind.i64 0,Value.int IntKind.i64 0,Value.int IntKind.i64 0,Value.int IntKind.i64 0,Value.int IntKind.i64 0,Value.int IntKind.i64 0,Value.int IntKind.i64 0,Value.int IntKind.i64 0,Value.int IntKind.i64 0,Value.int IntKind.i64 0,Value.int IntKind.i64 0,Value.int IntKind.i64 0,Value.int IntKind.i64 0,Value.int IntKind.i64 0,Value.int IntKind.i64 0,Value.int IntKind.i64 0,Value.int IntKind.i64 0,Value.int IntKind.i64 0,Value.int IntKind.i64 0,Value.int IntKind.i64 0,Value.int IntKind.i64 0,Value.int IntKind.i64 0,Value.int IntKind.i64 0,Value.int IntKind.i64 0,Value.int IntKind.i64 0,Value.int IntKind.i64 0,Value.int IntKind.i64 0,Value.int IntKind.i64 0,Value.int IntKind.i64 0,Value.int IntKind.i64 0,Value.int IntKind.i64 0,Value.int IntKind.i64 0,Value.int IntKind.i64 0,Value.int IntKind.i64 0,Value.int IntKind.i64 0,Value.int IntKind.i64 0,Value.int IntKind.i64 0,Value.int IntKind.i64 0,Value.int IntKind.i64 0,Value.int IntKind.i64 0,Value.int IntKind.i64 0,Value.int IntKind.i64 0,Value.int IntKind.i64 0] 139
theorem vU:Obj.cells #[Value.int IntKind.i64 0,Value.int IntKind.i64 0,Value.int IntKind.i64 0,Value.int IntKind.i64 0,Value.int IntKind.i64 0,Value.int IntKind.i64 0,Value.int IntKind.i64 0,Value.int IntKind.i64 0,Value.int IntKind.i64 0,Value.int IntKind.i64 0,Value.int IntKind.i64 0,Value.int IntKind.i64 0,Value.int IntKind.i64 0,Value.int IntKind.i64 0,Value.int IntKind.i64 0,Value.int IntKind.i64 0,Value.int IntKind.i64 0,Value.int IntKind.i64 0,Value.int IntKind.i64 0,Value.int IntKind.i64 0,Value.int IntKind.i64 0,Value.int IntKind.i64 0,Value.int IntKind.i64 0,Value.int IntKind.i64 0,Value.int IntKind.i64 0,Value.int IntKind.i64 0,Value.int IntKind.i64 0,Value.int IntKind.i64 0,Value.int IntKind.i64 0,Value.int IntKind.i64 0,Value.int IntKind.i64 0,Value.int IntKind.i64 0,Value.int IntKind.i64 0,Value.int IntKind.i64 0,Value.int IntKind.i64 0,Value.int IntKind.i64 0,Value.int IntKind.i64 0,Value.int IntKind.i64 0,Value.int IntKind.i64 0,Value.int IntKind.i64 0,Value.int IntKind.i64 0,Value.int IntKind.i64 0,Value.int IntKind.i64 0,Value.int IntKind.i64 0] 139=zDc:=rfl
def zCM (x:Mt.Ins):Value:=.agg #[.int .i64 x.op,.int .i64 x.x,.int .i64 x.y,.string ⟨x.set.toArray⟩]
theorem zRU (s:List Int) (i:Nat) (v:Int):((s.map (Value.int .i64)).toArray).setIfInBounds i (.int .i64 v)=((s.set i v).map (Value.int .i64)).toArray:=by
 simp [List.map_set]
theorem jD (s:List Int):((s.map (Value.int .i64)).toArray).all (·.oneCell')=true:=by
 simp [Value.oneCell']
theorem zQy (s:List Int) (i:Nat) (v:Int):(((s.map (Value.int .i64)).set i (.int .i64 v)).toArray).all (·.oneCell')=true:=by
 rw [← List.map_set];exact jD _
theorem jE (s:List Int) (i:Nat) (v:Int):((s.map (Value.int .i64)).set i (.int .i64 v))=(s.set i v).map (Value.int .i64):=by rw [List.map_set]
theorem zOM {w:World} {wb gc gi ga gk cc ci ca ck:Nat} {c:List Mt.Ins} {text:ByteArray} {inn:List Bool} {ar:List Int} {budget:Int} {kn:List Bool} {room used:Int} {over:Bool}
  (h:zM w wb gc gi ga gk cc ci ca ck c text inn ar budget kn room used over) (s:List Int) (x:Mt.Ins) (pc pos:Nat) (h0:s[0]?=some (pc:Int)) (h1:s[1]?=some (pos:Int)) (hs:s.length=44)
  (o1:(x.op==1)=false) (o3:(x.op==3)=true) :
  Calls Tryz.prog 118 #[.pointer (some ⟨wb,0,none⟩),stV s,zCM x] w fun e w'=>e=.returned (.tuple #[stV (s.set 0 x.x),.bool true])∧Below w.heap.size w w':=by
 have HS:Hid (s.length=44):=hs
 clear hs h
 unfold stV zCM
 have hz:=vU
 go_enter Tryz.func118,Tryz.ntmps118
 go_wp2_with (first | (refine zG (by rfl) (.tmp 4) (by rfl) w.heap.size (by rfl) (by exact zA5 _ _ _ _) (by simp [HS.out]) ?_) | (refine zF (by rfl) (.tmp 6) (.tmp 41) (by rfl) (w.heap.size+1+1) _ (by rfl) (by rfl) (by exact zCi _ _ _ _) (by rfl) (by simp [HS.out]) (zQy _ _ _) ?_;intro w2 r1 r2 r3 r4))
 have hB:Below w.heap.size w w2:=((((Below.refl _ _).alloc (Nat.le_refl _) _).alloc (by simp) _).alloc (by simp;omega) _).trans (r4 _ (by omega))
 clear r2 r3 r4
 refine bodyPost_ret (vP rfl (by rfl) r1 (by simp [HS.out])) rfl ⟨?_,hB⟩
 rw [jE]
 rfl
theorem zON {w:World} {wb gc gi ga gk cc ci ca ck:Nat} {c:List Mt.Ins} {text:ByteArray} {inn:List Bool} {ar:List Int} {budget:Int} {kn:List Bool} {room used:Int} {over:Bool}
  (h:zM w wb gc gi ga gk cc ci ca ck c text inn ar budget kn room used over) (s:List Int) (x:Mt.Ins) (pc pos:Nat) (h0:s[0]?=some (pc:Int)) (h1:s[1]?=some (pos:Int)) (hs:s.length=44) (hpc:pc≤300) (hpos:pos≤text.size) (ht:text.size≤60)
  (o1:(x.op==1)=false) (o3:(x.op==3)=false) (o4:(x.op==4)=false) (o5:(x.op==5)=false) (o6:(x.op==6)=false) (o7:(x.op==7)=false) (o8:(x.op==8)=false) (o9:(x.op==9)=true) :
  Calls Tryz.prog 118 #[.pointer (some ⟨wb,0,none⟩),stV s,zCM x] w fun e w'=>e=.returned (.tuple #[stV (s.set 0 ((pc:Int)+1)),.bool ((pos:Int)==0)])∧Below w.heap.size w w':=by
 have HS:Hid (s.length=44):=hs
 have hcb:=zA h.cell
 have hwb:wb<w.heap.size:=(Array.getElem?_eq_some_iff.1 h.cell).1
 have c1:w.cell? ⟨wb,1,none⟩=some (.string text):=hcb.1 1
 clear hs h hcb
 unfold stV zCM
 have hz:=vU
 go_enter Tryz.func118,Tryz.ntmps118
 go_wp2_with (first | (refine zG (by rfl) (.tmp 4) (by rfl) w.heap.size (by rfl) (by exact zA5 _ _ _ _) (by simp [HS.out]) ?_) | (refine zF (by rfl) (.tmp 6) (.tmp 121) (by rfl) (w.heap.size+1+1) _ (by rfl) (by rfl) (by exact zCi _ _ _ _) (by rfl) (by simp [HS.out]) (by simp only [jE];exact jD _) ?_;intro w2 r1 r2 r3 r4))
 have hB:Below w.heap.size w w2:=((((Below.refl _ _).alloc (Nat.le_refl _) _).alloc (by simp) _).alloc (by simp;omega) _).trans (r4 _ (by omega))
 clear r2 r3 r4
 refine bodyPost_ret (vP rfl (by rfl) r1 (by simp [HS.out])) rfl ⟨?_,hB⟩
 simp only [jE]
 rfl
theorem zOO {w:World} {wb gc gi ga gk cc ci ca ck:Nat} {c:List Mt.Ins} {text:ByteArray} {inn:List Bool} {ar:List Int} {budget:Int} {kn:List Bool} {room used:Int} {over:Bool}
  (h:zM w wb gc gi ga gk cc ci ca ck c text inn ar budget kn room used over) (s:List Int) (x:Mt.Ins) (pc pos:Nat) (h0:s[0]?=some (pc:Int)) (h1:s[1]?=some (pos:Int)) (hs:s.length=44) (hpc:pc≤300) (hpos:pos≤text.size) (ht:text.size≤60)
  (o1:(x.op==1)=false) (o3:(x.op==3)=false) (o4:(x.op==4)=false) (o5:(x.op==5)=false) (o6:(x.op==6)=false) (o7:(x.op==7)=false) (o8:(x.op==8)=false) (o9:(x.op==9)=false) (o10:(x.op==10)=false) :
  Calls Tryz.prog 118 #[.pointer (some ⟨wb,0,none⟩),stV s,zCM x] w fun e w'=>e=.returned (.tuple #[stV (s.set 0 ((pc:Int)+1)),.bool true])∧Below w.heap.size w w':=by
 have HS:Hid (s.length=44):=hs
 have hcb:=zA h.cell
 have hwb:wb<w.heap.size:=(Array.getElem?_eq_some_iff.1 h.cell).1
 have c1:w.cell? ⟨wb,1,none⟩=some (.string text):=hcb.1 1
 clear hs h hcb
 unfold stV zCM
 have hz:=vU
 go_enter Tryz.func118,Tryz.ntmps118
 go_wp2_with (first | (refine zG (by rfl) (.tmp 4) (by rfl) w.heap.size (by rfl) (by exact zA5 _ _ _ _) (by simp [HS.out]) ?_) | (refine zF (by rfl) (.tmp 6) (.tmp 121) (by rfl) (w.heap.size+1+1) _ (by rfl) (by rfl) (by exact zCi _ _ _ _) (by rfl) (by simp [HS.out]) (by simp only [jE];exact jD _) ?_;intro w2 r1 r2 r3 r4))
 have hB:Below w.heap.size w w2:=((((Below.refl _ _).alloc (Nat.le_refl _) _).alloc (by simp) _).alloc (by simp;omega) _).trans (r4 _ (by omega))
 clear r2 r3 r4
 refine bodyPost_ret (vP rfl (by rfl) r1 (by simp [HS.out])) rfl ⟨?_,hB⟩
 simp only [jE]
 rfl
theorem zOP {w:World} {wb gc gi ga gk cc ci ca ck:Nat} {c:List Mt.Ins} {text:ByteArray} {inn:List Bool} {ar:List Int} {budget:Int} {kn:List Bool} {room used:Int} {over:Bool}
  (h:zM w wb gc gi ga gk cc ci ca ck c text inn ar budget kn room used over) (s:List Int) (x:Mt.Ins) (pc pos:Nat) (h0:s[0]?=some (pc:Int)) (h1:s[1]?=some (pos:Int)) (hs:s.length=44) (hpc:pc≤300) (hpos:pos≤text.size) (ht:text.size≤60)
  (o1:(x.op==1)=false) (o3:(x.op==3)=false) (o4:(x.op==4)=true) (x0:0≤x.x) (x1:x.x<12) :
  Calls Tryz.prog 118 #[.pointer (some ⟨wb,0,none⟩),stV s,zCM x] w fun e w'=>e=.returned (.tuple #[stV ((s.set (32+x.x.toNat) (pos:Int)).set 0 ((pc:Int)+1)),.bool true])∧Below w.heap.size w w':=by
 have HS:Hid (s.length=44):=hs
 have hcb:=zA h.cell
 have hwb:wb<w.heap.size:=(Array.getElem?_eq_some_iff.1 h.cell).1
 have c1:w.cell? ⟨wb,1,none⟩=some (.string text):=hcb.1 1
 have hmk:s[32+x.x.toNat]?=some (Mt.gt s (32+x.x.toNat)):=by unfold Mt.gt;rw [List.getD_eq_getElem?_getD,List.getElem?_eq_getElem (by omega)];rfl
 clear hs h hcb
 unfold stV zCM
 have hz:=vU
 go_enter Tryz.func118,Tryz.ntmps118
 go_wp2_with (first | (refine zG (by rfl) (.tmp 4) (by rfl) w.heap.size (by rfl) (by exact zA5 _ _ _ _) (by simp [HS.out]) ?_) | (refine zF (by rfl) (.tmp 6) (.tmp 121) (by rfl) (w.heap.size+1+1) _ (by rfl) (by rfl) (by exact zCi _ _ _ _) (by rfl) (by simp [HS.out]) (by simp only [jE];exact jD _) ?_;intro w2 r1 r2 r3 r4))
 have hB:Below w.heap.size w w2:=((((Below.refl _ _).alloc (Nat.le_refl _) _).alloc (by simp) _).alloc (by simp;omega) _).trans (r4 _ (by omega))
 clear r2 r3 r4
 refine bodyPost_ret (vP rfl (by rfl) r1 (by simp [HS.out])) rfl ⟨?_,hB⟩
 simp only [jE]
 rfl
theorem zOQ {w:World} {wb gc gi ga gk cc ci ca ck:Nat} {c:List Mt.Ins} {text:ByteArray} {inn:List Bool} {ar:List Int} {budget:Int} {kn:List Bool} {room used:Int} {over:Bool}
  (h:zM w wb gc gi ga gk cc ci ca ck c text inn ar budget kn room used over) (s:List Int) (x:Mt.Ins) (pc pos:Nat) (h0:s[0]?=some (pc:Int)) (h1:s[1]?=some (pos:Int)) (hs:s.length=44) (hpc:pc≤300) (hpos:pos≤text.size) (ht:text.size≤60)
  (o1:(x.op==1)=false) (o3:(x.op==3)=false) (o4:(x.op==4)=false) (o5:(x.op==5)=false) (o6:(x.op==6)=true) (x0:0≤x.x) (x1:x.x<10) :
  Calls Tryz.prog 118 #[.pointer (some ⟨wb,0,none⟩),stV s,zCM x] w fun e w'=>e=.returned (.tuple #[stV ((s.set (22+x.x.toNat) (pos:Int)).set 0 ((pc:Int)+1)),.bool true])∧Below w.heap.size w w':=by
 have HS:Hid (s.length=44):=hs
 have hcb:=zA h.cell
 have hwb:wb<w.heap.size:=(Array.getElem?_eq_some_iff.1 h.cell).1
 have c1:w.cell? ⟨wb,1,none⟩=some (.string text):=hcb.1 1
 have hmk:s[22+x.x.toNat]?=some (Mt.gt s (22+x.x.toNat)):=by unfold Mt.gt;rw [List.getD_eq_getElem?_getD,List.getElem?_eq_getElem (by omega)];rfl
 have zP7:wb<w.heap.size+1:=by omega
 have zRV:wb<w.heap.size+1+1:=by omega
 have hdn:∀ (W:World) (n:Nat) (a:Addr) (v:Value),(W.drewN n).setCell a v=(W.setCell a v).drewN n:=fun _ _ _ _=>rfl
 clear hs h hcb
 unfold stV zCM
 have hz:=vU
 go_enter Tryz.func118,Tryz.ntmps118
 go_wp2_with (first | (refine zG (by rfl) (.tmp 4) (by rfl) w.heap.size (by rfl) (by exact zA5 _ _ _ _) (by simp [HS.out]) ?_) | (refine zF (by rfl) (.tmp 6) (.tmp 121) (by rfl) (w.heap.size+1+1) _ (by rfl) (by rfl) (by exact zCi _ _ _ _) (by rfl) (by simp [HS.out]) (by simp only [jE];exact jD _) ?_;intro w2 r1 r2 r3 r4))
 have hB:Below w.heap.size w w2:=((((Below.refl _ _).alloc (Nat.le_refl _) _).alloc (by simp) _).alloc (by simp;omega) _).trans (r4 _ (by omega))
 clear r2 r3 r4
 refine bodyPost_ret (vP rfl (by rfl) r1 (by simp [HS.out])) rfl ⟨?_,hB⟩
 simp only [jE]
 rfl
theorem zOR {w:World} {wb gc gi ga gk cc ci ca ck:Nat} {c:List Mt.Ins} {text:ByteArray} {inn:List Bool} {ar:List Int} {budget:Int} {kn:List Bool} {room used:Int} {over:Bool}
  (h:zM w wb gc gi ga gk cc ci ca ck c text inn ar budget kn room used over) (s:List Int) (x:Mt.Ins) (pc pos:Nat) (h0:s[0]?=some (pc:Int)) (h1:s[1]?=some (pos:Int)) (hs:s.length=44) (hpc:pc≤300) (hpos:pos≤text.size) (ht:text.size≤60)
  (o1:(x.op==1)=false) (o3:(x.op==3)=false) (o4:(x.op==4)=false) (o5:(x.op==5)=false) (o6:(x.op==6)=false) (o7:(x.op==7)=false) (o8:(x.op==8)=false) (o9:(x.op==9)=false) (o10:(x.op==10)=true) :
  Calls Tryz.prog 118 #[.pointer (some ⟨wb,0,none⟩),stV s,zCM x] w fun e w'=>e=.returned (.tuple #[stV (s.set 0 ((pc:Int)+1)),.bool ((pos:Int)==(text.size:Int))])∧Below w.heap.size w w':=by
 have HS:Hid (s.length=44):=hs
 have hcb:=zA h.cell
 have hwb:wb<w.heap.size:=(Array.getElem?_eq_some_iff.1 h.cell).1
 have c1:w.cell? ⟨wb,1,none⟩=some (.string text):=hcb.1 1
 have zP7:wb<w.heap.size+1:=by omega
 have zRV:wb<w.heap.size+1+1:=by omega
 have hdn:∀ (W:World) (n:Nat) (a:Addr) (v:Value),(W.drewN n).setCell a v=(W.setCell a v).drewN n:=fun _ _ _ _=>rfl
 clear hs h hcb
 unfold stV zCM
 have hz:=vU
 go_enter Tryz.func118,Tryz.ntmps118
 go_wp2_with fail
 go_quiet (fail)
 go_wp2_with (first | (refine zG (by rfl) (.tmp 4) (by rfl) w.heap.size (by rfl) (by exact zA5 _ _ _ _) (by simp [HS.out]) ?_) | (refine zF (by rfl) (.tmp 6) (.tmp 121) (by rfl) (w.heap.size+1+1) _ (by rfl) (by rfl) (by exact zCi _ _ _ _) (by rfl) (by simp [HS.out]) (by simp only [jE];exact jD _) ?_;intro w2 r1 r2 r3 r4))
 have hB:Below w.heap.size w w2:=(below_drewN ((((Below.refl _ _).alloc (Nat.le_refl _) _).alloc (by simp) _).alloc (by simp;omega) _) _).trans (r4 _ (by omega))
 clear r2 r3 r4
 refine bodyPost_ret (vP rfl (by rfl) r1 (by simp [HS.out])) rfl ⟨?_,hB⟩
 simp only [jE]
 rfl
theorem zMM {w:World} {wb gc gi ga gk cc ci ca ck:Nat} {c:List Mt.Ins} {text:ByteArray} {inn:List Bool} {ar:List Int} {budget:Int} {kn:List Bool} {room used:Int} {over:Bool}
  (h:zM w wb gc gi ga gk cc ci ca ck c text inn ar budget kn room used over) (s:List Int) (x:Mt.Ins) (pc pos:Nat) (h0:s[0]?=some (pc:Int)) (h1:s[1]?=some (pos:Int)) (hs:s.length=44) (hpc:pc≤300) (hpos:pos≤text.size) (ht:text.size≤60)
  (o1:(x.op==1)=false) (o3:(x.op==3)=false) (o4:(x.op==4)=false) (o5:(x.op==5)=true) (x0:0≤x.y) (x1:x.y<12) :
  Calls Tryz.prog 118 #[.pointer (some ⟨wb,0,none⟩),stV s,zCM x] w fun e w'=>e=.returned (.tuple #[stV (s.set 0 x.x),.bool (Mt.gt s (32+x.y.toNat) != (pos:Int))])∧Below w.heap.size w w':=by
 have HS:Hid (s.length=44):=hs
 have hcb:=zA h.cell
 have hwb:wb<w.heap.size:=(Array.getElem?_eq_some_iff.1 h.cell).1
 have c1:w.cell? ⟨wb,1,none⟩=some (.string text):=hcb.1 1
 have hmk:s[32+x.y.toNat]?=some (Mt.gt s (32+x.y.toNat)):=by unfold Mt.gt;rw [List.getD_eq_getElem?_getD,List.getElem?_eq_getElem (by omega)];rfl
 have zP7:wb<w.heap.size+1:=by omega
 have zRV:wb<w.heap.size+1+1:=by omega
 have hdn:∀ (W:World) (n:Nat) (a:Addr) (v:Value),(W.drewN n).setCell a v=(W.setCell a v).drewN n:=fun _ _ _ _=>rfl
 clear hs h hcb
 unfold stV zCM
 have hz:=vU
 go_enter Tryz.func118,Tryz.ntmps118
 go_wp2_with fail
 go_quiet (fail)
 go_wp2_with (first | (refine zG (by rfl) (.tmp 4) (by rfl) w.heap.size (by rfl) (by exact zA5 _ _ _ _) (by simp [HS.out]) ?_) | (refine zF (by rfl) (.tmp 6) (.tmp 63) (by rfl) (w.heap.size+1+1) _ (by rfl) (by rfl) (by exact zCi _ _ _ _) (by rfl) (by simp [HS.out]) (by simp only [jE];exact jD _) ?_;intro w2 r1 r2 r3 r4))
 have hB:Below w.heap.size w w2:=(below_drewN ((((Below.refl _ _).alloc (Nat.le_refl _) _).alloc (by simp) _).alloc (by simp;omega) _) _).trans (r4 _ (by omega))
 clear r2 r3 r4
 refine bodyPost_ret (vP rfl (by rfl) r1 (by simp [HS.out])) rfl ⟨?_,hB⟩
 simp only [jE]
 rfl
theorem zMN {w:World} {wb gc gi ga gk cc ci ca ck:Nat} {c:List Mt.Ins} {text:ByteArray} {inn:List Bool} {ar:List Int} {budget:Int} {kn:List Bool} {room used:Int} {over:Bool}
  (h:zM w wb gc gi ga gk cc ci ca ck c text inn ar budget kn room used over) (s:List Int) (x:Mt.Ins) (pc pos:Nat) (h0:s[0]?=some (pc:Int)) (h1:s[1]?=some (pos:Int)) (hs:s.length=44) (hpc:pc≤300) (hpos:pos≤text.size) (ht:text.size≤60)
  (o1:(x.op==1)=false) (o3:(x.op==3)=false) (o4:(x.op==4)=false) (o5:(x.op==5)=false) (o6:(x.op==6)=false) (o7:(x.op==7)=true) (x0:0≤x.x) (x1:x.x<10) :
  Calls Tryz.prog 118 #[.pointer (some ⟨wb,0,none⟩),stV s,zCM x] w fun e w'=>e=.returned (.tuple #[stV (((s.set (2+(2*x.x).toNat) (Mt.gt s (22+x.x.toNat))).set (2+(2*x.x+1).toNat) (pos:Int)).set 0 ((pc:Int)+1)),.bool true])∧Below w.heap.size w w':=by
 have HS:Hid (s.length=44):=hs
 have hcb:=zA h.cell
 have hwb:wb<w.heap.size:=(Array.getElem?_eq_some_iff.1 h.cell).1
 have c1:w.cell? ⟨wb,1,none⟩=some (.string text):=hcb.1 1
 have hmk:s[22+x.x.toNat]?=some (Mt.gt s (22+x.x.toNat)):=by unfold Mt.gt;rw [List.getD_eq_getElem?_getD,List.getElem?_eq_getElem (by omega)];rfl
 have zUy:s[2+(2*x.x).toNat]?=some (Mt.gt s (2+(2*x.x).toNat)):=by unfold Mt.gt;rw [List.getD_eq_getElem?_getD,List.getElem?_eq_getElem (by omega)];rfl
 have zTU:s[2+(2*x.x+1).toNat]?=some (Mt.gt s (2+(2*x.x+1).toNat)):=by unfold Mt.gt;rw [List.getD_eq_getElem?_getD,List.getElem?_eq_getElem (by omega)];rfl
 have q1:((s.map (Value.int .i64)).set (2+(2*x.x).toNat) (.int .i64 (Mt.gt s (22+x.x.toNat))))[1]?=some (.int .i64 (pos:Int)):=by
  rw [List.getElem?_set_ne (by omega),List.getElem?_map,h1];rfl
 have q2:((s.map (Value.int .i64)).set (2+(2*x.x).toNat) (.int .i64 (Mt.gt s (22+x.x.toNat))))[2+(2*x.x+1).toNat]?=some (.int .i64 (Mt.gt s (2+(2*x.x+1).toNat))):=by
  rw [List.getElem?_set_ne (by omega),List.getElem?_map,zTU];rfl
 have q3:(((s.map (Value.int .i64)).set (2+(2*x.x).toNat) (.int .i64 (Mt.gt s (22+x.x.toNat)))).set (2+(2*x.x+1).toNat) (.int .i64 (pos:Int)))[0]?=some (.int .i64 (pc:Int)):=by
  rw [List.getElem?_set_ne (by omega),List.getElem?_set_ne (by omega),List.getElem?_map,h0];rfl
 have zP7:wb<w.heap.size+1:=by omega
 have zRV:wb<w.heap.size+1+1:=by omega
 have hdn:∀ (W:World) (n:Nat) (a:Addr) (v:Value),(W.drewN n).setCell a v=(W.setCell a v).drewN n:=fun _ _ _ _=>rfl
 clear hs h hcb
 unfold stV zCM
 have hz:=vU
 go_enter Tryz.func118,Tryz.ntmps118
 go_wp2_with fail
 go_region
 go_wp2_with (first | (refine zG (by rfl) (.tmp 4) (by rfl) w.heap.size (by rfl) (by exact zA5 _ _ _ _) (by simp [HS.out]) ?_) | (refine zF (by rfl) (.tmp 6) (.tmp 121) (by rfl) (w.heap.size+1+1) _ (by rfl) (by rfl) (by exact zCi _ _ _ _) (by rfl) (by simp [HS.out]) (by simp only [jE];exact jD _) ?_;intro w2 r1 r2 r3 r4))
 have hB:Below w.heap.size w w2:=(((((Below.refl _ _).alloc (Nat.le_refl _) _).alloc (by simp) _).alloc (by simp;omega) _).drew).trans (r4 _ (by omega))
 clear r2 r3 r4
 refine bodyPost_ret (vP rfl (by rfl) r1 (by simp [HS.out])) rfl ⟨?_,hB⟩
 simp only [jE]
 rfl
theorem zJr {P:Program} {f:FuncId} {args:Array Value} {X:World} {a b:Nat} {v:Value} (h:Calls P f args (X.drewN (a+b)) fun e w'=>e=.returned v∧w'=X.drewN (a+b)) :
  Calls P f args (X.drewN (a+b)) fun e w''=>e=.returned v∧∃ n,w''=X.drewN (a+n):=h.mono fun _ _ hh=>⟨hh.1,b,hh.2⟩
theorem zOS {w:World} {wb gc gi ga gk cc ci ca ck:Nat} {c:List Mt.Ins} {text:ByteArray} {inn:List Bool} {ar:List Int} {budget:Int} {kn:List Bool} {room used:Int} {over:Bool}
  (h:zM w wb gc gi ga gk cc ci ca ck c text inn ar budget kn room used over) (s:List Int) (x:Mt.Ins) (pc pos:Nat) (h0:s[0]?=some (pc:Int)) (h1:s[1]?=some (pos:Int)) (hs:s.length=44) (hpc:pc≤300) (hpos:pos≤text.size) (ht:text.size≤60)
  (o1:(x.op==1)=true) (hp:¬ pos<text.size) :
  Calls Tryz.prog 118 #[.pointer (some ⟨wb,0,none⟩),stV s,zCM x] w fun e w'=>e=.returned (.tuple #[stV ((s.set 1 ((pos:Int)+1)).set 0 ((pc:Int)+1)),.bool false])∧Below w.heap.size w w':=by
 have HS:Hid (s.length=44):=hs
 have hcb:=zA h.cell
 have hwb:wb<w.heap.size:=(Array.getElem?_eq_some_iff.1 h.cell).1
 have c1:w.cell? ⟨wb,1,none⟩=some (.string text):=hcb.1 1
 have zP7:wb<w.heap.size+1:=by omega
 have zRV:wb<w.heap.size+1+1:=by omega
 have hdn:∀ (W:World) (n:Nat) (a:Addr) (v:Value),(W.drewN n).setCell a v=(W.setCell a v).drewN n:=fun _ _ _ _=>rfl
 clear hs h hcb
 unfold stV zCM
 have hz:=vU
 go_enter Tryz.func118,Tryz.ntmps118
 go_wp2_with fail
 go_quiet (fail)
 go_wp2_with (first | (refine zG (by rfl) (.tmp 4) (by rfl) w.heap.size (by rfl) (by exact zA5 _ _ _ _) (by simp [HS.out]) ?_) | (refine zF (by rfl) (.tmp 6) (.tmp 121) (by rfl) (w.heap.size+1+1) _ (by rfl) (by rfl) (by exact zCi _ _ _ _) (by rfl) (by simp [HS.out]) (by simp only [jE];exact jD _) ?_;intro w2 r1 r2 r3 r4))
 have hB:Below w.heap.size w w2:=(below_drewN ((((Below.refl _ _).alloc (Nat.le_refl _) _).alloc (by simp) _).alloc (by simp;omega) _) _).trans (r4 _ (by omega))
 clear r2 r3 r4
 refine bodyPost_ret (vP rfl (by rfl) r1 (by simp [HS.out])) rfl ⟨?_,hB⟩
 simp only [jE]
 rfl
theorem one_byte {w:World} {wb gc gi ga gk cc ci ca ck:Nat} {c:List Mt.Ins} {text:ByteArray} {inn:List Bool} {ar:List Int} {budget:Int} {kn:List Bool} {room used:Int} {over:Bool}
  (h:zM w wb gc gi ga gk cc ci ca ck c text inn ar budget kn room used over) (s:List Int) (x:Mt.Ins) (pc pos:Nat) (h0:s[0]?=some (pc:Int)) (h1:s[1]?=some (pos:Int)) (hs:s.length=44) (hpc:pc≤300) (hpos:pos≤text.size) (ht:text.size≤60)
  (o1:(x.op==1)=true) (hp:pos<text.size) (hset:x.set.length≤256) :
  Calls Tryz.prog 118 #[.pointer (some ⟨wb,0,none⟩),stV s,zCM x] w fun e w'=>e=.returned (.tuple #[stV ((s.set 1 ((pos:Int)+1)).set 0 ((pc:Int)+1)),.bool (Mt.hasB ⟨x.set.toArray⟩ ((text[pos]'hp).toNat:Int))])∧Below w.heap.size w w':=by
 have HS:Hid (s.length=44):=hs
 have hcb:=zA h.cell
 have hwb:wb<w.heap.size:=(Array.getElem?_eq_some_iff.1 h.cell).1
 have c1:w.cell? ⟨wb,1,none⟩=some (.string text):=hcb.1 1
 have hbb:=(text[pos]'hp).toNat_lt
 have KH:Hid (∀ z:World,Calls Tryz.prog 142 #[.string ⟨x.set.toArray⟩,.int .u8 ((text[pos]'hp).toNat:Int)] z fun e w'=>e=.returned (.bool (Mt.hasB ⟨x.set.toArray⟩ ((text[pos]'hp).toNat:Int)))∧w'=z):=fun z=>(zQw ⟨x.set.toArray⟩ _ z (by show x.set.toArray.size≤1000;simp;omega) (by omega) (by omega)).mono (fun e w' hh=>⟨hh.1,hh.2.symm⟩)
 have zP7:wb<w.heap.size+1:=by omega
 have zRV:wb<w.heap.size+1+1:=by omega
 have hdn:∀ (W:World) (n:Nat) (a:Addr) (v:Value),(W.drewN n).setCell a v=(W.setCell a v).drewN n:=fun _ _ _ _=>rfl
 clear hs h hcb
 unfold stV zCM
 have hz:=vU
 go_enter Tryz.func118,Tryz.ntmps118
 go_wp2_with fail
 go_quiet (fail)
 go_wp2_with fail
 go_quiet ((go_at_call 142;exact zJr (KH.out _)))
 go_wp2_with (first | (refine zG (by rfl) (.tmp 4) (by rfl) w.heap.size (by rfl) (by exact zA5 _ _ _ _) (by simp [HS.out]) ?_) | (refine zF (by rfl) (.tmp 6) (.tmp 121) (by rfl) (w.heap.size+1+1) _ (by rfl) (by rfl) (by exact zCi _ _ _ _) (by rfl) (by simp [HS.out]) (by simp only [jE];exact jD _) ?_;intro w2 r1 r2 r3 r4))
 have hB:Below w.heap.size w w2:=(below_drewN ((((Below.refl _ _).alloc (Nat.le_refl _) _).alloc (by simp) _).alloc (by simp;omega) _) _).trans (r4 _ (by omega))
 clear r2 r3 r4
 refine bodyPost_ret (vP rfl (by rfl) r1 (by simp [HS.out])) rfl ⟨?_,hB⟩
 simp only [jE]
 rfl
theorem zCs (w:World) (A C:Obj):((w.alloc A).alloc C).heap[w.heap.size]?=some A:=by
 rw [kG _ _ _ (by simp),heap_alloc_new]
theorem zBZ (w:World) (A C:Obj):((w.alloc A).alloc C).heap[w.heap.size+1]?=some C:=by
 have:(w.alloc A).heap.size=w.heap.size+1:=by simp
 rw [← this,heap_alloc_new]
theorem zMO {w:World} {wb gc gi ga gk cc ci ca ck:Nat} {c:List Mt.Ins} {text:ByteArray} {inn:List Bool} {ar:List Int} {budget:Int} {kn:List Bool} {room used:Int} {over:Bool}
  (h:zM w wb gc gi ga gk cc ci ca ck c text inn ar budget kn room used over) (s:List Int) (k:Int) (pc pos:Nat) (h0:s[0]?=some (pc:Int)) (h1:s[1]?=some (pos:Int)) (hs:s.length=44) (hpc:pc≤300) (hpos:pos≤text.size) (ht:text.size≤60) (x0:0≤k) (x1:k<10)
  (a b:Int) (ha:s[2+(2*k).toNat]?=some a) (hb:s[2+(2*k+1).toNat]?=some b) (han:decide (a<0)=true) :
  Calls Tryz.prog 143 #[.pointer (some ⟨wb,0,none⟩),stV s,.int .i64 k] w fun e w'=>e=.returned (.tuple #[stV (s),.bool false])∧Below w.heap.size w w':=by
 have HS:Hid (s.length=44):=hs
 have hcb:=zA h.cell
 have hwb:wb<w.heap.size:=(Array.getElem?_eq_some_iff.1 h.cell).1
 have c1:w.cell? ⟨wb,1,none⟩=some (.string text):=hcb.1 1
 have zP7:wb<w.heap.size+1:=by omega
 have hdn:∀ (W:World) (n:Nat) (a:Addr) (v:Value),(W.drewN n).setCell a v=(W.setCell a v).drewN n:=fun _ _ _ _=>rfl
 clear hs h hcb
 unfold stV
 have hz:=vU
 go_enter Tryz.func143,Tryz.ntmps143
 go_wp2_with fail
 go_quiet (fail)
 go_wp2_with (first | (refine zG (by rfl) (.tmp 4) (by rfl) w.heap.size (by rfl) (by exact zCs _ _ _) (by simp [HS.out]) ?_) | (refine zF (by rfl) (.tmp 6) (.tmp 38) (by rfl) (w.heap.size+1) _ (by rfl) (by rfl) (by exact zBZ _ _ _) (by rfl) (by simp [HS.out]) (by first | exact jD _ | (simp only [jE];exact jD _)) ?_;intro w2 r1 r2 r3 r4))
 have hB:Below w.heap.size w w2:=(below_drewN (((Below.refl _ _).alloc (Nat.le_refl _) _).alloc (by simp) _) _).trans (r4 _ (by omega))
 clear r2 r3 r4
 refine bodyPost_ret (vP rfl (by rfl) r1 (by simp [HS.out])) rfl ⟨?_,hB⟩
 try simp only [jE]
 rfl
theorem zMP {w:World} {wb gc gi ga gk cc ci ca ck:Nat} {c:List Mt.Ins} {text:ByteArray} {inn:List Bool} {ar:List Int} {budget:Int} {kn:List Bool} {room used:Int} {over:Bool}
  (h:zM w wb gc gi ga gk cc ci ca ck c text inn ar budget kn room used over) (s:List Int) (k:Int) (pc pos:Nat) (h0:s[0]?=some (pc:Int)) (h1:s[1]?=some (pos:Int)) (hs:s.length=44) (hpc:pc≤300) (hpos:pos≤text.size) (ht:text.size≤60) (x0:0≤k) (x1:k<10)
  (a b:Nat) (ha:s[2+(2*k).toNat]?=some (a:Int)) (hb:s[2+(2*k+1).toNat]?=some (b:Int)) (hab:a≤b) (hbT:b≤text.size) (hlong:text.size<pos+(b-a)) :
  Calls Tryz.prog 143 #[.pointer (some ⟨wb,0,none⟩),stV s,.int .i64 k] w fun e w'=>e=.returned (.tuple #[stV (s),.bool false])∧Below w.heap.size w w':=by
 have HS:Hid (s.length=44):=hs
 have hcb:=zA h.cell
 have hwb:wb<w.heap.size:=(Array.getElem?_eq_some_iff.1 h.cell).1
 have c1:w.cell? ⟨wb,1,none⟩=some (.string text):=hcb.1 1
 have zP7:wb<w.heap.size+1:=by omega
 have hdn:∀ (W:World) (n:Nat) (a:Addr) (v:Value),(W.drewN n).setCell a v=(W.setCell a v).drewN n:=fun _ _ _ _=>rfl
 clear hs h hcb
 unfold stV
 have hz:=vU
 go_enter Tryz.func143,Tryz.ntmps143
 have q0:decide ((a:Int)<0)=false:=by simp
 go_wp2_with fail
 go_quiet (fail)
 go_wp2_with (first | (refine zG (by rfl) (.tmp 4) (by rfl) w.heap.size (by rfl) (by exact zCs _ _ _) (by simp [HS.out]) ?_) | (refine zF (by rfl) (.tmp 6) (.tmp 38) (by rfl) (w.heap.size+1) _ (by rfl) (by rfl) (by exact zBZ _ _ _) (by rfl) (by simp [HS.out]) (by first | exact jD _ | (simp only [jE];exact jD _)) ?_;intro w2 r1 r2 r3 r4))
 have hB:Below w.heap.size w w2:=(below_drewN (((Below.refl _ _).alloc (Nat.le_refl _) _).alloc (by simp) _) _).trans (r4 _ (by omega))
 clear r2 r3 r4
 refine bodyPost_ret (vP rfl (by rfl) r1 (by simp [HS.out])) rfl ⟨?_,hB⟩
 try simp only [jE]
 rfl
theorem zMQ {w:World} {wb gc gi ga gk cc ci ca ck:Nat} {c:List Mt.Ins} {text:ByteArray} {inn:List Bool} {ar:List Int} {budget:Int} {kn:List Bool} {room used:Int} {over:Bool}
  (h:zM w wb gc gi ga gk cc ci ca ck c text inn ar budget kn room used over) (s:List Int) (k:Int) (pc pos:Nat) (h0:s[0]?=some (pc:Int)) (h1:s[1]?=some (pos:Int)) (hs:s.length=44) (hpc:pc≤300) (hpos:pos≤text.size) (ht:text.size≤60) (x0:0≤k) (x1:k<10)
  (a b:Nat) (ha:s[2+(2*k).toNat]?=some (a:Int)) (hb:s[2+(2*k+1).toNat]?=some (b:Int)) (hab:a≤b) (hbT:b≤text.size) (hfit:pos+(b-a)≤text.size) :
  Calls Tryz.prog 143 #[.pointer (some ⟨wb,0,none⟩),stV s,.int .i64 k] w fun e w'=>e=.returned (.tuple #[stV ((s.set 1 ((pos:Int)+b-a)).set 0 ((pc:Int)+1)),.bool ((text.extract a b).toList==(text.extract pos (pos+b-a)).toList)])∧Below w.heap.size w w':=by
 have HS:Hid (s.length=44):=hs
 have hcb:=zA h.cell
 have hwb:wb<w.heap.size:=(Array.getElem?_eq_some_iff.1 h.cell).1
 have c1:w.cell? ⟨wb,1,none⟩=some (.string text):=hcb.1 1
 have zP7:wb<w.heap.size+1:=by omega
 have hdn:∀ (W:World) (n:Nat) (a:Addr) (v:Value),(W.drewN n).setCell a v=(W.setCell a v).drewN n:=fun _ _ _ _=>rfl
 clear hs h hcb
 unfold stV
 have hz:=vU
 go_enter Tryz.func143,Tryz.ntmps143
 have q0:decide ((a:Int)<0)=false:=by simp
 go_wp2_with fail
 go_quiet (fail)
 go_wp2_with fail
 go_quiet (fail)
 go_wp2_with (first | (refine zG (by rfl) (.tmp 4) (by rfl) w.heap.size (by rfl) (by exact zCs _ _ _) (by simp [HS.out]) ?_) | (refine zF (by rfl) (.tmp 6) (.tmp 71) (by rfl) (w.heap.size+1) _ (by rfl) (by rfl) (by exact zBZ _ _ _) (by rfl) (by simp [HS.out]) (by first | exact jD _ | (simp only [jE];exact jD _)) ?_;intro w2 r1 r2 r3 r4))
 have hB:Below w.heap.size w w2:=(below_drewN (((Below.refl _ _).alloc (Nat.le_refl _) _).alloc (by simp) _) _).trans (r4 _ (by omega))
 clear r2 r3 r4
 refine bodyPost_ret (vP rfl (by rfl) r1 (by simp [HS.out])) rfl ⟨?_,hB⟩
 try simp only [jE]
 rfl
theorem zOT {w:World} {wb gc gi ga gk cc ci ca ck:Nat} {c:List Mt.Ins} {text:ByteArray} {inn:List Bool} {ar:List Int} {budget:Int} {kn:List Bool} {room used:Int} {over:Bool}
  (h:zM w wb gc gi ga gk cc ci ca ck c text inn ar budget kn room used over) (s s':List Int) (ok:Bool) (x:Mt.Ins) (pc pos:Nat) (h0:s[0]?=some (pc:Int)) (h1:s[1]?=some (pos:Int)) (hs:s.length=44) (hs':s'.length=44) (hpc:pc≤300) (hpos:pos≤text.size) (ht:text.size≤60)
  (KB:Hid (∀ z:World,zM z wb gc gi ga gk cc ci ca ck c text inn ar budget kn room used over→Calls Tryz.prog 143 #[.pointer (some ⟨wb,0,none⟩),stV s,.int .i64 x.x] z fun e w'=>e=.returned (.tuple #[stV s',.bool ok])∧Below z.heap.size z w'))
  (o1:(x.op==1)=false) (o3:(x.op==3)=false) (o4:(x.op==4)=false) (o5:(x.op==5)=false) (o6:(x.op==6)=false) (o7:(x.op==7)=false) (o8:(x.op==8)=true) :
  Calls Tryz.prog 118 #[.pointer (some ⟨wb,0,none⟩),stV s,zCM x] w fun e w'=>e=.returned (.tuple #[stV s',.bool ok])∧Below w.heap.size w w':=by
 have HS:Hid (s.length=44):=hs
 have HS':Hid (s'.length=44):=hs'
 have HW:Hid (zM w wb gc gi ga gk cc ci ca ck c text inn ar budget kn room used over):=h
 clear hs h hs'
 unfold stV zCM
 have hz:=vU
 go_enter Tryz.func118,Tryz.ntmps118
 go_wp2_with (first | (refine zG (by rfl) (.tmp 4) (by rfl) w.heap.size (by rfl) (by exact zA5 _ _ _ _) (by simp [HS.out]) ?_) | fail)
 refine (KB.out _ (HW.out.below (((((Below.refl _ _).alloc (Nat.le_refl _) _).alloc (by simp) _).alloc (by simp;omega) _)))).mono ?_
 rintro e w1 ⟨rfl,hb1⟩
 have hA:w1.heap[w.heap.size+1+1]?=some zDc:=by rw [hb1.block _ (by simp)];exact zCi _ _ _ _
 have hB1:Below w.heap.size w w1:=(((((Below.refl _ _).alloc (Nat.le_refl _) _).alloc (by simp) _).alloc (by simp;omega) _)).trans (hb1.mono (by simp;omega))
 have HA:Hid (w1.heap[w.heap.size+1+1]?=some zDc):=hA
 clear hA hb1
 go_wp2_with (refine zF (by rfl) (.tmp 6) (.tmp 100) (by rfl) (w.heap.size+1+1) (s'.map (Value.int .i64)).toArray (by rfl) (by rfl) (by exact HA.out) (by rfl) (by simp [HS'.out]) (jD _) ?_;intro w2 r1 r2 r3 r4)
 have hB:Below w.heap.size w w2:=hB1.trans (r4 _ (by omega))
 clear r2 r3 r4
 refine bodyPost_ret (vP rfl (by rfl) r1 (by simp [HS'.out])) rfl ⟨rfl,hB⟩
def zOm (k:Nat):Array Value:=(List.replicate k (Value.int .i64 (-1))++List.replicate (20-k) (Value.int .i64 0)).toArray
theorem Tryz.size55:(Tryz.prog.info? 55).map (·.size)=some 20:=by kernel_rfl
theorem zF4 {ops:Array Oper} {rest:List Oper} {op:Oper} {a:Act} {w:World} {Q:Exit→Act→World→Prop} (hgd:op.guard=none) (x:Operand) (ho:op.op=.load 55 x)
  (b:Nat) (hx:a.eval x=.pointer (some ⟨b,0,none⟩)) {t:TypeId} {A:Array Value} (hA:w.heap[b]?=some (.cells A t (0,0))) (hs:A.size=20)
  (h:wpList Tryz.prog ops Q rest (a.put op.dst (.agg A)) w):wpList Tryz.prog ops Q (op::rest) a w :=
 wpList_load_mid hgd _ x ho b 0 hx A.toList _ (yP hA) Tryz.underlying55 rfl (by rw [Tryz.size55];simp [hs]) h
theorem zFh {ops:Array Oper} {rest:List Oper} {op:Oper} {a:Act} {w:World} {Q:Exit→Act→World→Prop} (hgd:op.guard=none) (x y:Operand) (ho:op.op=.store 55 x y)
  (b:Nat) (cs:Array Value) (hx:a.eval x=.pointer (some ⟨b,0,none⟩)) (hy:a.eval y=.agg cs) {t:TypeId} {B:Array Value} (hB:w.heap[b]?=some (.cells B t (0,0))) (hs:B.size=20) (hc:cs.size=20) (h1:cs.all (·.oneCell')=true)
  (h:∀ w2:World,w2.heap[b]?=some (.cells cs t (0,0))→(∀ k,k≠b→w2.heap[k]?=w.heap[k]?)→w2.heap.size=w.heap.size→(∀ L,L≤b→Below L w w2)→wpList Tryz.prog ops Q rest (a.put op.dst undef) w2):wpList Tryz.prog ops Q (op::rest) a w:=by
 have hb:=zA hB
 refine wpList_store_mid hgd _ x y ho b 0 cs hx hy (yS hb.1 hb.2 _ (by omega)) (by rw [Tryz.size55,hc]) h1 ?_
 exact h _ (zAV hB cs (by omega)) (fun k hk=>yT b _ 0 w k hk) (below_setCells b _ 0 w 0 (Nat.zero_le _)).2 (fun L hL=>(below_setCells b _ 0 w L hL).1)
theorem zQz:(zOm 20).all (·.oneCell')=true:=by
 unfold zOm;rw [List.all_toArray];simp [Value.oneCell']
theorem zEq {fn:Func} {p:Tmp} {ty:TypeId} (h:fn.results=#[.cell p ty]) (tmps:Array Value) (P:Program) (w:World) :
  (results fn tmps).run P w=((asAddr (tmps.getD p undef)).run P w).andThen fun a w₁=>((loadVar ty a).run P w₁).andThen fun v w₂=>.ok v w₂:=by
 simp only [results,h]
 simp [Sem.run_bind,Result.andThen]
 cases Sem.run P (asAddr (tmps[p]?.getD undef)) w with
 | ok a w1=>dsimp only;cases Sem.run P (loadVar ty a) w1 <;> rfl
 | halt h w1=>rfl
theorem zRW {fn:Func} {p:Tmp} (hr:fn.results=#[.cell p 55]) {tmps:Array Value} {w:World} {b:Nat} {t:TypeId} {A:Array Value} (hp:tmps.getD p undef=.pointer (some ⟨b,0,none⟩)) (hA:w.heap[b]?=some (.cells A t (0,0))) (hs:A.size=20) :
  (results fn tmps).run Tryz.prog w=.ok (.agg A) w:=by
 rw [zEq hr,hp]
 have:=run_loadVar_mid (P:=Tryz.prog) w b 0 55 A.toList _ (yP hA) Tryz.underlying55 rfl (by rw [Tryz.size55];simp [hs])
 simp [asAddr,Result.andThen,this]
theorem zMR (k:Nat) (h:k<20):(zOm k).setIfInBounds k (.int .i64 (-1))=zOm (k+1):=by
 unfold zOm
 have e:20-k=(20-(k+1))+1:=by omega
 rw [List.setIfInBounds_toArray,e,List.replicate_succ,List.set_append_right _ _ (by simp)]
 simp [List.replicate_succ',List.append_assoc]
theorem zFi (w:World) :
  Calls Tryz.prog 81 #[] w fun e w'=>e=.returned (.agg ((List.replicate 20 (-1:Int)).map (Value.int .i64)).toArray)∧Below w.heap.size w w':=by
 go_enter Tryz.func81,Tryz.ntmps81
 go_wp2_with fail
 go_loopw [2] (fun i wr=>∃ k:Nat,k≤20∧i=.int .i64 k∧wr.heap[w.heap.size+1]?=some (.cells (zOm k) 55 (0,0))∧wr.heap[w.heap.size]?=some (.cells (zOm 0) 55 (0,0))∧w.heap.size+1<wr.heap.size∧Below w.heap.size w wr) (fun i _=>20-(intOf i).toNat)
 case atStart=>exact ⟨0,by omega,rfl,zBZ _ _ _,zCs _ _ _,by simp,by go_grown⟩
 case round =>
  obtain ⟨k,hk,rfl,hblk,zSR,hlt,hB⟩:=hrel
  have HB:Hid (wr.heap[w.heap.size+1]?=some (.cells (zOm k) 55 (0,0))):=hblk
  have HB0:Hid (wr.heap[w.heap.size]?=some (.cells (zOm 0) 55 (0,0))):=zSR
  have HBB:Hid (Below w.heap.size w wr):=hB
  by_cases hl:k<20
  ·have zz:wr.cell? ⟨w.heap.size+1,k,none⟩=some (.int .i64 0):=by
    rw [(zA hblk).1];unfold zOm;rw [List.getElem?_toArray,List.getElem?_append_right (by simp)];simp only [List.length_replicate,Nat.sub_self];rw [List.getElem?_replicate,if_pos (by omega)]
   have z2:=(zA hblk).2 k
   clear hblk zSR hB
   go_wp2_with fail
   go_roundw
   case rel =>
    refine ⟨k+1,by omega,by go_num,?_,?_,by simpa [World.setCell] using hlt,HBB.out.setCell (p:=⟨w.heap.size+1,k,none⟩) (by simp) _⟩
    ·rw [← zMR k hl];exact Go.heap_setCell_same wr _ k _ _ _ HB.out
    ·rw [Below.heap_setCell _ _ _ _ (by show w.heap.size≠w.heap.size+1;omega)];exact HB0.out
   case measure=>simp [intOf];omega
  ·have e:k=20:=by omega
   subst e
   clear hblk zSR hB
   go_wp2_with (first | (refine zF4 (by rfl) (.tmp 1) (by rfl) (w.heap.size+1) (by rfl) HB.out (by rfl) ?_) | (refine zFh (by rfl) (.tmp 0) (.tmp 9) (by rfl) w.heap.size _ (by rfl) (by rfl) HB0.out (by rfl) (by rfl) zQz ?_;intro w2 r1 r2 r3 r4))
   refine bodyPost_ret (zRW rfl (by rfl) r1 (by rfl)) rfl ⟨rfl,?_⟩
   exact HBB.out.trans (r4 _ (Nat.le_refl _))
end Go.Proofs.YtebpgfodelggoabGreat
