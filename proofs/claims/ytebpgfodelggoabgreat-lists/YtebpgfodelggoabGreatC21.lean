import Derived.Test.YtebpgfodelggoabGreatC18
import Derived.Test.YtebpgfodelggoabGreatC20
import Derived.Test.YtebpgfodelggoabGreatC15
import Derived.Deep.RegionHeld3
set_option linter.unusedVariables false
set_option linter.unusedSimpArgs false
set_option maxRecDepth 100000
set_option maxHeartbeats 3000000
namespace Go.Proofs.YtebpgfodelggoabGreat
open Go.RowKit
def fdA (f:Mt.Fnd):Array Value:=(Value.bool f.ok::(f.at'.map (Value.int .i64)++[Value.int .i64 f.steps])).toArray
def fdV (f:Mt.Fnd):Value:=.agg (fdA f)
theorem qG (f:Mt.Fnd) (h:f.at'.length=20):(fdA f).size=22:=by simp [fdA,h]
theorem zO1 {l:List Int} (h:l.length=20):∃ a0 a1 a2 a3 a4 a5 a6 a7 a8 a9 a10 a11 a12 a13 a14 a15 a16 a17 a18 a19,l=[a0,a1,a2,a3,a4,a5,a6,a7,a8,a9,a10,a11,a12,a13,a14,a15,a16,a17,a18,a19]:=by
 match l,h with
 | [a0,a1,a2,a3,a4,a5,a6,a7,a8,a9,a10,a11,a12,a13,a14,a15,a16,a17,a18,a19],_=>exact ⟨a0,a1,a2,a3,a4,a5,a6,a7,a8,a9,a10,a11,a12,a13,a14,a15,a16,a17,a18,a19,rfl⟩
theorem zO2 (l:List Int) (h:l.length=20) (b:Bool) (u:Int) (w:World):(Instr.build 57 #[(0,.bool b),(1,.agg (l.map (Value.int .i64)).toArray),(2,.int .i64 u)]).run Tryz.prog w=.ok (fdV ⟨b,l,u⟩) w:=by
 obtain ⟨a0,a1,a2,a3,a4,a5,a6,a7,a8,a9,a10,a11,a12,a13,a14,a15,a16,a17,a18,a19,rfl⟩:=zO1 h
 unfold fdV fdA
 simp only [List.map_cons,List.map_nil,List.cons_append,List.nil_append]
 kernel_rfl
theorem zMW (l:List Int) (h:l.length=20) (u:Int) (w:World):(Instr.build 57 #[(1,.agg (l.map (Value.int .i64)).toArray),(2,.int .i64 u)]).run Tryz.prog w=.ok (fdV ⟨false,l,u⟩) w:=by
 obtain ⟨a0,a1,a2,a3,a4,a5,a6,a7,a8,a9,a10,a11,a12,a13,a14,a15,a16,a17,a18,a19,rfl⟩:=zO1 h
 unfold fdV fdA
 simp only [List.map_cons,List.map_nil,List.cons_append,List.nil_append]
 kernel_rfl
theorem zIr {P:Program} {op:Oper} {r:Operand→Value} {t:TypeId} {parts:Array (Nat × Operand)} (hop:op.op=.build t parts) {z:World} {u:Value} (h:(Instr.build t (parts.map fun q=>(q.1,r q.2))).run P z=.ok u z):(execOp r op).run P z=.ok (.value u) z:=by
 unfold execOp
 simp only [hop]
 simp only [Sem.run_bind,h,Result.andThen_ok,Sem.run_pure]
theorem zJB {P:Program} {md:Region.Mode} {ops:Array Oper} {Q:Exit→Act→World→Prop} {S:World→Prop} (i:Nat) (oi:Oper) {fuel:Nat} {listed:Array Bool} {a:Act} {w:World} (hi:ops[i]?=some oi) (hgd:oi.guard=none) (hr:Region.ready md ops listed=[i]) (hr2:Region.ready md ops (listed.setIfInBounds i true)=[])
  (h:Oper.wp P oi a w (fun a' w'=>S w'∧Q .normal a' w') Q):wpAnyH P md ops Q S (fuel+1) listed a w:=by
 refine ⟨fun h0=>(by rw [hr] at h0;cases h0),fun j hj=>?_⟩
 rw [hr] at hj
 simp only [List.mem_singleton] at hj
 subst hj
 refine wpOp_mono (K:=fun a' w'=>S w'∧Q .normal a' w') (fun a' w' (h':S w'∧Q .normal a' w')=>⟨h'.1,wpAnyH_done hr2 h'.2 _⟩) ?_
 have hw:Region.wanted oi (yielded ops a.tmps)=true:=by simp [Region.wanted,hgd]
 unfold wpOp
 simp only [hi,hw,if_true]
 exact .inl h
theorem zBM {P:Program} {md:Region.Mode} {ops:Array Oper} {Q:Exit→Act→World→Prop} {S:World→Prop} (i:Nat) (oi:Oper) {fuel:Nat} {listed:Array Bool} {a:Act} {w:World} (hi:ops[i]?=some oi) (hgd:oi.guard=none) (hr:Region.ready md ops listed=[i]) (hr2:Region.ready md ops (listed.setIfInBounds i true)=[])
  (ty:TypeId) (x y:Operand) (ho:oi.op=.store ty x y) (b o:Nat) (cells:Array Value) (hx:a.eval x=.pointer (some ⟨b,o,none⟩)) (hy:a.eval y=.agg cells) (ht:w.there b o cells.size) (hz:(P.info? ty).map (·.size)=some cells.size) (h1:cells.all (·.oneCell')=true)
  (hdn:oi.dst=none) (h:S (w.setCells b o cells.toList)∧Q .normal a (w.setCells b o cells.toList)):wpAnyH P md ops Q S (fuel+1) listed a w :=
 zJB i oi hi hgd hr hr2 (wp_store_mid ty x y ho b o cells hx hy ht hz h1 (by rw [hdn];exact h))
theorem take_at {P:Program} {md:Region.Mode} {ops:Array Oper} {Q:Exit→Act→World→Prop} {S:World→Prop} (i d:Nat) (v:Value) {oi:Oper} {fuel:Nat} {listed:Array Bool} {a:Act} {w:World} (hi:ops[i]?=some oi) (hd:oi.dst=some d)
  (hs:Region.noSelect ops=true) (hf:Region.free md ops listed i=true) (hr:(Region.ready md ops listed).contains i=true)
  (hQ:∀ c a w,Q (.panic c) (a.put (some d) v) w→Q (.panic c) a w) (hy:YieldsIf P ops S oi v a) (hS:S w)
  (h:wpAnyH P md ops Q S fuel (listed.setIfInBounds i true) (a.put (some d) v) w):wpAnyH P md ops Q S (fuel+1) listed a w :=
 wpAnyH_take hi hs hf hr (by rw [hd];exact hQ) hy hS (by rw [hd];exact h)
theorem zFs {z w:World} (p:Addr) (h:z.heap[p.block]?=w.heap[p.block]?):z.cell? p=w.cell? p:=by unfold World.cell?;rw [h]
theorem zO3 {w:World} {b:Nat} {s:List Int} {t:TypeId} (h:w.heap[b]?=some (.cells (s.map (Value.int .i64)).toArray t (0,0))) (hs:s.length=44):w.rangeAt b 2 (((s.drop 2).take 20).map (Value.int .i64)):=fun j v hv=>by
 rw [(zA h).1]
 rw [List.getElem?_map] at hv
 by_cases hj:j<20
 ·rw [List.getElem?_take_of_lt hj,List.getElem?_drop] at hv
  simp [← hv]
 ·rw [List.getElem?_eq_none (by simp;omega)] at hv;simp at hv
theorem Tryz.size57:(Tryz.prog.info? 57).map (·.size)=some 22:=by kernel_rfl
theorem vZ {ops:Array Oper} {rest:List Oper} {op:Oper} {a:Act} {w:World} {Q:Exit→Act→World→Prop} (hgd:op.guard=none) (x y:Operand) (ho:op.op=.store 57 x y)
  (b:Nat) (cs:Array Value) (hx:a.eval x=.pointer (some ⟨b,0,none⟩)) (hy:a.eval y=.agg cs) {t:TypeId} {B:Array Value} (hB:w.heap[b]?=some (.cells B t (0,0))) (hs:B.size=22) (hc:cs.size=22) (h1:cs.all (·.oneCell')=true)
  (h:∀ w2:World,w2.heap[b]?=some (.cells cs t (0,0))→(∀ k,k≠b→w2.heap[k]?=w.heap[k]?)→w2.heap.size=w.heap.size→(∀ L,L≤b→Below L w w2)→wpList Tryz.prog ops Q rest (a.put op.dst undef) w2):wpList Tryz.prog ops Q (op::rest) a w:=by
 have hb:=zA hB
 refine wpList_store_mid hgd _ x y ho b 0 cs hx hy (yS hb.1 hb.2 _ (by omega)) (by rw [Tryz.size57,hc]) h1 ?_
 exact h _ (zAV hB cs (by omega)) (fun k hk=>yT b _ 0 w k hk) (below_setCells b _ 0 w 0 (Nat.zero_le _)).2 (fun L hL=>(below_setCells b _ 0 w L hL).1)
theorem zMX {fn:Func} {p:Tmp} (hr:fn.results=#[.cell p 57]) {tmps:Array Value} {w:World} {b:Nat} {t:TypeId} {A:Array Value} (hp:tmps.getD p undef=.pointer (some ⟨b,0,none⟩)) (hA:w.heap[b]?=some (.cells A t (0,0))) (hs:A.size=22) :
  (results fn tmps).run Tryz.prog w=.ok (.agg A) w:=by
 rw [zEq hr,hp]
 have:=run_loadVar_mid (P:=Tryz.prog) w b 0 57 A.toList _ (yP hA) Tryz.underlying57 rfl (by rw [Tryz.size57];simp [hs])
 simp [asAddr,Result.andThen,this]
def zR1:Value:=.agg #[.int .i64 (-1),.int .i64 (-1),.int .i64 (-1),.int .i64 (-1),.int .i64 (-1),.int .i64 (-1),.int .i64 (-1),.int .i64 (-1),.int .i64 (-1),.int .i64 (-1),.int .i64 (-1),.int .i64 (-1),.int .i64 (-1),.int .i64 (-1),.int .i64 (-1),.int .i64 (-1),.int .i64 (-1),.int .i64 (-1),.int .i64 (-1),.int .i64 (-1)]
theorem zJC (w:World):Calls Tryz.prog 81 #[] w fun e w'=>e=.returned zR1∧Below w.heap.size w w':=zFi w
theorem zEt (f:Mt.Fnd):(fdA f).all (·.oneCell')=true:=by
 unfold fdA
 rw [List.all_toArray]
 simp [Value.oneCell']
theorem zLt (w:World):Calls Tryz.prog 81 #[] w fun e w'=>e=.returned (.agg (Mt.nowhere.map (Value.int .i64)).toArray)∧Below w.heap.size w w':=zFi w
theorem found_eq (p:Int) (r:List Int) (h:r.length=44):Mt.foundAt p r=(((r.set 2 p).set 3 (Mt.gt r 1)).drop 2).take 20:=by
 match r,h with
 | a0::a1::a2::a3::t,h=>simp [Mt.foundAt,Mt.gt]
def zFd:Obj:=.cells (fdA Mt.zAL) 57 (0,0)
def zSV (w:World) (wb gc gi ga gk cc ci ca ck:Nat) (c:List Mt.Ins) (text:ByteArray) (inn:List Bool) (ar:List Int) (budget:Int) (F:Mt.Fnd × Bool) (i:Value) (wr:World):Prop :=
 ∃ (p n1:Nat) (kn1:List Bool) (qA:Int),i=.int .i64 p∧p≤text.size+1∧zM wr wb gc gi ga gk cc ci ca ck c text inn ar budget kn1 qA (budget-(n1:Int)) false∧wr.heap[w.heap.size]?=some zFd∧Keep wb gk w wr
  ∧ kn1.length=c.length*(text.size+1)*12∧(0≤qA∧qA≤5000)∧(n1:Int)≤budget∧F=Mt.search ⟨c,text,inn,ar⟩ budget (text.size+1-p) p n1 kn1 qA
theorem zLu (wb gc gi ga gk cc ci ca ck:Nat) (c:List Mt.Ins) (text:ByteArray) (inn:List Bool) (ar:List Int) (budget:Int) (hE:zF6 c text ar) (hc0:0<c.length) (hb0:0≤budget) (hb1:budget≤10000)
  (HL:∀ n:Nat,(n:Int)≤budget→zGs wb gc gi ga gk cc ci ca ck c text inn ar budget n) (w:World) (frm n:Nat) (kn:List Bool) (room:Int) (hf:frm≤text.size)
  (h:zM w wb gc gi ga gk cc ci ca ck c text inn ar budget kn room (budget-(n:Int)) false) (hn:(n:Int)≤budget) (hkn:kn.length=c.length*(text.size+1)*12) (hr:0≤room∧room≤5000) :
  Calls Tryz.prog 51 #[.pointer (some ⟨wb,0,none⟩),.int .i64 frm] w fun e w' =>
   e=.returned (fdV (Mt.search ⟨c,text,inn,ar⟩ budget (text.size+1-frm) frm n kn room).1)∧Keep wb gk w w'∧∃ kn' room' used',zM w' wb gc gi ga gk cc ci ca ck c text inn ar budget kn' room' used' (Mt.search ⟨c,text,inn,ar⟩ budget (text.size+1-frm) frm n kn room).2:=by
 have HE:Hid (zF6 c text ar):=hE
 have HLL:Hid (∀ n:Nat,(n:Int)≤budget→zGs wb gc gi ga gk cc ci ca ck c text inn ar budget n):=HL
 have hlt:=h.lt
 have HLT:Hid (wb<w.heap.size∧gc<w.heap.size∧gi<w.heap.size∧ga<w.heap.size∧gk<w.heap.size):=hlt
 have lwb:wb<w.heap.size:=hlt.1
 have lgk:gk<w.heap.size:=hlt.2.2.2.2
 have HW:Hid (zM w wb gc gi ga gk cc ci ca ck c text inn ar budget kn room (budget-(n:Int)) false):=h
 have HS:Hid (kn.length=c.length*(text.size+1)*12∧(0≤room∧room≤5000)∧(n:Int)≤budget∧frm≤text.size+1):=⟨hkn,hr,hn,by omega⟩
 obtain ⟨F,hF⟩:∃ F,F=Mt.search ⟨c,text,inn,ar⟩ budget (text.size+1-frm) frm n kn room:=⟨_,rfl⟩
 rw [← hF]
 have HF:Hid (F=Mt.search ⟨c,text,inn,ar⟩ budget (text.size+1-frm) frm n kn room):=hF
 have zUB:Obj.cells #[Value.int IntKind.i64 0,Value.int IntKind.i64 0,Value.int IntKind.i64 0,Value.int IntKind.i64 0,Value.int IntKind.i64 0,Value.int IntKind.i64 0,Value.int IntKind.i64 0,Value.int IntKind.i64 0,Value.int IntKind.i64 0,Value.int IntKind.i64 0,Value.int IntKind.i64 0,Value.int IntKind.i64 0,Value.int IntKind.i64 0,Value.int IntKind.i64 0,Value.int IntKind.i64 0,Value.int IntKind.i64 0,Value.int IntKind.i64 0,Value.int IntKind.i64 0,Value.int IntKind.i64 0,Value.int IntKind.i64 0,Value.int IntKind.i64 0,Value.int IntKind.i64 0,Value.int IntKind.i64 0,Value.int IntKind.i64 0,Value.int IntKind.i64 0,Value.int IntKind.i64 0,Value.int IntKind.i64 0,Value.int IntKind.i64 0,Value.int IntKind.i64 0,Value.int IntKind.i64 0,Value.int IntKind.i64 0,Value.int IntKind.i64 0,Value.int IntKind.i64 0,Value.int IntKind.i64 0,Value.int IntKind.i64 0,Value.int IntKind.i64 0,Value.int IntKind.i64 0,Value.int IntKind.i64 0,Value.int IntKind.i64 0,Value.int IntKind.i64 0,Value.int IntKind.i64 0,Value.int IntKind.i64 0,Value.int IntKind.i64 0,Value.int IntKind.i64 0] 139=zDc:=rfl
 have ht:=hE.t
 clear h hkn hr hn hlt hE HL hF
 go_enter Tryz.func51,Tryz.ntmps51
 go_wp2_with fail
 go_loopw [5] (fun i wr=>zSV w wb gc gi ga gk cc ci ca ck c text inn ar budget F i wr) (fun i _=>text.size+1-(intOf i).toNat)
 case atStart =>
  have hB:Below w.heap.size w (w.alloc zFd):=(Below.refl _ _).alloc (Nat.le_refl _) _
  exact ⟨frm,n,kn,room,rfl,HS.out.2.2.2,HW.out.below hB,heap_alloc_new _ _,Keep.below hB,HS.out.1,HS.out.2.1,HS.out.2.2.1,HF.out⟩
 case round =>
  clear HF HS HW
  obtain ⟨p,n1,kn1,qA,rfl,hp,hW,hq0,hK,hkn,hrm,hn1,hF⟩:=hrel
  have HW:Hid (zM wr wb gc gi ga gk cc ci ca ck c text inn ar budget kn1 qA (budget-(n1:Int)) false):=hW
  have HQ:Hid (wr.heap[w.heap.size]?=some zFd):=hq0
  have HK:Hid (Keep wb gk w wr):=hK
  have HG:Hid (kn1.length=c.length*(text.size+1)*12∧(0≤qA∧qA≤5000)∧(n1:Int)≤budget):=⟨hkn,hrm,hn1⟩
  have HF:Hid (F=Mt.search ⟨c,text,inn,ar⟩ budget (text.size+1-p) p n1 kn1 qA):=hF
  have hcb:=zA hW.cell
  have c1:wr.cell? ⟨wb,1,none⟩=some (.string text):=hcb.1 1
  have c7:wr.cell? ⟨wb,7,none⟩=some (.int .i64 (budget-(n1:Int))):=hcb.1 7
  have hsz:w.heap.size<wr.heap.size:=(Array.getElem?_eq_some_iff.1 hq0).1
  have lw2:wb<wr.heap.size:=by omega
  clear hcb hW hq0 hK hkn hrm hF
  obtain ⟨U,hU⟩:∃ U:Int,U=budget-(n1:Int):=⟨_,rfl⟩
  rw [← hU] at HW c7
  have HU:Hid (U=budget-(n1:Int)):=hU
  clear hU
  by_cases hpT:p≤text.size
  ·have hIH:=HLL.out n1 HG.out.2.2
   have hg1:=Mt.zAm c.length text.size p hc0 hpT
   have hrg:=Mt.yC ⟨c,text,inn,ar⟩ HE.out.ok n1 n1 (Mt.kH p) kn1 qA (Nat.le_refl _) hg1 HG.out.2.1
   have hrn:=Mt.zBr ⟨c,text,inn,ar⟩ n1 (Mt.kH p) kn1 qA
   have hKL:∀ z:World,zM z wb gc gi ga gk cc ci ca ck c text inn ar budget kn1 qA U false→Calls Tryz.prog 82 #[.pointer (some ⟨wb,0,none⟩),stV (Mt.kH p)] z fun e w'=>e=.returned (.tuple #[stV (Mt.look ⟨c,text,inn,ar⟩ n1 (Mt.kH p) kn1 qA).st,.bool (Mt.look ⟨c,text,inn,ar⟩ n1 (Mt.kH p) kn1 qA).ok])∧Keep wb gk z w'∧zM w' wb gc gi ga gk cc ci ca ck c text inn ar budget (Mt.look ⟨c,text,inn,ar⟩ n1 (Mt.kH p) kn1 qA).kn (Mt.look ⟨c,text,inn,ar⟩ n1 (Mt.kH p) kn1 qA).room (budget-((Mt.look ⟨c,text,inn,ar⟩ n1 (Mt.kH p) kn1 qA).n:Int)) (Mt.look ⟨c,text,inn,ar⟩ n1 (Mt.kH p) kn1 qA).over:=fun z hz=>hIH z (Mt.kH p) kn1 qA (by rw [← HU.out];exact hz) hg1 HG.out.1 HG.out.2.1
   have hFF:=HF.out
   rw [show text.size+1-p=(text.size-p)+1 by omega,Mt.search] at hFF
   generalize Mt.look ⟨c,text,inn,ar⟩ n1 (Mt.kH p) kn1 qA=r at *
   have HKL:Hid (∀ z:World,zM z wb gc gi ga gk cc ci ca ck c text inn ar budget kn1 qA U false→Calls Tryz.prog 82 #[.pointer (some ⟨wb,0,none⟩),stV (Mt.kH p)] z fun e w'=>e=.returned (.tuple #[stV r.st,.bool r.ok])∧Keep wb gk z w'∧zM w' wb gc gi ga gk cc ci ca ck c text inn ar budget r.kn r.room (budget-(r.n:Int)) r.over):=hKL
   have HRL:Hid (r.st.length=44):=hrg.2.2.2.1
   have HRG:Hid (r.kn.length=c.length*(text.size+1)*12∧(0≤r.room∧r.room≤5000)∧(r.n:Int)≤budget):=⟨hrg.2.1.trans HG.out.1,hrg.2.2.1,by have:=HG.out.2.2;omega⟩
   have HFF:Hid (F=_):=hFF
   clear hIH hg1 hrg hKL hFF HF
   go_wp2_with fail
   refine (zJC wr).mono ?_
   rintro e w1 ⟨rfl,hb1⟩
   have hs1:=hb1.size
   have HW1:Hid (zM w1 wb gc gi ga gk cc ci ca ck c text inn ar budget kn1 qA U false):=HW.out.below hb1
   have HQ1:Hid (w1.heap[w.heap.size]?=some zFd):=(hb1.block _ (by omega)).trans HQ.out
   have HK1:Hid (Keep wb gk w w1):=HK.out.trans (Keep.below hb1)
   have l1:w.heap.size<w1.heap.size:=by omega
   clear HW HQ HK hb1 c1 c7 lw2 hsz hs1
   unfold zR1
   go_wp2_with (first | (refine zF (by rfl) (.tmp 6) (.tmp 21) (by rfl) w1.heap.size ((Mt.kH (p:Int)).map (Value.int .i64)).toArray (by rfl) (by rfl) (by exact heap_alloc_new _ _) (by rfl) (by simp [Mt.zB3]) (jD _) ?_;intro w2 r1 r2 r3 r4;have B2:Hid (Below w1.heap.size w1 w2):=(((Below.refl _ _).alloc (Nat.le_refl _) _).trans (r4 _ (Nat.le_refl _)));have V2:Hid (w2.heap[w1.heap.size]?=some (.cells ((Mt.kH (p:Int)).map (Value.int .i64)).toArray 139 (0,0))):=(r1);have s2:w2.heap.size=w1.heap.size+1:=(by simpa using r3);clear r1 r2 r3 r4) | (refine zG (by rfl) (.tmp 6) (by rfl) w1.heap.size (by rfl) (by exact V2.out) (by simp [Mt.zB3]) ?_) | fail)
   refine (HKL.out w2 (HW1.out.below B2.out)).mono ?_
   rintro e w3 ⟨rfl,hk3,hw3⟩
   have hs3:=hk3.size
   have HW3:Hid (zM w3 wb gc gi ga gk cc ci ca ck c text inn ar budget r.kn r.room (budget-(r.n:Int)) r.over):=hw3
   have HQ3:Hid (w3.heap[w.heap.size]?=some zFd):=((hk3.blk _ (by omega) (by omega) (by omega)).trans (B2.out.block _ (by omega))).trans HQ1.out
   have HK3:Hid (Keep wb gk w w3):=(HK1.out.trans (Keep.below B2.out)).trans hk3
   have l3:w.heap.size<w3.heap.size:=by omega
   clear hk3 hw3 HKL HW1 HQ1 HK1 V2 B2 s2 hs3 l1
   have hcs:(r.over=true)∨(r.over=false∧r.ok=true)∨(r.over=false∧r.ok=false):=by cases r.ok <;> cases r.over <;> simp
   rcases hcs with ov | ⟨ov,ok⟩ | ⟨ov,ok⟩
   ·have HFH:Hid (F=(Mt.zAL,true)):=by show _=_;rw [HFF.out,ov];rfl
    have HOV:Hid (r.over=true):=ov
    clear HFF
    go_wp2_with (first | (refine zF (by rfl) (.tmp 7) (.tmp 26) (by rfl) w3.heap.size (r.st.map (Value.int .i64)).toArray (by rfl) (by rfl) (by exact heap_alloc_new _ _) (by rfl) (by simp [HRL.out]) (jD _) ?_;intro w4 r1 r2 r3 r4;have B4:Hid (Below w3.heap.size w3 w4):=(((Below.refl _ _).alloc (Nat.le_refl _) _).trans (r4 _ (Nat.le_refl _)));have V4:Hid (w4.heap[w3.heap.size]?=some (.cells (r.st.map (Value.int .i64)).toArray 139 (0,0))):=(r1);have V5:Hid (w4.heap[w.heap.size]?=some zFd):=((B4.out.block _ l3).trans HQ3.out);have k8:w4.cell? ⟨wb,8,none⟩=some (.bool r.over):=((zA (HW3.out.below B4.out).cell).1 8);have k7:w4.cell? ⟨wb,7,none⟩=some (.int .i64 (budget-(r.n:Int))):=((zA (HW3.out.below B4.out).cell).1 7);have s4:w4.heap.size=w3.heap.size+1:=(by simpa using r3);have l41:wb<w4.heap.size:=(by omega);have l42:w3.heap.size<w4.heap.size:=(by omega);have S4:Hid (w4.heap.size=w3.heap.size+1):=(s4);clear r1 r2 r3 r4 s4) | (refine vZ (by rfl) (.tmp 4) (.tmp 32) (by rfl) w.heap.size (fdA Mt.zAL) (by rfl) (by rfl) (by exact V5.out) (by rfl) (by rfl) (zEt _) ?_;intro w5 r1 r2 r3 r4) | fail)
    refine bodyPost_ret (zMX rfl (by rfl) r1 (by rfl)) rfl ⟨?_,Keep.whole (HK3.out.trans (Keep.below B4.out)) r2 r3 (r4 _ (Nat.le_refl _)),?_⟩
    ·rw [HFH.out];rfl
    ·rw [HFH.out]
     have hx:=HLT.out
     have:=(HW3.out.below B4.out).mem (r2 _ (by omega)) (r2 _ (by omega)) (r2 _ (by omega)) (r2 _ (by omega)) (r2 _ (by omega))
     rw [HOV.out] at this
     exact ⟨_,_,_,this⟩
   ·have HFH:Hid (F=(⟨true,Mt.foundAt p r.st,budget-r.n⟩,false)):=by show _=_;rw [HFF.out,ov,ok];rfl
    have HOV:Hid (r.over=false):=ov
    clear HFF
    go_wp2_with (first | (refine zF (by rfl) (.tmp 7) (.tmp 26) (by rfl) w3.heap.size (r.st.map (Value.int .i64)).toArray (by rfl) (by rfl) (by exact heap_alloc_new _ _) (by rfl) (by simp [HRL.out]) (jD _) ?_;intro w4 r1 r2 r3 r4;have B4:Hid (Below w3.heap.size w3 w4):=(((Below.refl _ _).alloc (Nat.le_refl _) _).trans (r4 _ (Nat.le_refl _)));have V4:Hid (w4.heap[w3.heap.size]?=some (.cells (r.st.map (Value.int .i64)).toArray 139 (0,0))):=(r1);have V5:Hid (w4.heap[w.heap.size]?=some zFd):=((B4.out.block _ l3).trans HQ3.out);have k8:w4.cell? ⟨wb,8,none⟩=some (.bool r.over):=((zA (HW3.out.below B4.out).cell).1 8);have k7:w4.cell? ⟨wb,7,none⟩=some (.int .i64 (budget-(r.n:Int))):=((zA (HW3.out.below B4.out).cell).1 7);have s4:w4.heap.size=w3.heap.size+1:=(by simpa using r3);have l41:wb<w4.heap.size:=(by omega);have l42:w3.heap.size<w4.heap.size:=(by omega);have e1:=(vL V4.out 1 _ (zDd HRL.out 1 (by omega)));have e2:=(vL V4.out 2 _ (zDd HRL.out 2 (by omega)));have e3:=(vL V4.out 3 _ (zDd HRL.out 3 (by omega)));have f2:=(vV V4.out 2);have f3:=(vV V4.out 3);have S4:Hid (w4.heap.size=w3.heap.size+1):=(s4);clear r1 r2 r3 r4 s4) | fail)
    have V6:((w4.setCell ⟨w3.heap.size,2,none⟩ (.int .i64 (p:Int))).setCell ⟨w3.heap.size,3,none⟩ (.int .i64 (Mt.gt r.st 1))).heap[w3.heap.size]?=some (.cells (((r.st.set 2 (p:Int)).set 3 (Mt.gt r.st 1)).map (Value.int .i64)).toArray 139 (0,0)):=qK (qK V4.out 2 _) 3 _
    have B6:Below w3.heap.size w3 ((w4.setCell ⟨w3.heap.size,2,none⟩ (.int .i64 (p:Int))).setCell ⟨w3.heap.size,3,none⟩ (.int .i64 (Mt.gt r.st 1))):=(B4.out.setCell (p:=⟨w3.heap.size,2,none⟩) (Nat.le_refl _) _).setCell (p:=⟨w3.heap.size,3,none⟩) (Nat.le_refl _) _
    generalize (w4.setCell ⟨w3.heap.size,2,none⟩ (.int .i64 (p:Int))).setCell ⟨w3.heap.size,3,none⟩ (.int .i64 (Mt.gt r.st 1))=w5 at *
    obtain ⟨S,hS⟩:∃ S,S=(r.st.set 2 (p:Int)).set 3 (Mt.gt r.st 1):=⟨_,rfl⟩
    rw [← hS] at V6
    have HSS:Hid (S=(r.st.set 2 (p:Int)).set 3 (Mt.gt r.st 1)):=hS
    have SL:Hid (S.length=44):=by show _=_;rw [hS];simp [HRL.out]
    clear hS e1 e2 e3 f2 f3 k7 k8 l41 l42 V5
    have k7:w5.cell? ⟨wb,7,none⟩=some (.int .i64 (budget-(r.n:Int))):=(zA (HW3.out.below B6).cell).1 7
    have V5:w5.heap[w.heap.size]?=some zFd:=(B6.block _ l3).trans HQ3.out
    have l51:w3.heap.size<w5.heap.size:=(Array.getElem?_eq_some_iff.1 V6).1
    have l52:wb<w5.heap.size:=by omega
    have l53:w.heap.size<w5.heap.size:=by omega
    have hra:w5.rangeAt w3.heap.size 2 (((S.drop 2).take 20).map (Value.int .i64)):=zO3 V6 SL.out
    have HB6:Hid (Below w3.heap.size w3 w5):=B6
    have HV5:Hid (w5.heap[w.heap.size]?=some zFd):=V5
    clear V6 B6 V4 B4 S4 V5
    obtain ⟨U2,hU2⟩:∃ U2:Int,U2=budget-(r.n:Int):=⟨_,rfl⟩
    rw [← hU2] at k7
    have HU2:Hid (U2=budget-(r.n:Int)):=hU2
    clear hU2
    have zEF:∀ z:World,(∀ k,k≠w.heap.size→z.heap[k]?=w5.heap[k]?)→z.cell? ⟨wb,7,none⟩=some (.int .i64 U2):=fun z hz=>(zFs ⟨wb,7,none⟩ (hz wb (by omega))).trans k7
    have zR2:∀ z:World,(∀ k,k≠w.heap.size→z.heap[k]?=w5.heap[k]?)→z.rangeAt w3.heap.size 2 (((S.drop 2).take 20).map (Value.int .i64)):=fun z hz j v hv=>(zFs ⟨w3.heap.size,2+j,none⟩ (hz w3.heap.size (by omega))).trans (hra j v hv)
    have zOn:((S.drop 2).take 20).length=20:=by simp [SL.out]
    refine wp_region_held_drew (S:=fun z:World=>∀ k,k≠w.heap.size→z.heap[k]?=w5.heap[k]?) (by kernel_rfl) (fun _ _=>rfl) (fun hHeld=>?_)
    refine take_at 0 41 (.pointer (some ⟨w3.heap.size,2,none⟩)) rfl rfl (by kernel_rfl) (by kernel_rfl) (by kernel_rfl) (fun _ _ _ h=>h) (Or.inl ⟨by rfl,fun z hz=>by have hz7:=zEF z hz;clear hz hHeld;go_simp⟩) (by assumption) ?_
    simp only [Act.put,List.setIfInBounds_toArray,List.set_cons_zero,List.set_cons_succ]
    refine take_at 1 42 (.agg (((S.drop 2).take 20).map (Value.int .i64)).toArray) rfl rfl (by kernel_rfl) (by kernel_rfl) (by kernel_rfl) (fun _ _ _ h=>h) (yieldsIf_load_mid (by rfl) _ _ rfl _ _ rfl _ _ zR2 Tryz.underlying55 rfl (by rw [Tryz.size55,List.length_map,zOn])) (by assumption) ?_
    simp only [Act.put,List.setIfInBounds_toArray,List.set_cons_zero,List.set_cons_succ]
    refine take_at 2 43 (.pointer (some ⟨wb,0,none⟩)) rfl rfl (by kernel_rfl) (by kernel_rfl) (by kernel_rfl) (fun _ _ _ h=>h) (Or.inl ⟨by rfl,fun z hz=>by have hz7:=zEF z hz;clear hz hHeld;go_simp⟩) (by assumption) ?_
    simp only [Act.put,List.setIfInBounds_toArray,List.set_cons_zero,List.set_cons_succ]
    refine take_at 3 44 (.pointer (some ⟨wb,0,none⟩)) rfl rfl (by kernel_rfl) (by kernel_rfl) (by kernel_rfl) (fun _ _ _ h=>h) (Or.inl ⟨by rfl,fun z hz=>by have hz7:=zEF z hz;clear hz hHeld;go_simp⟩) (by assumption) ?_
    simp only [Act.put,List.setIfInBounds_toArray,List.set_cons_zero,List.set_cons_succ]
    refine take_at 4 45 (.pointer (some ⟨wb,7,none⟩)) rfl rfl (by kernel_rfl) (by kernel_rfl) (by kernel_rfl) (fun _ _ _ h=>h) (Or.inl ⟨by rfl,fun z hz=>by have hz7:=zEF z hz;clear hz hHeld;go_simp⟩) (by assumption) ?_
    simp only [Act.put,List.setIfInBounds_toArray,List.set_cons_zero,List.set_cons_succ]
    refine take_at 5 46 (.int .i64 U2) rfl rfl (by kernel_rfl) (by kernel_rfl) (by kernel_rfl) (fun _ _ _ h=>h) (Or.inl ⟨by rfl,fun z hz=>by have hz7:=zEF z hz;clear hz hHeld;go_simp⟩) (by assumption) ?_
    simp only [Act.put,List.setIfInBounds_toArray,List.set_cons_zero,List.set_cons_succ]
    refine take_at 6 47 (fdV ⟨true,(S.drop 2).take 20,U2⟩) rfl rfl (by kernel_rfl) (by kernel_rfl) (by kernel_rfl) (fun _ _ _ h=>h) (Or.inl ⟨by rfl,fun z hz=>by refine zIr (t:=57) (parts:=#[(0,.const (.bool true)),(1,.tmp 42),(2,.tmp 46)]) rfl ?_;simp only [List.map_toArray,List.map_cons,List.map_nil];exact zO2 _ zOn true U2 z⟩) (by assumption) ?_
    simp only [Act.put,List.setIfInBounds_toArray,List.set_cons_zero,List.set_cons_succ]
    have q60:w5.drew.heap[w.heap.size]?=some (.cells (fdA Mt.zAL) 57 (0,0)):=HV5.out
    refine zBM 7 _ rfl rfl (by kernel_rfl) (by kernel_rfl) _ _ _ rfl w.heap.size 0 (fdA ⟨true,(S.drop 2).take 20,U2⟩) (by kernel_rfl) (by kernel_rfl) (yS (zA q60).1 (zA q60).2 _ (by rw [qG _ zOn,qG Mt.zAL rfl];exact Nat.le_refl _)) (by rw [Tryz.size57,qG _ zOn]) (zEt _) rfl ?_
    have r1:=zAV q60 (fdA ⟨true,(S.drop 2).take 20,U2⟩) (by rw [qG _ zOn,qG Mt.zAL rfl])
    have r2:∀ k,k≠w.heap.size→(w5.drew.setCells w.heap.size 0 (fdA ⟨true,(S.drop 2).take 20,U2⟩).toList).heap[k]?=w5.heap[k]?:=fun k hk=>yT _ _ 0 w5.drew k hk
    have r4:=(below_setCells w.heap.size (fdA ⟨true,(S.drop 2).take 20,U2⟩).toList 0 w5.drew w.heap.size (Nat.le_refl _))
    generalize w5.drew.setCells w.heap.size 0 (fdA ⟨true,(S.drop 2).take 20,U2⟩).toList=w6 at *
    refine ⟨r2,?_⟩
    have R1:Hid (w6.heap[w.heap.size]?=some (.cells (fdA ⟨true,(S.drop 2).take 20,U2⟩) 57 (0,0))):=r1
    have R4:Hid ((∀ k,k≠w.heap.size→w6.heap[k]?=w5.heap[k]?)∧w6.heap.size=w5.heap.size∧Below w.heap.size w5 w6):=⟨r2,r4.2,((Below.refl _ _).drew).trans r4.1⟩
    clear r1 r2 r4 hHeld q60 hra zEF zR2 k7 l51 l52 l53
    go_wp2_with fail
    refine bodyPost_ret (zMX rfl (by rfl) R1.out (qG _ zOn)) rfl ⟨?_,Keep.whole (HK3.out.trans (Keep.below HB6.out)) R4.out.1 R4.out.2.1 R4.out.2.2,?_⟩
    ·rw [HFH.out]
     have e:Mt.foundAt p r.st=(S.drop 2).take 20:=by rw [HSS.out];exact found_eq p r.st HRL.out
     rw [e,← HU2.out];rfl
    ·rw [HFH.out]
     have hx:=HLT.out
     have o:=R4.out.1
     have:=(HW3.out.below HB6.out).mem (o _ (by omega)) (o _ (by omega)) (o _ (by omega)) (o _ (by omega)) (o _ (by omega))
     rw [HOV.out] at this
     exact ⟨_,_,_,this⟩
   ·have HFH:Hid (F=Mt.search ⟨c,text,inn,ar⟩ budget (text.size+1-(p+1)) (p+1) r.n r.kn r.room):=by show _=_;rw [HFF.out,ov,ok,show text.size+1-(p+1)=text.size-p by omega];rfl
    have HOV:Hid (r.over=false):=ov
    clear HFF
    go_wp2_with (first | (refine zF (by rfl) (.tmp 7) (.tmp 26) (by rfl) w3.heap.size (r.st.map (Value.int .i64)).toArray (by rfl) (by rfl) (by exact heap_alloc_new _ _) (by rfl) (by simp [HRL.out]) (jD _) ?_;intro w4 r1 r2 r3 r4;have B4:Hid (Below w3.heap.size w3 w4):=(((Below.refl _ _).alloc (Nat.le_refl _) _).trans (r4 _ (Nat.le_refl _)));have V4:Hid (w4.heap[w3.heap.size]?=some (.cells (r.st.map (Value.int .i64)).toArray 139 (0,0))):=(r1);have V5:Hid (w4.heap[w.heap.size]?=some zFd):=((B4.out.block _ l3).trans HQ3.out);have k8:w4.cell? ⟨wb,8,none⟩=some (.bool r.over):=((zA (HW3.out.below B4.out).cell).1 8);have k7:w4.cell? ⟨wb,7,none⟩=some (.int .i64 (budget-(r.n:Int))):=((zA (HW3.out.below B4.out).cell).1 7);have s4:w4.heap.size=w3.heap.size+1:=(by simpa using r3);have l41:wb<w4.heap.size:=(by omega);have l42:w3.heap.size<w4.heap.size:=(by omega);have S4:Hid (w4.heap.size=w3.heap.size+1):=(s4);clear r1 r2 r3 r4 s4) | fail)
    have hW4:zM w4 wb gc gi ga gk cc ci ca ck c text inn ar budget r.kn r.room (budget-(r.n:Int)) false:=by
     have:=HW3.out.below B4.out
     rw [HOV.out] at this
     exact this
    go_roundw
    case rel=>exact ⟨p+1,r.n,r.kn,r.room,by go_num,by omega,hW4,V5.out,HK3.out.trans (Keep.below B4.out),HRG.out.1,HRG.out.2.1,HRG.out.2.2,HFH.out⟩
    case measure=>simp [intOf];omega
  ·have HFH:Hid (F=(⟨false,Mt.nowhere,U⟩,false)):=by show _=_;rw [HF.out,show text.size+1-p=0 by omega,HU.out];rfl
   clear HF
   go_wp2_with fail
   have zEF:∀ z:World,(∀ k,k<wr.heap.size→k≠w.heap.size→z.heap[k]?=wr.heap[k]?)→z.cell? ⟨wb,7,none⟩=some (.int .i64 U):=fun z hz=>(zFs ⟨wb,7,none⟩ (hz wb lw2 (by omega))).trans c7
   refine wp_region_held_drew (S:=fun z:World=>∀ k,k<wr.heap.size→k≠w.heap.size→z.heap[k]?=wr.heap[k]?) (by kernel_rfl) (fun _ _ _=>rfl) (fun hHeld=>?_)
   refine take_at 1 49 (.pointer (some ⟨wb,0,none⟩)) rfl rfl (by kernel_rfl) (by kernel_rfl) (by kernel_rfl) (fun _ _ _ h=>h) (Or.inl ⟨by rfl,fun z hz=>by have hz7:=zEF z hz;clear hz hHeld;go_simp⟩) (by assumption) ?_
   simp only [Act.put,List.setIfInBounds_toArray,List.set_cons_zero,List.set_cons_succ]
   refine take_at 2 50 (.pointer (some ⟨wb,0,none⟩)) rfl rfl (by kernel_rfl) (by kernel_rfl) (by kernel_rfl) (fun _ _ _ h=>h) (Or.inl ⟨by rfl,fun z hz=>by have hz7:=zEF z hz;clear hz hHeld;go_simp⟩) (by assumption) ?_
   simp only [Act.put,List.setIfInBounds_toArray,List.set_cons_zero,List.set_cons_succ]
   refine take_at 3 51 (.pointer (some ⟨wb,7,none⟩)) rfl rfl (by kernel_rfl) (by kernel_rfl) (by kernel_rfl) (fun _ _ _ h=>h) (Or.inl ⟨by rfl,fun z hz=>by have hz7:=zEF z hz;clear hz hHeld;go_simp⟩) (by assumption) ?_
   simp only [Act.put,List.setIfInBounds_toArray,List.set_cons_zero,List.set_cons_succ]
   refine take_at 4 52 (.int .i64 U) rfl rfl (by kernel_rfl) (by kernel_rfl) (by kernel_rfl) (fun _ _ _ h=>h) (Or.inl ⟨by rfl,fun z hz=>by have hz7:=zEF z hz;clear hz hHeld;go_simp⟩) (by assumption) ?_
   simp only [Act.put,List.setIfInBounds_toArray,List.set_cons_zero,List.set_cons_succ]
   refine wpAnyH_ready (rs:=[0]) (by kernel_rfl) (by simp) ?_
   refine AllReadyH.cons rfl (fun K hK=>?_) AllReadyH.nil
   go_simp
   refine (zLt wr.drew).mono ?_
   rintro e w9 ⟨rfl,hb9⟩
   have hS9:∀ k,k<wr.heap.size→k≠w.heap.size→w9.heap[k]?=wr.heap[k]?:=fun k hk _=>hb9.block k hk
   have q90:w9.heap[w.heap.size]?=some (.cells (fdA Mt.zAL) 57 (0,0)):=(hb9.block _ hsz).trans HQ.out
   have HB9:Hid (Below wr.heap.size wr w9):=((Below.refl _ _).drew).trans hb9
   clear hb9
   go_simp
   refine hK.out _ _ hS9 (fun zKu=>?_)
   clear hK K hHeld
   refine take_at 5 53 (fdV ⟨false,Mt.nowhere,U⟩) rfl rfl (by kernel_rfl) (by kernel_rfl) (by kernel_rfl) (fun _ _ _ h=>h) (Or.inl ⟨by rfl,fun z hz=>by refine zIr (t:=57) (parts:=#[(1,.tmp 48),(2,.tmp 52)]) rfl ?_;simp only [List.map_toArray,List.map_cons,List.map_nil];exact zMW _ rfl U z⟩) (by assumption) ?_
   simp only [Act.put,List.setIfInBounds_toArray,List.set_cons_zero,List.set_cons_succ]
   refine zBM 6 _ rfl rfl (by kernel_rfl) (by kernel_rfl) _ _ _ rfl w.heap.size 0 (fdA ⟨false,Mt.nowhere,U⟩) (by kernel_rfl) (by kernel_rfl) (yS (zA q90).1 (zA q90).2 _ (by rw [qG ⟨false,Mt.nowhere,U⟩ rfl,qG Mt.zAL rfl];exact Nat.le_refl _)) (by rw [Tryz.size57,qG ⟨false,Mt.nowhere,U⟩ rfl]) (zEt _) rfl ?_
   have r1:=zAV q90 (fdA ⟨false,Mt.nowhere,U⟩) (by rw [qG ⟨false,Mt.nowhere,U⟩ rfl,qG Mt.zAL rfl])
   have r2:∀ k,k≠w.heap.size→(w9.setCells w.heap.size 0 (fdA ⟨false,Mt.nowhere,U⟩).toList).heap[k]?=w9.heap[k]?:=fun k hk=>yT _ _ 0 w9 k hk
   have r4:=(below_setCells w.heap.size (fdA ⟨false,Mt.nowhere,U⟩).toList 0 w9 w.heap.size (Nat.le_refl _))
   generalize w9.setCells w.heap.size 0 (fdA ⟨false,Mt.nowhere,U⟩).toList=w6 at *
   refine ⟨fun k hk hne=>(r2 k hne).trans (hS9 k hk hne),?_⟩
   have R1:Hid (w6.heap[w.heap.size]?=some (.cells (fdA ⟨false,Mt.nowhere,U⟩) 57 (0,0))):=r1
   have R4:Hid ((∀ k,k≠w.heap.size→w6.heap[k]?=w9.heap[k]?)∧w6.heap.size=w9.heap.size∧Below w.heap.size w9 w6):=⟨r2,r4.2,r4.1⟩
   clear r1 r2 r4 zKu q90 zEF c7 hS9
   go_wp2_with fail
   refine bodyPost_ret (zMX rfl (by rfl) R1.out (qG ⟨false,Mt.nowhere,U⟩ rfl)) rfl ⟨?_,Keep.whole (HK.out.trans (Keep.below HB9.out)) R4.out.1 R4.out.2.1 R4.out.2.2,?_⟩
   ·rw [HFH.out];rfl
   ·rw [HFH.out]
    have hx:=HLT.out
    have o:=R4.out.1
    exact ⟨_,_,_,(HW.out.below HB9.out).mem (o _ (by omega)) (o _ (by omega)) (o _ (by omega)) (o _ (by omega)) (o _ (by omega))⟩
end Go.Proofs.YtebpgfodelggoabGreat
