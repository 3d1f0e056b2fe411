import Derived.Test.YtebpgfodelggoabGreatKC17
import Derived.Test.YtebpgfodelggoabGreatKC18
import Derived.Test.YtebpgfodelggoabGreatKC14
import Derived.Deep.RegionHeld3
import Derived.Test.YtebpgfodelggoabGreatKC12
import Derived.Deep.QuietTactic
import Derived.BigQuiet
set_option linter.unusedVariables false
set_option linter.unusedSimpArgs false
set_option maxRecDepth 100000
set_option maxHeartbeats 8000000
namespace Go.Proofs.YtebpgfodelggoabGreat
open Go.RowKit
def fdA(f:Mt.Fnd):Array Value:=(Value.bool f.ok::(f.at'.map (Value.int .i64)++[Value.int .i64 f.steps])).toArray
def fdV(f:Mt.Fnd):Value:=.agg (fdA f)
theorem kE(f:Mt.Fnd)(h:f.at'.length=20):(fdA f).size=22:=by simp[fdA,h]
theorem zNF{l:List Int}(h:l.length=20):∃a0 a1 a2 a3 a4 a5 a6 a7 a8 a9 a10 a11 a12 a13 a14 a15 a16 a17 a18 a19,l=[a0,a1,a2,a3,a4,a5,a6,a7,a8,a9,a10,a11,a12,a13,a14,a15,a16,a17,a18,a19]:=by
 match l,h with
 | [a0,a1,a2,a3,a4,a5,a6,a7,a8,a9,a10,a11,a12,a13,a14,a15,a16,a17,a18,a19],_=>exact⟨a0,a1,a2,a3,a4,a5,a6,a7,a8,a9,a10,a11,a12,a13,a14,a15,a16,a17,a18,a19,rfl⟩
theorem zNG(l:List Int)(h:l.length=20)(b:Bool)(u:Int)(w:World):(Instr.build 57 #[(0,.bool b),(1,.agg (l.map (Value.int .i64)).toArray),(2,.int .i64 u)]).run Tryz.prog w=.ok (fdV ⟨b,l,u⟩) w:=by
 obtain⟨a0,a1,a2,a3,a4,a5,a6,a7,a8,a9,a10,a11,a12,a13,a14,a15,a16,a17,a18,a19,rfl⟩:=zNF h;unfold fdV fdA;simp only[List.map_cons,List.map_nil,List.cons_append,List.nil_append];kernel_rfl
theorem zLw(l:List Int)(h:l.length=20)(u:Int)(w:World):(Instr.build 57 #[(1,.agg (l.map (Value.int .i64)).toArray),(2,.int .i64 u)]).run Tryz.prog w=.ok (fdV ⟨false,l,u⟩) w:=by
 obtain⟨a0,a1,a2,a3,a4,a5,a6,a7,a8,a9,a10,a11,a12,a13,a14,a15,a16,a17,a18,a19,rfl⟩:=zNF h;unfold fdV fdA;simp only[List.map_cons,List.map_nil,List.cons_append,List.nil_append];kernel_rfl
theorem zGQ{P:Program}{op:Oper}{r:Operand->Value}{t:TypeId}{parts:Array (Nat × Operand)}(hop:op.op=.build t parts){z:World}{u:Value}(h:(Instr.build t (parts.map λq=>(q.1,r q.2))).run P z=.ok u z):(execOp r op).run P z=.ok (.value u) z:=by
 unfold execOp;simp only[hop];simp only[Sem.run_bind,h,Result.andThen_ok,Sem.run_pure]
theorem zH6{P:Program}{md:Region.Mode}{ops:Array Oper}{Q:Exit->Act->World->Prop}{S:World->Prop}(i:Nat)(oi:Oper){fuel:Nat}{listed:Array Bool}{a:Act}{w:World}(hi:ops[i]?=some oi)(hgd:oi.guard=none)(hr:Region.ready md ops listed=[i])(hr2:Region.ready md ops (listed.setIfInBounds i true)=[])
  (h:Oper.wp P oi a w (λa' w'=>S w'/\Q .normal a' w') Q):wpAnyH P md ops Q S (fuel+1) listed a w:=by
 refine⟨λh0=>(by rw[hr]at h0;cases h0),λj hj=>?_⟩;rw[hr]at hj;simp only[List.mem_singleton]at hj;subst hj;refine wpOp_mono (K:=λa' w'=>S w'/\Q .normal a' w') (λa' w' (h':S w'/\Q .normal a' w')=>⟨h'.1,wpAnyH_done hr2 h'.2 _⟩) ?_;have hw:Region.wanted oi (yielded ops a.tmps)=true:=by simp[Region.wanted,hgd]
 unfold wpOp;simp only[hi,hw,if_true];exact .inl h
theorem wK{P:Program}{md:Region.Mode}{ops:Array Oper}{Q:Exit->Act->World->Prop}{S:World->Prop}(i:Nat)(oi:Oper){fuel:Nat}{listed:Array Bool}{a:Act}{w:World}(hi:ops[i]?=some oi)(hgd:oi.guard=none)(hr:Region.ready md ops listed=[i])(hr2:Region.ready md ops (listed.setIfInBounds i true)=[])
  (ty:TypeId) (x y:Operand) (ho:oi.op=.store ty x y) (b o:Nat) (cells:Array Value) (hx:a.eval x=.pointer (some ⟨b,o,none⟩)) (hy:a.eval y=.agg cells) (ht:w.there b o cells.size) (hz:(P.info? ty).map (·.size)=some cells.size) (h1:cells.all (·.oneCell')=true)
  (hdn:oi.dst=none) (h:S (w.setCells b o cells.toList)/\Q .normal a (w.setCells b o cells.toList)):wpAnyH P md ops Q S (fuel+1) listed a w :=
 zH6 i oi hi hgd hr hr2 (wp_store_mid ty x y ho b o cells hx hy ht hz h1 (by rw[hdn];exact h))
theorem take_at{P:Program}{md:Region.Mode}{ops:Array Oper}{Q:Exit->Act->World->Prop}{S:World->Prop}(i d:Nat)(v:Value){oi:Oper}{fuel:Nat}{listed:Array Bool}{a:Act}{w:World}(hi:ops[i]?=some oi)(hd:oi.dst=some d)
  (hs:Region.noSelect ops=true) (hf:Region.free md ops listed i=true) (hr:(Region.ready md ops listed).contains i=true)
  (hQ:∀c a w,Q (.panic c) (a.put (some d) v) w->Q (.panic c) a w) (hy:YieldsIf P ops S oi v a) (hS:S w)
  (h:wpAnyH P md ops Q S fuel (listed.setIfInBounds i true) (a.put (some d) v) w):wpAnyH P md ops Q S (fuel+1) listed a w :=
 wpAnyH_take hi hs hf hr (by rw[hd];exact hQ) hy hS (by rw[hd];exact h)
theorem zDH{z w:World}(p:Addr)(h:z.heap[p.block]?=w.heap[p.block]?):z.cell? p=w.cell? p:=by unfold World.cell?;rw[h]
theorem zNH{w:World}{b:Nat}{s:List Int}{t:TypeId}(h:w.heap[b]?=some (.cells (s.map (Value.int .i64)).toArray t (0,0)))(hs:s.length=44):w.rangeAt b 2 (((s.drop 2).take 20).map (Value.int .i64)):=λj v hv=>by
 rw[(zC h).1];rw[List.getElem?_map]at hv;by_cases hj:j<20
 ·rw[List.getElem?_take_of_lt hj,List.getElem?_drop]at hv;simp[<-hv]
 ·rw[List.getElem?_eq_none (by simp;omega)]at hv;simp at hv
theorem Tryz.size57:(Tryz.prog.info? 57).map (·.size)=some 22:=by kernel_rfl
theorem qP{ops:Array Oper}{rest:List Oper}{op:Oper}{a:Act}{w:World}{Q:Exit->Act->World->Prop}(hgd:op.guard=none)(x y:Operand)(ho:op.op=.store 57 x y)
  (b:Nat) (cs:Array Value) (hx:a.eval x=.pointer (some ⟨b,0,none⟩)) (hy:a.eval y=.agg cs) {t:TypeId} {B:Array Value} (hB:w.heap[b]?=some (.cells B t (0,0))) (hs:B.size=22) (hc:cs.size=22) (h1:cs.all (·.oneCell')=true)
  (h:∀w2:World,w2.heap[b]?=some (.cells cs t (0,0))->(∀k,k≠b->w2.heap[k]?=w.heap[k]?)->w2.heap.size=w.heap.size->(∀L,L<=b->Below L w w2)->wpList Tryz.prog ops Q rest (a.put op.dst undef) w2):wpList Tryz.prog ops Q (op::rest) a w:=by
 have hb:=zC hB;refine wpList_store_mid hgd _ x y ho b 0 cs hx hy (qW hb.1 hb.2 _ (by omega)) (by rw[Tryz.size57,hc]) h1 ?_;exact h _ (yT hB cs (by omega)) (λk hk=>qB b _ 0 w k hk) (below_setCells b _ 0 w 0 (Nat.zero_le _)).2 (λL hL=>(below_setCells b _ 0 w L hL).1)
theorem zLx{fn:Func}{p:Tmp}(hr:fn.results=#[.cell p 57]){tmps:Array Value}{w:World}{b:Nat}{t:TypeId}{A:Array Value}(hp:tmps.getD p undef=.pointer (some ⟨b,0,none⟩))(hA:w.heap[b]?=some (.cells A t (0,0)))(hs:A.size=22) :
  (results fn tmps).run Tryz.prog w=.ok (.agg A) w:=by
 rw[zCB hr,hp];have:=run_loadVar_mid (P:=Tryz.prog) w b 0 57 A.toList _ (yI hA) Tryz.underlying57 rfl (by rw[Tryz.size57];simp[hs]);simp[asAddr,Result.andThen,this]
def zQy:Value:=.agg #[.int .i64 (-1),.int .i64 (-1),.int .i64 (-1),.int .i64 (-1),.int .i64 (-1),.int .i64 (-1),.int .i64 (-1),.int .i64 (-1),.int .i64 (-1),.int .i64 (-1),.int .i64 (-1),.int .i64 (-1),.int .i64 (-1),.int .i64 (-1),.int .i64 (-1),.int .i64 (-1),.int .i64 (-1),.int .i64 (-1),.int .i64 (-1),.int .i64 (-1)]
theorem zH7(w:World):Calls Tryz.prog 81 #[] w λe w'=>e=.returned zQy/\Below w.heap.size w w':=zDw w
theorem bD(f:Mt.Fnd):(fdA f).all (·.oneCell')=true:=by
 unfold fdA;rw[List.all_toArray];simp[Value.oneCell']
theorem zJ0(w:World):Calls Tryz.prog 81 #[] w λe w'=>e=.returned (.agg (Mt.nowhere.map (Value.int .i64)).toArray)/\Below w.heap.size w w':=zDw w
theorem found_eq(p:Int)(r:List Int)(h:r.length=44):Mt.yX p r=(((r.set 2 p).set 3 (Mt.gt r 1)).drop 2).take 20:=by
 match r,h with
 | a0::a1::a2::a3::t,h=>simp[Mt.yX,Mt.gt]
def zFd:Obj:=.cells (fdA Mt.vJ) 57 (0,0)
def zRq(w:World)(wb gc gi ga gk cc ci ca ck:Nat)(c:List Mt.zTG)(zK:ByteArray)(zTM:List Bool)(ar:List Int)(zA:Int)(F:Mt.Fnd × Bool)(i:Value)(wr:World):Prop :=
 ∃(p n1:Nat) (kn1:List Bool) (yG:Int),i=.int .i64 p/\p<=zK.size+1/\zU wr wb gc gi ga gk cc ci ca ck c zK zTM ar zA kn1 yG (zA-(n1:Int)) false/\wr.heap[w.heap.size]?=some zFd/\Keep wb gk w wr
  /\ kn1.length=c.length*(zK.size+1)*12/\(0<=yG/\yG<=5000)/\(n1:Int)<=zA/\F=Mt.search ⟨c,zK,zTM,ar⟩ zA (zK.size+1-p) p n1 kn1 yG
theorem zEN(wb gc gi ga gk cc ci ca ck:Nat)(c:List Mt.zTG)(zK:ByteArray)(zTM:List Bool)(ar:List Int)(zA:Int)(hE:zDz c zK ar)(hc0:0<c.length)(hb0:0<=zA)(zTH:zA<=10000)
  (HL:∀n:Nat,(n:Int)<=zA->zEI wb gc gi ga gk cc ci ca ck c zK zTM ar zA n) (w:World) (zTE n:Nat) (kn:List Bool) (zD:Int) (hf:zTE<=zK.size)
  (h:zU w wb gc gi ga gk cc ci ca ck c zK zTM ar zA kn zD (zA-(n:Int)) false) (hn:(n:Int)<=zA) (hkn:kn.length=c.length*(zK.size+1)*12) (hr:0<=zD/\zD<=5000) :
  Calls Tryz.prog 51 #[.pointer (some ⟨wb,0,none⟩),.int .i64 zTE] w λe w' =>
   e=.returned (fdV (Mt.search ⟨c,zK,zTM,ar⟩ zA (zK.size+1-zTE) zTE n kn zD).1)/\Keep wb gk w w'/\∃zTN zX pW,zU w' wb gc gi ga gk cc ci ca ck c zK zTM ar zA zTN zX pW (Mt.search ⟨c,zK,zTM,ar⟩ zA (zK.size+1-zTE) zTE n kn zD).2:=by
 have HE:Hid (zDz c zK ar):=hE;have HLL:Hid (∀n:Nat,(n:Int)<=zA->zEI wb gc gi ga gk cc ci ca ck c zK zTM ar zA n):=HL;have zTI:=h.lt;have HLT:Hid (wb<w.heap.size/\gc<w.heap.size/\gi<w.heap.size/\ga<w.heap.size/\gk<w.heap.size):=zTI;have lwb:wb<w.heap.size:=zTI.1;have lgk:gk<w.heap.size:=zTI.2.2.2.2;have HW:Hid (zU w wb gc gi ga gk cc ci ca ck c zK zTM ar zA kn zD (zA-(n:Int)) false):=h;have HS:Hid (kn.length=c.length*(zK.size+1)*12/\(0<=zD/\zD<=5000)/\(n:Int)<=zA/\zTE<=zK.size+1):=⟨hkn,hr,hn,by omega⟩
 obtain⟨F,hF⟩:∃F,F=Mt.search ⟨c,zK,zTM,ar⟩ zA (zK.size+1-zTE) zTE n kn zD:=⟨_,rfl⟩
 rw[<-hF];have HF:Hid (F=Mt.search ⟨c,zK,zTM,ar⟩ zA (zK.size+1-zTE) zTE n kn zD):=hF;have zS5:Obj.cells #[Value.int IntKind.i64 0,Value.int IntKind.i64 0,Value.int IntKind.i64 0,Value.int IntKind.i64 0,Value.int IntKind.i64 0,Value.int IntKind.i64 0,Value.int IntKind.i64 0,Value.int IntKind.i64 0,Value.int IntKind.i64 0,Value.int IntKind.i64 0,Value.int IntKind.i64 0,Value.int IntKind.i64 0,Value.int IntKind.i64 0,Value.int IntKind.i64 0,Value.int IntKind.i64 0,Value.int IntKind.i64 0,Value.int IntKind.i64 0,Value.int IntKind.i64 0,Value.int IntKind.i64 0,Value.int IntKind.i64 0,Value.int IntKind.i64 0,Value.int IntKind.i64 0,Value.int IntKind.i64 0,Value.int IntKind.i64 0,Value.int IntKind.i64 0,Value.int IntKind.i64 0,Value.int IntKind.i64 0,Value.int IntKind.i64 0,Value.int IntKind.i64 0,Value.int IntKind.i64 0,Value.int IntKind.i64 0,Value.int IntKind.i64 0,Value.int IntKind.i64 0,Value.int IntKind.i64 0,Value.int IntKind.i64 0,Value.int IntKind.i64 0,Value.int IntKind.i64 0,Value.int IntKind.i64 0,Value.int IntKind.i64 0,Value.int IntKind.i64 0,Value.int IntKind.i64 0,Value.int IntKind.i64 0,Value.int IntKind.i64 0,Value.int IntKind.i64 0] 139=zBn:=rfl;have ht:=hE.t;clear h hkn hr hn zTI hE HL hF;go_enter Tryz.func51,Tryz.ntmps51
 go_wp2_with fail
 go_loopw [5] (λi wr=>zRq w wb gc gi ga gk cc ci ca ck c zK zTM ar zA F i wr) (λi _=>zK.size+1-(intOf i).toNat)
 case atStart =>
  have hB:Below w.heap.size w (w.alloc zFd):=(Below.refl _ _).alloc (lG _) _;exact⟨zTE,n,kn,zD,rfl,HS.out.2.2.2,HW.out.below hB,heap_alloc_new _ _,Keep.below hB,HS.out.1,HS.out.2.1,HS.out.2.2.1,HF.out⟩
 case round =>
  clear HF HS HW;obtain⟨p,n1,kn1,yG,rfl,hp,hW,hq0,hK,hkn,hrm,hn1,hF⟩:=hrel;have HW:Hid (zU wr wb gc gi ga gk cc ci ca ck c zK zTM ar zA kn1 yG (zA-(n1:Int)) false):=hW;have HQ:Hid (wr.heap[w.heap.size]?=some zFd):=hq0;have HK:Hid (Keep wb gk w wr):=hK;have HG:Hid (kn1.length=c.length*(zK.size+1)*12/\(0<=yG/\yG<=5000)/\(n1:Int)<=zA):=⟨hkn,hrm,hn1⟩
  have HF:Hid (F=Mt.search ⟨c,zK,zTM,ar⟩ zA (zK.size+1-p) p n1 kn1 yG):=hF;have hcb:=zC hW.cell;have c1:wr.cell? ⟨wb,1,none⟩=some (.string zK):=hcb.1 1;have c7:wr.cell? ⟨wb,7,none⟩=some (.int .i64 (zA-(n1:Int))):=hcb.1 7;have hsz:w.heap.size<wr.heap.size:=(lI.1 hq0).1;have lw2:wb<wr.heap.size:=by omega
  clear hcb hW hq0 hK hkn hrm hF;obtain⟨U,hU⟩:∃U:Int,U=zA-(n1:Int):=⟨_,rfl⟩
  rw[<-hU]at HW c7;have HU:Hid (U=zA-(n1:Int)):=hU;clear hU;by_cases hpT:p<=zK.size
  ·have hIH:=HLL.out n1 HG.out.2.2;have hg1:=Mt.dL c.length zK.size p hc0 hpT;have hrg:=Mt.vI ⟨c,zK,zTM,ar⟩ HE.out.ok n1 n1 (Mt.kZ p) kn1 yG (lG _) hg1 HG.out.2.1;have hrn:=Mt.tF ⟨c,zK,zTM,ar⟩ n1 (Mt.kZ p) kn1 yG;have hKL:∀z:World,zU z wb gc gi ga gk cc ci ca ck c zK zTM ar zA kn1 yG U false->Calls Tryz.prog 82 #[.pointer (some ⟨wb,0,none⟩),stV (Mt.kZ p)] z λe w'=>e=.returned (.tuple #[stV (Mt.qO ⟨c,zK,zTM,ar⟩ n1 (Mt.kZ p) kn1 yG).st,.bool (Mt.qO ⟨c,zK,zTM,ar⟩ n1 (Mt.kZ p) kn1 yG).ok])/\Keep wb gk z w'/\zU w' wb gc gi ga gk cc ci ca ck c zK zTM ar zA (Mt.qO ⟨c,zK,zTM,ar⟩ n1 (Mt.kZ p) kn1 yG).kn (Mt.qO ⟨c,zK,zTM,ar⟩ n1 (Mt.kZ p) kn1 yG).zD (zA-((Mt.qO ⟨c,zK,zTM,ar⟩ n1 (Mt.kZ p) kn1 yG).n:Int)) (Mt.qO ⟨c,zK,zTM,ar⟩ n1 (Mt.kZ p) kn1 yG).qI:=λz hz=>hIH z (Mt.kZ p) kn1 yG (by rw[<-HU.out];exact hz) hg1 HG.out.1 HG.out.2.1
   have hFF:=HF.out;rw[show zK.size+1-p=(zK.size-p)+1 by omega,Mt.search]at hFF;generalize Mt.qO ⟨c,zK,zTM,ar⟩ n1 (Mt.kZ p) kn1 yG=r at *;have HKL:Hid (∀z:World,zU z wb gc gi ga gk cc ci ca ck c zK zTM ar zA kn1 yG U false->Calls Tryz.prog 82 #[.pointer (some ⟨wb,0,none⟩),stV (Mt.kZ p)] z λe w'=>e=.returned (.tuple #[stV r.st,.bool r.ok])/\Keep wb gk z w'/\zU w' wb gc gi ga gk cc ci ca ck c zK zTM ar zA r.kn r.zD (zA-(r.n:Int)) r.qI):=hKL;have HRL:Hid (r.st.length=44):=hrg.2.2.2.1;have HRG:Hid (r.kn.length=c.length*(zK.size+1)*12/\(0<=r.zD/\r.zD<=5000)/\(r.n:Int)<=zA):=⟨hrg.2.1.trans HG.out.1,hrg.2.2.1,by have:=HG.out.2.2;omega⟩
   have HFF:Hid (F=_):=hFF;clear hIH hg1 hrg hKL hFF HF;go_wp2_with fail
   refine(zH7 wr).mono ?_;rintro e w1 ⟨rfl,zTH⟩;have hs1:=zTH.size;have HW1:Hid (zU w1 wb gc gi ga gk cc ci ca ck c zK zTM ar zA kn1 yG U false):=HW.out.below zTH;have HQ1:Hid (w1.heap[w.heap.size]?=some zFd):=(zTH.block _ (by omega)).trans HQ.out;have HK1:Hid (Keep wb gk w w1):=HK.out.trans (Keep.below zTH);have l1:w.heap.size<w1.heap.size:=by omega
   clear HW HQ HK zTH c1 c7 lw2 hsz hs1;unfold zQy;go_wp2_with (first|(refine zL (by rfl) (.tmp 6) (.tmp 21) (by rfl) w1.heap.size ((Mt.kZ (p:Int)).map (Value.int .i64)).toArray (by rfl) (by rfl) (by exact heap_alloc_new _ _) (by rfl) (by simp[Mt.zAb]) (qD _) ?_;intro w2 r1 r2 r3 r4;have B2:Hid (Below w1.heap.size w1 w2):=(((Below.refl _ _).alloc (lG _) _).trans (r4 _ (lG _)));have V2:Hid (w2.heap[w1.heap.size]?=some (.cells ((Mt.kZ (p:Int)).map (Value.int .i64)).toArray 139 (0,0))):=(r1);have s2:w2.heap.size=w1.heap.size+1:=(by simpa using r3);clear r1 r2 r3 r4)|(refine zP (by rfl) (.tmp 6) (by rfl) w1.heap.size (by rfl) (by exact V2.out) (by simp[Mt.zAb]) ?_) | fail)
   refine(HKL.out w2 (HW1.out.below B2.out)).mono ?_;rintro e w3 ⟨rfl,hk3,hw3⟩;have hs3:=hk3.size;have HW3:Hid (zU w3 wb gc gi ga gk cc ci ca ck c zK zTM ar zA r.kn r.zD (zA-(r.n:Int)) r.qI):=hw3;have HQ3:Hid (w3.heap[w.heap.size]?=some zFd):=((hk3.blk _ (by omega) (by omega) (by omega)).trans (B2.out.block _ (by omega))).trans HQ1.out;have HK3:Hid (Keep wb gk w w3):=(HK1.out.trans (Keep.below B2.out)).trans hk3;have l3:w.heap.size<w3.heap.size:=by omega
   clear hk3 hw3 HKL HW1 HQ1 HK1 V2 B2 s2 hs3 l1;have hcs:(r.qI=true)\/(r.qI=false/\r.ok=true)\/(r.qI=false/\r.ok=false):=by cases r.ok <;> cases r.qI <;> simp
   rcases hcs with ov | ⟨ov,ok⟩ | ⟨ov,ok⟩
   ·have HFH:Hid (F=(Mt.vJ,true)):=by show _=_;rw[HFF.out,ov];rfl
    have HOV:Hid (r.qI=true):=ov;clear HFF;go_wp2_with (first|(refine zL (by rfl) (.tmp 7) (.tmp 26) (by rfl) w3.heap.size (r.st.map (Value.int .i64)).toArray (by rfl) (by rfl) (by exact heap_alloc_new _ _) (by rfl) (by simp[HRL.out]) (qD _) ?_;intro w4 r1 r2 r3 r4;have B4:Hid (Below w3.heap.size w3 w4):=(((Below.refl _ _).alloc (lG _) _).trans (r4 _ (lG _)));have V4:Hid (w4.heap[w3.heap.size]?=some (.cells (r.st.map (Value.int .i64)).toArray 139 (0,0))):=(r1);have V5:Hid (w4.heap[w.heap.size]?=some zFd):=((B4.out.block _ l3).trans HQ3.out);have k8:w4.cell? ⟨wb,8,none⟩=some (.bool r.qI):=((zC (HW3.out.below B4.out).cell).1 8);have k7:w4.cell? ⟨wb,7,none⟩=some (.int .i64 (zA-(r.n:Int))):=((zC (HW3.out.below B4.out).cell).1 7);have s4:w4.heap.size=w3.heap.size+1:=(by simpa using r3);have l41:wb<w4.heap.size:=(by omega);have l42:w3.heap.size<w4.heap.size:=(by omega);have S4:Hid (w4.heap.size=w3.heap.size+1):=(s4);clear r1 r2 r3 r4 s4)|(refine qP (by rfl) (.tmp 4) (.tmp 32) (by rfl) w.heap.size (fdA Mt.vJ) (by rfl) (by rfl) (by exact V5.out) (by rfl) (by rfl) (bD _) ?_;intro w5 r1 r2 r3 r4) | fail)
    refine bodyPost_ret (zLx rfl (by rfl) r1 (by rfl)) rfl ⟨?_,Keep.whole (HK3.out.trans (Keep.below B4.out)) r2 r3 (r4 _ (lG _)),?_⟩
    ·rw[HFH.out];rfl
    ·rw[HFH.out];have hx:=HLT.out;have:=(HW3.out.below B4.out).mem (r2 _ (by omega)) (r2 _ (by omega)) (r2 _ (by omega)) (r2 _ (by omega)) (r2 _ (by omega));rw[HOV.out]at this;exact⟨_,_,_,this⟩
   ·have HFH:Hid (F=(⟨true,Mt.yX p r.st,zA-r.n⟩,false)):=by show _=_;rw[HFF.out,ov,ok];rfl
    have HOV:Hid (r.qI=false):=ov;clear HFF;go_wp2_with (first|(refine zL (by rfl) (.tmp 7) (.tmp 26) (by rfl) w3.heap.size (r.st.map (Value.int .i64)).toArray (by rfl) (by rfl) (by exact heap_alloc_new _ _) (by rfl) (by simp[HRL.out]) (qD _) ?_;intro w4 r1 r2 r3 r4;have B4:Hid (Below w3.heap.size w3 w4):=(((Below.refl _ _).alloc (lG _) _).trans (r4 _ (lG _)));have V4:Hid (w4.heap[w3.heap.size]?=some (.cells (r.st.map (Value.int .i64)).toArray 139 (0,0))):=(r1);have V5:Hid (w4.heap[w.heap.size]?=some zFd):=((B4.out.block _ l3).trans HQ3.out);have k8:w4.cell? ⟨wb,8,none⟩=some (.bool r.qI):=((zC (HW3.out.below B4.out).cell).1 8);have k7:w4.cell? ⟨wb,7,none⟩=some (.int .i64 (zA-(r.n:Int))):=((zC (HW3.out.below B4.out).cell).1 7);have s4:w4.heap.size=w3.heap.size+1:=(by simpa using r3);have l41:wb<w4.heap.size:=(by omega);have l42:w3.heap.size<w4.heap.size:=(by omega);have e1:=(pJ V4.out 1 _ (zBo HRL.out 1 (by omega)));have e2:=(pJ V4.out 2 _ (zBo HRL.out 2 (by omega)));have e3:=(pJ V4.out 3 _ (zBo HRL.out 3 (by omega)));have f2:=(dD V4.out 2);have f3:=(dD V4.out 3);have S4:Hid (w4.heap.size=w3.heap.size+1):=(s4);clear r1 r2 r3 r4 s4) | fail)
    have V6:((w4.setCell ⟨w3.heap.size,2,none⟩ (.int .i64 (p:Int))).setCell ⟨w3.heap.size,3,none⟩ (.int .i64 (Mt.gt r.st 1))).heap[w3.heap.size]?=some (.cells (((r.st.set 2 (p:Int)).set 3 (Mt.gt r.st 1)).map (Value.int .i64)).toArray 139 (0,0)):=yV (yV V4.out 2 _) 3 _;have B6:Below w3.heap.size w3 ((w4.setCell ⟨w3.heap.size,2,none⟩ (.int .i64 (p:Int))).setCell ⟨w3.heap.size,3,none⟩ (.int .i64 (Mt.gt r.st 1))):=(B4.out.setCell (p:=⟨w3.heap.size,2,none⟩) (lG _) _).setCell (p:=⟨w3.heap.size,3,none⟩) (lG _) _;generalize (w4.setCell ⟨w3.heap.size,2,none⟩ (.int .i64 (p:Int))).setCell ⟨w3.heap.size,3,none⟩ (.int .i64 (Mt.gt r.st 1))=w5 at *;obtain⟨S,hS⟩:∃S,S=(r.st.set 2 (p:Int)).set 3 (Mt.gt r.st 1):=⟨_,rfl⟩
    rw[<-hS]at V6;have HSS:Hid (S=(r.st.set 2 (p:Int)).set 3 (Mt.gt r.st 1)):=hS;have SL:Hid (S.length=44):=by show _=_;rw[hS];simp[HRL.out]
    clear hS e1 e2 e3 f2 f3 k7 k8 l41 l42 V5;have k7:w5.cell? ⟨wb,7,none⟩=some (.int .i64 (zA-(r.n:Int))):=(zC (HW3.out.below B6).cell).1 7;have V5:w5.heap[w.heap.size]?=some zFd:=(B6.block _ l3).trans HQ3.out;have l51:w3.heap.size<w5.heap.size:=(lI.1 V6).1;have l52:wb<w5.heap.size:=by omega
    have l53:w.heap.size<w5.heap.size:=by omega
    have hra:w5.rangeAt w3.heap.size 2 (((S.drop 2).take 20).map (Value.int .i64)):=zNH V6 SL.out;have HB6:Hid (Below w3.heap.size w3 w5):=B6;have HV5:Hid (w5.heap[w.heap.size]?=some zFd):=V5;clear V6 B6 V4 B4 S4 V5;obtain⟨U2,hU2⟩:∃U2:Int,U2=zA-(r.n:Int):=⟨_,rfl⟩
    rw[<-hU2]at k7;have HU2:Hid (U2=zA-(r.n:Int)):=hU2;clear hU2;have zCR:∀z:World,(∀k,k≠w.heap.size->z.heap[k]?=w5.heap[k]?)->z.cell? ⟨wb,7,none⟩=some (.int .i64 U2):=λz hz=>(zDH ⟨wb,7,none⟩ (hz wb (by omega))).trans k7
    have zQz:∀z:World,(∀k,k≠w.heap.size->z.heap[k]?=w5.heap[k]?)->z.rangeAt w3.heap.size 2 (((S.drop 2).take 20).map (Value.int .i64)):=λz hz j v hv=>(zDH ⟨w3.heap.size,2+j,none⟩ (hz w3.heap.size (by omega))).trans (hra j v hv)
    have zMZ:((S.drop 2).take 20).length=20:=by simp[SL.out]
    refine wp_region_held_drew (S:=λz:World=>∀k,k≠w.heap.size->z.heap[k]?=w5.heap[k]?) (by kernel_rfl) (λ_ _=>rfl) (λhHeld=>?_);refine take_at 0 41 (.pointer (some ⟨w3.heap.size,2,none⟩)) rfl rfl (by kernel_rfl) (by kernel_rfl) (by kernel_rfl) (λ_ _ _ h=>h) (Or.inl ⟨by rfl,λz hz=>by have hz7:=zCR z hz;clear hz hHeld;go_simp⟩) (by assumption) ?_;simp only[Act.put,lC,lD,lF];refine take_at 1 42 (.agg (((S.drop 2).take 20).map (Value.int .i64)).toArray) rfl rfl (by kernel_rfl) (by kernel_rfl) (by kernel_rfl) (λ_ _ _ h=>h) (yieldsIf_load_mid (by rfl) _ _ rfl _ _ rfl _ _ zQz Tryz.underlying55 rfl (by rw[Tryz.size55,List.length_map,zMZ])) (by assumption) ?_;simp only[Act.put,lC,lD,lF];refine take_at 2 43 (.pointer (some ⟨wb,0,none⟩)) rfl rfl (by kernel_rfl) (by kernel_rfl) (by kernel_rfl) (λ_ _ _ h=>h) (Or.inl ⟨by rfl,λz hz=>by have hz7:=zCR z hz;clear hz hHeld;go_simp⟩) (by assumption) ?_;simp only[Act.put,lC,lD,lF];refine take_at 3 44 (.pointer (some ⟨wb,0,none⟩)) rfl rfl (by kernel_rfl) (by kernel_rfl) (by kernel_rfl) (λ_ _ _ h=>h) (Or.inl ⟨by rfl,λz hz=>by have hz7:=zCR z hz;clear hz hHeld;go_simp⟩) (by assumption) ?_;simp only[Act.put,lC,lD,lF];refine take_at 4 45 (.pointer (some ⟨wb,7,none⟩)) rfl rfl (by kernel_rfl) (by kernel_rfl) (by kernel_rfl) (λ_ _ _ h=>h) (Or.inl ⟨by rfl,λz hz=>by have hz7:=zCR z hz;clear hz hHeld;go_simp⟩) (by assumption) ?_;simp only[Act.put,lC,lD,lF];refine take_at 5 46 (.int .i64 U2) rfl rfl (by kernel_rfl) (by kernel_rfl) (by kernel_rfl) (λ_ _ _ h=>h) (Or.inl ⟨by rfl,λz hz=>by have hz7:=zCR z hz;clear hz hHeld;go_simp⟩) (by assumption) ?_;simp only[Act.put,lC,lD,lF];refine take_at 6 47 (fdV ⟨true,(S.drop 2).take 20,U2⟩) rfl rfl (by kernel_rfl) (by kernel_rfl) (by kernel_rfl) (λ_ _ _ h=>h) (Or.inl ⟨by rfl,λz hz=>by refine zGQ (t:=57) (parts:=#[(0,.const (.bool true)),(1,.tmp 42),(2,.tmp 46)]) rfl ?_;simp only[List.map_toArray,List.map_cons,List.map_nil];exact zNG _ zMZ true U2 z⟩) (by assumption) ?_;simp only[Act.put,lC,lD,lF];have q60:w5.drew.heap[w.heap.size]?=some (.cells (fdA Mt.vJ) 57 (0,0)):=HV5.out;refine wK 7 _ rfl rfl (by kernel_rfl) (by kernel_rfl) _ _ _ rfl w.heap.size 0 (fdA ⟨true,(S.drop 2).take 20,U2⟩) (by kernel_rfl) (by kernel_rfl) (qW (zC q60).1 (zC q60).2 _ (by rw[kE _ zMZ,kE Mt.vJ rfl];exact lG _)) (by rw[Tryz.size57,kE _ zMZ]) (bD _) rfl ?_;have r1:=yT q60 (fdA ⟨true,(S.drop 2).take 20,U2⟩) (by rw[kE _ zMZ,kE Mt.vJ rfl]);have r2:∀k,k≠w.heap.size->(w5.drew.setCells w.heap.size 0 (fdA ⟨true,(S.drop 2).take 20,U2⟩).toList).heap[k]?=w5.heap[k]?:=λk hk=>qB _ _ 0 w5.drew k hk
    have r4:=(below_setCells w.heap.size (fdA ⟨true,(S.drop 2).take 20,U2⟩).toList 0 w5.drew w.heap.size (lG _))
    generalize w5.drew.setCells w.heap.size 0 (fdA ⟨true,(S.drop 2).take 20,U2⟩).toList=w6 at *;refine⟨r2,?_⟩;have R1:Hid (w6.heap[w.heap.size]?=some (.cells (fdA ⟨true,(S.drop 2).take 20,U2⟩) 57 (0,0))):=r1;have R4:Hid ((∀k,k≠w.heap.size->w6.heap[k]?=w5.heap[k]?)/\w6.heap.size=w5.heap.size/\Below w.heap.size w5 w6):=⟨r2,r4.2,((Below.refl _ _).drew).trans r4.1⟩
    clear r1 r2 r4 hHeld q60 hra zCR zQz k7 l51 l52 l53;go_wp2_with fail
    refine bodyPost_ret (zLx rfl (by rfl) R1.out (kE _ zMZ)) rfl ⟨?_,Keep.whole (HK3.out.trans (Keep.below HB6.out)) R4.out.1 R4.out.2.1 R4.out.2.2,?_⟩
    ·rw[HFH.out];have e:Mt.yX p r.st=(S.drop 2).take 20:=by rw[HSS.out];exact found_eq p r.st HRL.out
     rw[e,<-HU2.out];rfl
    ·rw[HFH.out];have hx:=HLT.out;have o:=R4.out.1;have:=(HW3.out.below HB6.out).mem (o _ (by omega)) (o _ (by omega)) (o _ (by omega)) (o _ (by omega)) (o _ (by omega));rw[HOV.out]at this;exact⟨_,_,_,this⟩
   ·have HFH:Hid (F=Mt.search ⟨c,zK,zTM,ar⟩ zA (zK.size+1-(p+1)) (p+1) r.n r.kn r.zD):=by show _=_;rw[HFF.out,ov,ok,show zK.size+1-(p+1)=zK.size-p by omega];rfl
    have HOV:Hid (r.qI=false):=ov;clear HFF;go_wp2_with (first|(refine zL (by rfl) (.tmp 7) (.tmp 26) (by rfl) w3.heap.size (r.st.map (Value.int .i64)).toArray (by rfl) (by rfl) (by exact heap_alloc_new _ _) (by rfl) (by simp[HRL.out]) (qD _) ?_;intro w4 r1 r2 r3 r4;have B4:Hid (Below w3.heap.size w3 w4):=(((Below.refl _ _).alloc (lG _) _).trans (r4 _ (lG _)));have V4:Hid (w4.heap[w3.heap.size]?=some (.cells (r.st.map (Value.int .i64)).toArray 139 (0,0))):=(r1);have V5:Hid (w4.heap[w.heap.size]?=some zFd):=((B4.out.block _ l3).trans HQ3.out);have k8:w4.cell? ⟨wb,8,none⟩=some (.bool r.qI):=((zC (HW3.out.below B4.out).cell).1 8);have k7:w4.cell? ⟨wb,7,none⟩=some (.int .i64 (zA-(r.n:Int))):=((zC (HW3.out.below B4.out).cell).1 7);have s4:w4.heap.size=w3.heap.size+1:=(by simpa using r3);have l41:wb<w4.heap.size:=(by omega);have l42:w3.heap.size<w4.heap.size:=(by omega);have S4:Hid (w4.heap.size=w3.heap.size+1):=(s4);clear r1 r2 r3 r4 s4) | fail)
    have hW4:zU w4 wb gc gi ga gk cc ci ca ck c zK zTM ar zA r.kn r.zD (zA-(r.n:Int)) false:=by
     have:=HW3.out.below B4.out;rw[HOV.out]at this;exact this
    go_roundw
    case rel=>exact⟨p+1,r.n,r.kn,r.zD,by go_num,by omega,hW4,V5.out,HK3.out.trans (Keep.below B4.out),HRG.out.1,HRG.out.2.1,HRG.out.2.2,HFH.out⟩
    case measure=>simp[intOf];omega
  ·have HFH:Hid (F=(⟨false,Mt.nowhere,U⟩,false)):=by show _=_;rw[HF.out,show zK.size+1-p=0 by omega,HU.out];rfl
   clear HF;go_wp2_with fail
   have zCR:∀z:World,(∀k,k<wr.heap.size->k≠w.heap.size->z.heap[k]?=wr.heap[k]?)->z.cell? ⟨wb,7,none⟩=some (.int .i64 U):=λz hz=>(zDH ⟨wb,7,none⟩ (hz wb lw2 (by omega))).trans c7
   refine wp_region_held_drew (S:=λz:World=>∀k,k<wr.heap.size->k≠w.heap.size->z.heap[k]?=wr.heap[k]?) (by kernel_rfl) (λ_ _ _=>rfl) (λhHeld=>?_);refine take_at 1 49 (.pointer (some ⟨wb,0,none⟩)) rfl rfl (by kernel_rfl) (by kernel_rfl) (by kernel_rfl) (λ_ _ _ h=>h) (Or.inl ⟨by rfl,λz hz=>by have hz7:=zCR z hz;clear hz hHeld;go_simp⟩) (by assumption) ?_;simp only[Act.put,lC,lD,lF];refine take_at 2 50 (.pointer (some ⟨wb,0,none⟩)) rfl rfl (by kernel_rfl) (by kernel_rfl) (by kernel_rfl) (λ_ _ _ h=>h) (Or.inl ⟨by rfl,λz hz=>by have hz7:=zCR z hz;clear hz hHeld;go_simp⟩) (by assumption) ?_;simp only[Act.put,lC,lD,lF];refine take_at 3 51 (.pointer (some ⟨wb,7,none⟩)) rfl rfl (by kernel_rfl) (by kernel_rfl) (by kernel_rfl) (λ_ _ _ h=>h) (Or.inl ⟨by rfl,λz hz=>by have hz7:=zCR z hz;clear hz hHeld;go_simp⟩) (by assumption) ?_;simp only[Act.put,lC,lD,lF];refine take_at 4 52 (.int .i64 U) rfl rfl (by kernel_rfl) (by kernel_rfl) (by kernel_rfl) (λ_ _ _ h=>h) (Or.inl ⟨by rfl,λz hz=>by have hz7:=zCR z hz;clear hz hHeld;go_simp⟩) (by assumption) ?_;simp only[Act.put,lC,lD,lF];refine wpAnyH_ready (rs:=[0]) (by kernel_rfl) (by simp) ?_;refine AllReadyH.cons rfl (λK hK=>?_) AllReadyH.nil
   go_simp
   refine(zJ0 wr.drew).mono ?_;rintro e w9 ⟨rfl,hb9⟩;have hS9:∀k,k<wr.heap.size->k≠w.heap.size->w9.heap[k]?=wr.heap[k]?:=λk hk _=>hb9.block k hk
   have q90:w9.heap[w.heap.size]?=some (.cells (fdA Mt.vJ) 57 (0,0)):=(hb9.block _ hsz).trans HQ.out;have HB9:Hid (Below wr.heap.size wr w9):=((Below.refl _ _).drew).trans hb9;clear hb9
   go_simp
   refine hK.out _ _ hS9 (λzIX=>?_);clear hK K hHeld;refine take_at 5 53 (fdV ⟨false,Mt.nowhere,U⟩) rfl rfl (by kernel_rfl) (by kernel_rfl) (by kernel_rfl) (λ_ _ _ h=>h) (Or.inl ⟨by rfl,λz hz=>by refine zGQ (t:=57) (parts:=#[(1,.tmp 48),(2,.tmp 52)]) rfl ?_;simp only[List.map_toArray,List.map_cons,List.map_nil];exact zLw _ rfl U z⟩) (by assumption) ?_;simp only[Act.put,lC,lD,lF];refine wK 6 _ rfl rfl (by kernel_rfl) (by kernel_rfl) _ _ _ rfl w.heap.size 0 (fdA ⟨false,Mt.nowhere,U⟩) (by kernel_rfl) (by kernel_rfl) (qW (zC q90).1 (zC q90).2 _ (by rw[kE ⟨false,Mt.nowhere,U⟩ rfl,kE Mt.vJ rfl];exact lG _)) (by rw[Tryz.size57,kE ⟨false,Mt.nowhere,U⟩ rfl]) (bD _) rfl ?_;have r1:=yT q90 (fdA ⟨false,Mt.nowhere,U⟩) (by rw[kE ⟨false,Mt.nowhere,U⟩ rfl,kE Mt.vJ rfl]);have r2:∀k,k≠w.heap.size->(w9.setCells w.heap.size 0 (fdA ⟨false,Mt.nowhere,U⟩).toList).heap[k]?=w9.heap[k]?:=λk hk=>qB _ _ 0 w9 k hk
   have r4:=(below_setCells w.heap.size (fdA ⟨false,Mt.nowhere,U⟩).toList 0 w9 w.heap.size (lG _))
   generalize w9.setCells w.heap.size 0 (fdA ⟨false,Mt.nowhere,U⟩).toList=w6 at *;refine⟨λk hk hne=>(r2 k hne).trans (hS9 k hk hne),?_⟩;have R1:Hid (w6.heap[w.heap.size]?=some (.cells (fdA ⟨false,Mt.nowhere,U⟩) 57 (0,0))):=r1;have R4:Hid ((∀k,k≠w.heap.size->w6.heap[k]?=w9.heap[k]?)/\w6.heap.size=w9.heap.size/\Below w.heap.size w9 w6):=⟨r2,r4.2,r4.1⟩
   clear r1 r2 r4 zIX q90 zCR c7 hS9;go_wp2_with fail
   refine bodyPost_ret (zLx rfl (by rfl) R1.out (kE ⟨false,Mt.nowhere,U⟩ rfl)) rfl ⟨?_,Keep.whole (HK.out.trans (Keep.below HB9.out)) R4.out.1 R4.out.2.1 R4.out.2.2,?_⟩
   ·rw[HFH.out];rfl
   ·rw[HFH.out];have hx:=HLT.out;have o:=R4.out.1;exact⟨_,_,_,(HW.out.below HB9.out).mem (o _ (by omega)) (o _ (by omega)) (o _ (by omega)) (o _ (by omega)) (o _ (by omega))⟩
def fJ(T:Nat)(zTE zB zI zD zA:Int):Int :=
 if 60<T then 1
 else if Mt.kF zB zI=true/\0<=zTE/\zTE<=T/\0<=zD/\zD<=5000/\0<=zA/\zA<=10000 then 0 else 13
theorem zFt(T:Nat)(zTE zB zI zD zA:Int)(hT:¬60<T) :
  (Mt.kF zB zI=false/\fJ T zTE zB zI zD zA=13) \/
  (Mt.kF zB zI=true/\decide (zTE<0)=true/\fJ T zTE zB zI zD zA=13) \/
  (Mt.kF zB zI=true/\decide (zTE<0)=false/\decide ((T:Int)<zTE)=true/\fJ T zTE zB zI zD zA=13) \/
  (Mt.kF zB zI=true/\decide (zTE<0)=false/\decide ((T:Int)<zTE)=false/\decide (zD<0)=true/\fJ T zTE zB zI zD zA=13) \/
  (Mt.kF zB zI=true/\decide (zTE<0)=false/\decide ((T:Int)<zTE)=false/\decide (zD<0)=false/\decide (5000<zD)=true/\fJ T zTE zB zI zD zA=13) \/
  (Mt.kF zB zI=true/\decide (zTE<0)=false/\decide ((T:Int)<zTE)=false/\decide (zD<0)=false/\decide (5000<zD)=false/\decide (zA<0)=true/\fJ T zTE zB zI zD zA=13) \/
  (Mt.kF zB zI=true/\decide (zTE<0)=false/\decide ((T:Int)<zTE)=false/\decide (zD<0)=false/\decide (5000<zD)=false/\decide (zA<0)=false/\decide (10000<zA)=true/\fJ T zTE zB zI zD zA=13) \/
  (Mt.kF zB zI=true/\decide (zTE<0)=false/\decide ((T:Int)<zTE)=false/\decide (zD<0)=false/\decide (5000<zD)=false/\decide (zA<0)=false/\decide (10000<zA)=false/\fJ T zTE zB zI zD zA=0):=by
 unfold fJ;rw[if_neg hT];simp only[decide_eq_true_eq,lJ];cases Mt.kF zB zI
 ·left;simp
 ·right;by_cases h:(true=true/\0<=zTE/\zTE<=(T:Int)/\0<=zD/\zD<=5000/\0<=zA/\zA<=10000)
  ·rw[if_pos h];simp at h |-;omega
  ·rw[if_neg h];simp at h |-;omega
theorem zDI(zK:ByteArray)(zTE zB zI zD zA:Int)(w:World)(hm:zK.size<=maxLen) :
  Calls Tryz.prog 49 #[.string zK,.int .i64 zTE,.agg #[.int .i64 zB,.int .i64 zI,.int .i64 zD,.int .i64 zA]] w λe w'=>e=.returned (.int .i64 (fJ zK.size zTE zB zI zD zA))/\Below w.heap.size w w':=by
 have KS:Hid (∀b,Mt.kF zB zI=b->∀z,Calls Tryz.prog 45 #[.int .i64 zB,.int .i64 zI] z λe w'=>e=.returned (.bool b)/\z=w'):=λb hb z=>by rw[<-hb];exact zBG zB zI z
 unfold maxLen at hm;by_cases hT:60<zK.size
 ·have e:fJ zK.size zTE zB zI zD zA=1:=by unfold fJ;rw[if_pos hT]
  rw[e];clear e;go_enter Tryz.func49,Tryz.ntmps49
  go_wp2_with fail
  go_ret;exact⟨rfl,by go_grown⟩
 ·rcases zFt zK.size zTE zB zI zD zA hT with ⟨a1,e⟩ | ⟨a1,a2,e⟩ | ⟨a1,a2,a3,e⟩ | ⟨a1,a2,a3,a4,e⟩ | ⟨a1,a2,a3,a4,a5,e⟩ | ⟨a1,a2,a3,a4,a5,a6,e⟩ | ⟨a1,a2,a3,a4,a5,a6,a7,e⟩ | ⟨a1,a2,a3,a4,a5,a6,a7,e⟩
  all_goals
   rw[e];clear e;have A1:Hid (Mt.kF zB zI=_):=a1;clear a1;go_enter Tryz.func49,Tryz.ntmps49
   go_wp2_with fail
   refine(KS.out _ A1.out _).mono ?_;rintro e w' ⟨rfl,rfl⟩;go_wp2_with fail
   first | go_quiet (fail) | skip
   go_wp2_with fail
   go_ret;exact⟨rfl,by first | go_grown | exact below_drewN ((Below.refl _ _).alloc (lG _) _) _⟩
def jU(c:List Mt.zTG)(k:Nat):List Int:=(List.range k).map λp=>(Mt.jI c p:Int)
theorem zFu(c:List Mt.zTG)(k:Nat):jU c (k+1)=jU c k++[(Mt.jI c k:Int)]:=by
 unfold jU;rw[List.range_succ,List.map_append];rfl
theorem zAC(c:List Mt.zTG)(k:Nat):(jU c k).length=k:=by simp[jU]
theorem zPi(L T:Nat)(h1:L<=300)(h2:T<=60):L*(T+1)*12<=219600/\(0:Int)<=(L:Int)*((T:Int)+1)/\(L:Int)*((T:Int)+1)<=18300:=by
 have a:L*(T+1)<=300*61:=Nat.mul_le_mul h1 (by omega);refine⟨by omega,Int.mul_nonneg (by omega) (by omega),?_⟩;have:=Int.mul_le_mul (show(L:Int)<=300 by omega) (show(T:Int)+1<=61 by omega) (by omega) (by omega);omega
theorem zGR(c:List Mt.zTG)(zK:ByteArray)(zB zI zD b0 zA:Int)(gc cc:Nat)(w:World)(h:zF w 0 (.slice (some ⟨gc,0,none⟩) c.length cc) c)(hl0:0<c.length)(hl:c.length<=300)(hf:Mt.fit 100000000 c)(ht:zK.size<=60)(hm0:0<=zI)(hm1:zI<=4294967295) :
  Calls Tryz.prog 50 #[.slice (some ⟨gc,0,none⟩) c.length cc,.string zK,.agg #[.int .i64 zB,.int .i64 zI,.int .i64 zD,.int .i64 b0],.int .i64 zA] w λe w' =>
   ∃wb gi ga gk ci ca ck,e=.returned (.pointer (some ⟨wb,0,none⟩))/\zU w' wb gc gi ga gk cc ci ca ck c zK (Mt.jD c zB zI) (jU c c.length) zA (List.replicate (c.length*(zK.size+1)*12) false) zD 0 false/\Below w.heap.size w w'/\w.heap.size<=wb/\w.heap.size<=gk:=by
 have H:Hid (zF w 0 (.slice (some ⟨gc,0,none⟩) c.length cc) c):=h;have hgc:gc<w.heap.size:=(World.ownsRow.lt h gc rfl).2;have HF:Hid (Mt.fit 100000000 c):=hf;obtain⟨i0,hi,hz0,hz1,hz2⟩:=info_parts Tryz.info3;obtain⟨j0,hj,hy0,hy1,hy2⟩:=info_parts Tryz.info4;have zTL:=zPi c.length zK.size hl ht;clear h hf;go_enter Tryz.func50,Tryz.ntmps50
 go_wp2_with fail
 refine(zEG c zB zI 0 _ _ (H.out.below (by go_grown)) hl hm0 hm1).mono ?_;rintro e w1 ⟨vi,rfl,qi,zTH⟩;have hs1:=zTH.size
 have hblk:w1.heap[w.heap.size+1]?=some (.cells #[.slice (some ⟨gc,0,none⟩) c.length cc,.string zK,.slice none 0 0,.slice none 0 0,.slice none 0 0,.int .i64 zD,.int .i64 zA,.int .i64 0,.bool false] 93 (0,0)):=by
  rw[zTH.block _ (by simp)];exact mV _ _ _
 have hB1:Below w.heap.size w w1:=(((Below.refl _ _).alloc (lG _) _).alloc (by simp) _).trans (zTH.mono (by simp;omega));have hcl:=Mt.zEF c zB zI
 obtain⟨gi,ci,hvi,zS6,zSo⟩:∃gi ci,vi=.slice (some ⟨gi,0,none⟩) c.length ci/\w.heap.size+2<=gi/\gi<w1.heap.size:=by
  rcases qi.2 with ⟨_,hn⟩ | ⟨g,cap,cur,rfl,hbs,hg,_⟩
  ·omega
  ·exact⟨g,cap,by rw[hcl],by simpa using hbs,(lI.1 hg).1⟩
 subst hvi
 have QI:Hid (qA w1 0 (.slice (some ⟨gi,0,none⟩) (Mt.jD c zB zI).length ci) (Mt.jD c zB zI)):=by
  show qA _ _ _ _;have:=jG qi (Nat.zero_le _);rw[hcl];exact this
 have HI1:Hid (zF w1 0 (.slice (some ⟨gc,0,none⟩) c.length cc) c):=H.out.below hB1;have hcb:=zC hblk;have z1:=hcb.1;have z2:=hcb.2;have zSp:w.heap.size+2<=w1.heap.size:=by have:=hs1;simp at this;omega
 have hlt1:w.heap.size+1<w1.heap.size:=by omega
 have HBL:Hid (w1.heap[w.heap.size+1]?=some (.cells #[.slice (some ⟨gc,0,none⟩) c.length cc,.string zK,.slice none 0 0,.slice none 0 0,.slice none 0 0,.int .i64 zD,.int .i64 zA,.int .i64 0,.bool false] 93 (0,0))):=hblk;have HCL:Hid ((Mt.jD c zB zI).length=c.length):=hcl;have zS7:=zTL.1;have zS8:=zTL.2.1;have zS9:=zTL.2.2;clear qi zTH hs1 hblk hcb hcl zTL H;go_wp2_with fail
 obtain⟨w2,hW2⟩:∃w2,w2=w1.setCell ⟨w.heap.size+1,2,none⟩ (.slice (some ⟨gi,0,none⟩) c.length ci):=⟨_,rfl⟩
 rw[<-hW2];have hO:∀k,k≠w.heap.size+1->w2.heap[k]?=w1.heap[k]?:=λk hk=>by rw[hW2];exact Below.heap_setCell _ _ _ _ hk
 have zSq:Hid (w2.heap[w.heap.size+1]?=some (.cells #[.slice (some ⟨gc,0,none⟩) c.length cc,.string zK,.slice (some ⟨gi,0,none⟩) c.length ci,.slice none 0 0,.slice none 0 0,.int .i64 zD,.int .i64 zA,.int .i64 0,.bool false] 93 (0,0))):=by
  show _=_;rw[hW2];exact Go.heap_setCell_same w1 _ 2 _ _ _ HBL.out
 have QI2:Hid (qA w2 0 (.slice (some ⟨gi,0,none⟩) (Mt.jD c zB zI).length ci) (Mt.jD c zB zI)):=qY QI.out (hO gi (by omega));have HI2:Hid (zF w2 0 (.slice (some ⟨gc,0,none⟩) c.length cc) c):=qY HI1.out (hO gc (by omega));have hB2:Below w.heap.size w w2:=by rw[hW2];exact hB1.setCell (p:=⟨w.heap.size+1,2,none⟩) (by simp) _
 have hs2:w2.heap.size=w1.heap.size:=by rw[hW2];simp[World.setCell]
 have zTa:w.heap.size+2<=w2.heap.size:=by omega
 have zTb:gi<w2.heap.size:=by omega
 clear hO hW2 QI HI1 HBL z1 z2 hB1 zSp hs2 zSo hlt1
 go_loopw [10] (λi wr=>∃(k:Nat) (va:Value),k<=c.length/\i=.int .i64 k/\wr.heap[w.heap.size+1]?=some (.cells #[.slice (some ⟨gc,0,none⟩) c.length cc,.string zK,.slice (some ⟨gi,0,none⟩) c.length ci,va,.slice none 0 0,.int .i64 zD,.int .i64 zA,.int .i64 0,.bool false] 93 (0,0))/\yO wr w2.heap.size va (jU c k)/\w2.heap.size<=wr.heap.size/\wr.os=w2.os/\wr.tape=w2.tape/\wr.output=w2.output/\(∀q,q<w2.heap.size->q≠w.heap.size+1->wr.heap[q]?=w2.heap[q]?)) (λi _=>c.length-(intOf i).toNat)
 case atStart=>exact⟨0,_,Nat.zero_le _,rfl,zSq.out,World.ownsRow_nil _ _ _ _,lG _,rfl,rfl,rfl,λ_ _ _=>rfl⟩
 case round =>
  obtain⟨k,va,hk,rfl,hblk,jS,hsz,o1,o2,o3,hO⟩:=hrel;have HBK:Hid (wr.heap[w.heap.size+1]?=some (.cells #[.slice (some ⟨gc,0,none⟩) c.length cc,.string zK,.slice (some ⟨gi,0,none⟩) c.length ci,va,.slice none 0 0,.int .i64 zD,.int .i64 zA,.int .i64 0,.bool false] 93 (0,0))):=hblk;have hcb:=zC hblk;have z1:=hcb.1;have z2:=hcb.2;have zRR:w.heap.size+1<wr.heap.size:=by omega
  have OS:Hid (wr.os=w2.os/\wr.tape=w2.tape/\wr.output=w2.output):=⟨o1,o2,o3⟩
  have HOO:Hid (∀q,q<w2.heap.size->q≠w.heap.size+1->wr.heap[q]?=w2.heap[q]?):=hO;have HOW:Hid (yO wr w2.heap.size va (jU c k)):=jS;have HIr:Hid (zF wr 0 (.slice (some ⟨gc,0,none⟩) c.length cc) c):=qY HI2.out (hO gc (by omega) (by omega));have hln:=zAC c k;have HLN:Hid ((jU c k).length=k):=hln;clear hcb hblk o1 o2 o3 hO jS hln;by_cases zTI:k<c.length
  ·have hla:=Mt.nM c k;go_wp2_with (first|(go_at_call 22;refine(zGv c _ 0 _ _ HIr.out HF.out (by omega)).mono ?_;rintro e w' ⟨rfl,rfl⟩)|(at_builtin;refine wpList_append_own _ rfl _ _ 51 rfl w2.heap.size 3 i0 _ 1 8 Tryz.underlying51 hi hz0 hz1 hz2 rfl (by decide) _ _ _ rfl (World.ownsRow.alloc HOW.out _) ⟨wr.heap.size,0,none⟩ 1 1 [.int .i64 (Mt.jI c k:Int)] rfl rfl (xU _ _ _) (by simp[Value.oneCell']) ?_ ?_ ?_ ?_;rotate_right))
   ·intro v' w3 hown' jL _;have hlo:∀q,va.ownBlock=some q->w2.heap.size<=q:=λq hq=>(World.ownsRow.lt HOW.out q hq).1
    have h3:∀q,q<wr.heap.size->(∀p,va.ownBlock=some p->p≠q)->w3.heap[q]?=wr.heap[q]?:=λq hq hne=>by
     rw[jL.block q (by simp;omega) (λe=>hne q e.symm rfl)];exact kT _ _ _ hq
    have HB3:w3.heap[w.heap.size+1]?=some (.cells #[.slice (some ⟨gc,0,none⟩) c.length cc,.string zK,.slice (some ⟨gi,0,none⟩) c.length ci,va,.slice none 0 0,.int .i64 zD,.int .i64 zA,.int .i64 0,.bool false] 93 (0,0)):=by
     rw[h3 _ zRR (λp hp=>by have:=hlo p hp;omega)];exact HBK.out
    have zPj:=zC HB3;have y1:=zPj.1;have y2:=zPj.2
    have zQA:yO w3 w2.heap.size v' (jU c (k+1)):=by
     unfold yO;rw[zFu,lM,List.map_append];exact hown'
    obtain⟨g4,c4,hv4⟩:∃g4 c4,v'=.slice (some ⟨g4,0,none⟩) (jU c (k+1)).length c4:=by
     rcases zQA.2 with ⟨_,hn⟩ | ⟨g,cap,cur,e,_⟩
     ·rw[zAC]at hn;omega
     ·exact⟨g,cap,e⟩
    rw[zAC]at hv4;subst hv4;generalize hV:(Value.slice (some ⟨g4,0,none⟩) (k+1) c4)=v' at hown' zQA |-;have HB4:Hid ((w3.setCell ⟨w.heap.size+1,3,none⟩ v').heap[w.heap.size+1]?=some (.cells #[.slice (some ⟨gc,0,none⟩) c.length cc,.string zK,.slice (some ⟨gi,0,none⟩) c.length ci,v',.slice none 0 0,.int .i64 zD,.int .i64 zA,.int .i64 0,.bool false] 93 (0,0))):=Go.heap_setCell_same w3 _ 3 _ _ v' HB3
    have zSr:Hid (yO (w3.setCell ⟨w.heap.size+1,3,none⟩ v') w2.heap.size v' (jU c (k+1))) :=
     World.ownsRow.kept zQA (zBD w3 ⟨w.heap.size+1,3,none⟩ v') (Or.inr (λe=>by have:=(World.ownsRow.lt zQA _ e).1;simp at this;omega))
    have hs3:wr.heap.size<=w3.heap.size:=by have:=jL.size;simp at this;omega
    have HS4:Hid (w2.heap.size<=(w3.setCell ⟨w.heap.size+1,3,none⟩ v').heap.size/\(w3.setCell ⟨w.heap.size+1,3,none⟩ v').os=w2.os/\(w3.setCell ⟨w.heap.size+1,3,none⟩ v').tape=w2.tape/\(w3.setCell ⟨w.heap.size+1,3,none⟩ v').output=w2.output/\(∀q,q<w2.heap.size->q≠w.heap.size+1->(w3.setCell ⟨w.heap.size+1,3,none⟩ v').heap[q]?=w2.heap[q]?)):=by
     refine⟨by
          have:(w3.setCell ⟨w.heap.size+1,3,none⟩ v').heap.size=w3.heap.size:=by simp[World.setCell]
          omega,jL.os.trans OS.out.1,jL.tape.trans OS.out.2.1,jL.output.trans OS.out.2.2,λq hq hne=>?_⟩
     rw[Below.heap_setCell _ _ _ _ hne,h3 q (by omega) (λp hp=>by have:=hlo p hp;omega)];exact HOO.out q hq hne
    have hlt3:w.heap.size+1<w3.heap.size:=by omega
    clear hown' jL hlo h3 HB3 zPj zQA HOW HIr HOO OS HBK z1 z2;subst hV;go_wp2_with fail
    go_roundw
    case rel=>exact⟨k+1,_,by omega,by go_num,HB4.out,zSr.out,HS4.out.1,HS4.out.2.1,HS4.out.2.2.1,HS4.out.2.2.2.1,HS4.out.2.2.2.2⟩
    case measure=>simp[intOf];omega
   ·unfold maxLen;have:=HLN.out;omega
   ·have:=HLN.out;omega
   ·simp;omega
  ·have hk2:k=c.length:=by omega
   subst hk2
   obtain⟨ga,ca,hva,zTc,zTd⟩:∃ga ca,va=.slice (some ⟨ga,0,none⟩) c.length ca/\w2.heap.size<=ga/\ga<wr.heap.size:=by
    rcases HOW.out.2 with ⟨_,hn⟩ | ⟨g,cap,cur,rfl,hbs,hg,_⟩
    ·have:=HLN.out;omega
    ·exact⟨g,cap,by rw[HLN.out],hbs,(lI.1 hg).1⟩
   subst hva;go_wp2_with (first|(at_make;refine wpList_make_full _ rfl (.tmp 54) (.tmp 54) 81 rfl wr.heap.size 4 j0 (.bool false) 1 Tryz.underlying81 hj hy0 hy1 .i64 .i64 _ _ (c.length*(zK.size+1)*12) rfl rfl (by simp) (by simp) (by rw[hy2];omega) (by unfold maxLen;omega) (lG _) ?_;intro w3 hmk hgr;have hO3:∀q,q<wr.heap.size->w3.heap[q]?=wr.heap[q]?:=λq hq=>hgr.block q hq (by simp);have HO3:Hid (∀q,q<wr.heap.size->w3.heap[q]?=wr.heap[q]?):=hO3;have HB3:Hid (w3.heap[w.heap.size+1]?=wr.heap[w.heap.size+1]?):=hO3 _ zRR;have zPj:=zC (HB3.out.trans HBK.out);have y1:=zPj.1;have y2:=zPj.2;have hmk':=zB9 hmk;have HMK:Hid (qA w3 wr.heap.size (.slice (some ⟨wr.heap.size,0,none⟩) (c.length*(zK.size+1)*12) (c.length*(zK.size+1)*12)) (List.replicate (c.length*(zK.size+1)*12) false)):=hmk';have hs3:wr.heap.size<=w3.heap.size:=hgr.size;have OG:Hid (w3.os=w2.os/\w3.tape=w2.tape/\w3.output=w2.output):=⟨hgr.os.trans OS.out.1,hgr.tape.trans OS.out.2.1,hgr.output.trans OS.out.2.2⟩;have hlt3:w.heap.size+1<w3.heap.size:=(by omega);clear hmk hmk' hgr hO3 zPj z1 z2) | fail)
   go_returns
   have hne:∀q,q≠w.heap.size+1->q<wr.heap.size->(w3.setCell ⟨w.heap.size+1,4,none⟩ (.slice (some ⟨wr.heap.size,0,none⟩) (c.length*(zK.size+1)*12) (c.length*(zK.size+1)*12))).heap[q]?=wr.heap[q]?:=λq h1 h2=>by
    rw[Below.heap_setCell _ _ _ _ h1];exact HO3.out q h2
   refine⟨w.heap.size+1,gi,ga,wr.heap.size,ci,ca,c.length*(zK.size+1)*12,rfl,⟨?_,?_,?_,?_,?_,HCL.out,HLN.out,by omega⟩,?_,by omega,by omega⟩
   ·rw[List.length_replicate];exact Go.heap_setCell_same w3 _ 4 _ _ _ (HB3.out.trans HBK.out)
   ·exact qY HIr.out (hne gc (by omega) (by omega))
   ·exact qY QI2.out ((hne gi (by omega) (by omega)).trans (HOO.out gi (by omega) (by omega)))
   ·have:=jG HOW.out (Nat.zero_le _);unfold yO;rw[HLN.out]at this |-;exact qY this (hne ga (by omega) (by omega))
   ·have:=jG HMK.out (Nat.zero_le _);unfold qA;rw[List.length_replicate]at this |-;exact qY this (Below.heap_setCell _ _ _ _ (by show wr.heap.size≠w.heap.size+1;omega))
   ·refine⟨OG.out.1.trans hB2.os,OG.out.2.1.trans hB2.tape,OG.out.2.2.trans hB2.output,?_,?_⟩
    ·have:(w3.setCell ⟨w.heap.size+1,4,none⟩ (.slice (some ⟨wr.heap.size,0,none⟩) (c.length*(zK.size+1)*12) (c.length*(zK.size+1)*12))).heap.size=w3.heap.size:=by simp[World.setCell]
     omega
    ·intro q hq;rw[hne q (by omega) (by omega),HOO.out q (by omega) (by omega)];exact hB2.block q hq
theorem zFv(wb gc gi ga gk cc ci ca ck:Nat)(c:List Mt.zTG)(zK:ByteArray)(zTM:List Bool)(ar:List Int)(zA:Int)(hE:zDz c zK ar)(hb0:0<=zA)(zTH:zA<=10000) :
  ∀(N n:Nat),n<=N->(n:Int)<=zA->zEI wb gc gi ga gk cc ci ca ck c zK zTM ar zA n
 | 0,n,h,hn=>zIT wb gc gi ga gk cc ci ca ck c zK zTM ar zA hE hb0 zTH n hn (λm hm=>by omega)
 | N+1,n,h,hn=>zIT wb gc gi ga gk cc ci ca ck c zK zTM ar zA hE hb0 zTH n hn (λm hm=>zFv wb gc gi ga gk cc ci ca ck c zK zTM ar zA hE hb0 zTH N m (by omega) (by omega))
theorem zLy(p:ByteArray)(zK:ByteArray)(h:(Mt.kC p).2=0)(ht:zK.size<=60):zDz (Mt.kC p).1 zK (jU (Mt.kC p).1 (Mt.kC p).1.length)/\0<(Mt.kC p).1.length:=by
 have hk:(Mt.jN p).1=0:=by
  unfold Mt.kC at h;by_cases h0:(Mt.jN p).1=0
  ·exact h0
  ·rw[if_pos h0]at h;exact h
 obtain⟨f,hw,e,hf,hd,hl,hc,_⟩:=Mt.mM p hk;rw[hc];have hlen:(f.re.code 0 0++[(⟨13,0,0,[]⟩:Mt.zTG)]).length=f.re.len+1:=by rw[lM,Mt.Re.zQ];rfl
 have hg:∀q,q<(f.re.code 0 0++[(⟨13,0,0,[]⟩:Mt.zTG)]).length->(jU (f.re.code 0 0++[(⟨13,0,0,[]⟩:Mt.zTG)]) (f.re.code 0 0++[(⟨13,0,0,[]⟩:Mt.zTG)]).length).getD q 0=(Mt.jI (f.re.code 0 0++[(⟨13,0,0,[]⟩:Mt.zTG)]) q:Int):=by
  intro q hq;unfold jU;rw[lH,List.getElem?_map,List.getElem?_range hq];rfl
 refine⟨⟨by omega,ht,Mt.zDF _ hf hd,λq hq=>?_,λq hq=>?_⟩,by omega⟩
 ·rw[hg q hq];have:=Mt.nM (f.re.code 0 0++[(⟨13,0,0,[]⟩:Mt.zTG)]) q;omega
 ·rw[hg q (by omega)];have hq2:q=(f.re.code 0 0).length:=by rw[Mt.Re.zQ];omega
  rw[hq2,Mt.zGP _ _ (by simp)];simp
theorem xM{ops:Array Oper}{rest:List Oper}{op:Oper}{a:Act}{w:World}{Q:Exit->Act->World->Prop}(hgd:op.guard=none)(x:Operand)(ho:op.op=.load 57 x)
  (b:Nat) (hx:a.eval x=.pointer (some ⟨b,0,none⟩)) {t:TypeId} {A:Array Value} (hA:w.heap[b]?=some (.cells A t (0,0))) (hs:A.size=22)
  (h:wpList Tryz.prog ops Q rest (a.put op.dst (.agg A)) w):wpList Tryz.prog ops Q (op::rest) a w :=
 wpList_load_mid hgd _ x ho b 0 hx A.toList _ (yI hA) Tryz.underlying57 rfl (by rw[Tryz.size57];simp[hs]) h
theorem zFw{fn:Func}{p u:Tmp}(hr:fn.results=#[.cell p 57,.tmp u]){tmps:Array Value}{w:World}{b:Nat}{t:TypeId}{A:Array Value}(hp:tmps.getD p undef=.pointer (some ⟨b,0,none⟩))(hA:w.heap[b]?=some (.cells A t (0,0)))(hs:A.size=22) :
  (results fn tmps).run Tryz.prog w=.ok (.tuple #[.agg A,tmps.getD u undef]) w:=by
 rw[results_cell_tmp hr,hp];have:=run_loadVar_mid (P:=Tryz.prog) w b 0 57 A.toList _ (yI hA) Tryz.underlying57 rfl (by rw[Tryz.size57];simp[hs]);simp[asAddr,Result.andThen,this]
theorem zAV(E:Mt.Env)(hc:Mt.codeOk E.c)(hc0:0<E.c.length)(zA:Int):∀(f p n:Nat) (kn:List Bool) (zD:Int),p+f<=E.t.size+1->(0<=zD/\zD<=5000)->(Mt.search E zA f p n kn zD).1.at'.length=20
 | 0,p,n,kn,zD,_,_=>rfl
 | f+1,p,n,kn,zD,hp,hr=>by
  have hg:=Mt.vI E hc n n (Mt.kZ p) kn zD (lG _) (Mt.dL _ _ p hc0 (by omega)) hr;rw[Mt.search];split
  ·rfl
  split
  ·exact Mt.zAc _ _ hg.2.2.2.1
  ·exact zAV E hc hc0 zA f (p+1) _ _ _ (by omega) hg.2.2.1
theorem Keep.toBelow{wb gk:Nat}{a b:World}{N:Nat}(h:Keep wb gk a b)(hN:N<=a.heap.size)(h1:N<=wb)(h2:N<=gk):Below N a b :=
 ⟨h.os,h.tape,h.output,h.size,λi hi=>h.block i (by omega) (by omega) (by omega)⟩
theorem zH8(p zK:ByteArray)(zTE zB zI zD zA:Int)(w:World)(hp:p.size<=maxLen)(ht:zK.size<=maxLen) :
  Calls Tryz.prog 28 #[.string p,.string zK,.int .i64 zTE,.agg #[.int .i64 zB,.int .i64 zI,.int .i64 zD,.int .i64 zA]] w λe w' =>
   e=.returned (.tuple #[fdV (Mt.nR p zK zTE zB zI zD zA).1,.int .i64 (Mt.nR p zK zTE zB zI zD zA).2])/\Below w.heap.size w w':=by
 have KC:Hid (∀z:World,Calls Tryz.prog 19 #[.string p] z λe w'=>∃v,e=.returned (.tuple #[v,.int .i64 (Mt.kC p).2])/\zF w' 0 v (Mt.kC p).1/\Below z.heap.size z w'):=λz=>nO p z hp
 have KM:Hid (∀z:World,Calls Tryz.prog 49 #[.string zK,.int .i64 zTE,.agg #[.int .i64 zB,.int .i64 zI,.int .i64 zD,.int .i64 zA]] z λe w'=>e=.returned (.int .i64 (Mt.xW zK.size zTE zB zI zD zA))/\Below z.heap.size z w'):=λz=>zDI zK zTE zB zI zD zA z ht
 have hcf:=Mt.bN p;have hen:=zLy p zK;unfold Mt.nR;generalize hC:Mt.kC p=C at *
 have hmf:Mt.xW zK.size zTE zB zI zD zA=0->zK.size<=60/\(0<=zTE/\zTE<=zK.size)/\(0<=zI/\zI<=4294967295)/\(0<=zD/\zD<=5000)/\(0<=zA/\zA<=10000):=by
  intro h;unfold Mt.xW at h;split at h
  ·omega
  split at h
  ·rename_i h1 h2
   obtain⟨hs,h3,h4,h5,h6,h7,h8⟩:=h2;unfold Mt.kF at hs;simp only[decide_eq_true_eq]at hs;omega
  ·omega
 generalize hM:Mt.xW zK.size zTE zB zI zD zA=M at *;have hzf:Obj.cells #[Value.bool false,Value.int IntKind.i64 0,Value.int IntKind.i64 0,Value.int IntKind.i64 0,Value.int IntKind.i64 0,Value.int IntKind.i64 0,Value.int IntKind.i64 0,Value.int IntKind.i64 0,Value.int IntKind.i64 0,Value.int IntKind.i64 0,Value.int IntKind.i64 0,Value.int IntKind.i64 0,Value.int IntKind.i64 0,Value.int IntKind.i64 0,Value.int IntKind.i64 0,Value.int IntKind.i64 0,Value.int IntKind.i64 0,Value.int IntKind.i64 0,Value.int IntKind.i64 0,Value.int IntKind.i64 0,Value.int IntKind.i64 0,Value.int IntKind.i64 0] 57=zFd:=rfl;clear hC hM;cases he:(C.2 != 0)
 ·have hc0:C.2=0:=by simpa using he
  rw[if_neg (by simpa using he)];cases hm:(M != 0)
  ·have hm0:M=0:=by simpa using hm
   rw[if_neg (by simpa using hm)];obtain⟨b1,b2,b3,b4,b5⟩:=hmf hm0;obtain⟨hE,hcl⟩:=hen hc0 b1;obtain⟨F,hF⟩:∃F,F=Mt.kP C.1 zK zB zI zD zA zTE.toNat:=⟨_,rfl⟩
   rw[<-hF];have hFl:F.1.at'.length=20:=by rw[hF];exact zAV (Mt.wJ C.1 zK zB zI) hE.ok hcl zA _ _ _ _ _ (by show _<=zK.size+1;omega) b4
   have HF:Hid (F=Mt.kP C.1 zK zB zI zD zA zTE.toNat):=hF;have HFL:Hid (F.1.at'.length=20):=hFl;have HE:Hid (zDz C.1 zK (jU C.1 C.1.length)):=hE;have zQB:Hid (Mt.fit 100000000 C.1/\C.1.length<=300):=hcf;have HB:Hid (0<=zA/\zA<=10000):=b5;have HBR:Hid (0<=zD/\zD<=5000):=b4
   have hSr:∀(wb gc gi ga gk cc ci ca ck:Nat) (z:World),zU z wb gc gi ga gk cc ci ca ck C.1 zK (Mt.jD C.1 zB zI) (jU C.1 C.1.length) zA (List.replicate (C.1.length*(zK.size+1)*12) false) zD 0 false ->
     Calls Tryz.prog 51 #[.pointer (some ⟨wb,0,none⟩),.int .i64 zTE] z λe w'=>e=.returned (fdV F.1)/\Keep wb gk z w'/\∃zTN zX pW,zU w' wb gc gi ga gk cc ci ca ck C.1 zK (Mt.jD C.1 zB zI) (jU C.1 C.1.length) zA zTN zX pW F.2:=by
    intro wb gc gi ga gk cc ci ca ck z hz;have hb:(zA.toNat:Int)=zA:=by omega
    have hfr:((zTE.toNat:Nat):Int)=zTE:=by omega
    have:=zEN wb gc gi ga gk cc ci ca ck C.1 zK (Mt.jD C.1 zB zI) (jU C.1 C.1.length) zA hE hcl b5.1 b5.2 (λn hn=>zFv wb gc gi ga gk cc ci ca ck C.1 zK _ _ zA hE b5.1 b5.2 n n (lG _) hn) z zTE.toNat zA.toNat (List.replicate (C.1.length*(zK.size+1)*12) false) zD (by omega) (by rw[hb,Int.sub_self];exact hz) (by omega) (by simp) b4;rw[hfr]at this;rw[hF];exact this
   have HSr:Hid (∀(wb gc gi ga gk cc ci ca ck:Nat) (z:World),zU z wb gc gi ga gk cc ci ca ck C.1 zK (Mt.jD C.1 zB zI) (jU C.1 C.1.length) zA (List.replicate (C.1.length*(zK.size+1)*12) false) zD 0 false ->
     Calls Tryz.prog 51 #[.pointer (some ⟨wb,0,none⟩),.int .i64 zTE] z λe w'=>e=.returned (fdV F.1)/\Keep wb gk z w'/\∃zTN zX pW,zU w' wb gc gi ga gk cc ci ca ck C.1 zK (Mt.jD C.1 zB zI) (jU C.1 C.1.length) zA zTN zX pW F.2):=hSr
   generalize hR:(if F.2=true then(Mt.vJ,(14:Int))else(F.1,0))=R;have HRT:Hid (F.2=true->R=(Mt.vJ,14)):=λe=>by rw[<-hR,if_pos e]
   have HRF:Hid (F.2=false->R=(F.1,0)):=λe=>by rw[<-hR,if_neg (by simp[e])]
   clear hR;have HBM:Hid (0<=zI/\zI<=4294967295):=b3;have HCL:Hid (0<C.1.length):=hcl;have HT:Hid (zK.size<=60):=b1;clear hF hFl hE hcf hen hmf hSr b1 b2 b3 b4 b5 hcl hc0 hm0;go_enter Tryz.func28,Tryz.ntmps28
   go_wp2_with fail
   refine(KC.out _).mono ?_;rintro e w1 ⟨v1,rfl,q1,zTH⟩;have HO:Hid (w1.heap[w.heap.size]?=some (.cells #[.int .i64 zB,.int .i64 zI,.int .i64 zD,.int .i64 zA] 61 (0,0))):=(zTH.block _ (by simp;omega)).trans (tV _ _ _);have HZ:Hid (w1.heap[w.heap.size+1]?=some zFd):=(zTH.block _ (by simp)).trans (mV _ _ _);have hs1:=zTH.size;have l1:w.heap.size+1<w1.heap.size:=by simp at hs1;omega
   have hB1:Below w.heap.size w w1:=(((Below.refl _ _).alloc (lG _) _).alloc (by simp) _).trans (zTH.mono (by simp;omega));have y1:=(zC HO.out).1;have y10:w1.cell? ⟨w.heap.size,0,none⟩=some (.int .i64 zB):=y1 0;have y11:w1.cell? ⟨w.heap.size,1,none⟩=some (.int .i64 zI):=y1 1;have y12:w1.cell? ⟨w.heap.size,2,none⟩=some (.int .i64 zD):=y1 2;have y13:w1.cell? ⟨w.heap.size,3,none⟩=some (.int .i64 zA):=y1 3;have l2:w.heap.size<w1.heap.size:=by omega
   obtain⟨gc,cc,hv1,lgc⟩:∃gc cc,v1=.slice (some ⟨gc,0,none⟩) C.1.length cc/\gc<w1.heap.size:=by
    rcases xE q1 with ⟨e,_⟩ | ⟨_,g,cap,e,_,hg,_⟩
    ·have:=HCL.out;rw[e]at this;simp at this
    ·exact⟨g,cap,e,hg⟩
   subst hv1;have Q1:Hid (zF w1 0 (.slice (some ⟨gc,0,none⟩) C.1.length cc) C.1):=q1;clear zTH q1 hs1 y1;go_wp2_with fail
   refine(KM.out _).mono ?_;rintro e w2 ⟨rfl,zTK⟩;have hs2:=zTK.size;have HZ2:Hid (w2.heap[w.heap.size+1]?=some zFd):=(zTK.block _ l1).trans HZ.out;have HO2:w2.heap[w.heap.size]?=some (.cells #[.int .i64 zB,.int .i64 zI,.int .i64 zD,.int .i64 zA] 61 (0,0)):=(zTK.block _ l2).trans HO.out;have Q2:Hid (zF w2 0 (.slice (some ⟨gc,0,none⟩) C.1.length cc) C.1):=Q1.out.below zTK;have hB2:Below w.heap.size w w2:=hB1.trans (zTK.mono (by omega));have y1:=(zC HO2).1;have x10:w2.cell? ⟨w.heap.size,0,none⟩=some (.int .i64 zB):=y1 0;have x11:w2.cell? ⟨w.heap.size,1,none⟩=some (.int .i64 zI):=y1 1;have x12:w2.cell? ⟨w.heap.size,2,none⟩=some (.int .i64 zD):=y1 2;have x13:w2.cell? ⟨w.heap.size,3,none⟩=some (.int .i64 zA):=y1 3;have l3:w.heap.size+1<w2.heap.size:=by omega
   have l4:w.heap.size<w2.heap.size:=by omega
   clear HO HZ zTK hB1 y10 y11 y12 y13 Q1 HO2 y1 hs2 l1 l2 lgc;go_wp2_with fail
   refine(zGR C.1 zK zB zI zD zA zA gc cc w2 Q2.out HCL.out zQB.out.2 zQB.out.1 HT.out HBM.out.1 HBM.out.2).mono ?_;rintro e w3 ⟨wb,gi,ga,gk,ci,ca,ck,rfl,hW3,zTL,lwb,lgk⟩;have HZ3:Hid (w3.heap[w.heap.size+1]?=some zFd):=(zTL.block _ l3).trans HZ2.out;have hB3:Below w.heap.size w w3:=hB2.trans (zTL.mono (by omega));have l5:w.heap.size+1<w3.heap.size:=by have:=zTL.size;omega
   have HW3:Hid (zU w3 wb gc gi ga gk cc ci ca ck C.1 zK (Mt.jD C.1 zB zI) (jU C.1 C.1.length) zA (List.replicate (C.1.length*(zK.size+1)*12) false) zD 0 false):=hW3;clear hW3 zTL HZ2 hB2 x10 x11 x12 x13 Q2;go_wp2_with fail
   refine(HSr.out wb gc gi ga gk cc ci ca ck w3 HW3.out).mono ?_;rintro e w4 ⟨rfl,hk4,zTN,zX,pW,hW4⟩;have HZ4:Hid (w4.heap[w.heap.size+1]?=some zFd):=(hk4.blk _ l5 (by omega) (by omega)).trans HZ3.out;have hB4:Below w.heap.size w w4:=hB3.trans (hk4.toBelow (by omega) (by omega) (by omega));have l6:w.heap.size+1<w4.heap.size:=by have:=hk4.size;omega
   have HW4:Hid (zU w4 wb gc gi ga gk cc ci ca ck C.1 zK (Mt.jD C.1 zB zI) (jU C.1 C.1.length) zA zTN zX pW F.2):=hW4;have zSs:wb<w4.heap.size:=hW4.lt.1;clear hk4 hW4 HW3 HZ3 hB3 HSr;unfold fdV;cases hov:F.2 with
   | true =>
    have HRR:Hid (R=_):=HRT.out hov;go_wp2_with (first|(refine qP (by rfl) (.tmp 13) (.tmp 39) (by rfl) w4.heap.size (fdA F.1) (by rfl) (by rfl) (by exact heap_alloc_new _ _) (by rfl) (kE _ HFL.out) (bD _) ?_;intro w5 r1 r2 r3 r4;have B5:Hid (Below w4.heap.size w4 w5):=(((Below.refl _ _).alloc (lG _) _).trans (r4 _ (lG _)));have k8:w5.cell? ⟨wb,8,none⟩=some (.bool F.2):=((zC (HW4.out.below B5.out).cell).1 8);have l7:wb<w5.heap.size:=(by have:=B5.out.size;omega);have V5:Hid (w5.heap[w.heap.size+1]?=some zFd):=((B5.out.block _ l6).trans HZ4.out);clear r1 r2 r3 r4)|(refine qP (by rfl) (.tmp 8) (.tmp 44) (by rfl) (w.heap.size+1) (fdA Mt.vJ) (by rfl) (by rfl) (by exact V5.out) (by rfl) (by rfl) (bD _) ?_;intro w6 r1 r2 r3 r4) | fail)
    refine bodyPost_ret (zFw rfl (by rfl) r1 (by rfl)) rfl ⟨?_,(hB4.trans (B5.out.mono (by omega))).trans (r4 _ (by omega))⟩;rw[HRR.out];rfl
   | false =>
    have HRR:Hid (R=_):=HRF.out hov;go_wp2_with (first|(refine qP (by rfl) (.tmp 13) (.tmp 39) (by rfl) w4.heap.size (fdA F.1) (by rfl) (by rfl) (by exact heap_alloc_new _ _) (by rfl) (kE _ HFL.out) (bD _) ?_;intro w5 r1 r2 r3 r4;have B5:Hid (Below w4.heap.size w4 w5):=(((Below.refl _ _).alloc (lG _) _).trans (r4 _ (lG _)));have k8:w5.cell? ⟨wb,8,none⟩=some (.bool F.2):=((zC (HW4.out.below B5.out).cell).1 8);have l7:wb<w5.heap.size:=(by have:=B5.out.size;omega);have V5:Hid (w5.heap[w.heap.size+1]?=some zFd):=((B5.out.block _ l6).trans HZ4.out);have V6:Hid (w5.heap[w4.heap.size]?=some (.cells (fdA F.1) 57 (0,0))):=(r1);clear r1 r2 r3 r4)|(refine xM (by rfl) (.tmp 13) (by rfl) w4.heap.size (by rfl) (by exact V6.out) (kE _ HFL.out) ?_)|(refine qP (by rfl) (.tmp 8) (.tmp 45) (by rfl) (w.heap.size+1) (fdA F.1) (by rfl) (by rfl) (by exact V5.out) (by rfl) (kE _ HFL.out) (bD _) ?_;intro w6 r1 r2 r3 r4) | fail)
    refine bodyPost_ret (zFw rfl (by rfl) r1 (kE _ HFL.out)) rfl ⟨?_,(hB4.trans (B5.out.mono (by omega))).trans (r4 _ (by omega))⟩;rw[HRR.out];rfl
  ·rw[if_pos (by simpa using hm)];clear hcf hen hmf;go_enter Tryz.func28,Tryz.ntmps28
   go_wp2_with fail
   refine(KC.out _).mono ?_;rintro e w1 ⟨v1,rfl,q1,zTH⟩;have HO:Hid (w1.heap[w.heap.size]?=some (.cells #[.int .i64 zB,.int .i64 zI,.int .i64 zD,.int .i64 zA] 61 (0,0))):=(zTH.block _ (by simp;omega)).trans (tV _ _ _);have HZ:Hid (w1.heap[w.heap.size+1]?=some zFd):=(zTH.block _ (by simp)).trans (mV _ _ _);have hs1:=zTH.size;have l1:w.heap.size+1<w1.heap.size:=by simp at hs1;omega
   have hB1:Below w.heap.size w w1:=(((Below.refl _ _).alloc (lG _) _).alloc (by simp) _).trans (zTH.mono (by simp;omega));have y1:=(zC HO.out).1;have y10:w1.cell? ⟨w.heap.size,0,none⟩=some (.int .i64 zB):=y1 0;have y11:w1.cell? ⟨w.heap.size,1,none⟩=some (.int .i64 zI):=y1 1;have y12:w1.cell? ⟨w.heap.size,2,none⟩=some (.int .i64 zD):=y1 2;have y13:w1.cell? ⟨w.heap.size,3,none⟩=some (.int .i64 zA):=y1 3;have l2:w.heap.size<w1.heap.size:=by omega
   clear zTH q1 hs1 y1;go_wp2_with fail
   refine(KM.out _).mono ?_;rintro e w2 ⟨rfl,zTK⟩;have HZ2:Hid (w2.heap[w.heap.size+1]?=some zFd):=(zTK.block _ l1).trans HZ.out;have hB2:Below w.heap.size w w2:=hB1.trans (zTK.mono (by omega));clear HO HZ zTK hB1 y10 y11 y12 y13;go_wp2_with (first|(refine qP (by rfl) (.tmp 8) (.tmp 29) (by rfl) (w.heap.size+1) (fdA Mt.vJ) (by rfl) (by rfl) (by exact HZ2.out) (by rfl) (by rfl) (bD _) ?_;intro w5 r1 r2 r3 r4) | fail)
   refine bodyPost_ret (zFw rfl (by rfl) r1 (by rfl)) rfl ⟨?_,hB2.trans (r4 _ (by omega))⟩;rfl
 ·rw[if_pos (by simpa using he)];clear hcf hen hmf;go_enter Tryz.func28,Tryz.ntmps28
  go_wp2_with fail
  refine(KC.out _).mono ?_;rintro e w1 ⟨v1,rfl,q1,zTH⟩;have HZ:Hid (w1.heap[w.heap.size+1]?=some zFd):=(zTH.block _ (by simp)).trans (mV _ _ _);have hB1:Below w.heap.size w w1:=(((Below.refl _ _).alloc (lG _) _).alloc (by simp) _).trans (zTH.mono (by simp;omega));clear zTH q1;go_wp2_with (first|(refine qP (by rfl) (.tmp 8) (.tmp 21) (by rfl) (w.heap.size+1) (fdA Mt.vJ) (by rfl) (by rfl) (by exact HZ.out) (by rfl) (by rfl) (bD _) ?_;intro w5 r1 r2 r3 r4) | fail)
  refine bodyPost_ret (zFw rfl (by rfl) r1 (by rfl)) rfl ⟨?_,hB1.trans (r4 _ (by omega))⟩;rfl
