import Derived.Test.YtebpgfodelggoaaGreatC15
import Derived.Test.YtebpgfodelggoaaGreatC17
import Derived.Test.YtebpgfodelggoaaGreatC12
set_option linter.unusedVariables false
set_option linter.unusedSimpArgs false
set_option maxRecDepth 100000
set_option maxHeartbeats 3000000
namespace Go.Proofs.YtebpgfodelggoaaGreat
open Go.RowKit
theorem Tryz.size57:(Tryz.prog.info? 29).map (·.size)=some 22:=by kernel_rfl
theorem yD {ops:Array Oper} {rest:List Oper} {op:Oper} {a:Act} {w:World} {Q:Exit→Act→World→Prop} (hgd:op.guard=none) (x y:Operand) (ho:op.op=.store 29 x y)
  (b:Nat) (cs:Array Value) (hx:a.eval x=.pointer (some ⟨b,0,none⟩)) (hy:a.eval y=.agg cs) {t:TypeId} {B:Array Value} (hB:w.heap[b]?=some (.cells B t (0,0))) (hs:B.size=22) (hc:cs.size=22) (h1:cs.all (·.oneCell')=true)
  (h:∀ w2:World,w2.heap[b]?=some (.cells cs t (0,0))→(∀ k,k≠b→w2.heap[k]?=w.heap[k]?)→w2.heap.size=w.heap.size→(∀ L,L≤b→Below L w w2)→wpList Tryz.prog ops Q rest (a.put op.dst undef) w2):wpList Tryz.prog ops Q (op::rest) a w:=by
 have hb:=zA hB
 refine wpList_store_mid hgd _ x y ho b 0 cs hx hy (jN hb.1 hb.2 _ (by omega)) (by rw [Tryz.size57,hc]) h1 ?_
 exact h _ (qI hB cs (by omega)) (fun k hk=>kZ b _ 0 w k hk) (below_setCells b _ 0 w 0 (Nat.zero_le _)).2 (fun L hL=>(below_setCells b _ 0 w L hL).1)
theorem zMF {fn:Func} {p:Tmp} (hr:fn.results=#[.cell p 29]) {tmps:Array Value} {w:World} {b:Nat} {t:TypeId} {A:Array Value} (hp:tmps.getD p undef=.pointer (some ⟨b,0,none⟩)) (hA:w.heap[b]?=some (.cells A t (0,0))) (hs:A.size=22) :
  (results fn tmps).run Tryz.prog w=.ok (.agg A) w:=by
 rw [zEi hr,hp]
 have:=run_loadVar_mid (P:=Tryz.prog) w b 0 29 A.toList _ (qY hA) Tryz.underlying29 rfl (by rw [Tryz.size57];simp [hs])
 simp [asAddr,Result.andThen,this]
def zRy:Value:=.agg #[.int .i64 (-1),.int .i64 (-1),.int .i64 (-1),.int .i64 (-1),.int .i64 (-1),.int .i64 (-1),.int .i64 (-1),.int .i64 (-1),.int .i64 (-1),.int .i64 (-1),.int .i64 (-1),.int .i64 (-1),.int .i64 (-1),.int .i64 (-1),.int .i64 (-1),.int .i64 (-1),.int .i64 (-1),.int .i64 (-1),.int .i64 (-1),.int .i64 (-1)]
theorem zJl (w:World):Calls Tryz.prog 25 #[] w fun e w'=>e=.returned zRy∧Below w.heap.size w w':=zE7 w
theorem zBd (f:Mt.Fnd):(fdA f).all (·.oneCell')=true:=by
 unfold fdA
 rw [List.all_toArray]
 simp [Value.oneCell']
theorem zK9 (w:World):Calls Tryz.prog 25 #[] w fun e w'=>e=.returned (.agg (Mt.nowhere.map (Value.int .i64)).toArray)∧Below w.heap.size w w':=zE7 w
theorem found_eq (p:Int) (r:List Int) (h:r.length=44):Mt.foundAt p r=(((r.set 2 p).set 3 (Mt.gt r 1)).drop 2).take 20:=by
 match r,h with
 | a0::a1::a2::a3::t,h=>simp [Mt.foundAt,Mt.gt]
def zFd:Obj:=.cells (fdA Mt.yV) 29 (0,0)
def zSp (w:World) (wb gc gi ga gk cc ci ca ck:Nat) (c:List Mt.Ins) (text:ByteArray) (inn:List Bool) (ar:List Int) (budget:Int) (F:Mt.Fnd × Bool) (i:Value) (wr:World):Prop :=
 ∃ (p n1:Nat) (kn1:List Bool) (jX:Int),i=.int .i64 p∧p≤text.size+1∧zM wr wb gc gi ga gk cc ci ca ck c text inn ar budget kn1 jX (budget-(n1:Int)) false∧wr.heap[w.heap.size]?=some zFd∧Keep wb gk w wr
  ∧ kn1.length=c.length*(text.size+1)*12∧(0≤jX∧jX≤5000)∧(n1:Int)≤budget∧F=Mt.search ⟨c,text,inn,ar⟩ budget (text.size+1-p) p n1 kn1 jX
theorem zLa (wb gc gi ga gk cc ci ca ck:Nat) (c:List Mt.Ins) (text:ByteArray) (inn:List Bool) (ar:List Int) (budget:Int) (hE:zFW c text ar) (hc0:0<c.length) (hb0:0≤budget) (hb1:budget≤10000)
  (HL:∀ n:Nat,(n:Int)≤budget→zGh wb gc gi ga gk cc ci ca ck c text inn ar budget n) (w:World) (frm n:Nat) (kn:List Bool) (room:Int) (hf:frm≤text.size)
  (h:zM w wb gc gi ga gk cc ci ca ck c text inn ar budget kn room (budget-(n:Int)) false) (hn:(n:Int)≤budget) (hkn:kn.length=c.length*(text.size+1)*12) (hr:0≤room∧room≤5000) :
  Calls Tryz.prog 22 #[.pointer (some ⟨wb,0,none⟩),.int .i64 frm] w fun e w' =>
   e=.returned (fdV (Mt.search ⟨c,text,inn,ar⟩ budget (text.size+1-frm) frm n kn room).1)∧Keep wb gk w w'∧∃ kn' room' used',zM w' wb gc gi ga gk cc ci ca ck c text inn ar budget kn' room' used' (Mt.search ⟨c,text,inn,ar⟩ budget (text.size+1-frm) frm n kn room).2:=by
 have HE:Hid (zFW c text ar):=hE
 have HLL:Hid (∀ n:Nat,(n:Int)≤budget→zGh wb gc gi ga gk cc ci ca ck c text inn ar budget n):=HL
 have hlt:=h.lt
 have HLT:Hid (wb<w.heap.size∧gc<w.heap.size∧gi<w.heap.size∧ga<w.heap.size∧gk<w.heap.size):=hlt
 have lwb:wb<w.heap.size:=hlt.1
 have lgk:gk<w.heap.size:=hlt.2.2.2.2
 have HW:Hid (zM w wb gc gi ga gk cc ci ca ck c text inn ar budget kn room (budget-(n:Int)) false):=h
 have HS:Hid (kn.length=c.length*(text.size+1)*12∧(0≤room∧room≤5000)∧(n:Int)≤budget∧frm≤text.size+1):=⟨hkn,hr,hn,by omega⟩
 obtain ⟨F,hF⟩:∃ F,F=Mt.search ⟨c,text,inn,ar⟩ budget (text.size+1-frm) frm n kn room:=⟨_,rfl⟩
 rw [← hF]
 have HF:Hid (F=Mt.search ⟨c,text,inn,ar⟩ budget (text.size+1-frm) frm n kn room):=hF
 have zT1:Obj.cells #[Value.int IntKind.i64 0,Value.int IntKind.i64 0,Value.int IntKind.i64 0,Value.int IntKind.i64 0,Value.int IntKind.i64 0,Value.int IntKind.i64 0,Value.int IntKind.i64 0,Value.int IntKind.i64 0,Value.int IntKind.i64 0,Value.int IntKind.i64 0,Value.int IntKind.i64 0,Value.int IntKind.i64 0,Value.int IntKind.i64 0,Value.int IntKind.i64 0,Value.int IntKind.i64 0,Value.int IntKind.i64 0,Value.int IntKind.i64 0,Value.int IntKind.i64 0,Value.int IntKind.i64 0,Value.int IntKind.i64 0,Value.int IntKind.i64 0,Value.int IntKind.i64 0,Value.int IntKind.i64 0,Value.int IntKind.i64 0,Value.int IntKind.i64 0,Value.int IntKind.i64 0,Value.int IntKind.i64 0,Value.int IntKind.i64 0,Value.int IntKind.i64 0,Value.int IntKind.i64 0,Value.int IntKind.i64 0,Value.int IntKind.i64 0,Value.int IntKind.i64 0,Value.int IntKind.i64 0,Value.int IntKind.i64 0,Value.int IntKind.i64 0,Value.int IntKind.i64 0,Value.int IntKind.i64 0,Value.int IntKind.i64 0,Value.int IntKind.i64 0,Value.int IntKind.i64 0,Value.int IntKind.i64 0,Value.int IntKind.i64 0,Value.int IntKind.i64 0] 93=zCZ:=rfl
 have ht:=hE.t
 clear h hkn hr hn hlt hE HL hF
 go_enter Tryz.func22,Tryz.ntmps22
 go_wp2_with fail
 go_loopw [5] (fun i wr=>zSp w wb gc gi ga gk cc ci ca ck c text inn ar budget F i wr) (fun i _=>text.size+1-(intOf i).toNat)
 case atStart =>
  have hB:Below w.heap.size w (w.alloc zFd):=(Below.refl _ _).alloc (Nat.le_refl _) _
  exact ⟨frm,n,kn,room,rfl,HS.out.2.2.2,HW.out.below hB,heap_alloc_new _ _,Keep.below hB,HS.out.1,HS.out.2.1,HS.out.2.2.1,HF.out⟩
 case round =>
  clear HF HS HW
  obtain ⟨p,n1,kn1,jX,rfl,hp,hW,hq0,hK,hkn,hrm,hn1,hF⟩:=hrel
  have HW:Hid (zM wr wb gc gi ga gk cc ci ca ck c text inn ar budget kn1 jX (budget-(n1:Int)) false):=hW
  have HQ:Hid (wr.heap[w.heap.size]?=some zFd):=hq0
  have HK:Hid (Keep wb gk w wr):=hK
  have HG:Hid (kn1.length=c.length*(text.size+1)*12∧(0≤jX∧jX≤5000)∧(n1:Int)≤budget):=⟨hkn,hrm,hn1⟩
  have HF:Hid (F=Mt.search ⟨c,text,inn,ar⟩ budget (text.size+1-p) p n1 kn1 jX):=hF
  have hcb:=zA hW.cell
  have c1:wr.cell? ⟨wb,1,none⟩=some (.string text):=hcb.1 1
  have c7:wr.cell? ⟨wb,7,none⟩=some (.int .i64 (budget-(n1:Int))):=hcb.1 7
  have hsz:w.heap.size<wr.heap.size:=(Array.getElem?_eq_some_iff.1 hq0).1
  have lw2:wb<wr.heap.size:=by omega
  clear hcb hW hq0 hK hkn hrm hF
  obtain ⟨U,hU⟩:∃ U:Int,U=budget-(n1:Int):=⟨_,rfl⟩
  rw [← hU] at HW c7
  have HU:Hid (U=budget-(n1:Int)):=hU
  clear hU
  by_cases hpT:p≤text.size
  ·have hIH:=HLL.out n1 HG.out.2.2
   have hg1:=Mt.zBo c.length text.size p hc0 hpT
   have hrg:=Mt.vP ⟨c,text,inn,ar⟩ HE.out.ok n1 n1 (Mt.kJ p) kn1 jX (Nat.le_refl _) hg1 HG.out.2.1
   have hrn:=Mt.zCm ⟨c,text,inn,ar⟩ n1 (Mt.kJ p) kn1 jX
   have hKL:∀ z:World,zM z wb gc gi ga gk cc ci ca ck c text inn ar budget kn1 jX U false→Calls Tryz.prog 47 #[.pointer (some ⟨wb,0,none⟩),stV (Mt.kJ p)] z fun e w'=>e=.returned (.tuple #[stV (Mt.look ⟨c,text,inn,ar⟩ n1 (Mt.kJ p) kn1 jX).st,.bool (Mt.look ⟨c,text,inn,ar⟩ n1 (Mt.kJ p) kn1 jX).ok])∧Keep wb gk z w'∧zM w' wb gc gi ga gk cc ci ca ck c text inn ar budget (Mt.look ⟨c,text,inn,ar⟩ n1 (Mt.kJ p) kn1 jX).kn (Mt.look ⟨c,text,inn,ar⟩ n1 (Mt.kJ p) kn1 jX).room (budget-((Mt.look ⟨c,text,inn,ar⟩ n1 (Mt.kJ p) kn1 jX).n:Int)) (Mt.look ⟨c,text,inn,ar⟩ n1 (Mt.kJ p) kn1 jX).over:=fun z hz=>hIH z (Mt.kJ p) kn1 jX (by rw [← HU.out];exact hz) hg1 HG.out.1 HG.out.2.1
   have hFF:=HF.out
   rw [show text.size+1-p=(text.size-p)+1 by omega,Mt.search] at hFF
   generalize Mt.look ⟨c,text,inn,ar⟩ n1 (Mt.kJ p) kn1 jX=r at *
   have HKL:Hid (∀ z:World,zM z wb gc gi ga gk cc ci ca ck c text inn ar budget kn1 jX U false→Calls Tryz.prog 47 #[.pointer (some ⟨wb,0,none⟩),stV (Mt.kJ p)] z fun e w'=>e=.returned (.tuple #[stV r.st,.bool r.ok])∧Keep wb gk z w'∧zM w' wb gc gi ga gk cc ci ca ck c text inn ar budget r.kn r.room (budget-(r.n:Int)) r.over):=hKL
   have HRL:Hid (r.st.length=44):=hrg.2.2.2.1
   have HRG:Hid (r.kn.length=c.length*(text.size+1)*12∧(0≤r.room∧r.room≤5000)∧(r.n:Int)≤budget):=⟨hrg.2.1.trans HG.out.1,hrg.2.2.1,by have:=HG.out.2.2;omega⟩
   have HFF:Hid (F=_):=hFF
   clear hIH hg1 hrg hKL hFF HF
   go_wp2_with fail
   refine (zJl wr).mono ?_
   rintro e w1 ⟨rfl,hb1⟩
   have hs1:=hb1.size
   have HW1:Hid (zM w1 wb gc gi ga gk cc ci ca ck c text inn ar budget kn1 jX U false):=HW.out.below hb1
   have HQ1:Hid (w1.heap[w.heap.size]?=some zFd):=(hb1.block _ (by omega)).trans HQ.out
   have HK1:Hid (Keep wb gk w w1):=HK.out.trans (Keep.below hb1)
   have l1:w.heap.size<w1.heap.size:=by omega
   clear HW HQ HK hb1 c1 c7 lw2 hsz hs1
   unfold zRy
   go_wp2_with (first | (refine zF (by rfl) (.tmp 6) (.tmp 21) (by rfl) w1.heap.size ((Mt.kJ (p:Int)).map (Value.int .i64)).toArray (by rfl) (by rfl) (by exact heap_alloc_new _ _) (by rfl) (by simp [Mt.zBY]) (jC _) ?_;intro w2 r1 r2 r3 r4;have B2:Hid (Below w1.heap.size w1 w2):=(((Below.refl _ _).alloc (Nat.le_refl _) _).trans (r4 _ (Nat.le_refl _)));have V2:Hid (w2.heap[w1.heap.size]?=some (.cells ((Mt.kJ (p:Int)).map (Value.int .i64)).toArray 93 (0,0))):=(r1);have s2:w2.heap.size=w1.heap.size+1:=(by simpa using r3);clear r1 r2 r3 r4) | (refine zG (by rfl) (.tmp 6) (by rfl) w1.heap.size (by rfl) (by exact V2.out) (by simp [Mt.zBY]) ?_) | fail)
   refine (HKL.out w2 (HW1.out.below B2.out)).mono ?_
   rintro e w3 ⟨rfl,hk3,hw3⟩
   have hs3:=hk3.size
   have HW3:Hid (zM w3 wb gc gi ga gk cc ci ca ck c text inn ar budget r.kn r.room (budget-(r.n:Int)) r.over):=hw3
   have HQ3:Hid (w3.heap[w.heap.size]?=some zFd):=((hk3.blk _ (by omega) (by omega) (by omega)).trans (B2.out.block _ (by omega))).trans HQ1.out
   have HK3:Hid (Keep wb gk w w3):=(HK1.out.trans (Keep.below B2.out)).trans hk3
   have l3:w.heap.size<w3.heap.size:=by omega
   clear hk3 hw3 HKL HW1 HQ1 HK1 V2 B2 s2 hs3 l1
   have hcs:(r.over=true)∨(r.over=false∧r.ok=true)∨(r.over=false∧r.ok=false):=by cases r.ok <;> cases r.over <;> simp
   rcases hcs with ov | ⟨ov,ok⟩ | ⟨ov,ok⟩
   ·have HFH:Hid (F=(Mt.yV,true)):=by show _=_;rw [HFF.out,ov];rfl
    have HOV:Hid (r.over=true):=ov
    clear HFF
    go_wp2_with (first | (refine zF (by rfl) (.tmp 7) (.tmp 26) (by rfl) w3.heap.size (r.st.map (Value.int .i64)).toArray (by rfl) (by rfl) (by exact heap_alloc_new _ _) (by rfl) (by simp [HRL.out]) (jC _) ?_;intro w4 r1 r2 r3 r4;have B4:Hid (Below w3.heap.size w3 w4):=(((Below.refl _ _).alloc (Nat.le_refl _) _).trans (r4 _ (Nat.le_refl _)));have V4:Hid (w4.heap[w3.heap.size]?=some (.cells (r.st.map (Value.int .i64)).toArray 93 (0,0))):=(r1);have V5:Hid (w4.heap[w.heap.size]?=some zFd):=((B4.out.block _ l3).trans HQ3.out);have k8:w4.cell? ⟨wb,8,none⟩=some (.bool r.over):=((zA (HW3.out.below B4.out).cell).1 8);have k7:w4.cell? ⟨wb,7,none⟩=some (.int .i64 (budget-(r.n:Int))):=((zA (HW3.out.below B4.out).cell).1 7);have s4:w4.heap.size=w3.heap.size+1:=(by simpa using r3);have l41:wb<w4.heap.size:=(by omega);have l42:w3.heap.size<w4.heap.size:=(by omega);have S4:Hid (w4.heap.size=w3.heap.size+1):=(s4);clear r1 r2 r3 r4 s4) | (refine yD (by rfl) (.tmp 4) (.tmp 32) (by rfl) w.heap.size (fdA Mt.yV) (by rfl) (by rfl) (by exact V5.out) (by rfl) (by rfl) (zBd _) ?_;intro w5 r1 r2 r3 r4) | fail)
    refine bodyPost_ret (zMF rfl (by rfl) r1 (by rfl)) rfl ⟨?_,Keep.whole (HK3.out.trans (Keep.below B4.out)) r2 r3 (r4 _ (Nat.le_refl _)),?_⟩
    ·rw [HFH.out];rfl
    ·rw [HFH.out]
     have hx:=HLT.out
     have:=(HW3.out.below B4.out).mem (r2 _ (by omega)) (r2 _ (by omega)) (r2 _ (by omega)) (r2 _ (by omega)) (r2 _ (by omega))
     rw [HOV.out] at this
     exact ⟨_,_,_,this⟩
   ·have HFH:Hid (F=(⟨true,Mt.foundAt p r.st,budget-r.n⟩,false)):=by show _=_;rw [HFF.out,ov,ok];rfl
    have HOV:Hid (r.over=false):=ov
    clear HFF
    go_wp2_with (first | (refine zF (by rfl) (.tmp 7) (.tmp 26) (by rfl) w3.heap.size (r.st.map (Value.int .i64)).toArray (by rfl) (by rfl) (by exact heap_alloc_new _ _) (by rfl) (by simp [HRL.out]) (jC _) ?_;intro w4 r1 r2 r3 r4;have B4:Hid (Below w3.heap.size w3 w4):=(((Below.refl _ _).alloc (Nat.le_refl _) _).trans (r4 _ (Nat.le_refl _)));have V4:Hid (w4.heap[w3.heap.size]?=some (.cells (r.st.map (Value.int .i64)).toArray 93 (0,0))):=(r1);have V5:Hid (w4.heap[w.heap.size]?=some zFd):=((B4.out.block _ l3).trans HQ3.out);have k8:w4.cell? ⟨wb,8,none⟩=some (.bool r.over):=((zA (HW3.out.below B4.out).cell).1 8);have k7:w4.cell? ⟨wb,7,none⟩=some (.int .i64 (budget-(r.n:Int))):=((zA (HW3.out.below B4.out).cell).1 7);have s4:w4.heap.size=w3.heap.size+1:=(by simpa using r3);have l41:wb<w4.heap.size:=(by omega);have l42:w3.heap.size<w4.heap.size:=(by omega);have e1:=(vK V4.out 1 _ (zC8 HRL.out 1 (by omega)));have e2:=(vK V4.out 2 _ (zC8 HRL.out 2 (by omega)));have e3:=(vK V4.out 3 _ (zC8 HRL.out 3 (by omega)));have f2:=(vS V4.out 2);have f3:=(vS V4.out 3);have S4:Hid (w4.heap.size=w3.heap.size+1):=(s4);clear r1 r2 r3 r4 s4) | fail)
    have V6:((w4.setCell ⟨w3.heap.size,2,none⟩ (.int .i64 (p:Int))).setCell ⟨w3.heap.size,3,none⟩ (.int .i64 (Mt.gt r.st 1))).heap[w3.heap.size]?=some (.cells (((r.st.set 2 (p:Int)).set 3 (Mt.gt r.st 1)).map (Value.int .i64)).toArray 93 (0,0)):=qJ (qJ V4.out 2 _) 3 _
    have B6:Below w3.heap.size w3 ((w4.setCell ⟨w3.heap.size,2,none⟩ (.int .i64 (p:Int))).setCell ⟨w3.heap.size,3,none⟩ (.int .i64 (Mt.gt r.st 1))):=(B4.out.setCell (p:=⟨w3.heap.size,2,none⟩) (Nat.le_refl _) _).setCell (p:=⟨w3.heap.size,3,none⟩) (Nat.le_refl _) _
    generalize (w4.setCell ⟨w3.heap.size,2,none⟩ (.int .i64 (p:Int))).setCell ⟨w3.heap.size,3,none⟩ (.int .i64 (Mt.gt r.st 1))=w5 at *
    obtain ⟨S,hS⟩:∃ S,S=(r.st.set 2 (p:Int)).set 3 (Mt.gt r.st 1):=⟨_,rfl⟩
    rw [← hS] at V6
    have HSS:Hid (S=(r.st.set 2 (p:Int)).set 3 (Mt.gt r.st 1)):=hS
    have SL:Hid (S.length=44):=by show _=_;rw [hS];simp [HRL.out]
    clear hS e1 e2 e3 f2 f3 k7 k8 l41 l42 V5
    have k7:w5.cell? ⟨wb,7,none⟩=some (.int .i64 (budget-(r.n:Int))):=(zA (HW3.out.below B6).cell).1 7
    have V5:w5.heap[w.heap.size]?=some zFd:=(B6.block _ l3).trans HQ3.out
    have l51:w3.heap.size<w5.heap.size:=(Array.getElem?_eq_some_iff.1 V6).1
    have l52:wb<w5.heap.size:=by omega
    have l53:w.heap.size<w5.heap.size:=by omega
    have hra:w5.rangeAt w3.heap.size 2 (((S.drop 2).take 20).map (Value.int .i64)):=zOE V6 SL.out
    have HB6:Hid (Below w3.heap.size w3 w5):=B6
    have HV5:Hid (w5.heap[w.heap.size]?=some zFd):=V5
    clear V6 B6 V4 B4 S4 V5
    obtain ⟨U2,hU2⟩:∃ U2:Int,U2=budget-(r.n:Int):=⟨_,rfl⟩
    rw [← hU2] at k7
    have HU2:Hid (U2=budget-(r.n:Int)):=hU2
    clear hU2
    have zEv:∀ z:World,(∀ k,k≠w.heap.size→z.heap[k]?=w5.heap[k]?)→z.cell? ⟨wb,7,none⟩=some (.int .i64 U2):=fun z hz=>(zJk ⟨wb,7,none⟩ (hz wb (by omega))).trans k7
    have zRz:∀ z:World,(∀ k,k≠w.heap.size→z.heap[k]?=w5.heap[k]?)→z.rangeAt w3.heap.size 2 (((S.drop 2).take 20).map (Value.int .i64)):=fun z hz j v hv=>(zJk ⟨w3.heap.size,2+j,none⟩ (hz w3.heap.size (by omega))).trans (hra j v hv)
    have zRb:((S.drop 2).take 20).length=20:=by simp [SL.out]
    refine wp_region_held_drew (S:=fun z:World=>∀ k,k≠w.heap.size→z.heap[k]?=w5.heap[k]?) (by kernel_rfl) (fun _ _=>rfl) (fun hHeld=>?_)
    refine take_at 0 41 (.pointer (some ⟨w3.heap.size,2,none⟩)) rfl rfl (by kernel_rfl) (by kernel_rfl) (by kernel_rfl) (fun _ _ _ h=>h) (Or.inl ⟨by rfl,fun z hz=>by have hz7:=zEv z hz;clear hz hHeld;go_simp⟩) (by assumption) ?_
    simp only [Act.put,List.setIfInBounds_toArray,List.set_cons_zero,List.set_cons_succ]
    refine take_at 1 42 (.agg (((S.drop 2).take 20).map (Value.int .i64)).toArray) rfl rfl (by kernel_rfl) (by kernel_rfl) (by kernel_rfl) (fun _ _ _ h=>h) (yieldsIf_load_mid (by rfl) _ _ rfl _ _ rfl _ _ zRz Tryz.underlying27 rfl (by rw [Tryz.size55,List.length_map,zRb])) (by assumption) ?_
    simp only [Act.put,List.setIfInBounds_toArray,List.set_cons_zero,List.set_cons_succ]
    refine take_at 2 43 (.pointer (some ⟨wb,0,none⟩)) rfl rfl (by kernel_rfl) (by kernel_rfl) (by kernel_rfl) (fun _ _ _ h=>h) (Or.inl ⟨by rfl,fun z hz=>by have hz7:=zEv z hz;clear hz hHeld;go_simp⟩) (by assumption) ?_
    simp only [Act.put,List.setIfInBounds_toArray,List.set_cons_zero,List.set_cons_succ]
    refine take_at 3 44 (.pointer (some ⟨wb,0,none⟩)) rfl rfl (by kernel_rfl) (by kernel_rfl) (by kernel_rfl) (fun _ _ _ h=>h) (Or.inl ⟨by rfl,fun z hz=>by have hz7:=zEv z hz;clear hz hHeld;go_simp⟩) (by assumption) ?_
    simp only [Act.put,List.setIfInBounds_toArray,List.set_cons_zero,List.set_cons_succ]
    refine take_at 4 45 (.pointer (some ⟨wb,7,none⟩)) rfl rfl (by kernel_rfl) (by kernel_rfl) (by kernel_rfl) (fun _ _ _ h=>h) (Or.inl ⟨by rfl,fun z hz=>by have hz7:=zEv z hz;clear hz hHeld;go_simp⟩) (by assumption) ?_
    simp only [Act.put,List.setIfInBounds_toArray,List.set_cons_zero,List.set_cons_succ]
    refine take_at 5 46 (.int .i64 U2) rfl rfl (by kernel_rfl) (by kernel_rfl) (by kernel_rfl) (fun _ _ _ h=>h) (Or.inl ⟨by rfl,fun z hz=>by have hz7:=zEv z hz;clear hz hHeld;go_simp⟩) (by assumption) ?_
    simp only [Act.put,List.setIfInBounds_toArray,List.set_cons_zero,List.set_cons_succ]
    refine take_at 6 47 (fdV ⟨true,(S.drop 2).take 20,U2⟩) rfl rfl (by kernel_rfl) (by kernel_rfl) (by kernel_rfl) (fun _ _ _ h=>h) (Or.inl ⟨by rfl,fun z hz=>by refine zIa (t:=29) (parts:=#[(0,.const (.bool true)),(1,.tmp 42),(2,.tmp 46)]) rfl ?_;simp only [List.map_toArray,List.map_cons,List.map_nil];exact zOD _ zRb true U2 z⟩) (by assumption) ?_
    simp only [Act.put,List.setIfInBounds_toArray,List.set_cons_zero,List.set_cons_succ]
    have q60:w5.drew.heap[w.heap.size]?=some (.cells (fdA Mt.yV) 29 (0,0)):=HV5.out
    refine zBG 7 _ rfl rfl (by kernel_rfl) (by kernel_rfl) _ _ _ rfl w.heap.size 0 (fdA ⟨true,(S.drop 2).take 20,U2⟩) (by kernel_rfl) (by kernel_rfl) (jN (zA q60).1 (zA q60).2 _ (by rw [zV _ zRb,zV Mt.yV rfl];exact Nat.le_refl _)) (by rw [Tryz.size57,zV _ zRb]) (zBd _) rfl ?_
    have r1:=qI q60 (fdA ⟨true,(S.drop 2).take 20,U2⟩) (by rw [zV _ zRb,zV Mt.yV rfl])
    have r2:∀ k,k≠w.heap.size→(w5.drew.setCells w.heap.size 0 (fdA ⟨true,(S.drop 2).take 20,U2⟩).toList).heap[k]?=w5.heap[k]?:=fun k hk=>kZ _ _ 0 w5.drew k hk
    have r4:=(below_setCells w.heap.size (fdA ⟨true,(S.drop 2).take 20,U2⟩).toList 0 w5.drew w.heap.size (Nat.le_refl _))
    generalize w5.drew.setCells w.heap.size 0 (fdA ⟨true,(S.drop 2).take 20,U2⟩).toList=w6 at *
    refine ⟨r2,?_⟩
    have R1:Hid (w6.heap[w.heap.size]?=some (.cells (fdA ⟨true,(S.drop 2).take 20,U2⟩) 29 (0,0))):=r1
    have R4:Hid ((∀ k,k≠w.heap.size→w6.heap[k]?=w5.heap[k]?)∧w6.heap.size=w5.heap.size∧Below w.heap.size w5 w6):=⟨r2,r4.2,((Below.refl _ _).drew).trans r4.1⟩
    clear r1 r2 r4 hHeld q60 hra zEv zRz k7 l51 l52 l53
    go_wp2_with fail
    refine bodyPost_ret (zMF rfl (by rfl) R1.out (zV _ zRb)) rfl ⟨?_,Keep.whole (HK3.out.trans (Keep.below HB6.out)) R4.out.1 R4.out.2.1 R4.out.2.2,?_⟩
    ·rw [HFH.out]
     have e:Mt.foundAt p r.st=(S.drop 2).take 20:=by rw [HSS.out];exact found_eq p r.st HRL.out
     rw [e,← HU2.out];rfl
    ·rw [HFH.out]
     have hx:=HLT.out
     have o:=R4.out.1
     have:=(HW3.out.below HB6.out).mem (o _ (by omega)) (o _ (by omega)) (o _ (by omega)) (o _ (by omega)) (o _ (by omega))
     rw [HOV.out] at this
     exact ⟨_,_,_,this⟩
   ·have HFH:Hid (F=Mt.search ⟨c,text,inn,ar⟩ budget (text.size+1-(p+1)) (p+1) r.n r.kn r.room):=by show _=_;rw [HFF.out,ov,ok,show text.size+1-(p+1)=text.size-p by omega];rfl
    have HOV:Hid (r.over=false):=ov
    clear HFF
    go_wp2_with (first | (refine zF (by rfl) (.tmp 7) (.tmp 26) (by rfl) w3.heap.size (r.st.map (Value.int .i64)).toArray (by rfl) (by rfl) (by exact heap_alloc_new _ _) (by rfl) (by simp [HRL.out]) (jC _) ?_;intro w4 r1 r2 r3 r4;have B4:Hid (Below w3.heap.size w3 w4):=(((Below.refl _ _).alloc (Nat.le_refl _) _).trans (r4 _ (Nat.le_refl _)));have V4:Hid (w4.heap[w3.heap.size]?=some (.cells (r.st.map (Value.int .i64)).toArray 93 (0,0))):=(r1);have V5:Hid (w4.heap[w.heap.size]?=some zFd):=((B4.out.block _ l3).trans HQ3.out);have k8:w4.cell? ⟨wb,8,none⟩=some (.bool r.over):=((zA (HW3.out.below B4.out).cell).1 8);have k7:w4.cell? ⟨wb,7,none⟩=some (.int .i64 (budget-(r.n:Int))):=((zA (HW3.out.below B4.out).cell).1 7);have s4:w4.heap.size=w3.heap.size+1:=(by simpa using r3);have l41:wb<w4.heap.size:=(by omega);have l42:w3.heap.size<w4.heap.size:=(by omega);have S4:Hid (w4.heap.size=w3.heap.size+1):=(s4);clear r1 r2 r3 r4 s4) | fail)
    have hW4:zM w4 wb gc gi ga gk cc ci ca ck c text inn ar budget r.kn r.room (budget-(r.n:Int)) false:=by
     have:=HW3.out.below B4.out
     rw [HOV.out] at this
     exact this
    go_roundw
    case rel=>exact ⟨p+1,r.n,r.kn,r.room,by go_num,by omega,hW4,V5.out,HK3.out.trans (Keep.below B4.out),HRG.out.1,HRG.out.2.1,HRG.out.2.2,HFH.out⟩
    case measure=>simp [intOf];omega
  ·have HFH:Hid (F=(⟨false,Mt.nowhere,U⟩,false)):=by show _=_;rw [HF.out,show text.size+1-p=0 by omega,HU.out];rfl
   clear HF
   go_wp2_with fail
   have zEv:∀ z:World,(∀ k,k<wr.heap.size→k≠w.heap.size→z.heap[k]?=wr.heap[k]?)→z.cell? ⟨wb,7,none⟩=some (.int .i64 U):=fun z hz=>(zJk ⟨wb,7,none⟩ (hz wb lw2 (by omega))).trans c7
   refine wp_region_held_drew (S:=fun z:World=>∀ k,k<wr.heap.size→k≠w.heap.size→z.heap[k]?=wr.heap[k]?) (by kernel_rfl) (fun _ _ _=>rfl) (fun hHeld=>?_)
   refine take_at 1 49 (.pointer (some ⟨wb,0,none⟩)) rfl rfl (by kernel_rfl) (by kernel_rfl) (by kernel_rfl) (fun _ _ _ h=>h) (Or.inl ⟨by rfl,fun z hz=>by have hz7:=zEv z hz;clear hz hHeld;go_simp⟩) (by assumption) ?_
   simp only [Act.put,List.setIfInBounds_toArray,List.set_cons_zero,List.set_cons_succ]
   refine take_at 2 50 (.pointer (some ⟨wb,0,none⟩)) rfl rfl (by kernel_rfl) (by kernel_rfl) (by kernel_rfl) (fun _ _ _ h=>h) (Or.inl ⟨by rfl,fun z hz=>by have hz7:=zEv z hz;clear hz hHeld;go_simp⟩) (by assumption) ?_
   simp only [Act.put,List.setIfInBounds_toArray,List.set_cons_zero,List.set_cons_succ]
   refine take_at 3 51 (.pointer (some ⟨wb,7,none⟩)) rfl rfl (by kernel_rfl) (by kernel_rfl) (by kernel_rfl) (fun _ _ _ h=>h) (Or.inl ⟨by rfl,fun z hz=>by have hz7:=zEv z hz;clear hz hHeld;go_simp⟩) (by assumption) ?_
   simp only [Act.put,List.setIfInBounds_toArray,List.set_cons_zero,List.set_cons_succ]
   refine take_at 4 52 (.int .i64 U) rfl rfl (by kernel_rfl) (by kernel_rfl) (by kernel_rfl) (fun _ _ _ h=>h) (Or.inl ⟨by rfl,fun z hz=>by have hz7:=zEv z hz;clear hz hHeld;go_simp⟩) (by assumption) ?_
   simp only [Act.put,List.setIfInBounds_toArray,List.set_cons_zero,List.set_cons_succ]
   refine wpAnyH_ready (rs:=[0]) (by kernel_rfl) (by simp) ?_
   refine AllReadyH.cons rfl (fun K hK=>?_) AllReadyH.nil
   go_simp
   refine (zK9 wr.drew).mono ?_
   rintro e w9 ⟨rfl,hb9⟩
   have hS9:∀ k,k<wr.heap.size→k≠w.heap.size→w9.heap[k]?=wr.heap[k]?:=fun k hk _=>hb9.block k hk
   have q90:w9.heap[w.heap.size]?=some (.cells (fdA Mt.yV) 29 (0,0)):=(hb9.block _ hsz).trans HQ.out
   have HB9:Hid (Below wr.heap.size wr w9):=((Below.refl _ _).drew).trans hb9
   clear hb9
   go_simp
   refine hK.out _ _ hS9 (fun zRA=>?_)
   clear hK K hHeld
   refine take_at 5 53 (fdV ⟨false,Mt.nowhere,U⟩) rfl rfl (by kernel_rfl) (by kernel_rfl) (by kernel_rfl) (fun _ _ _ h=>h) (Or.inl ⟨by rfl,fun z hz=>by refine zIa (t:=29) (parts:=#[(1,.tmp 48),(2,.tmp 52)]) rfl ?_;simp only [List.map_toArray,List.map_cons,List.map_nil];exact zME _ rfl U z⟩) (by assumption) ?_
   simp only [Act.put,List.setIfInBounds_toArray,List.set_cons_zero,List.set_cons_succ]
   refine zBG 6 _ rfl rfl (by kernel_rfl) (by kernel_rfl) _ _ _ rfl w.heap.size 0 (fdA ⟨false,Mt.nowhere,U⟩) (by kernel_rfl) (by kernel_rfl) (jN (zA q90).1 (zA q90).2 _ (by rw [zV ⟨false,Mt.nowhere,U⟩ rfl,zV Mt.yV rfl];exact Nat.le_refl _)) (by rw [Tryz.size57,zV ⟨false,Mt.nowhere,U⟩ rfl]) (zBd _) rfl ?_
   have r1:=qI q90 (fdA ⟨false,Mt.nowhere,U⟩) (by rw [zV ⟨false,Mt.nowhere,U⟩ rfl,zV Mt.yV rfl])
   have r2:∀ k,k≠w.heap.size→(w9.setCells w.heap.size 0 (fdA ⟨false,Mt.nowhere,U⟩).toList).heap[k]?=w9.heap[k]?:=fun k hk=>kZ _ _ 0 w9 k hk
   have r4:=(below_setCells w.heap.size (fdA ⟨false,Mt.nowhere,U⟩).toList 0 w9 w.heap.size (Nat.le_refl _))
   generalize w9.setCells w.heap.size 0 (fdA ⟨false,Mt.nowhere,U⟩).toList=w6 at *
   refine ⟨fun k hk hne=>(r2 k hne).trans (hS9 k hk hne),?_⟩
   have R1:Hid (w6.heap[w.heap.size]?=some (.cells (fdA ⟨false,Mt.nowhere,U⟩) 29 (0,0))):=r1
   have R4:Hid ((∀ k,k≠w.heap.size→w6.heap[k]?=w9.heap[k]?)∧w6.heap.size=w9.heap.size∧Below w.heap.size w9 w6):=⟨r2,r4.2,r4.1⟩
   clear r1 r2 r4 zRA q90 zEv c7 hS9
   go_wp2_with fail
   refine bodyPost_ret (zMF rfl (by rfl) R1.out (zV ⟨false,Mt.nowhere,U⟩ rfl)) rfl ⟨?_,Keep.whole (HK.out.trans (Keep.below HB9.out)) R4.out.1 R4.out.2.1 R4.out.2.2,?_⟩
   ·rw [HFH.out];rfl
   ·rw [HFH.out]
    have hx:=HLT.out
    have o:=R4.out.1
    exact ⟨_,_,_,(HW.out.below HB9.out).mem (o _ (by omega)) (o _ (by omega)) (o _ (by omega)) (o _ (by omega)) (o _ (by omega))⟩
end Go.Proofs.YtebpgfodelggoaaGreat
