import Derived.Test.YtebpgfodelggoabGreatKC16
set_option linter.unusedVariables false
set_option linter.unusedSimpArgs false
set_option maxRecDepth 100000
set_option maxHeartbeats 40000000
namespace Go.Proofs.YtebpgfodelggoabGreat
open Go.RowKit
def leftOf(wb:Nat)(zA:Int)(w:World):Nat:=match w.cell? ⟨wb,7,none⟩with
 | some (.int _ u)=>(zA-u).toNat
 | _=>0
section
variable {w:World} {wb gc gi ga gk cc ci ca ck:Nat} {c:List Mt.zTG} {zK:ByteArray} {zTM:List Bool} {ar:List Int} {zA:Int} {kn:List Bool} {zD qE:Int} {qI:Bool}
theorem wD(h:zU w wb gc gi ga gk cc ci ca ck c zK zTM ar zA kn zD qE qI):leftOf wb zA w=(zA-qE).toNat:=by
 unfold leftOf;rw[(zC h.cell).1 7];rfl
theorem zU.drewN(h:zU w wb gc gi ga gk cc ci ca ck c zK zTM ar zA kn zD qE qI)(n:Nat):zU (w.drewN n) wb gc gi ga gk cc ci ca ck c zK zTM ar zA kn zD qE qI :=
 h.mem rfl rfl rfl rfl rfl
theorem zU.zSm(h:zU w wb gc gi ga gk cc ci ca ck c zK zTM ar zA kn zD qE qI)(pc:Nat)(hpc:pc<c.length) :
  w.cell? ⟨gc,pc*4,none⟩=some (.int .i64 (c.getD pc Mt.jY).op)/\w.cell? ⟨gc,pc*4+1,none⟩=some (.int .i64 (c.getD pc Mt.jY).x)/\w.cell? ⟨gc,pc*4+2,none⟩=some (.int .i64 (c.getD pc Mt.jY).y)/\w.cell? ⟨gc,pc*4+3,none⟩=some (.string ⟨(c.getD pc Mt.jY).set.toArray⟩)/\c.length<=cc:=by
 rcases xE h.code with ⟨e,_⟩ | ⟨_,g,cap,e,h2,_,_,hc⟩
 ·rw[e]at hpc;simp at hpc
 ·simp only[Value.slice.injEq,Option.some.injEq,Addr.mk.injEq,and_true,true_and]at e;obtain⟨rfl,rfl⟩:=e;exact⟨hc pc 0 hpc (by omega),hc pc 1 hpc (by omega),hc pc 2 hpc (by omega),hc pc 3 hpc (by omega),h2⟩
end
def zEI(wb gc gi ga gk cc ci ca ck:Nat)(c:List Mt.zTG)(zK:ByteArray)(zTM:List Bool)(ar:List Int)(zA:Int)(n:Nat):Prop :=
 ∀(w:World) (s:List Int) (kn:List Bool) (zD:Int),zU w wb gc gi ga gk cc ci ca ck c zK zTM ar zA kn zD (zA-(n:Int)) false->Mt.Good c.length zK.size s->kn.length=c.length*(zK.size+1)*12->0<=zD/\zD<=5000 ->
  Calls Tryz.prog 82 #[.pointer (some ⟨wb,0,none⟩),stV s] w λe w' =>
   e=.returned (.tuple #[stV (Mt.qO ⟨c,zK,zTM,ar⟩ n s kn zD).st,.bool (Mt.qO ⟨c,zK,zTM,ar⟩ n s kn zD).ok])/\Keep wb gk w w'/\zU w' wb gc gi ga gk cc ci ca ck c zK zTM ar zA (Mt.qO ⟨c,zK,zTM,ar⟩ n s kn zD).kn (Mt.qO ⟨c,zK,zTM,ar⟩ n s kn zD).zD (zA-((Mt.qO ⟨c,zK,zTM,ar⟩ n s kn zD).n:Int)) (Mt.qO ⟨c,zK,zTM,ar⟩ n s kn zD).qI
def zPd(w:World)(wb gc gi ga gk cc ci ca ck:Nat)(c:List Mt.zTG)(zK:ByteArray)(zTM:List Bool)(ar:List Int)(zA:Int)(n:Nat)(R:Mt.Res)(wr:World):Prop :=
 ∃(n1:Nat) (s1:List Int) (kn1:List Bool) (yG:Int),zU wr wb gc gi ga gk cc ci ca ck c zK zTM ar zA kn1 yG (zA-(n1:Int)) false/\wr.heap[w.heap.size]?=some (.cells (s1.map (Value.int .i64)).toArray 139 (0,0))/\wr.heap[w.heap.size+1]?=some zBn/\Keep wb gk w wr
  /\ Mt.Good c.length zK.size s1/\kn1.length=c.length*(zK.size+1)*12/\(0<=yG/\yG<=5000)/\n1<=n/\R=Mt.qO ⟨c,zK,zTM,ar⟩ n1 s1 kn1 yG
theorem Keep.whole{wb gk:Nat}{a b d:World}{q:Nat}(h:Keep wb gk a b)(r2:∀k,k≠q->d.heap[k]?=b.heap[k]?)(r3:d.heap.size=b.heap.size)(r4:Below a.heap.size b d):Keep wb gk a d :=
 ⟨r4.os.trans h.os,r4.tape.trans h.tape,r4.output.trans h.output,by rw[r3];exact h.size,λi hi h1 h2=>(r4.block i hi).trans (h.block i hi h1 h2)⟩
theorem zIT(wb gc gi ga gk cc ci ca ck:Nat)(c:List Mt.zTG)(zK:ByteArray)(zTM:List Bool)(ar:List Int)(zA:Int)(hE:zDz c zK ar)(hb0:0<=zA)(zTH:zA<=10000)(n:Nat)(hn:(n:Int)<=zA)
  (IH:∀m,m<n->zEI wb gc gi ga gk cc ci ca ck c zK zTM ar zA m):zEI wb gc gi ga gk cc ci ca ck c zK zTM ar zA n:=by
 intro w s kn zD h hs hkn hr;have HE:Hid (zDz c zK ar):=hE;have HIH:Hid (∀m,m<n->zEI wb gc gi ga gk cc ci ca ck c zK zTM ar zA m):=IH;have zTI:=h.lt;have HLT:Hid (wb<w.heap.size/\gc<w.heap.size/\gi<w.heap.size/\ga<w.heap.size/\gk<w.heap.size):=zTI;have lwb:wb<w.heap.size:=zTI.1;have lgk:gk<w.heap.size:=zTI.2.2.2.2;have HW:Hid (zU w wb gc gi ga gk cc ci ca ck c zK zTM ar zA kn zD (zA-(n:Int)) false):=h;have HS:Hid (Mt.Good c.length zK.size s/\kn.length=c.length*(zK.size+1)*12/\(0<=zD/\zD<=5000)):=⟨hs,hkn,hr⟩
 obtain⟨R,hR⟩:∃R,R=Mt.qO ⟨c,zK,zTM,ar⟩ n s kn zD:=⟨_,rfl⟩
 rw[<-hR];have HR:Hid (R=Mt.qO ⟨c,zK,zTM,ar⟩ n s kn zD):=hR;clear h hs hkn hr zTI IH hE hR;unfold stV;have hz:=dB;go_enter Tryz.func82,Tryz.ntmps82
 go_wp2_with fail
 go_loopw [] (λwr=>zPd w wb gc gi ga gk cc ci ca ck c zK zTM ar zA n R wr) (λwr=>leftOf wb zA wr)
 case atStart =>
  have hB:Below w.heap.size w ((w.alloc (.cells (s.map (Value.int .i64)).toArray 139 (0,0))).alloc zBn):=((Below.refl _ _).alloc (lG _) _).alloc (by simp) _;exact⟨n,s,kn,zD,HW.out.below hB,tV _ _ _,mV _ _ _,Keep.below hB,HS.out.1,HS.out.2.1,HS.out.2.2,lG _,HR.out⟩
 case round =>
  clear HR HS HW;obtain⟨n1,s1,kn1,yG,hW,hq0,hq1,hK,hG,hkn,hrm,hn1,hR⟩:=hrel;have HW:Hid (zU wr wb gc gi ga gk cc ci ca ck c zK zTM ar zA kn1 yG (zA-(n1:Int)) false):=hW;have HQ:Hid (wr.heap[w.heap.size]?=some (.cells (s1.map (Value.int .i64)).toArray 139 (0,0))/\wr.heap[w.heap.size+1]?=some zBn):=⟨hq0,hq1⟩
  have HK:Hid (Keep wb gk w wr):=hK;have HG:Hid (Mt.Good c.length zK.size s1/\kn1.length=c.length*(zK.size+1)*12/\(0<=yG/\yG<=5000)):=⟨hG,hkn,hrm⟩
  have HS1:Hid (s1.length=44):=hG.len;have HR:Hid (R=Mt.qO ⟨c,zK,zTM,ar⟩ n1 s1 kn1 yG):=hR;have hcb:=zC hW.cell;have c0:wr.cell? ⟨wb,0,none⟩=some (.slice (some ⟨gc,0,none⟩) c.length cc):=hcb.1 0;have c6:wr.cell? ⟨wb,6,none⟩=some (.int .i64 zA):=hcb.1 6;have c7:wr.cell? ⟨wb,7,none⟩=some (.int .i64 (zA-(n1:Int))):=hcb.1 7;have c8:wr.cell? ⟨wb,8,none⟩=some (.bool false):=hcb.1 8;have z7:wr.frozen? ⟨wb,7,none⟩=false:=hcb.2 7;have z8:wr.frozen? ⟨wb,8,none⟩=false:=hcb.2 8;have hsz:w.heap.size+1<wr.heap.size:=(lI.1 hq1).1;have lw2:wb<wr.heap.size:=by omega
  clear hcb hW hq0 hq1 hK hG hkn hrm hR;obtain⟨U,hU⟩:∃U:Int,U=zA-(n1:Int):=⟨_,rfl⟩
  rw[<-hU]at HW c7;have HW0:Hid (zU wr wb gc gi ga gk cc ci ca ck c zK zTM ar zA kn1 yG U false):=HW.out;have HU:Hid (U=zA-(n1:Int)):=hU;clear hU;cases n1 with
  | zero =>
   have hge:zA<=U:=by rw[HU.out];simp
   go_wp2_with fail
   go_quiet (fail)
   go_wp2_with (first|(refine zP (by rfl) (.tmp 3) (by rfl) w.heap.size (by rfl) (by exact(Below.heap_setCell _ _ _ _ (by show w.heap.size≠wb;omega)).trans HQ.out.1) (by simp[HS1.out]) ?_)|(refine zL (by rfl) (.tmp 4) (.tmp 24) (by rfl) (w.heap.size+1) _ (by rfl) (by rfl) (by exact(Below.heap_setCell _ _ _ _ (by show w.heap.size+1≠wb;omega)).trans HQ.out.2) (by rfl) (by simp[HS1.out]) (qD _) ?_;intro w6 r1 r2 r3 r4) | fail)
   have hRR:=HR.out;rw[Mt.wB]at hRR;have hW5:=(HW.out.drewN nq).zNp true;have hK5:Keep wb gk w ((wr.drewN nq).setCell ⟨wb,8,none⟩ (.bool true)):=Keep.set (p:=⟨wb,8,none⟩) (HK.out.trans (Keep.below (below_drewN (Below.refl _ _) nq))) (Or.inl rfl) _;generalize (wr.drewN nq).setCell ⟨wb,8,none⟩ (.bool true)=w5 at *;refine bodyPost_ret (pU rfl (by rfl) r1 (by simp[HS1.out])) rfl ⟨?_,Keep.whole hK5 r2 r3 (r4 _ (by omega)),?_⟩
   ·rw[hRR];rfl
   ·rw[hRR];have hx:=HLT.out;have:=hW5.mem (r2 _ (by omega)) (r2 _ (by omega)) (r2 _ (by omega)) (r2 _ (by omega)) (r2 _ (by omega));rw[HU.out]at this;exact this
  | succ k =>
   have hge:U<zA:=by rw[HU.out];omega
   have hU0:0<=U:=by rw[HU.out];omega
   go_wp2_with fail
   go_quiet (fail)
   go_wp2_with (first|(refine zP (by rfl) (.tmp 3) (by rfl) w.heap.size (by rfl) (by exact(Below.heap_setCell _ _ _ _ (by show w.heap.size≠wb;omega)).trans HQ.out.1) (by simp[HS1.out]) ?_) | fail)
   have hW5:=(HW.out.drewN nq).zNo (U+1);have hK5:Keep wb gk w ((wr.drewN nq).setCell ⟨wb,7,none⟩ (.int .i64 (U+1))):=Keep.set (p:=⟨wb,7,none⟩) (HK.out.trans (Keep.below (below_drewN (Below.refl _ _) nq))) (Or.inl rfl) _;have hq0:((wr.drewN nq).setCell ⟨wb,7,none⟩ (.int .i64 (U+1))).heap[w.heap.size]?=_:=(Below.heap_setCell _ _ _ _ (by show w.heap.size≠wb;omega)).trans HQ.out.1;have hq1:((wr.drewN nq).setCell ⟨wb,7,none⟩ (.int .i64 (U+1))).heap[w.heap.size+1]?=_:=(Below.heap_setCell _ _ _ _ (by show w.heap.size+1≠wb;omega)).trans HQ.out.2;generalize (wr.drewN nq).setCell ⟨wb,7,none⟩ (.int .i64 (U+1))=w5 at *;clear HW HQ HK c0 c6 c7 c8 z7 z8 lw2 hsz;refine(zNB hW5 HE.out s1 HG.out.1 HG.out.2.1 HG.out.2.2).mono ?_;rintro e w6 ⟨rfl,hk6,hW6⟩;have hs5:w.heap.size+1<w5.heap.size:=(lI.1 hq1).1;have hs6:w.heap.size+1<w6.heap.size:=by have:=hk6.size;omega
   have HQ:Hid (w6.heap[w.heap.size]?=some (.cells (s1.map (Value.int .i64)).toArray 139 (0,0))/\w6.heap[w.heap.size+1]?=some zBn):=⟨(hk6.blk _ (by omega) (by omega) (by omega)).trans hq0,(hk6.blk _ (by omega) (by omega) (by omega)).trans hq1⟩
   have HK:Hid (Keep wb gk w w6):=hK5.trans hk6;have HR2:Hid (R=_):=HR.out.trans (Mt.fH _ _ _ _ _);have hG2:((Mt.Env.zTN ⟨c,zK,zTM,ar⟩ s1 kn1 yG).length=c.length*(zK.size+1)*12/\(0<=Mt.Env.zX ⟨c,zK,zTM,ar⟩ s1 kn1 yG/\Mt.Env.zX ⟨c,zK,zTM,ar⟩ s1 kn1 yG<=5000)):=⟨(Mt.Env.zDx _ _ _ _).trans HG.out.2.1,Mt.Env.tH _ _ _ _ HG.out.2.2⟩
   generalize Mt.Env.zTN ⟨c,zK,zTM,ar⟩ s1 kn1 yG=kn2 at *;generalize Mt.Env.zX ⟨c,zK,zTM,ar⟩ s1 kn1 yG=bH at *;have HW:Hid (zU w6 wb gc gi ga gk cc ci ca ck c zK zTM ar zA kn2 bH (U+1) false):=hW6;have HG2:Hid (kn2.length=c.length*(zK.size+1)*12/\(0<=bH/\bH<=5000)):=hG2;obtain⟨h0,h1,e0,e1,l0,l1⟩:=zFp HG.out.1;have hcb:=zC hW6.cell;have c0:w6.cell? ⟨wb,0,none⟩=some (.slice (some ⟨gc,0,none⟩) c.length cc):=hcb.1 0;have hI:=hW6.zSm (Mt.jX s1) l0;have i0:=hI.1;have i1:=hI.2.1;have i2:=hI.2.2.1;have i3:=hI.2.2.2.1;have i4:=hI.2.2.2.2;have cs0:=pJ HQ.out.1 0 _ h0;have zs0:=dD HQ.out.1 0;have hlen:=HE.out.l;have lgc:gc<w6.heap.size:=by have:=HLT.out;omega
   have lw2:wb<w6.heap.size:=by omega
   have lw3:w.heap.size<w6.heap.size:=by omega
   have hIo:=HE.out.ok _ l0;have HX:Hid (Mt.Env.ins ⟨c,zK,zTM,ar⟩ s1=c.getD (Mt.jX s1) Mt.jY):=rfl;have HIo:Hid (Mt.zHX c (Mt.jX s1) (c.getD (Mt.jX s1) Mt.jY)):=hIo;generalize hX:c.getD (Mt.jX s1) Mt.jY=X at *;have HXX:Hid (c.getD (Mt.jX s1) Mt.jY=X):=hX;have HPC:Hid (((Mt.jX s1:Nat):Int)=Mt.gt s1 0):=e0;generalize hpc:Mt.jX s1=pc at *;have HPP:Hid (Mt.jX s1=pc):=hpc;clear e0 e1 h1 l1 hpc;clear hX hcb hI hIo hk6 hK5 hW5 hW6 hq0 hq1 HR w5 hs5 hG2;cases hD:Mt.Env.dead ⟨c,zK,zTM,ar⟩ s1 kn1 with
   | true =>
    have hRR:=HR2.out;rw[hD,if_pos rfl]at hRR;clear cs0 zs0 i0 i1 i2 i3 c0 HR2;go_wp2_with (first|(refine zP (by rfl) (.tmp 3) (by rfl) w.heap.size (by rfl) (by exact HQ.out.1) (by simp[HS1.out]) ?_)|(refine zL (by rfl) (.tmp 4) (.tmp 36) (by rfl) (w.heap.size+1) _ (by rfl) (by rfl) (by exact HQ.out.2) (by rfl) (by simp[HS1.out]) (qD _) ?_;intro w7 r1 r2 r3 r4) | fail)
    refine bodyPost_ret (pU rfl (by rfl) r1 (by simp[HS1.out])) rfl ⟨?_,Keep.whole HK.out r2 r3 (r4 _ (by omega)),?_⟩
    ·rw[hRR];rfl
    ·rw[hRR];have hx:=HLT.out;have:=HW.out.mem (r2 _ (by omega)) (r2 _ (by omega)) (r2 _ (by omega)) (r2 _ (by omega)) (r2 _ (by omega));rw[show U+1=zA-((k:Nat):Int) by rw[HU.out];omega]at this;exact this
   | false =>
    have HD:Hid (Mt.Env.dead ⟨c,zK,zTM,ar⟩ s1 kn1=false):=hD;clear hD;go_wp2_with fail
    go_region
    have hB8:Below w6.heap.size w6 (w6.alloc (.cells #[.int .i64 X.op,.int .i64 X.x,.int .i64 X.y,.string ⟨X.set.toArray⟩] 48 (0,0))).drew:=((Below.refl _ _).alloc (lG _) _).drew;have hx8:(w6.alloc (.cells #[.int .i64 X.op,.int .i64 X.x,.int .i64 X.y,.string ⟨X.set.toArray⟩] 48 (0,0))).drew.heap[w6.heap.size]?=some (.cells #[.int .i64 X.op,.int .i64 X.x,.int .i64 X.y,.string ⟨X.set.toArray⟩] 48 (0,0)):=heap_alloc_new _ _;have hs8:(w6.alloc (.cells #[.int .i64 X.op,.int .i64 X.x,.int .i64 X.y,.string ⟨X.set.toArray⟩] 48 (0,0))).drew.heap.size=w6.heap.size+1:=by simp
    generalize hw8:(w6.alloc (.cells #[.int .i64 X.op,.int .i64 X.x,.int .i64 X.y,.string ⟨X.set.toArray⟩] 48 (0,0))).drew=w8 at *;have HW8:Hid (zU w8 wb gc gi ga gk cc ci ca ck c zK zTM ar zA kn2 bH (U+1) false):=HW.out.below hB8;have HQ8:Hid (w8.heap[w.heap.size]?=some (.cells (s1.map (Value.int .i64)).toArray 139 (0,0))/\w8.heap[w.heap.size+1]?=some zBn):=⟨(hB8.block _ (by omega)).trans HQ.out.1,(hB8.block _ (by omega)).trans HQ.out.2⟩
    have HK8:Hid (Keep wb gk w w8):=HK.out.trans (Keep.below hB8);have HX8:Hid (w8.heap[w6.heap.size]?=some (.cells #[.int .i64 X.op,.int .i64 X.x,.int .i64 X.y,.string ⟨X.set.toArray⟩] 48 (0,0))):=hx8;have y80:w8.cell? ⟨w6.heap.size,0,none⟩=some (.int .i64 X.op):=(zC hx8).1 0;have y81:w8.cell? ⟨w6.heap.size,1,none⟩=some (.int .i64 X.x):=(zC hx8).1 1;have y82:w8.cell? ⟨w6.heap.size,2,none⟩=some (.int .i64 X.y):=(zC hx8).1 2;have y83:w8.cell? ⟨w6.heap.size,3,none⟩=some (.string ⟨X.set.toArray⟩):=(zC hx8).1 3;have lBx:w.heap.size+1<w6.heap.size:=hs6;have lB8:w6.heap.size<w8.heap.size:=by omega
    have HS8:Hid (w8.heap.size=w6.heap.size+1):=hs8;clear hs8;generalize hBx:w6.heap.size=Bx at *;clear hw8 hB8 hx8 HW HQ HK cs0 zs0 i0 i1 i2 i3 i4 c0 lgc lw2 lw3 hs6 hBx;have HR3:Hid (R=_):=HR2.out;clear HR2;by_cases o13:X.op=13\/X.op=12
    ·have hRR:=HR3.out;rw[HD.out,if_neg (by simp),HX.out,if_pos o13]at hRR;have oo:((X.op==13)=true)\/((X.op==13)=false/\(X.op==12)=true):=by simp;omega
     rcases oo with o | ⟨o,o'⟩
     all_goals
      go_wp2_with (first|(refine zP (by rfl) (.tmp 3) (by rfl) w.heap.size (by rfl) (by exact HQ8.out.1) (by simp[HS1.out]) ?_)|(refine zL (by rfl) (.tmp 4) (.tmp 57) (by rfl) (w.heap.size+1) _ (by rfl) (by rfl) (by exact HQ8.out.2) (by rfl) (by simp[HS1.out]) (qD _) ?_;intro w9 r1 r2 r3 r4) | fail)
      refine bodyPost_ret (pU rfl (by rfl) r1 (by simp[HS1.out])) rfl ⟨?_,Keep.whole HK8.out r2 r3 (r4 _ (by omega)),?_⟩
      ·rw[hRR];rfl
      ·rw[hRR];have hx:=HLT.out;have:=HW8.out.mem (r2 _ (by omega)) (r2 _ (by omega)) (r2 _ (by omega)) (r2 _ (by omega)) (r2 _ (by omega));rw[show U+1=zA-((k:Nat):Int) by rw[HU.out];omega]at this;exact this
    ·have n13:(X.op==13)=false:=by simp;omega
     have n12:(X.op==12)=false:=by simp;omega
     by_cases o2:X.op=2
     ·have b2:(X.op==2)=true:=by simp;omega
      have hRR:=HR3.out;rw[HD.out,if_neg (by simp),HX.out,if_neg o13,if_pos o2]at hRR;have hi2:=HIo.out.1 o2;have hIH:=HIH.out k (by omega);have hg1:Mt.Good c.length zK.size (s1.set 0 X.x):=HG.out.1.fC _ hi2.1 hi2.2.1;have hrg:=Mt.vI ⟨c,zK,zTM,ar⟩ HE.out.ok k k (s1.set 0 X.x) kn2 bH (lG _) hg1 HG2.out.2;have hrn:=Mt.tF ⟨c,zK,zTM,ar⟩ k (s1.set 0 X.x) kn2 bH;have hKL:∀z:World,zU z wb gc gi ga gk cc ci ca ck c zK zTM ar zA kn2 bH (U+1) false->Calls Tryz.prog 82 #[.pointer (some ⟨wb,0,none⟩),stV (s1.set 0 X.x)] z λe w'=>e=.returned (.tuple #[stV (Mt.qO ⟨c,zK,zTM,ar⟩ k (s1.set 0 X.x) kn2 bH).st,.bool (Mt.qO ⟨c,zK,zTM,ar⟩ k (s1.set 0 X.x) kn2 bH).ok])/\Keep wb gk z w'/\zU w' wb gc gi ga gk cc ci ca ck c zK zTM ar zA (Mt.qO ⟨c,zK,zTM,ar⟩ k (s1.set 0 X.x) kn2 bH).kn (Mt.qO ⟨c,zK,zTM,ar⟩ k (s1.set 0 X.x) kn2 bH).zD (zA-((Mt.qO ⟨c,zK,zTM,ar⟩ k (s1.set 0 X.x) kn2 bH).n:Int)) (Mt.qO ⟨c,zK,zTM,ar⟩ k (s1.set 0 X.x) kn2 bH).qI:=λz hz=>hIH z (s1.set 0 X.x) kn2 bH (by rw[show zA-((k:Nat):Int)=U+1 by rw[HU.out];omega];exact hz) hg1 HG2.out.1 HG2.out.2
      generalize Mt.qO ⟨c,zK,zTM,ar⟩ k (s1.set 0 X.x) kn2 bH=r at *;have HKL:Hid (∀z:World,zU z wb gc gi ga gk cc ci ca ck c zK zTM ar zA kn2 bH (U+1) false->Calls Tryz.prog 82 #[.pointer (some ⟨wb,0,none⟩),stV (s1.set 0 X.x)] z λe w'=>e=.returned (.tuple #[stV r.st,.bool r.ok])/\Keep wb gk z w'/\zU w' wb gc gi ga gk cc ci ca ck c zK zTM ar zA r.kn r.zD (zA-(r.n:Int)) r.qI):=hKL;have HRG:Hid (r.kn.length=c.length*(zK.size+1)*12/\(0<=r.zD/\r.zD<=5000)):=⟨hrg.2.1.trans HG2.out.1,hrg.2.2.1⟩
      have HRL:Hid (r.st.length=44):=hrg.2.2.2.1;have HRR:Hid (R=if(r.ok||r.qI)=true then r else Mt.qO ⟨c,zK,zTM,ar⟩ r.n (s1.set 0 X.y) r.kn r.zD):=hRR;have HGY:Hid (Mt.Good c.length zK.size (s1.set 0 X.y)):=HG.out.1.fC _ hi2.2.2.1 hi2.2.2.2;clear hRR hKL hIH hg1 hrg hi2 HR3;go_wp2_with (first|(refine zP (by rfl) (.tmp 3) (by rfl) w.heap.size (by rfl) (by exact HQ8.out.1) (by simp[HS1.out]) ?_)|(refine zL (by rfl) (.tmp 9) (.tmp 60) (by rfl) w8.heap.size _ (by rfl) (by rfl) (by exact heap_alloc_new _ _) (by rfl) (by simp[HS1.out]) (qD _) ?_;intro w9 r1 r2 r3 r4;have B9:Hid (Below w8.heap.size w8 w9):=(((Below.refl _ _).alloc (lG _) _).trans (r4 _ (lG _)));have V9:Hid (w9.heap[w8.heap.size]?=some (.cells (s1.map (Value.int .i64)).toArray 139 (0,0))):=(r1);have c90:=(pJ r1 0 _ h0);have z90:=(dD r1 0);have x91:w9.cell? ⟨Bx,1,none⟩=some (.int .i64 X.x):=((zC ((B9.out.block _ (by omega)).trans HX8.out)).1 1);have s9:w9.heap.size=w8.heap.size+1:=(by simpa using r3);have l91:Bx<w9.heap.size:=(by omega);have l92:w8.heap.size<w9.heap.size:=(by omega);clear r1 r2 r3 r4)|(refine zP (by rfl) (.tmp 9) (by rfl) w8.heap.size (by rfl) (by exact yV V9.out 0 _) (by simp[HS1.out]) ?_) | fail)
      have zPe:Below w8.heap.size w8 (w9.setCell ⟨w8.heap.size,0,none⟩ (.int .i64 X.x)):=B9.out.setCell (p:=⟨w8.heap.size,0,none⟩) (lG _) _;generalize w9.setCell ⟨w8.heap.size,0,none⟩ (.int .i64 X.x)=w10 at *;rw[qF];refine(HKL.out w10 (HW8.out.below zPe)).mono ?_;rintro e w11 ⟨rfl,zP9,zRP⟩;have zS3:=zPe.size;have zS4:=zP9.size;have zRn:Hid (Keep wb gk w w11):=(HK8.out.trans (Keep.below zPe)).trans zP9;have zQa:Hid (w11.heap[w.heap.size]?=some (.cells (s1.map (Value.int .i64)).toArray 139 (0,0))/\w11.heap[w.heap.size+1]?=some zBn):=⟨((zP9.blk _ (by omega) (by omega) (by omega)).trans (zPe.block _ (by omega))).trans HQ8.out.1,((zP9.blk _ (by omega) (by omega) (by omega)).trans (zPe.block _ (by omega))).trans HQ8.out.2⟩
      have zRo:Hid (w11.heap[Bx]?=some (.cells #[.int .i64 X.op,.int .i64 X.x,.int .i64 X.y,.string ⟨X.set.toArray⟩] 48 (0,0))):=((zP9.blk _ (by omega) (by omega) (by omega)).trans (zPe.block _ (by omega))).trans HX8.out;have zQb:Hid (zU w11 wb gc gi ga gk cc ci ca ck c zK zTM ar zA r.kn r.zD (zA-(r.n:Int)) r.qI):=zRP;clear zP9 zRP zPe B9 V9 c90 z90 x91 s9 l91 l92 w9 HKL HW8 HQ8 HK8 HX8 y80 y81 y82 y83;have hcs:(r.ok=true)\/(r.ok=false/\r.qI=true)\/(r.ok=false/\r.qI=false):=by cases r.ok <;> cases r.qI <;> simp
      rcases hcs with ok | ⟨ok,ov⟩ | ⟨ok,ov⟩
      ·have HRH:Hid (R=r):=by show _=_;rw[HRR.out,ok];rfl
       clear HRR;go_wp2_with (first|(refine zL (by rfl) (.tmp 10) (.tmp 68) (by rfl) w11.heap.size (r.st.map (Value.int .i64)).toArray (by rfl) (by rfl) (by exact heap_alloc_new _ _) (by rfl) (by simp[HRL.out]) (qD _) ?_;intro w12 r1 r2 r3 r4;have B12:Hid (Below w11.heap.size w11 w12):=(((Below.refl _ _).alloc (lG _) _).trans (r4 _ (lG _)));have V0:Hid (w12.heap[w11.heap.size]?=some (.cells (r.st.map (Value.int .i64)).toArray 139 (0,0))):=(r1);have V1:Hid (w12.heap[w.heap.size]?=some (.cells (s1.map (Value.int .i64)).toArray 139 (0,0))/\w12.heap[w.heap.size+1]?=some zBn):=(⟨(B12.out.block _ (by omega)).trans zQa.out.1,(B12.out.block _ (by omega)).trans zQa.out.2⟩);have k8:w12.cell? ⟨wb,8,none⟩=some (.bool r.qI):=((zC (zQb.out.below B12.out).cell).1 8);have x2:w12.cell? ⟨Bx,2,none⟩=some (.int .i64 X.y):=((zC ((B12.out.block _ (by omega)).trans zRo.out)).1 2);have cN:=(pJ V1.out.1 0 _ h0);have zN:=(dD V1.out.1 0);have s12:w12.heap.size=w11.heap.size+1:=(by simpa using r3);have l1:wb<w12.heap.size:=(by omega);have l2:Bx<w12.heap.size:=(by omega);have l3:w.heap.size<w12.heap.size:=(by omega);clear r1 r2 r3 r4)|(refine zP (by rfl) (.tmp 10) (by rfl) w11.heap.size (by rfl) (by exact V0.out) (by simp[HRL.out]) ?_)|(refine zL (by rfl) (.tmp 4) (.tmp 77) (by rfl) (w.heap.size+1) _ (by rfl) (by rfl) (by exact V1.out.2) (by rfl) (by simp[HRL.out]) (qD _) ?_;intro w13 r1 r2 r3 r4) | fail)
       refine bodyPost_ret (pU rfl (by rfl) r1 (by simp[HRL.out])) rfl ⟨?_,Keep.whole (zRn.out.trans (Keep.below B12.out)) r2 r3 (r4 _ (by omega)),?_⟩
       ·rw[HRH.out,ok];rfl
       ·rw[HRH.out];have hx:=HLT.out;exact(zQb.out.below B12.out).mem (r2 _ (by omega)) (r2 _ (by omega)) (r2 _ (by omega)) (r2 _ (by omega)) (r2 _ (by omega))
      ·have HRH:Hid (R=r):=by show _=_;rw[HRR.out,ok,ov];rfl
       clear HRR;go_wp2_with (first|(refine zL (by rfl) (.tmp 10) (.tmp 68) (by rfl) w11.heap.size (r.st.map (Value.int .i64)).toArray (by rfl) (by rfl) (by exact heap_alloc_new _ _) (by rfl) (by simp[HRL.out]) (qD _) ?_;intro w12 r1 r2 r3 r4;have B12:Hid (Below w11.heap.size w11 w12):=(((Below.refl _ _).alloc (lG _) _).trans (r4 _ (lG _)));have V0:Hid (w12.heap[w11.heap.size]?=some (.cells (r.st.map (Value.int .i64)).toArray 139 (0,0))):=(r1);have V1:Hid (w12.heap[w.heap.size]?=some (.cells (s1.map (Value.int .i64)).toArray 139 (0,0))/\w12.heap[w.heap.size+1]?=some zBn):=(⟨(B12.out.block _ (by omega)).trans zQa.out.1,(B12.out.block _ (by omega)).trans zQa.out.2⟩);have k8:w12.cell? ⟨wb,8,none⟩=some (.bool r.qI):=((zC (zQb.out.below B12.out).cell).1 8);have x2:w12.cell? ⟨Bx,2,none⟩=some (.int .i64 X.y):=((zC ((B12.out.block _ (by omega)).trans zRo.out)).1 2);have cN:=(pJ V1.out.1 0 _ h0);have zN:=(dD V1.out.1 0);have s12:w12.heap.size=w11.heap.size+1:=(by simpa using r3);have l1:wb<w12.heap.size:=(by omega);have l2:Bx<w12.heap.size:=(by omega);have l3:w.heap.size<w12.heap.size:=(by omega);clear r1 r2 r3 r4)|(refine zP (by rfl) (.tmp 10) (by rfl) w11.heap.size (by rfl) (by exact V0.out) (by simp[HRL.out]) ?_)|(refine zL (by rfl) (.tmp 4) (.tmp 77) (by rfl) (w.heap.size+1) _ (by rfl) (by rfl) (by exact V1.out.2) (by rfl) (by simp[HRL.out]) (qD _) ?_;intro w13 r1 r2 r3 r4) | fail)
       refine bodyPost_ret (pU rfl (by rfl) r1 (by simp[HRL.out])) rfl ⟨?_,Keep.whole (zRn.out.trans (Keep.below B12.out)) r2 r3 (r4 _ (by omega)),?_⟩
       ·rw[HRH.out,ok];rfl
       ·rw[HRH.out];have hx:=HLT.out;exact(zQb.out.below B12.out).mem (r2 _ (by omega)) (r2 _ (by omega)) (r2 _ (by omega)) (r2 _ (by omega)) (r2 _ (by omega))
      ·have HRH:Hid (R=Mt.qO ⟨c,zK,zTM,ar⟩ r.n (s1.set 0 X.y) r.kn r.zD):=by show _=_;rw[HRR.out,ok,ov];rfl
       have HOV:Hid (r.qI=false):=ov;clear HRR;go_wp2_with (first|(refine zL (by rfl) (.tmp 10) (.tmp 68) (by rfl) w11.heap.size (r.st.map (Value.int .i64)).toArray (by rfl) (by rfl) (by exact heap_alloc_new _ _) (by rfl) (by simp[HRL.out]) (qD _) ?_;intro w12 r1 r2 r3 r4;have B12:Hid (Below w11.heap.size w11 w12):=(((Below.refl _ _).alloc (lG _) _).trans (r4 _ (lG _)));have V0:Hid (w12.heap[w11.heap.size]?=some (.cells (r.st.map (Value.int .i64)).toArray 139 (0,0))):=(r1);have V1:Hid (w12.heap[w.heap.size]?=some (.cells (s1.map (Value.int .i64)).toArray 139 (0,0))/\w12.heap[w.heap.size+1]?=some zBn):=(⟨(B12.out.block _ (by omega)).trans zQa.out.1,(B12.out.block _ (by omega)).trans zQa.out.2⟩);have k8:w12.cell? ⟨wb,8,none⟩=some (.bool r.qI):=((zC (zQb.out.below B12.out).cell).1 8);have x2:w12.cell? ⟨Bx,2,none⟩=some (.int .i64 X.y):=((zC ((B12.out.block _ (by omega)).trans zRo.out)).1 2);have cN:=(pJ V1.out.1 0 _ h0);have zN:=(dD V1.out.1 0);have s12:w12.heap.size=w11.heap.size+1:=(by simpa using r3);have l1:wb<w12.heap.size:=(by omega);have l2:Bx<w12.heap.size:=(by omega);have l3:w.heap.size<w12.heap.size:=(by omega);clear r1 r2 r3 r4) | fail)
       have hx:=HLT.out;have o13:∀k,k≠w.heap.size->(w12.setCell ⟨w.heap.size,0,none⟩ (.int .i64 X.y)).heap[k]?=w12.heap[k]?:=λk hk=>Below.heap_setCell _ _ _ _ hk
       have zSn:=zQb.out.below B12.out
       have zRQ:zU (w12.setCell ⟨w.heap.size,0,none⟩ (.int .i64 X.y)) wb gc gi ga gk cc ci ca ck c zK zTM ar zA r.kn r.zD (zA-(r.n:Int)) false:=by
        have:=zSn.mem (o13 _ (by omega)) (o13 _ (by omega)) (o13 _ (by omega)) (o13 _ (by omega)) (o13 _ (by omega));rw[HOV.out]at this;exact this
       go_roundw
       case rel=>exact⟨r.n,s1.set 0 X.y,r.kn,r.zD,zRQ,yV V1.out.1 0 _,(o13 _ (by omega)).trans V1.out.2,Keep.set (p:=⟨w.heap.size,0,none⟩) (zRn.out.trans (Keep.below B12.out)) (Or.inr (Or.inr (lG _))) _,HGY.out,HRG.out.1,HRG.out.2,by omega,HRH.out⟩
       case measure=>rw[wD zRQ,wD HW0.out];have:=HU.out;omega
     ·have n2:(X.op==2)=false:=by simp;omega
      by_cases o11:X.op=11
      ·have b11:(X.op==11)=true:=by simp;omega
       have hRR:=HR3.out;rw[HD.out,if_neg (by simp),HX.out,if_neg o13,if_neg o2,if_pos o11]at hRR;have hpn:pc+1<c.length:=HIo.out.2.2.2.2.2.2.1 (by omega);have zRp:=HIo.out.2.2.2.2.2.1 o11;have hIH:=HIH.out k (by omega);have hg1:Mt.Good c.length zK.size (s1.set 0 (Mt.gt s1 0+1)):=HG.out.1.fC _ (by have:=HPC.out;omega) (by have:=HPC.out;omega);have hrg:=Mt.vI ⟨c,zK,zTM,ar⟩ HE.out.ok k k (s1.set 0 (Mt.gt s1 0+1)) kn2 bH (lG _) hg1 HG2.out.2;have hrn:=Mt.tF ⟨c,zK,zTM,ar⟩ k (s1.set 0 (Mt.gt s1 0+1)) kn2 bH;have hKL:∀z:World,zU z wb gc gi ga gk cc ci ca ck c zK zTM ar zA kn2 bH (U+1) false->Calls Tryz.prog 82 #[.pointer (some ⟨wb,0,none⟩),stV (s1.set 0 (Mt.gt s1 0+1))] z λe w'=>e=.returned (.tuple #[stV (Mt.qO ⟨c,zK,zTM,ar⟩ k (s1.set 0 (Mt.gt s1 0+1)) kn2 bH).st,.bool (Mt.qO ⟨c,zK,zTM,ar⟩ k (s1.set 0 (Mt.gt s1 0+1)) kn2 bH).ok])/\Keep wb gk z w'/\zU w' wb gc gi ga gk cc ci ca ck c zK zTM ar zA (Mt.qO ⟨c,zK,zTM,ar⟩ k (s1.set 0 (Mt.gt s1 0+1)) kn2 bH).kn (Mt.qO ⟨c,zK,zTM,ar⟩ k (s1.set 0 (Mt.gt s1 0+1)) kn2 bH).zD (zA-((Mt.qO ⟨c,zK,zTM,ar⟩ k (s1.set 0 (Mt.gt s1 0+1)) kn2 bH).n:Int)) (Mt.qO ⟨c,zK,zTM,ar⟩ k (s1.set 0 (Mt.gt s1 0+1)) kn2 bH).qI:=λz hz=>hIH z (s1.set 0 (Mt.gt s1 0+1)) kn2 bH (by rw[show zA-((k:Nat):Int)=U+1 by rw[HU.out];omega];exact hz) hg1 HG2.out.1 HG2.out.2
       generalize Mt.qO ⟨c,zK,zTM,ar⟩ k (s1.set 0 (Mt.gt s1 0+1)) kn2 bH=r at *;obtain⟨A,hA⟩:∃A:List Int × Bool,A=if r.qI then(s1,false)else Mt.yU s1 X r.st r.ok:=⟨_,rfl⟩
       have hAl:A.1.length=44:=by
        rw[hA];split
        ·exact HS1.out
        ·unfold Mt.yU;split
         ·simp[hrg.2.2.2.1]
         split
         ·simp[Mt.dS s1 r.st HS1.out hrg.2.2.2.1]
         ·simp[HS1.out]
       have KO:Hid (Calls Tryz.prog 117 #[.pointer (some ⟨wb,0,none⟩),stV s1,zAT X] w8 λe w'=>e=.returned (.tuple #[stV A.1,.bool A.2])/\Keep wb gk w8 w'/\zU w' wb gc gi ga gk cc ci ca ck c zK zTM ar zA r.kn r.zD (zA-(r.n:Int)) r.qI) :=
        zLs HW8.out HE.out s1 r.st A.1 r.ok A.2 X HG.out.1 hrg.2.2.2.1 (λe=>by rw[hA,e];exact⟨rfl,rfl⟩) (λe=>by rw[hA,e];rfl) hKL
       have hRF:A.2=false->R=⟨A.1,false,r.n,r.kn,r.zD,r.qI⟩:=λe=>by
        rw[hRR];rw[hA]at e |-;cases hov:r.qI with
        | true=>rfl
        | false =>
         rw[hov]at e;simp only[Bool.false_eq_true,if_false]at e |-;rw[e];rfl
       have hRT:A.2=true->R=Mt.qO ⟨c,zK,zTM,ar⟩ r.n A.1 r.kn r.zD/\r.qI=false/\Mt.Good c.length zK.size A.1:=λe=>by
        rw[hA]at e |-;cases hov:r.qI with
        | true=>rw[hov]at e;simp at e
        | false =>
         rw[hov]at e hRR;simp only[Bool.false_eq_true,if_false]at e hRR |-;rw[e]at hRR;exact⟨hRR,trivial,Mt.cO HG.out.1 hrg.1 X zRp.1 zRp.2.1 e⟩
       have HO:Hid (A.1.length=44):=hAl;have HRF:Hid (A.2=false->R=⟨A.1,false,r.n,r.kn,r.zD,r.qI⟩):=hRF;have HRT:Hid (A.2=true->R=Mt.qO ⟨c,zK,zTM,ar⟩ r.n A.1 r.kn r.zD/\r.qI=false/\Mt.Good c.length zK.size A.1):=hRT;have HRG:Hid (r.kn.length=c.length*(zK.size+1)*12/\(0<=r.zD/\r.zD<=5000)):=⟨hrg.2.1.trans HG2.out.1,hrg.2.2.1⟩
       have O11:Hid (X.op=11):=o11;clear hRR hAl hA hKL hIH hg1 hrg hRF hRT zRp HR3 o11;go_wp2_with (first|(refine zP (by rfl) (.tmp 3) (by rfl) w.heap.size (by rfl) (by exact HQ8.out.1) (by simp[HS1.out]) ?_) | fail)
       refine KO.out.mono ?_;rintro e w9 ⟨rfl,hk9,hw9⟩;have HW9:Hid (zU w9 wb gc gi ga gk cc ci ca ck c zK zTM ar zA r.kn r.zD (zA-(r.n:Int)) r.qI):=hw9;have HQ9:Hid (w9.heap[w.heap.size]?=some (.cells (s1.map (Value.int .i64)).toArray 139 (0,0))/\w9.heap[w.heap.size+1]?=some zBn):=⟨(hk9.blk _ (by omega) (by omega) (by omega)).trans HQ8.out.1,(hk9.blk _ (by omega) (by omega) (by omega)).trans HQ8.out.2⟩
       have HK9:Hid (Keep wb gk w w9):=HK8.out.trans hk9;have hs9:=hk9.size;clear KO HW8 HQ8 HK8 HX8 y80 y81 y82 y83 hk9 hw9;cases hok:A.2 with
       | false =>
        have HRH:Hid (R=⟨A.1,false,r.n,r.kn,r.zD,r.qI⟩):=HRF.out hok;clear HRF HRT;go_wp2_with (first|(refine zL (by rfl) (.tmp 3) (.tmp 89) (by rfl) w.heap.size (A.1.map (Value.int .i64)).toArray (by rfl) (by rfl) (by exact HQ9.out.1) (by simp[HS1.out]) (by simp[HO.out]) (qD _) ?_;intro w10 r1 r2 r3 r4;have V0:Hid (w10.heap[w.heap.size]?=some (.cells (A.1.map (Value.int .i64)).toArray 139 (0,0))):=(r1);have E10:Hid ((∀k,k≠w.heap.size->w10.heap[k]?=w9.heap[k]?)/\w10.heap.size=w9.heap.size/\Below w.heap.size w9 w10):=(⟨r2,r3,r4 _ (lG _)⟩);clear r1 r2 r3 r4)|(refine zP (by rfl) (.tmp 3) (by rfl) w.heap.size (by rfl) (by exact V0.out) (by simp[HO.out]) ?_)|(refine zL (by rfl) (.tmp 4) (.tmp 93) (by rfl) (w.heap.size+1) _ (by rfl) (by rfl) (by exact(E10.out.1 _ (by omega)).trans HQ9.out.2) (by rfl) (by simp[HO.out]) (qD _) ?_;intro w11 r1 r2 r3 r4) | fail)
        refine bodyPost_ret (pU rfl (by rfl) r1 (by simp[HO.out])) rfl ⟨?_,Keep.whole (Keep.whole HK9.out E10.out.1 E10.out.2.1 E10.out.2.2) r2 r3 (r4 _ (by omega)),?_⟩
        ·rw[HRH.out];rfl
        ·rw[HRH.out];have hx:=HLT.out;have e10:=E10.out.1;exact(HW9.out.mem (e10 _ (by omega)) (e10 _ (by omega)) (e10 _ (by omega)) (e10 _ (by omega)) (e10 _ (by omega))).mem (r2 _ (by omega)) (r2 _ (by omega)) (r2 _ (by omega)) (r2 _ (by omega)) (r2 _ (by omega))
       | true =>
        have hrt:=HRT.out hok;have HRH:Hid (R=Mt.qO ⟨c,zK,zTM,ar⟩ r.n A.1 r.kn r.zD):=hrt.1;have HOV:Hid (r.qI=false):=hrt.2.1;have HGG:Hid (Mt.Good c.length zK.size A.1):=hrt.2.2;clear HRF HRT hrt;go_wp2_with (first|(refine zL (by rfl) (.tmp 3) (.tmp 89) (by rfl) w.heap.size (A.1.map (Value.int .i64)).toArray (by rfl) (by rfl) (by exact HQ9.out.1) (by simp[HS1.out]) (by simp[HO.out]) (qD _) ?_;intro w10 r1 r2 r3 r4;have V0:Hid (w10.heap[w.heap.size]?=some (.cells (A.1.map (Value.int .i64)).toArray 139 (0,0))):=(r1);have E10:Hid ((∀k,k≠w.heap.size->w10.heap[k]?=w9.heap[k]?)/\w10.heap.size=w9.heap.size/\Below w.heap.size w9 w10):=(⟨r2,r3,r4 _ (lG _)⟩);clear r1 r2 r3 r4) | fail)
        have hx:=HLT.out;have e10:=E10.out.1
        have zQv:zU w10 wb gc gi ga gk cc ci ca ck c zK zTM ar zA r.kn r.zD (zA-(r.n:Int)) false:=by
         have:=(HW9.out.mem (e10 _ (by omega)) (e10 _ (by omega)) (e10 _ (by omega)) (e10 _ (by omega)) (e10 _ (by omega)))
         rw[HOV.out]at this;exact this
        go_roundw
        case rel=>exact⟨r.n,A.1,r.kn,r.zD,zQv,V0.out,(e10 _ (by omega)).trans HQ9.out.2,Keep.whole HK9.out e10 E10.out.2.1 E10.out.2.2,HGG.out,HRG.out.1,HRG.out.2,by omega,HRH.out⟩
        case measure=>rw[wD zQv,wD HW0.out];have:=HU.out;omega
      ·have n11:(X.op==11)=false:=by simp;omega
       have hRR:=HR3.out;rw[HD.out,if_neg (by simp),HX.out,if_neg o13,if_neg o2,if_neg o11]at hRR
       have hgd:(Mt.vC zK s1 X).2=true->Mt.Good c.length zK.size (Mt.vC zK s1 X).1:=λhk=>by
        have:=Mt.wC (t:=zK) HE.out.ok HG.out.1 (by rw[HPP.out,HXX.out];exact o2) (by rw[HPP.out,HXX.out];exact o11) (by rw[HPP.out,HXX.out];omega) (by rw[HPP.out,HXX.out];exact hk);rw[HPP.out,HXX.out]at this;exact this
       have hol:(Mt.vC zK s1 X).1.length=44:=by rw[Mt.zFl];exact HS1.out
       have KO:Hid (Calls Tryz.prog 118 #[.pointer (some ⟨wb,0,none⟩),stV s1,zAT X] w8 λe w'=>e=.returned (.tuple #[stV (Mt.vC zK s1 X).1,.bool (Mt.vC zK s1 X).2])/\Below w8.heap.size w8 w'):=zPc HW8.out HE.out s1 HG.out.1 X (by rw[HPP.out];exact HIo.out);generalize Mt.vC zK s1 X=O at *;have HO:Hid (O.1.length=44):=hol;have HGO:Hid (O.2=true->Mt.Good c.length zK.size O.1):=hgd;have HRR:Hid (R=_):=hRR;clear hRR hol hgd;go_wp2_with (first|(refine zP (by rfl) (.tmp 3) (by rfl) w.heap.size (by rfl) (by exact HQ8.out.1) (by simp[HS1.out]) ?_) | fail)
       refine KO.out.mono ?_;rintro e w9 ⟨rfl,hb9⟩;have HW9:Hid (zU w9 wb gc gi ga gk cc ci ca ck c zK zTM ar zA kn2 bH (U+1) false):=HW8.out.below hb9;have HQ9:Hid (w9.heap[w.heap.size]?=some (.cells (s1.map (Value.int .i64)).toArray 139 (0,0))/\w9.heap[w.heap.size+1]?=some zBn):=⟨(hb9.block _ (by omega)).trans HQ8.out.1,(hb9.block _ (by omega)).trans HQ8.out.2⟩
       have HK9:Hid (Keep wb gk w w9):=HK8.out.trans (Keep.below hb9);have hs9:=hb9.size;clear KO HW8 HQ8 HK8 HX8 y80 y81 y82 y83 hb9;cases hok:O.2 with
       | false =>
        have HRF:=HRR.out;rw[hok,if_neg (by simp)]at HRF;have HRG:Hid (R=_):=HRF;clear HRF HRR HGO;go_wp2_with (first|(refine zL (by rfl) (.tmp 3) (.tmp 52) (by rfl) w.heap.size (O.1.map (Value.int .i64)).toArray (by rfl) (by rfl) (by exact HQ9.out.1) (by simp[HS1.out]) (by simp[HO.out]) (qD _) ?_;intro w10 r1 r2 r3 r4;have V0:Hid (w10.heap[w.heap.size]?=some (.cells (O.1.map (Value.int .i64)).toArray 139 (0,0))):=(r1);have E10:Hid ((∀k,k≠w.heap.size->w10.heap[k]?=w9.heap[k]?)/\w10.heap.size=w9.heap.size/\Below w.heap.size w9 w10):=(⟨r2,r3,r4 _ (lG _)⟩);clear r1 r2 r3 r4)|(refine zP (by rfl) (.tmp 3) (by rfl) w.heap.size (by rfl) (by exact V0.out) (by simp[HO.out]) ?_)|(refine zL (by rfl) (.tmp 4) (.tmp 93) (by rfl) (w.heap.size+1) _ (by rfl) (by rfl) (by exact(E10.out.1 _ (by omega)).trans HQ9.out.2) (by rfl) (by simp[HO.out]) (qD _) ?_;intro w11 r1 r2 r3 r4) | fail)
        refine bodyPost_ret (pU rfl (by rfl) r1 (by simp[HO.out])) rfl ⟨?_,Keep.whole (Keep.whole HK9.out E10.out.1 E10.out.2.1 E10.out.2.2) r2 r3 (r4 _ (by omega)),?_⟩
        ·rw[HRG.out];rfl
        ·rw[HRG.out];have hx:=HLT.out;have e10:=E10.out.1;have:=(HW9.out.mem (e10 _ (by omega)) (e10 _ (by omega)) (e10 _ (by omega)) (e10 _ (by omega)) (e10 _ (by omega))).mem (r2 _ (by omega)) (r2 _ (by omega)) (r2 _ (by omega)) (r2 _ (by omega)) (r2 _ (by omega));rw[show U+1=zA-((k:Nat):Int) by rw[HU.out];omega]at this;exact this
       | true =>
        have HRF:=HRR.out;rw[hok,if_pos rfl]at HRF;have HRG:Hid (R=_):=HRF;have HGG:Hid (Mt.Good c.length zK.size O.1):=HGO.out hok;clear HRF HRR HGO;go_wp2_with (first|(refine zL (by rfl) (.tmp 3) (.tmp 52) (by rfl) w.heap.size (O.1.map (Value.int .i64)).toArray (by rfl) (by rfl) (by exact HQ9.out.1) (by simp[HS1.out]) (by simp[HO.out]) (qD _) ?_;intro w10 r1 r2 r3 r4;have V0:Hid (w10.heap[w.heap.size]?=some (.cells (O.1.map (Value.int .i64)).toArray 139 (0,0))):=(r1);have E10:Hid ((∀k,k≠w.heap.size->w10.heap[k]?=w9.heap[k]?)/\w10.heap.size=w9.heap.size/\Below w.heap.size w9 w10):=(⟨r2,r3,r4 _ (lG _)⟩);clear r1 r2 r3 r4) | fail)
        have hx:=HLT.out;have e10:=E10.out.1
        have zQv:zU w10 wb gc gi ga gk cc ci ca ck c zK zTM ar zA kn2 bH (zA-((k:Nat):Int)) false:=by
         have:=(HW9.out.mem (e10 _ (by omega)) (e10 _ (by omega)) (e10 _ (by omega)) (e10 _ (by omega)) (e10 _ (by omega)))
         rw[show U+1=zA-((k:Nat):Int) by rw[HU.out];omega]at this;exact this
        go_roundw
        case rel=>exact⟨k,O.1,kn2,bH,zQv,V0.out,(e10 _ (by omega)).trans HQ9.out.2,Keep.whole HK9.out e10 E10.out.2.1 E10.out.2.2,HGG.out,HG2.out.1,HG2.out.2,by omega,HRG.out⟩
        case measure=>rw[wD zQv,wD HW0.out];have:=HU.out;omega
