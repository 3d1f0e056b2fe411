import Derived.Test.YtebpgfodelggoabGreatC17
set_option linter.unusedVariables false
set_option linter.unusedSimpArgs false
set_option maxRecDepth 100000
set_option maxHeartbeats 40000000
namespace Go.Proofs.YtebpgfodelggoabGreat
open Go.RowKit
def leftOf (wb:Nat) (budget:Int) (w:World):Nat:=match w.cell? ⟨wb,7,none⟩ with
 | some (.int _ u)=>(budget-u).toNat
 | _=>0
section
variable {w:World} {wb gc gi ga gk cc ci ca ck:Nat} {c:List Mt.Ins} {text:ByteArray} {inn:List Bool} {ar:List Int} {budget:Int} {kn:List Bool} {room used:Int} {over:Bool}
theorem zBG (h:zM w wb gc gi ga gk cc ci ca ck c text inn ar budget kn room used over):leftOf wb budget w=(budget-used).toNat:=by
 unfold leftOf
 rw [(zA h.cell).1 7];rfl
theorem zM.drewN (h:zM w wb gc gi ga gk cc ci ca ck c text inn ar budget kn room used over) (n:Nat):zM (w.drewN n) wb gc gi ga gk cc ci ca ck c text inn ar budget kn room used over :=
 h.mem rfl rfl rfl rfl rfl
theorem zM.zTV (h:zM w wb gc gi ga gk cc ci ca ck c text inn ar budget kn room used over) (pc:Nat) (hpc:pc<c.length) :
  w.cell? ⟨gc,pc*4,none⟩=some (.int .i64 (c.getD pc Mt.jB).op)∧w.cell? ⟨gc,pc*4+1,none⟩=some (.int .i64 (c.getD pc Mt.jB).x)∧w.cell? ⟨gc,pc*4+2,none⟩=some (.int .i64 (c.getD pc Mt.jB).y)∧w.cell? ⟨gc,pc*4+3,none⟩=some (.string ⟨(c.getD pc Mt.jB).set.toArray⟩)∧c.length≤cc:=by
 rcases zAt h.code with ⟨e,_⟩ | ⟨_,g,cap,e,h2,_,_,hc⟩
 ·rw [e] at hpc;simp at hpc
 ·simp only [Value.slice.injEq,Option.some.injEq,Addr.mk.injEq,and_true,true_and] at e
  obtain ⟨rfl,rfl⟩:=e
  exact ⟨hc pc 0 hpc (by omega),hc pc 1 hpc (by omega),hc pc 2 hpc (by omega),hc pc 3 hpc (by omega),h2⟩
end
def zGs (wb gc gi ga gk cc ci ca ck:Nat) (c:List Mt.Ins) (text:ByteArray) (inn:List Bool) (ar:List Int) (budget:Int) (n:Nat):Prop :=
 ∀ (w:World) (s:List Int) (kn:List Bool) (room:Int),zM w wb gc gi ga gk cc ci ca ck c text inn ar budget kn room (budget-(n:Int)) false→Mt.Good c.length text.size s→kn.length=c.length*(text.size+1)*12→0≤room∧room≤5000 →
  Calls Tryz.prog 82 #[.pointer (some ⟨wb,0,none⟩),stV s] w fun e w' =>
   e=.returned (.tuple #[stV (Mt.look ⟨c,text,inn,ar⟩ n s kn room).st,.bool (Mt.look ⟨c,text,inn,ar⟩ n s kn room).ok])∧Keep wb gk w w'∧zM w' wb gc gi ga gk cc ci ca ck c text inn ar budget (Mt.look ⟨c,text,inn,ar⟩ n s kn room).kn (Mt.look ⟨c,text,inn,ar⟩ n s kn room).room (budget-((Mt.look ⟨c,text,inn,ar⟩ n s kn room).n:Int)) (Mt.look ⟨c,text,inn,ar⟩ n s kn room).over
def zQD (w:World) (wb gc gi ga gk cc ci ca ck:Nat) (c:List Mt.Ins) (text:ByteArray) (inn:List Bool) (ar:List Int) (budget:Int) (n:Nat) (R:Mt.Res) (wr:World):Prop :=
 ∃ (n1:Nat) (s1:List Int) (kn1:List Bool) (qA:Int),zM wr wb gc gi ga gk cc ci ca ck c text inn ar budget kn1 qA (budget-(n1:Int)) false∧wr.heap[w.heap.size]?=some (.cells (s1.map (Value.int .i64)).toArray 139 (0,0))∧wr.heap[w.heap.size+1]?=some zDc∧Keep wb gk w wr
  ∧ Mt.Good c.length text.size s1∧kn1.length=c.length*(text.size+1)*12∧(0≤qA∧qA≤5000)∧n1≤n∧R=Mt.look ⟨c,text,inn,ar⟩ n1 s1 kn1 qA
theorem Keep.whole {wb gk:Nat} {a b d:World} {q:Nat} (h:Keep wb gk a b) (r2:∀ k,k≠q→d.heap[k]?=b.heap[k]?) (r3:d.heap.size=b.heap.size) (r4:Below a.heap.size b d):Keep wb gk a d :=
 ⟨r4.os.trans h.os,r4.tape.trans h.tape,r4.output.trans h.output,by rw [r3];exact h.size,fun i hi h1 h2=>(r4.block i hi).trans (h.block i hi h1 h2)⟩
theorem zKq (wb gc gi ga gk cc ci ca ck:Nat) (c:List Mt.Ins) (text:ByteArray) (inn:List Bool) (ar:List Int) (budget:Int) (hE:zF6 c text ar) (hb0:0≤budget) (hb1:budget≤10000) (n:Nat) (hn:(n:Int)≤budget)
  (IH:∀ m,m<n→zGs wb gc gi ga gk cc ci ca ck c text inn ar budget m):zGs wb gc gi ga gk cc ci ca ck c text inn ar budget n:=by
 intro w s kn room h hs hkn hr
 have HE:Hid (zF6 c text ar):=hE
 have HIH:Hid (∀ m,m<n→zGs wb gc gi ga gk cc ci ca ck c text inn ar budget m):=IH
 have hlt:=h.lt
 have HLT:Hid (wb<w.heap.size∧gc<w.heap.size∧gi<w.heap.size∧ga<w.heap.size∧gk<w.heap.size):=hlt
 have lwb:wb<w.heap.size:=hlt.1
 have lgk:gk<w.heap.size:=hlt.2.2.2.2
 have HW:Hid (zM w wb gc gi ga gk cc ci ca ck c text inn ar budget kn room (budget-(n:Int)) false):=h
 have HS:Hid (Mt.Good c.length text.size s∧kn.length=c.length*(text.size+1)*12∧(0≤room∧room≤5000)):=⟨hs,hkn,hr⟩
 obtain ⟨R,hR⟩:∃ R,R=Mt.look ⟨c,text,inn,ar⟩ n s kn room:=⟨_,rfl⟩
 rw [← hR]
 have HR:Hid (R=Mt.look ⟨c,text,inn,ar⟩ n s kn room):=hR
 clear h hs hkn hr hlt IH hE hR
 unfold stV
 have hz:=vU
 go_enter Tryz.func82,Tryz.ntmps82
 go_wp2_with fail
 go_loopw [] (fun wr=>zQD w wb gc gi ga gk cc ci ca ck c text inn ar budget n R wr) (fun wr=>leftOf wb budget wr)
 case atStart =>
  have hB:Below w.heap.size w ((w.alloc (.cells (s.map (Value.int .i64)).toArray 139 (0,0))).alloc zDc):=((Below.refl _ _).alloc (Nat.le_refl _) _).alloc (by simp) _
  exact ⟨n,s,kn,room,HW.out.below hB,zCs _ _ _,zBZ _ _ _,Keep.below hB,HS.out.1,HS.out.2.1,HS.out.2.2,Nat.le_refl _,HR.out⟩
 case round =>
  clear HR HS HW
  obtain ⟨n1,s1,kn1,qA,hW,hq0,hq1,hK,hG,hkn,hrm,hn1,hR⟩:=hrel
  have HW:Hid (zM wr wb gc gi ga gk cc ci ca ck c text inn ar budget kn1 qA (budget-(n1:Int)) false):=hW
  have HQ:Hid (wr.heap[w.heap.size]?=some (.cells (s1.map (Value.int .i64)).toArray 139 (0,0))∧wr.heap[w.heap.size+1]?=some zDc):=⟨hq0,hq1⟩
  have HK:Hid (Keep wb gk w wr):=hK
  have HG:Hid (Mt.Good c.length text.size s1∧kn1.length=c.length*(text.size+1)*12∧(0≤qA∧qA≤5000)):=⟨hG,hkn,hrm⟩
  have HS1:Hid (s1.length=44):=hG.len
  have HR:Hid (R=Mt.look ⟨c,text,inn,ar⟩ n1 s1 kn1 qA):=hR
  have hcb:=zA hW.cell
  have c0:wr.cell? ⟨wb,0,none⟩=some (.slice (some ⟨gc,0,none⟩) c.length cc):=hcb.1 0
  have c6:wr.cell? ⟨wb,6,none⟩=some (.int .i64 budget):=hcb.1 6
  have c7:wr.cell? ⟨wb,7,none⟩=some (.int .i64 (budget-(n1:Int))):=hcb.1 7
  have c8:wr.cell? ⟨wb,8,none⟩=some (.bool false):=hcb.1 8
  have z7:wr.frozen? ⟨wb,7,none⟩=false:=hcb.2 7
  have z8:wr.frozen? ⟨wb,8,none⟩=false:=hcb.2 8
  have hsz:w.heap.size+1<wr.heap.size:=(Array.getElem?_eq_some_iff.1 hq1).1
  have lw2:wb<wr.heap.size:=by omega
  clear hcb hW hq0 hq1 hK hG hkn hrm hR
  obtain ⟨U,hU⟩:∃ U:Int,U=budget-(n1:Int):=⟨_,rfl⟩
  rw [← hU] at HW c7
  have HW0:Hid (zM wr wb gc gi ga gk cc ci ca ck c text inn ar budget kn1 qA U false):=HW.out
  have HU:Hid (U=budget-(n1:Int)):=hU
  clear hU
  cases n1 with
  | zero =>
   have hge:budget≤U:=by rw [HU.out];simp
   go_wp2_with fail
   go_quiet (fail)
   go_wp2_with (first | (refine zG (by rfl) (.tmp 3) (by rfl) w.heap.size (by rfl) (by exact (Below.heap_setCell _ _ _ _ (by show w.heap.size≠wb;omega)).trans HQ.out.1) (by simp [HS1.out]) ?_) | (refine zF (by rfl) (.tmp 4) (.tmp 24) (by rfl) (w.heap.size+1) _ (by rfl) (by rfl) (by exact (Below.heap_setCell _ _ _ _ (by show w.heap.size+1≠wb;omega)).trans HQ.out.2) (by rfl) (by simp [HS1.out]) (jD _) ?_;intro w6 r1 r2 r3 r4) | fail)
   have hRR:=HR.out
   rw [Mt.zBE] at hRR
   have hW5:=(HW.out.drewN nq).zOL true
   have hK5:Keep wb gk w ((wr.drewN nq).setCell ⟨wb,8,none⟩ (.bool true)):=Keep.set (p:=⟨wb,8,none⟩) (HK.out.trans (Keep.below (below_drewN (Below.refl _ _) nq))) (Or.inl rfl) _
   generalize (wr.drewN nq).setCell ⟨wb,8,none⟩ (.bool true)=w5 at *
   refine bodyPost_ret (vP rfl (by rfl) r1 (by simp [HS1.out])) rfl ⟨?_,Keep.whole hK5 r2 r3 (r4 _ (by omega)),?_⟩
   ·rw [hRR];rfl
   ·rw [hRR]
    have hx:=HLT.out
    have:=hW5.mem (r2 _ (by omega)) (r2 _ (by omega)) (r2 _ (by omega)) (r2 _ (by omega)) (r2 _ (by omega))
    rw [HU.out] at this
    exact this
  | succ k =>
   have hge:U<budget:=by rw [HU.out];omega
   have hU0:0≤U:=by rw [HU.out];omega
   go_wp2_with fail
   go_quiet (fail)
   go_wp2_with (first | (refine zG (by rfl) (.tmp 3) (by rfl) w.heap.size (by rfl) (by exact (Below.heap_setCell _ _ _ _ (by show w.heap.size≠wb;omega)).trans HQ.out.1) (by simp [HS1.out]) ?_) | fail)
   have hW5:=(HW.out.drewN nq).zOK (U+1)
   have hK5:Keep wb gk w ((wr.drewN nq).setCell ⟨wb,7,none⟩ (.int .i64 (U+1))):=Keep.set (p:=⟨wb,7,none⟩) (HK.out.trans (Keep.below (below_drewN (Below.refl _ _) nq))) (Or.inl rfl) _
   have hq0:((wr.drewN nq).setCell ⟨wb,7,none⟩ (.int .i64 (U+1))).heap[w.heap.size]?=_:=(Below.heap_setCell _ _ _ _ (by show w.heap.size≠wb;omega)).trans HQ.out.1
   have hq1:((wr.drewN nq).setCell ⟨wb,7,none⟩ (.int .i64 (U+1))).heap[w.heap.size+1]?=_:=(Below.heap_setCell _ _ _ _ (by show w.heap.size+1≠wb;omega)).trans HQ.out.2
   generalize (wr.drewN nq).setCell ⟨wb,7,none⟩ (.int .i64 (U+1))=w5 at *
   clear HW HQ HK c0 c6 c7 c8 z7 z8 lw2 hsz
   refine (zOX hW5 HE.out s1 HG.out.1 HG.out.2.1 HG.out.2.2).mono ?_
   rintro e w6 ⟨rfl,hk6,hW6⟩
   have hs5:w.heap.size+1<w5.heap.size:=(Array.getElem?_eq_some_iff.1 hq1).1
   have hs6:w.heap.size+1<w6.heap.size:=by have:=hk6.size;omega
   have HQ:Hid (w6.heap[w.heap.size]?=some (.cells (s1.map (Value.int .i64)).toArray 139 (0,0))∧w6.heap[w.heap.size+1]?=some zDc):=⟨(hk6.blk _ (by omega) (by omega) (by omega)).trans hq0,(hk6.blk _ (by omega) (by omega) (by omega)).trans hq1⟩
   have HK:Hid (Keep wb gk w w6):=hK5.trans hk6
   have HR2:Hid (R=_):=HR.out.trans (Mt.xY _ _ _ _ _)
   have hG2:((Mt.Env.kn' ⟨c,text,inn,ar⟩ s1 kn1 qA).length=c.length*(text.size+1)*12∧(0≤Mt.Env.room' ⟨c,text,inn,ar⟩ s1 kn1 qA∧Mt.Env.room' ⟨c,text,inn,ar⟩ s1 kn1 qA≤5000)):=⟨(Mt.Env.zFj _ _ _ _).trans HG.out.2.1,Mt.Env.zBs _ _ _ _ HG.out.2.2⟩
   generalize Mt.Env.kn' ⟨c,text,inn,ar⟩ s1 kn1 qA=kn2 at *
   generalize Mt.Env.room' ⟨c,text,inn,ar⟩ s1 kn1 qA=zAp at *
   have HW:Hid (zM w6 wb gc gi ga gk cc ci ca ck c text inn ar budget kn2 zAp (U+1) false):=hW6
   have HG2:Hid (kn2.length=c.length*(text.size+1)*12∧(0≤zAp∧zAp≤5000)):=hG2
   obtain ⟨h0,h1,e0,e1,l0,l1⟩:=zG4 HG.out.1
   have hcb:=zA hW6.cell
   have c0:w6.cell? ⟨wb,0,none⟩=some (.slice (some ⟨gc,0,none⟩) c.length cc):=hcb.1 0
   have hI:=hW6.zTV (Mt.kZ s1) l0
   have i0:=hI.1
   have i1:=hI.2.1
   have i2:=hI.2.2.1
   have i3:=hI.2.2.2.1
   have i4:=hI.2.2.2.2
   have cs0:=vL HQ.out.1 0 _ h0
   have zs0:=vV HQ.out.1 0
   have hlen:=HE.out.l
   have lgc:gc<w6.heap.size:=by have:=HLT.out;omega
   have lw2:wb<w6.heap.size:=by omega
   have lw3:w.heap.size<w6.heap.size:=by omega
   have hIo:=HE.out.ok _ l0
   have HX:Hid (Mt.Env.ins ⟨c,text,inn,ar⟩ s1=c.getD (Mt.kZ s1) Mt.jB):=rfl
   have HIo:Hid (Mt.zJs c (Mt.kZ s1) (c.getD (Mt.kZ s1) Mt.jB)):=hIo
   generalize hX:c.getD (Mt.kZ s1) Mt.jB=X at *
   have HXX:Hid (c.getD (Mt.kZ s1) Mt.jB=X):=hX
   have HPC:Hid (((Mt.kZ s1:Nat):Int)=Mt.gt s1 0):=e0
   generalize hpc:Mt.kZ s1=pc at *
   have HPP:Hid (Mt.kZ s1=pc):=hpc
   clear e0 e1 h1 l1 hpc
   clear hX hcb hI hIo hk6 hK5 hW5 hW6 hq0 hq1 HR w5 hs5 hG2
   cases hD:Mt.Env.dead ⟨c,text,inn,ar⟩ s1 kn1 with
   | true =>
    have hRR:=HR2.out
    rw [hD,if_pos rfl] at hRR
    clear cs0 zs0 i0 i1 i2 i3 c0 HR2
    go_wp2_with (first | (refine zG (by rfl) (.tmp 3) (by rfl) w.heap.size (by rfl) (by exact HQ.out.1) (by simp [HS1.out]) ?_) | (refine zF (by rfl) (.tmp 4) (.tmp 36) (by rfl) (w.heap.size+1) _ (by rfl) (by rfl) (by exact HQ.out.2) (by rfl) (by simp [HS1.out]) (jD _) ?_;intro w7 r1 r2 r3 r4) | fail)
    refine bodyPost_ret (vP rfl (by rfl) r1 (by simp [HS1.out])) rfl ⟨?_,Keep.whole HK.out r2 r3 (r4 _ (by omega)),?_⟩
    ·rw [hRR];rfl
    ·rw [hRR]
     have hx:=HLT.out
     have:=HW.out.mem (r2 _ (by omega)) (r2 _ (by omega)) (r2 _ (by omega)) (r2 _ (by omega)) (r2 _ (by omega))
     rw [show U+1=budget-((k:Nat):Int) by rw [HU.out];omega] at this
     exact this
   | false =>
    have HD:Hid (Mt.Env.dead ⟨c,text,inn,ar⟩ s1 kn1=false):=hD
    clear hD
    go_wp2_with fail
    go_region
    have hB8:Below w6.heap.size w6 (w6.alloc (.cells #[.int .i64 X.op,.int .i64 X.x,.int .i64 X.y,.string ⟨X.set.toArray⟩] 48 (0,0))).drew:=((Below.refl _ _).alloc (Nat.le_refl _) _).drew
    have hx8:(w6.alloc (.cells #[.int .i64 X.op,.int .i64 X.x,.int .i64 X.y,.string ⟨X.set.toArray⟩] 48 (0,0))).drew.heap[w6.heap.size]?=some (.cells #[.int .i64 X.op,.int .i64 X.x,.int .i64 X.y,.string ⟨X.set.toArray⟩] 48 (0,0)):=heap_alloc_new _ _
    have hs8:(w6.alloc (.cells #[.int .i64 X.op,.int .i64 X.x,.int .i64 X.y,.string ⟨X.set.toArray⟩] 48 (0,0))).drew.heap.size=w6.heap.size+1:=by simp
    generalize hw8:(w6.alloc (.cells #[.int .i64 X.op,.int .i64 X.x,.int .i64 X.y,.string ⟨X.set.toArray⟩] 48 (0,0))).drew=w8 at *
    have HW8:Hid (zM w8 wb gc gi ga gk cc ci ca ck c text inn ar budget kn2 zAp (U+1) false):=HW.out.below hB8
    have HQ8:Hid (w8.heap[w.heap.size]?=some (.cells (s1.map (Value.int .i64)).toArray 139 (0,0))∧w8.heap[w.heap.size+1]?=some zDc):=⟨(hB8.block _ (by omega)).trans HQ.out.1,(hB8.block _ (by omega)).trans HQ.out.2⟩
    have HK8:Hid (Keep wb gk w w8):=HK.out.trans (Keep.below hB8)
    have HX8:Hid (w8.heap[w6.heap.size]?=some (.cells #[.int .i64 X.op,.int .i64 X.x,.int .i64 X.y,.string ⟨X.set.toArray⟩] 48 (0,0))):=hx8
    have y80:w8.cell? ⟨w6.heap.size,0,none⟩=some (.int .i64 X.op):=(zA hx8).1 0
    have y81:w8.cell? ⟨w6.heap.size,1,none⟩=some (.int .i64 X.x):=(zA hx8).1 1
    have y82:w8.cell? ⟨w6.heap.size,2,none⟩=some (.int .i64 X.y):=(zA hx8).1 2
    have y83:w8.cell? ⟨w6.heap.size,3,none⟩=some (.string ⟨X.set.toArray⟩):=(zA hx8).1 3
    have lBx:w.heap.size+1<w6.heap.size:=hs6
    have lB8:w6.heap.size<w8.heap.size:=by omega
    have HS8:Hid (w8.heap.size=w6.heap.size+1):=hs8
    clear hs8
    generalize hBx:w6.heap.size=Bx at *
    clear hw8 hB8 hx8 HW HQ HK cs0 zs0 i0 i1 i2 i3 i4 c0 lgc lw2 lw3 hs6 hBx
    have HR3:Hid (R=_):=HR2.out
    clear HR2
    by_cases o13:X.op=13∨X.op=12
    ·have hRR:=HR3.out
     rw [HD.out,if_neg (by simp),HX.out,if_pos o13] at hRR
     have oo:((X.op==13)=true)∨((X.op==13)=false∧(X.op==12)=true):=by simp;omega
     rcases oo with o | ⟨o,o'⟩
     all_goals
      go_wp2_with (first | (refine zG (by rfl) (.tmp 3) (by rfl) w.heap.size (by rfl) (by exact HQ8.out.1) (by simp [HS1.out]) ?_) | (refine zF (by rfl) (.tmp 4) (.tmp 57) (by rfl) (w.heap.size+1) _ (by rfl) (by rfl) (by exact HQ8.out.2) (by rfl) (by simp [HS1.out]) (jD _) ?_;intro w9 r1 r2 r3 r4) | fail)
      refine bodyPost_ret (vP rfl (by rfl) r1 (by simp [HS1.out])) rfl ⟨?_,Keep.whole HK8.out r2 r3 (r4 _ (by omega)),?_⟩
      ·rw [hRR];rfl
      ·rw [hRR]
       have hx:=HLT.out
       have:=HW8.out.mem (r2 _ (by omega)) (r2 _ (by omega)) (r2 _ (by omega)) (r2 _ (by omega)) (r2 _ (by omega))
       rw [show U+1=budget-((k:Nat):Int) by rw [HU.out];omega] at this
       exact this
    ·have n13:(X.op==13)=false:=by simp;omega
     have n12:(X.op==12)=false:=by simp;omega
     by_cases o2:X.op=2
     ·have b2:(X.op==2)=true:=by simp;omega
      have hRR:=HR3.out
      rw [HD.out,if_neg (by simp),HX.out,if_neg o13,if_pos o2] at hRR
      have hi2:=HIo.out.1 o2
      have hIH:=HIH.out k (by omega)
      have hg1:Mt.Good c.length text.size (s1.set 0 X.x):=HG.out.1.xS _ hi2.1 hi2.2.1
      have hrg:=Mt.yC ⟨c,text,inn,ar⟩ HE.out.ok k k (s1.set 0 X.x) kn2 zAp (Nat.le_refl _) hg1 HG2.out.2
      have hrn:=Mt.zBr ⟨c,text,inn,ar⟩ k (s1.set 0 X.x) kn2 zAp
      have hKL:∀ z:World,zM z wb gc gi ga gk cc ci ca ck c text inn ar budget kn2 zAp (U+1) false→Calls Tryz.prog 82 #[.pointer (some ⟨wb,0,none⟩),stV (s1.set 0 X.x)] z fun e w'=>e=.returned (.tuple #[stV (Mt.look ⟨c,text,inn,ar⟩ k (s1.set 0 X.x) kn2 zAp).st,.bool (Mt.look ⟨c,text,inn,ar⟩ k (s1.set 0 X.x) kn2 zAp).ok])∧Keep wb gk z w'∧zM w' wb gc gi ga gk cc ci ca ck c text inn ar budget (Mt.look ⟨c,text,inn,ar⟩ k (s1.set 0 X.x) kn2 zAp).kn (Mt.look ⟨c,text,inn,ar⟩ k (s1.set 0 X.x) kn2 zAp).room (budget-((Mt.look ⟨c,text,inn,ar⟩ k (s1.set 0 X.x) kn2 zAp).n:Int)) (Mt.look ⟨c,text,inn,ar⟩ k (s1.set 0 X.x) kn2 zAp).over:=fun z hz=>hIH z (s1.set 0 X.x) kn2 zAp (by rw [show budget-((k:Nat):Int)=U+1 by rw [HU.out];omega];exact hz) hg1 HG2.out.1 HG2.out.2
      generalize Mt.look ⟨c,text,inn,ar⟩ k (s1.set 0 X.x) kn2 zAp=r at *
      have HKL:Hid (∀ z:World,zM z wb gc gi ga gk cc ci ca ck c text inn ar budget kn2 zAp (U+1) false→Calls Tryz.prog 82 #[.pointer (some ⟨wb,0,none⟩),stV (s1.set 0 X.x)] z fun e w'=>e=.returned (.tuple #[stV r.st,.bool r.ok])∧Keep wb gk z w'∧zM w' wb gc gi ga gk cc ci ca ck c text inn ar budget r.kn r.room (budget-(r.n:Int)) r.over):=hKL
      have HRG:Hid (r.kn.length=c.length*(text.size+1)*12∧(0≤r.room∧r.room≤5000)):=⟨hrg.2.1.trans HG2.out.1,hrg.2.2.1⟩
      have HRL:Hid (r.st.length=44):=hrg.2.2.2.1
      have HRR:Hid (R=if (r.ok||r.over)=true then r else Mt.look ⟨c,text,inn,ar⟩ r.n (s1.set 0 X.y) r.kn r.room):=hRR
      have HGY:Hid (Mt.Good c.length text.size (s1.set 0 X.y)):=HG.out.1.xS _ hi2.2.2.1 hi2.2.2.2
      clear hRR hKL hIH hg1 hrg hi2 HR3
      go_wp2_with (first | (refine zG (by rfl) (.tmp 3) (by rfl) w.heap.size (by rfl) (by exact HQ8.out.1) (by simp [HS1.out]) ?_) | (refine zF (by rfl) (.tmp 9) (.tmp 60) (by rfl) w8.heap.size _ (by rfl) (by rfl) (by exact heap_alloc_new _ _) (by rfl) (by simp [HS1.out]) (jD _) ?_;intro w9 r1 r2 r3 r4;have B9:Hid (Below w8.heap.size w8 w9):=(((Below.refl _ _).alloc (Nat.le_refl _) _).trans (r4 _ (Nat.le_refl _)));have V9:Hid (w9.heap[w8.heap.size]?=some (.cells (s1.map (Value.int .i64)).toArray 139 (0,0))):=(r1);have c90:=(vL r1 0 _ h0);have z90:=(vV r1 0);have x91:w9.cell? ⟨Bx,1,none⟩=some (.int .i64 X.x):=((zA ((B9.out.block _ (by omega)).trans HX8.out)).1 1);have s9:w9.heap.size=w8.heap.size+1:=(by simpa using r3);have l91:Bx<w9.heap.size:=(by omega);have l92:w8.heap.size<w9.heap.size:=(by omega);clear r1 r2 r3 r4) | (refine zG (by rfl) (.tmp 9) (by rfl) w8.heap.size (by rfl) (by exact qK V9.out 0 _) (by simp [HS1.out]) ?_) | fail)
      have zQE:Below w8.heap.size w8 (w9.setCell ⟨w8.heap.size,0,none⟩ (.int .i64 X.x)):=B9.out.setCell (p:=⟨w8.heap.size,0,none⟩) (Nat.le_refl _) _
      generalize w9.setCell ⟨w8.heap.size,0,none⟩ (.int .i64 X.x)=w10 at *
      rw [jE]
      refine (HKL.out w10 (HW8.out.below zQE)).mono ?_
      rintro e w11 ⟨rfl,zRA,zTl⟩
      have zUz:=zQE.size
      have zUA:=zRA.size
      have zSS:Hid (Keep wb gk w w11):=(HK8.out.trans (Keep.below zQE)).trans zRA
      have zRB:Hid (w11.heap[w.heap.size]?=some (.cells (s1.map (Value.int .i64)).toArray 139 (0,0))∧w11.heap[w.heap.size+1]?=some zDc):=⟨((zRA.blk _ (by omega) (by omega) (by omega)).trans (zQE.block _ (by omega))).trans HQ8.out.1,((zRA.blk _ (by omega) (by omega) (by omega)).trans (zQE.block _ (by omega))).trans HQ8.out.2⟩
      have zST:Hid (w11.heap[Bx]?=some (.cells #[.int .i64 X.op,.int .i64 X.x,.int .i64 X.y,.string ⟨X.set.toArray⟩] 48 (0,0))):=((zRA.blk _ (by omega) (by omega) (by omega)).trans (zQE.block _ (by omega))).trans HX8.out
      have zRC:Hid (zM w11 wb gc gi ga gk cc ci ca ck c text inn ar budget r.kn r.room (budget-(r.n:Int)) r.over):=zTl
      clear zRA zTl zQE B9 V9 c90 z90 x91 s9 l91 l92 w9 HKL HW8 HQ8 HK8 HX8 y80 y81 y82 y83
      have hcs:(r.ok=true)∨(r.ok=false∧r.over=true)∨(r.ok=false∧r.over=false):=by cases r.ok <;> cases r.over <;> simp
      rcases hcs with ok | ⟨ok,ov⟩ | ⟨ok,ov⟩
      ·have HRH:Hid (R=r):=by show _=_;rw [HRR.out,ok];rfl
       clear HRR
       go_wp2_with (first | (refine zF (by rfl) (.tmp 10) (.tmp 68) (by rfl) w11.heap.size (r.st.map (Value.int .i64)).toArray (by rfl) (by rfl) (by exact heap_alloc_new _ _) (by rfl) (by simp [HRL.out]) (jD _) ?_;intro w12 r1 r2 r3 r4;have B12:Hid (Below w11.heap.size w11 w12):=(((Below.refl _ _).alloc (Nat.le_refl _) _).trans (r4 _ (Nat.le_refl _)));have V0:Hid (w12.heap[w11.heap.size]?=some (.cells (r.st.map (Value.int .i64)).toArray 139 (0,0))):=(r1);have V1:Hid (w12.heap[w.heap.size]?=some (.cells (s1.map (Value.int .i64)).toArray 139 (0,0))∧w12.heap[w.heap.size+1]?=some zDc):=(⟨(B12.out.block _ (by omega)).trans zRB.out.1,(B12.out.block _ (by omega)).trans zRB.out.2⟩);have k8:w12.cell? ⟨wb,8,none⟩=some (.bool r.over):=((zA (zRC.out.below B12.out).cell).1 8);have x2:w12.cell? ⟨Bx,2,none⟩=some (.int .i64 X.y):=((zA ((B12.out.block _ (by omega)).trans zST.out)).1 2);have cN:=(vL V1.out.1 0 _ h0);have zN:=(vV V1.out.1 0);have s12:w12.heap.size=w11.heap.size+1:=(by simpa using r3);have l1:wb<w12.heap.size:=(by omega);have l2:Bx<w12.heap.size:=(by omega);have l3:w.heap.size<w12.heap.size:=(by omega);clear r1 r2 r3 r4) | (refine zG (by rfl) (.tmp 10) (by rfl) w11.heap.size (by rfl) (by exact V0.out) (by simp [HRL.out]) ?_) | (refine zF (by rfl) (.tmp 4) (.tmp 77) (by rfl) (w.heap.size+1) _ (by rfl) (by rfl) (by exact V1.out.2) (by rfl) (by simp [HRL.out]) (jD _) ?_;intro w13 r1 r2 r3 r4) | fail)
       refine bodyPost_ret (vP rfl (by rfl) r1 (by simp [HRL.out])) rfl ⟨?_,Keep.whole (zSS.out.trans (Keep.below B12.out)) r2 r3 (r4 _ (by omega)),?_⟩
       ·rw [HRH.out,ok];rfl
       ·rw [HRH.out]
        have hx:=HLT.out
        exact (zRC.out.below B12.out).mem (r2 _ (by omega)) (r2 _ (by omega)) (r2 _ (by omega)) (r2 _ (by omega)) (r2 _ (by omega))
      ·have HRH:Hid (R=r):=by show _=_;rw [HRR.out,ok,ov];rfl
       clear HRR
       go_wp2_with (first | (refine zF (by rfl) (.tmp 10) (.tmp 68) (by rfl) w11.heap.size (r.st.map (Value.int .i64)).toArray (by rfl) (by rfl) (by exact heap_alloc_new _ _) (by rfl) (by simp [HRL.out]) (jD _) ?_;intro w12 r1 r2 r3 r4;have B12:Hid (Below w11.heap.size w11 w12):=(((Below.refl _ _).alloc (Nat.le_refl _) _).trans (r4 _ (Nat.le_refl _)));have V0:Hid (w12.heap[w11.heap.size]?=some (.cells (r.st.map (Value.int .i64)).toArray 139 (0,0))):=(r1);have V1:Hid (w12.heap[w.heap.size]?=some (.cells (s1.map (Value.int .i64)).toArray 139 (0,0))∧w12.heap[w.heap.size+1]?=some zDc):=(⟨(B12.out.block _ (by omega)).trans zRB.out.1,(B12.out.block _ (by omega)).trans zRB.out.2⟩);have k8:w12.cell? ⟨wb,8,none⟩=some (.bool r.over):=((zA (zRC.out.below B12.out).cell).1 8);have x2:w12.cell? ⟨Bx,2,none⟩=some (.int .i64 X.y):=((zA ((B12.out.block _ (by omega)).trans zST.out)).1 2);have cN:=(vL V1.out.1 0 _ h0);have zN:=(vV V1.out.1 0);have s12:w12.heap.size=w11.heap.size+1:=(by simpa using r3);have l1:wb<w12.heap.size:=(by omega);have l2:Bx<w12.heap.size:=(by omega);have l3:w.heap.size<w12.heap.size:=(by omega);clear r1 r2 r3 r4) | (refine zG (by rfl) (.tmp 10) (by rfl) w11.heap.size (by rfl) (by exact V0.out) (by simp [HRL.out]) ?_) | (refine zF (by rfl) (.tmp 4) (.tmp 77) (by rfl) (w.heap.size+1) _ (by rfl) (by rfl) (by exact V1.out.2) (by rfl) (by simp [HRL.out]) (jD _) ?_;intro w13 r1 r2 r3 r4) | fail)
       refine bodyPost_ret (vP rfl (by rfl) r1 (by simp [HRL.out])) rfl ⟨?_,Keep.whole (zSS.out.trans (Keep.below B12.out)) r2 r3 (r4 _ (by omega)),?_⟩
       ·rw [HRH.out,ok];rfl
       ·rw [HRH.out]
        have hx:=HLT.out
        exact (zRC.out.below B12.out).mem (r2 _ (by omega)) (r2 _ (by omega)) (r2 _ (by omega)) (r2 _ (by omega)) (r2 _ (by omega))
      ·have HRH:Hid (R=Mt.look ⟨c,text,inn,ar⟩ r.n (s1.set 0 X.y) r.kn r.room):=by show _=_;rw [HRR.out,ok,ov];rfl
       have HOV:Hid (r.over=false):=ov
       clear HRR
       go_wp2_with (first | (refine zF (by rfl) (.tmp 10) (.tmp 68) (by rfl) w11.heap.size (r.st.map (Value.int .i64)).toArray (by rfl) (by rfl) (by exact heap_alloc_new _ _) (by rfl) (by simp [HRL.out]) (jD _) ?_;intro w12 r1 r2 r3 r4;have B12:Hid (Below w11.heap.size w11 w12):=(((Below.refl _ _).alloc (Nat.le_refl _) _).trans (r4 _ (Nat.le_refl _)));have V0:Hid (w12.heap[w11.heap.size]?=some (.cells (r.st.map (Value.int .i64)).toArray 139 (0,0))):=(r1);have V1:Hid (w12.heap[w.heap.size]?=some (.cells (s1.map (Value.int .i64)).toArray 139 (0,0))∧w12.heap[w.heap.size+1]?=some zDc):=(⟨(B12.out.block _ (by omega)).trans zRB.out.1,(B12.out.block _ (by omega)).trans zRB.out.2⟩);have k8:w12.cell? ⟨wb,8,none⟩=some (.bool r.over):=((zA (zRC.out.below B12.out).cell).1 8);have x2:w12.cell? ⟨Bx,2,none⟩=some (.int .i64 X.y):=((zA ((B12.out.block _ (by omega)).trans zST.out)).1 2);have cN:=(vL V1.out.1 0 _ h0);have zN:=(vV V1.out.1 0);have s12:w12.heap.size=w11.heap.size+1:=(by simpa using r3);have l1:wb<w12.heap.size:=(by omega);have l2:Bx<w12.heap.size:=(by omega);have l3:w.heap.size<w12.heap.size:=(by omega);clear r1 r2 r3 r4) | fail)
       have hx:=HLT.out
       have o13:∀ k,k≠w.heap.size→(w12.setCell ⟨w.heap.size,0,none⟩ (.int .i64 X.y)).heap[k]?=w12.heap[k]?:=fun k hk=>Below.heap_setCell _ _ _ _ hk
       have zTW:=zRC.out.below B12.out
       have zTm:zM (w12.setCell ⟨w.heap.size,0,none⟩ (.int .i64 X.y)) wb gc gi ga gk cc ci ca ck c text inn ar budget r.kn r.room (budget-(r.n:Int)) false:=by
        have:=zTW.mem (o13 _ (by omega)) (o13 _ (by omega)) (o13 _ (by omega)) (o13 _ (by omega)) (o13 _ (by omega))
        rw [HOV.out] at this
        exact this
       go_roundw
       case rel=>exact ⟨r.n,s1.set 0 X.y,r.kn,r.room,zTm,qK V1.out.1 0 _,(o13 _ (by omega)).trans V1.out.2,Keep.set (p:=⟨w.heap.size,0,none⟩) (zSS.out.trans (Keep.below B12.out)) (Or.inr (Or.inr (Nat.le_refl _))) _,HGY.out,HRG.out.1,HRG.out.2,by omega,HRH.out⟩
       case measure=>rw [zBG zTm,zBG HW0.out];have:=HU.out;omega
     ·have n2:(X.op==2)=false:=by simp;omega
      by_cases o11:X.op=11
      ·have b11:(X.op==11)=true:=by simp;omega
       have hRR:=HR3.out
       rw [HD.out,if_neg (by simp),HX.out,if_neg o13,if_neg o2,if_pos o11] at hRR
       have hpn:pc+1<c.length:=HIo.out.2.2.2.2.2.2.1 (by omega)
       have zSU:=HIo.out.2.2.2.2.2.1 o11
       have hIH:=HIH.out k (by omega)
       have hg1:Mt.Good c.length text.size (s1.set 0 (Mt.gt s1 0+1)):=HG.out.1.xS _ (by have:=HPC.out;omega) (by have:=HPC.out;omega)
       have hrg:=Mt.yC ⟨c,text,inn,ar⟩ HE.out.ok k k (s1.set 0 (Mt.gt s1 0+1)) kn2 zAp (Nat.le_refl _) hg1 HG2.out.2
       have hrn:=Mt.zBr ⟨c,text,inn,ar⟩ k (s1.set 0 (Mt.gt s1 0+1)) kn2 zAp
       have hKL:∀ z:World,zM z wb gc gi ga gk cc ci ca ck c text inn ar budget kn2 zAp (U+1) false→Calls Tryz.prog 82 #[.pointer (some ⟨wb,0,none⟩),stV (s1.set 0 (Mt.gt s1 0+1))] z fun e w'=>e=.returned (.tuple #[stV (Mt.look ⟨c,text,inn,ar⟩ k (s1.set 0 (Mt.gt s1 0+1)) kn2 zAp).st,.bool (Mt.look ⟨c,text,inn,ar⟩ k (s1.set 0 (Mt.gt s1 0+1)) kn2 zAp).ok])∧Keep wb gk z w'∧zM w' wb gc gi ga gk cc ci ca ck c text inn ar budget (Mt.look ⟨c,text,inn,ar⟩ k (s1.set 0 (Mt.gt s1 0+1)) kn2 zAp).kn (Mt.look ⟨c,text,inn,ar⟩ k (s1.set 0 (Mt.gt s1 0+1)) kn2 zAp).room (budget-((Mt.look ⟨c,text,inn,ar⟩ k (s1.set 0 (Mt.gt s1 0+1)) kn2 zAp).n:Int)) (Mt.look ⟨c,text,inn,ar⟩ k (s1.set 0 (Mt.gt s1 0+1)) kn2 zAp).over:=fun z hz=>hIH z (s1.set 0 (Mt.gt s1 0+1)) kn2 zAp (by rw [show budget-((k:Nat):Int)=U+1 by rw [HU.out];omega];exact hz) hg1 HG2.out.1 HG2.out.2
       generalize Mt.look ⟨c,text,inn,ar⟩ k (s1.set 0 (Mt.gt s1 0+1)) kn2 zAp=r at *
       obtain ⟨A,hA⟩:∃ A:List Int × Bool,A=if r.over then (s1,false) else Mt.qJ s1 X r.st r.ok:=⟨_,rfl⟩
       have hAl:A.1.length=44:=by
        rw [hA]
        split
        ·exact HS1.out
        ·unfold Mt.qJ
         split
         ·simp [hrg.2.2.2.1]
         split
         ·simp [Mt.xI s1 r.st HS1.out hrg.2.2.2.1]
         ·simp [HS1.out]
       have KO:Hid (Calls Tryz.prog 117 #[.pointer (some ⟨wb,0,none⟩),stV s1,zCM X] w8 fun e w'=>e=.returned (.tuple #[stV A.1,.bool A.2])∧Keep wb gk w8 w'∧zM w' wb gc gi ga gk cc ci ca ck c text inn ar budget r.kn r.room (budget-(r.n:Int)) r.over) :=
        zMS HW8.out HE.out s1 r.st A.1 r.ok A.2 X HG.out.1 hrg.2.2.2.1 (fun e=>by rw [hA,e];exact ⟨rfl,rfl⟩) (fun e=>by rw [hA,e];rfl) hKL
       have hRF:A.2=false→R=⟨A.1,false,r.n,r.kn,r.room,r.over⟩:=fun e=>by
        rw [hRR]
        rw [hA] at e ⊢
        cases hov:r.over with
        | true=>rfl
        | false =>
         rw [hov] at e
         simp only [Bool.false_eq_true,if_false] at e ⊢
         rw [e];rfl
       have hRT:A.2=true→R=Mt.look ⟨c,text,inn,ar⟩ r.n A.1 r.kn r.room∧r.over=false∧Mt.Good c.length text.size A.1:=fun e=>by
        rw [hA] at e ⊢
        cases hov:r.over with
        | true=>rw [hov] at e;simp at e
        | false =>
         rw [hov] at e hRR
         simp only [Bool.false_eq_true,if_false] at e hRR ⊢
         rw [e] at hRR
         exact ⟨hRR,trivial,Mt.zAK HG.out.1 hrg.1 X zSU.1 zSU.2.1 e⟩
       have HO:Hid (A.1.length=44):=hAl
       have HRF:Hid (A.2=false→R=⟨A.1,false,r.n,r.kn,r.room,r.over⟩):=hRF
       have HRT:Hid (A.2=true→R=Mt.look ⟨c,text,inn,ar⟩ r.n A.1 r.kn r.room∧r.over=false∧Mt.Good c.length text.size A.1):=hRT
       have HRG:Hid (r.kn.length=c.length*(text.size+1)*12∧(0≤r.room∧r.room≤5000)):=⟨hrg.2.1.trans HG2.out.1,hrg.2.2.1⟩
       have O11:Hid (X.op=11):=o11
       clear hRR hAl hA hKL hIH hg1 hrg hRF hRT zSU HR3 o11
       go_wp2_with (first | (refine zG (by rfl) (.tmp 3) (by rfl) w.heap.size (by rfl) (by exact HQ8.out.1) (by simp [HS1.out]) ?_) | fail)
       refine KO.out.mono ?_
       rintro e w9 ⟨rfl,hk9,hw9⟩
       have HW9:Hid (zM w9 wb gc gi ga gk cc ci ca ck c text inn ar budget r.kn r.room (budget-(r.n:Int)) r.over):=hw9
       have HQ9:Hid (w9.heap[w.heap.size]?=some (.cells (s1.map (Value.int .i64)).toArray 139 (0,0))∧w9.heap[w.heap.size+1]?=some zDc):=⟨(hk9.blk _ (by omega) (by omega) (by omega)).trans HQ8.out.1,(hk9.blk _ (by omega) (by omega) (by omega)).trans HQ8.out.2⟩
       have HK9:Hid (Keep wb gk w w9):=HK8.out.trans hk9
       have hs9:=hk9.size
       clear KO HW8 HQ8 HK8 HX8 y80 y81 y82 y83 hk9 hw9
       cases hok:A.2 with
       | false =>
        have HRH:Hid (R=⟨A.1,false,r.n,r.kn,r.room,r.over⟩):=HRF.out hok
        clear HRF HRT
        go_wp2_with (first | (refine zF (by rfl) (.tmp 3) (.tmp 89) (by rfl) w.heap.size (A.1.map (Value.int .i64)).toArray (by rfl) (by rfl) (by exact HQ9.out.1) (by simp [HS1.out]) (by simp [HO.out]) (jD _) ?_;intro w10 r1 r2 r3 r4;have V0:Hid (w10.heap[w.heap.size]?=some (.cells (A.1.map (Value.int .i64)).toArray 139 (0,0))):=(r1);have E10:Hid ((∀ k,k≠w.heap.size→w10.heap[k]?=w9.heap[k]?)∧w10.heap.size=w9.heap.size∧Below w.heap.size w9 w10):=(⟨r2,r3,r4 _ (Nat.le_refl _)⟩);clear r1 r2 r3 r4) | (refine zG (by rfl) (.tmp 3) (by rfl) w.heap.size (by rfl) (by exact V0.out) (by simp [HO.out]) ?_) | (refine zF (by rfl) (.tmp 4) (.tmp 93) (by rfl) (w.heap.size+1) _ (by rfl) (by rfl) (by exact (E10.out.1 _ (by omega)).trans HQ9.out.2) (by rfl) (by simp [HO.out]) (jD _) ?_;intro w11 r1 r2 r3 r4) | fail)
        refine bodyPost_ret (vP rfl (by rfl) r1 (by simp [HO.out])) rfl ⟨?_,Keep.whole (Keep.whole HK9.out E10.out.1 E10.out.2.1 E10.out.2.2) r2 r3 (r4 _ (by omega)),?_⟩
        ·rw [HRH.out];rfl
        ·rw [HRH.out]
         have hx:=HLT.out
         have e10:=E10.out.1
         exact (HW9.out.mem (e10 _ (by omega)) (e10 _ (by omega)) (e10 _ (by omega)) (e10 _ (by omega)) (e10 _ (by omega))).mem (r2 _ (by omega)) (r2 _ (by omega)) (r2 _ (by omega)) (r2 _ (by omega)) (r2 _ (by omega))
       | true =>
        have hrt:=HRT.out hok
        have HRH:Hid (R=Mt.look ⟨c,text,inn,ar⟩ r.n A.1 r.kn r.room):=hrt.1
        have HOV:Hid (r.over=false):=hrt.2.1
        have HGG:Hid (Mt.Good c.length text.size A.1):=hrt.2.2
        clear HRF HRT hrt
        go_wp2_with (first | (refine zF (by rfl) (.tmp 3) (.tmp 89) (by rfl) w.heap.size (A.1.map (Value.int .i64)).toArray (by rfl) (by rfl) (by exact HQ9.out.1) (by simp [HS1.out]) (by simp [HO.out]) (jD _) ?_;intro w10 r1 r2 r3 r4;have V0:Hid (w10.heap[w.heap.size]?=some (.cells (A.1.map (Value.int .i64)).toArray 139 (0,0))):=(r1);have E10:Hid ((∀ k,k≠w.heap.size→w10.heap[k]?=w9.heap[k]?)∧w10.heap.size=w9.heap.size∧Below w.heap.size w9 w10):=(⟨r2,r3,r4 _ (Nat.le_refl _)⟩);clear r1 r2 r3 r4) | fail)
        have hx:=HLT.out
        have e10:=E10.out.1
        have zRX:zM w10 wb gc gi ga gk cc ci ca ck c text inn ar budget r.kn r.room (budget-(r.n:Int)) false:=by
         have:=(HW9.out.mem (e10 _ (by omega)) (e10 _ (by omega)) (e10 _ (by omega)) (e10 _ (by omega)) (e10 _ (by omega)))
         rw [HOV.out] at this
         exact this
        go_roundw
        case rel=>exact ⟨r.n,A.1,r.kn,r.room,zRX,V0.out,(e10 _ (by omega)).trans HQ9.out.2,Keep.whole HK9.out e10 E10.out.2.1 E10.out.2.2,HGG.out,HRG.out.1,HRG.out.2,by omega,HRH.out⟩
        case measure=>rw [zBG zRX,zBG HW0.out];have:=HU.out;omega
      ·have n11:(X.op==11)=false:=by simp;omega
       have hRR:=HR3.out
       rw [HD.out,if_neg (by simp),HX.out,if_neg o13,if_neg o2,if_neg o11] at hRR
       have hgd:(Mt.qP text s1 X).2=true→Mt.Good c.length text.size (Mt.qP text s1 X).1:=fun hk=>by
        have:=Mt.zBF (t:=text) HE.out.ok HG.out.1 (by rw [HPP.out,HXX.out];exact o2) (by rw [HPP.out,HXX.out];exact o11) (by rw [HPP.out,HXX.out];omega) (by rw [HPP.out,HXX.out];exact hk)
        rw [HPP.out,HXX.out] at this;exact this
       have hol:(Mt.qP text s1 X).1.length=44:=by rw [Mt.zG0];exact HS1.out
       have KO:Hid (Calls Tryz.prog 118 #[.pointer (some ⟨wb,0,none⟩),stV s1,zCM X] w8 fun e w'=>e=.returned (.tuple #[stV (Mt.qP text s1 X).1,.bool (Mt.qP text s1 X).2])∧Below w8.heap.size w8 w'):=zQC HW8.out HE.out s1 HG.out.1 X (by rw [HPP.out];exact HIo.out)
       generalize Mt.qP text s1 X=O at *
       have HO:Hid (O.1.length=44):=hol
       have HGO:Hid (O.2=true→Mt.Good c.length text.size O.1):=hgd
       have HRR:Hid (R=_):=hRR
       clear hRR hol hgd
       go_wp2_with (first | (refine zG (by rfl) (.tmp 3) (by rfl) w.heap.size (by rfl) (by exact HQ8.out.1) (by simp [HS1.out]) ?_) | fail)
       refine KO.out.mono ?_
       rintro e w9 ⟨rfl,hb9⟩
       have HW9:Hid (zM w9 wb gc gi ga gk cc ci ca ck c text inn ar budget kn2 zAp (U+1) false):=HW8.out.below hb9
       have HQ9:Hid (w9.heap[w.heap.size]?=some (.cells (s1.map (Value.int .i64)).toArray 139 (0,0))∧w9.heap[w.heap.size+1]?=some zDc):=⟨(hb9.block _ (by omega)).trans HQ8.out.1,(hb9.block _ (by omega)).trans HQ8.out.2⟩
       have HK9:Hid (Keep wb gk w w9):=HK8.out.trans (Keep.below hb9)
       have hs9:=hb9.size
       clear KO HW8 HQ8 HK8 HX8 y80 y81 y82 y83 hb9
       cases hok:O.2 with
       | false =>
        have HRF:=HRR.out
        rw [hok,if_neg (by simp)] at HRF
        have HRG:Hid (R=_):=HRF
        clear HRF HRR HGO
        go_wp2_with (first | (refine zF (by rfl) (.tmp 3) (.tmp 52) (by rfl) w.heap.size (O.1.map (Value.int .i64)).toArray (by rfl) (by rfl) (by exact HQ9.out.1) (by simp [HS1.out]) (by simp [HO.out]) (jD _) ?_;intro w10 r1 r2 r3 r4;have V0:Hid (w10.heap[w.heap.size]?=some (.cells (O.1.map (Value.int .i64)).toArray 139 (0,0))):=(r1);have E10:Hid ((∀ k,k≠w.heap.size→w10.heap[k]?=w9.heap[k]?)∧w10.heap.size=w9.heap.size∧Below w.heap.size w9 w10):=(⟨r2,r3,r4 _ (Nat.le_refl _)⟩);clear r1 r2 r3 r4) | (refine zG (by rfl) (.tmp 3) (by rfl) w.heap.size (by rfl) (by exact V0.out) (by simp [HO.out]) ?_) | (refine zF (by rfl) (.tmp 4) (.tmp 93) (by rfl) (w.heap.size+1) _ (by rfl) (by rfl) (by exact (E10.out.1 _ (by omega)).trans HQ9.out.2) (by rfl) (by simp [HO.out]) (jD _) ?_;intro w11 r1 r2 r3 r4) | fail)
        refine bodyPost_ret (vP rfl (by rfl) r1 (by simp [HO.out])) rfl ⟨?_,Keep.whole (Keep.whole HK9.out E10.out.1 E10.out.2.1 E10.out.2.2) r2 r3 (r4 _ (by omega)),?_⟩
        ·rw [HRG.out];rfl
        ·rw [HRG.out]
         have hx:=HLT.out
         have e10:=E10.out.1
         have:=(HW9.out.mem (e10 _ (by omega)) (e10 _ (by omega)) (e10 _ (by omega)) (e10 _ (by omega)) (e10 _ (by omega))).mem (r2 _ (by omega)) (r2 _ (by omega)) (r2 _ (by omega)) (r2 _ (by omega)) (r2 _ (by omega))
         rw [show U+1=budget-((k:Nat):Int) by rw [HU.out];omega] at this
         exact this
       | true =>
        have HRF:=HRR.out
        rw [hok,if_pos rfl] at HRF
        have HRG:Hid (R=_):=HRF
        have HGG:Hid (Mt.Good c.length text.size O.1):=HGO.out hok
        clear HRF HRR HGO
        go_wp2_with (first | (refine zF (by rfl) (.tmp 3) (.tmp 52) (by rfl) w.heap.size (O.1.map (Value.int .i64)).toArray (by rfl) (by rfl) (by exact HQ9.out.1) (by simp [HS1.out]) (by simp [HO.out]) (jD _) ?_;intro w10 r1 r2 r3 r4;have V0:Hid (w10.heap[w.heap.size]?=some (.cells (O.1.map (Value.int .i64)).toArray 139 (0,0))):=(r1);have E10:Hid ((∀ k,k≠w.heap.size→w10.heap[k]?=w9.heap[k]?)∧w10.heap.size=w9.heap.size∧Below w.heap.size w9 w10):=(⟨r2,r3,r4 _ (Nat.le_refl _)⟩);clear r1 r2 r3 r4) | fail)
        have hx:=HLT.out
        have e10:=E10.out.1
        have zRX:zM w10 wb gc gi ga gk cc ci ca ck c text inn ar budget kn2 zAp (budget-((k:Nat):Int)) false:=by
         have:=(HW9.out.mem (e10 _ (by omega)) (e10 _ (by omega)) (e10 _ (by omega)) (e10 _ (by omega)) (e10 _ (by omega)))
         rw [show U+1=budget-((k:Nat):Int) by rw [HU.out];omega] at this
         exact this
        go_roundw
        case rel=>exact ⟨k,O.1,kn2,zAp,zRX,V0.out,(e10 _ (by omega)).trans HQ9.out.2,Keep.whole HK9.out e10 E10.out.2.1 E10.out.2.2,HGG.out,HG2.out.1,HG2.out.2,by omega,HRG.out⟩
        case measure=>rw [zBG zRX,zBG HW0.out];have:=HU.out;omega
end Go.Proofs.YtebpgfodelggoabGreat
