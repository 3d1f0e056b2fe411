import Derived.Test.YtebpgfodelggoabGreatC33
import Derived.Test.YtebpgfodelggoabGreatC28
set_option linter.unusedVariables false
set_option linter.unusedSimpArgs false
set_option maxRecDepth 100000
set_option maxHeartbeats 8000000
namespace Mt
theorem zFJ (p:ByteArray) (hp:p.size≤64):tokens p=if (qD p [] 0).2.1≠0 then qD p [] 0 else if 0<opened (qD p [] 0).1 then ([],11,(p.size:Int)) else ((qD p [] 0).1,0,0):=by
 unfold tokens;rw [if_neg (by omega),vF p hp]
theorem zGF {p:ByteArray} (hp:p.size≤64) {e k:Int} (h:qD p [] 0=([],e,k)) (he:e≠0):(tokens p).2=(e,k):=by
 rw [zFJ p hp,h,if_pos he]
theorem zBV {p:ByteArray} (hp:p.size≤64) {l:List Tok} {k:Int} (h:qD p [] 0=(l,0,k)) (ho:0<opened l):(tokens p).2=(11,(p.size:Int)):=by
 rw [zFJ p hp,h,if_neg (by simp),if_pos ho]
theorem zJQ {p:ByteArray} (hp:p.size≤64) {l:List Tok} {k:Int} (h:qD p [] 0=(l,0,k)) (ho:¬ 0<opened l):tokens p=(l,0,0):=by
 rw [zFJ p hp,h,if_neg (by simp),if_neg ho]
end Mt
namespace Go.Proofs.YtebpgfodelggoabGreat
open Go.RowKit
structure qE (L:Nat) (w:World) (b:Mt.PB) (so ao:Option Addr) (sc ac:Nat):Prop where
 zT:w.ownsRow L 145 2 (.slice so b.zT.length sc) b.zT.length (b.zT.flatMap psC)
 atoms:w.ownsRow L 180 20 (.slice ao b.atoms.length ac) b.atoms.length (b.atoms.flatMap paC)
def zAg (b:Mt.PB) (so ao:Option Addr) (sc ac:Nat):Value:=.agg #[.slice so b.zT.length sc,.slice ao b.atoms.length ac]
def xC (b:Mt.PB) (so ao:Option Addr) (sc ac:Nat):Array Value:=#[.slice so b.zT.length sc,.slice ao b.atoms.length ac]
def Builds (p:ByteArray) (w:World) (e:Ending) (w':World):Prop :=
 ((Mt.tokens p).2.1≠0→e=.returned (.tuple #[.agg #[.slice none 0 0,.slice none 0 0],.int .i64 (Mt.tokens p).2.1,.int .i64 (Mt.tokens p).2.2])) ∧
 ((Mt.tokens p).2.1=0→∃ so ao sc ac,e=.returned (.tuple #[zAg (Mt.PB.start.run (Mt.tokens p).1) so ao sc ac,.int .i64 0,.int .i64 0])∧qE w.heap.size w' (Mt.PB.start.run (Mt.tokens p).1) so ao sc ac)∧Below w.heap.size w w'
theorem zCT {p:ByteArray} {w w':World} {e:Ending} {E k:Int} (h:(Mt.tokens p).2=(E,k)) (hE:E≠0) (he:e=.returned (.tuple #[.agg #[.slice none 0 0,.slice none 0 0],.int .i64 E,.int .i64 k])) (hb:Below w.heap.size w w'):Builds p w e w':=by
 refine ⟨fun _=>by rw [h];exact he,fun h0=>?_,hb⟩
 rw [h] at h0;exact absurd h0 hE
def zDO:Array Value:=#[.slice none 0 0,.slice none 0 0]
theorem zIC (w:World):BAt (w.heap.size+1) ((w.alloc (.cells zDO 36)).alloc (.cells (bA Mt.PB.zNB none none none 0 0 0) 97)) (w.heap.size+1) Mt.PB.zNB none none none 0 0 0 :=
 ⟨zA2 _ _ _,Nat.le_refl _,World.ownsRow_nil _ _ _ _,World.ownsRow_nil _ _ _ _,World.ownsRow_nil _ _ _ _,⟨by simp [blk],by simp [blk],by simp [blk],fun q hq=>by simp [blk] at hq,fun q hq=>by simp [blk] at hq⟩,rfl⟩
theorem zHn {fn:Func} {p u v:Tmp} {ty:TypeId} (h:fn.results=#[.cell p ty,.tmp u,.tmp v]) (tmps:Array Value) (P:Program) (w:World) :
  (results fn tmps).run P w =
   ((asAddr (tmps.getD p undef)).run P w).andThen fun a w₁=>((loadVar ty a).run P w₁).andThen fun x w₂=>.ok (.tuple #[x,tmps.getD u undef,tmps.getD v undef]) w₂:=by
 simp only [results,h]
 simp [Sem.run_bind,Result.andThen]
theorem zCa {P:Program} {fn:Func} {p u v:Tmp} (ty:TypeId) (n:Nat) {d:TypeDesc} (hu:P.underlying ty=some d) (hd:d.isRow=true) (hn:(P.info? ty).map (·.size)=some n) (hr:fn.results=#[.cell p ty,.tmp u,.tmp v]) {tmps:Array Value} {w:World} {b:Nat} {t:TypeId} {A:Array Value}
  (hp:tmps.getD p undef=.pointer (some ⟨b,0,none⟩)) (hA:w.heap[b]?=some (.cells A t (0,0))) (hs:A.size=n) :
  (results fn tmps).run P w=.ok (.tuple #[.agg A,tmps.getD u undef,tmps.getD v undef]) w:=by
 rw [zHn hr,hp]
 have:=run_loadVar_mid (P:=P) w b 0 ty A.toList _ (yV hA) hu hd (by rw [hn];simp [hs])
 simp [asAddr,Result.andThen,this]
theorem zCb:zDO.all (·.oneCell')=true:=by simp [zDO,Value.oneCell']
theorem zPA (p:ByteArray) (w:World) (hp:p.size≤64) :
  Calls Tryz.prog 33 #[.string p] w (Builds p w):=by
 have b1:decide (64<(p.size:Int))=false:=by simp;omega
 have b2:decide (64<p.size)=false:=by simp;omega
 have HC:Hid (Calls Tryz.prog 54 _ _ _):=zAD (zIC w) (by decide)
 go_enter Tryz.func33,Tryz.ntmps33
 go_wp2_with fail
 refine HC.out.mono ?_
 rintro e w1 ⟨rfl,so1,sc1,hP,hSt⟩
 have hz1:w1.heap[w.heap.size]?=some (.cells zDO 36 (0,0)):=(hSt.block w.heap.size (by simp;omega) (by rintro (e | e | e | e);omega;simp [blk] at e;simp [blk] at e;simp [blk] at e)).trans (zBj _ _ _)
 obtain ⟨x0,x1,x2,_,_,_,_,xf⟩:=hP.cells
 have xf2:=xf 2
 have hb1:Below w.heap.size w w1:=(((Below.refl _ _).alloc (Nat.le_refl _) _).alloc (by simp) _).trans ((hSt.low (zIC w) (by simp)).mono (by omega))
 have M0:=hP.field (k:=2) (v:=.int .i64 0) (b':=Mt.PB.start) (so':=so1) (ao':=none) (oo':=none) (sc':=sc1) (ac':=0) (oc':=0) (by unfold bA;rfl) hP.zT hP.atoms hP.opn hP.ap hP.cl
 have HM0:Hid (BAt (w.heap.size+1) (w1.setCell ⟨w.heap.size+1,2,none⟩ (.int .i64 0)) (w.heap.size+1) Mt.PB.start so1 none none sc1 0 0∧(w1.setCell ⟨w.heap.size+1,2,none⟩ (.int .i64 0)).heap[w.heap.size]?=some (.cells zDO 36 (0,0))∧Below w.heap.size w (w1.setCell ⟨w.heap.size+1,2,none⟩ (.int .i64 0))) :=
  ⟨M0,(Below.heap_setCell _ _ _ _ (by show w.heap.size≠w.heap.size+1;omega)).trans hz1,hb1.setCell (p:=⟨w.heap.size+1,2,none⟩) (by simp) _⟩
 clear hP hSt hz1 xf hb1 M0 HC x0 x1
 go_wp2_with fail
 go_loopw [7] (fun at' wr=>∃ (k:Nat) (l:List Mt.Tok) (b:Mt.PB) (so ao oo:Option Addr) (sc ac oc:Nat),at'=.int .i64 k∧Mt.Read p k b l∧BAt (w.heap.size+1) wr (w.heap.size+1) b so ao oo sc ac oc∧wr.heap[w.heap.size]?=some (.cells zDO 36 (0,0))∧Below w.heap.size w wr) (fun at' _=>p.size-(intOf at').toNat)
 case atStart=>exact ⟨0,[],Mt.PB.start,so1,none,none,sc1,0,0,rfl,Mt.zLP p,HM0.out.1,HM0.out.2.1,HM0.out.2.2⟩
 case round =>
  obtain ⟨k,l,b,so,ao,oo,sc,ac,oc,rfl,hR,hB,hz,hBl⟩:=hrel
  have hkle:=hR.le
  have HR:Hid (Mt.Read p k b l):=hR
  have HB:Hid (BAt (w.heap.size+1) wr (w.heap.size+1) b so ao oo sc ac oc):=hB
  have HZ:Hid (wr.heap[w.heap.size]?=some (.cells zDO 36 (0,0))):=hz
  have HBl:Hid (Below w.heap.size w wr):=hBl
  have hgr:w.heap.size+1<wr.heap.size:=(hB.lt _ (Or.inl rfl)).2
  obtain ⟨_,_,_,_,y4,_,_,_⟩:=hB.cells
  clear hR hB hz hBl
  by_cases hk:k<p.size
  ·have hg0:=Mt.zJy p k
   have zLR:Hid (Calls Tryz.prog 55 #[.string p,.int .i64 (k:Int)] wr _):=zPv p k wr hp (by omega) (by omega)
   by_cases hn:(Mt.kK p k).2=0
   ·have erd:Mt.xZ p k=(Mt.jW (Mt.kK p k).1,0):=by unfold Mt.xZ;rw [if_pos hn]
    have HG:Hid (Mt.zEs (Mt.kK p k).1):=hg0 hn
    have HNN:Hid ((Mt.kK p k).2=0):=hn
    simp only [erd] at zLR
    clear hg0 hn erd
    generalize hT:Mt.jW (Mt.kK p k).1=T at *
    have HTT:Hid (Mt.jW (Mt.kK p k).1=T):=hT
    clear hT
    go_wp2_with fail
    refine zLR.out.mono ?_
    rintro e w2 ⟨rfl,b2⟩
    have hg2:wr.heap.size≤w2.heap.size:=b2.size
    have HB2:Hid (BAt (w.heap.size+1) w2 (w.heap.size+1) b so ao oo sc ac oc∧w2.heap[w.heap.size]?=some (.cells zDO 36 (0,0))∧Below w.heap.size w w2):=⟨HB.out.below b2,(b2.block _ (by omega)).trans HZ.out,HBl.out.trans (b2.mono (by omega))⟩
    clear b2 zLR
    have HNo:Hid (¬ own (w.heap.size+1) so ao oo w2.heap.size):=fun ho=>by have:=(HB.out.lt _ ho).2;omega
    go_wp2_with (first | (refine zK 100 8 Tryz.sizePT (by rfl) (.tmp 8) (.tmp 26) (by rfl) w2.heap.size (ptA T) (by rfl) (by rfl) (by exact kX _ _) (by rfl) (by rfl) (yX _) ?_;intro w3 r1 r2 r3 r4) | (refine zW 100 8 Tryz.underlying100 rfl Tryz.sizePT (by rfl) (.tmp 8) (by rfl) w2.heap.size (by rfl) r1 (by rfl) ?_))
    have hw3:Below w2.heap.size w2 w3:=((Below.refl _ _).alloc (Nat.le_refl _) _).trans (r4 _ (Nat.le_refl _))
    have hs3:w2.heap.size<w3.heap.size:=(Array.getElem?_eq_some_iff.1 r1).1
    have HTK:=zPz (HB2.out.1.below hw3) HR.out hp (Mt.kK p k).1 HG.out
    rw [HTT.out] at HTK
    have HB3:Hid (w3.heap[w.heap.size]?=some (.cells zDO 36 (0,0))∧Below w.heap.size w w3):=⟨(hw3.block _ (by omega)).trans HB2.out.2.1,HB2.out.2.2.trans (hw3.mono (by omega))⟩
    have HR1:Hid (w3.heap[w2.heap.size]?=some (.cells (ptA T) 100 (0,0))):=r1
    clear r1 r2 r3 r4 hw3
    by_cases hm:Mt.may l (Mt.kK p k).1=0
    ·obtain ⟨m,hm1,hm2,hRm⟩:=Mt.zND HR.out hk HNN.out hm
     rw [HTT.out] at hRm
     have HRm:Hid (Mt.Read p m (b.next T) (l++[Mt.joined l (Mt.kK p k).1])):=hRm
     have zTs:T.en=m:=by rw [← HTT.out];exact hm1
     rw [hm] at HTK
     refine HTK.mono ?_
     clear HTK hm hm1 hRm
     rintro e w4 ⟨rfl,hT1,hT2⟩
     obtain ⟨so',ao',oo',sc',ac',oc',hB4,hS4⟩:=hT1 rfl
     have t1:=(zA ((hS4.block w2.heap.size hs3 HNo.out).trans HR1.out)).1 1
     change w4.cell? ⟨w2.heap.size,1,none⟩=some (.int .i64 T.en) at t1
     rw [zTs] at t1
     have R4:Hid (BAt (w.heap.size+1) w4 (w.heap.size+1) (b.next T) so' ao' oo' sc' ac' oc'∧w4.heap[w.heap.size]?=some (.cells zDO 36 (0,0))∧Below w.heap.size w w4):=⟨hB4,(hT2.block _ (by omega)).trans HB3.out.1,HB3.out.2.trans (hT2.mono (by omega))⟩
     clear hT1 hT2 hB4 hS4 zTs
     have zUO:=HRm.out.le
     go_wp2_with fail
     go_roundw
     case rel=>exact ⟨m,_,_,so',ao',oo',sc',ac',oc',rfl,HRm.out,R4.out.1,R4.out.2.1,R4.out.2.2⟩
     case measure=>simp [intOf];omega
    ·have HX:Hid ((Mt.tokens p).2=(Mt.may l (Mt.kK p k).1,(k:Int))):=Mt.zGF hp (by rw [← HR.out.on];exact Mt.zJP p l k (by omega) (by omega) HNN.out hm) hm
     generalize Mt.may l (Mt.kK p k).1=M at *
     have m1:(M==0)=false:=by simpa using hm
     have m2:(M != 0)=true:=by simpa using hm
     refine HTK.mono ?_
     clear HTK
     rintro e w4 ⟨rfl,hT1,hT2⟩
     have R4:Hid (w4.heap[w.heap.size]?=some (.cells zDO 36 (0,0))∧Below w.heap.size w w4):=⟨(hT2.block _ (by omega)).trans HB3.out.1,HB3.out.2.trans (hT2.mono (by omega))⟩
     clear hT1 hT2
     have zS1:Hid (M≠0):=hm
     clear hm
     go_wp2_with (refine zK 36 2 Tryz.sizeT (by rfl) (.tmp 2) (.tmp 34) (by rfl) w.heap.size zDO (by rfl) (by rfl) R4.out.1 (by rfl) (by rfl) zCb ?_;intro w5 q1 q2 q3 q4)
     refine bodyPost_ret (zCa 36 2 Tryz.underlying36 rfl Tryz.sizeT rfl (by rfl) q1 (by rfl)) rfl ?_
     exact zCT HX.out zS1.out rfl (R4.out.2.trans (q4 _ (Nat.le_refl _)))
   ·have erd:Mt.xZ p k=(Mt.pt0,(Mt.kK p k).2):=by unfold Mt.xZ;rw [if_neg hn]
    have HX:Hid ((Mt.tokens p).2=((Mt.kK p k).2,(k:Int))):=Mt.zGF hp (by rw [← HR.out.on];exact Mt.zJO p l k (by omega) (by omega) hn) hn
    simp only [erd] at zLR
    clear hg0 erd
    generalize (Mt.kK p k).2=M at *
    have m1:(M==0)=false:=by simpa using hn
    have m2:(M != 0)=true:=by simpa using hn
    have zS1:Hid (M≠0):=hn
    clear hn
    go_wp2_with fail
    refine zLR.out.mono ?_
    rintro e w2 ⟨rfl,b2⟩
    have HB2:Hid (w2.heap[w.heap.size]?=some (.cells zDO 36 (0,0))∧Below w.heap.size w w2):=⟨(b2.block _ (by omega)).trans HZ.out,HBl.out.trans (b2.mono (by omega))⟩
    have hg2:wr.heap.size≤w2.heap.size:=b2.size
    clear b2 zLR
    go_wp2_with (first | (refine zK 100 8 Tryz.sizePT (by rfl) (.tmp 8) (.tmp 26) (by rfl) w2.heap.size (ptA Mt.pt0) (by rfl) (by rfl) (by exact kX _ _) (by rfl) (by rfl) (yX _) ?_;intro w3 r1 r2 r3 r4;have R3:Hid (w3.heap[w.heap.size]?=some (.cells zDO 36 (0,0))∧Below w.heap.size w w3):=⟨(r2 _ (by omega)).trans ((kG _ _ _ (by omega)).trans HB2.out.1),(HB2.out.2.alloc (by omega) _).trans (r4 _ (by omega))⟩;clear r1 r2 r3 r4) | (refine zK 36 2 Tryz.sizeT (by rfl) (.tmp 2) (.tmp 34) (by rfl) w.heap.size zDO (by rfl) (by rfl) R3.out.1 (by rfl) (by rfl) zCb ?_;intro w5 q1 q2 q3 q4))
    refine bodyPost_ret (zCa 36 2 Tryz.underlying36 rfl Tryz.sizeT rfl (by rfl) q1 (by rfl)) rfl ?_
    exact zCT HX.out zS1.out rfl (R3.out.2.trans (q4 _ (Nat.le_refl _)))
  ·have hk2:k=p.size:=by omega
   have HON:Hid (Mt.qD p [] 0=(l,0,(k:Int))):=by show _=_;rw [← HR.out.on];exact Mt.zLO p l k (by omega) (by omega)
   have hop:(b.opn.length:Int)=Mt.opened l:=by
    obtain ⟨stk,hr⟩:=HR.out.rel
    rw [hr.len,hr.op]
   have hol:b.opn.length≤64:=by
    obtain ⟨stk,hr⟩:=HR.out.rel
    exact (Mt.zQg hr (by have:=HR.out.len;omega)).2.2.1
   by_cases ho:0<b.opn.length
   ·have HX:Hid ((Mt.tokens p).2=(11,(p.size:Int))):=Mt.zBV hp HON.out (by omega)
    have o1:decide (0<(b.opn.length:Int))=true:=by simp;omega
    have o2:decide (0<b.opn.length)=true:=by simp;omega
    clear hop
    go_wp2_with (refine zK 36 2 Tryz.sizeT (by rfl) (.tmp 2) (.tmp 43) (by rfl) w.heap.size zDO (by rfl) (by rfl) HZ.out (by rfl) (by rfl) zCb ?_;intro w5 q1 q2 q3 q4)
    refine bodyPost_ret (zCa 36 2 Tryz.underlying36 rfl Tryz.sizeT rfl (by rfl) q1 (by rfl)) rfl ?_
    exact zCT HX.out (by decide) rfl (HBl.out.trans (q4 _ (Nat.le_refl _)))
   ·have HX:Hid (Mt.tokens p=(l,0,0)):=Mt.zJQ hp HON.out (by omega)
    have o1:decide (0<(b.opn.length:Int))=false:=by simp only [decide_eq_false_iff_not];omega
    have o2:decide (0<b.opn.length)=false:=by simp only [decide_eq_false_iff_not];omega
    have HRA:Hid (wr.rangeAt (w.heap.size+1) 0 (xC b so ao sc ac).toList):=fun j v hv=>by
     rw [Nat.zero_add,(zA HB.out.cell).1]
     match j,hv with
     | 0,hv=>simpa [xC,bA] using hv
     | 1,hv=>simpa [xC,bA] using hv
     | j+2,hv=>simp [xC] at hv
    clear hop
    go_wp2_with (first | (refine wpList_load_mid (by rfl) 36 (.tmp 46) (by rfl) (w.heap.size+1) 0 (by rfl) (xC b so ao sc ac).toList _ HRA.out Tryz.underlying36 rfl (by rw [Tryz.sizeT];rfl) ?_) | (refine zK 36 2 Tryz.sizeT (by rfl) (.tmp 2) (.tmp 47) (by rfl) w.heap.size (xC b so ao sc ac) (by rfl) (by rfl) HZ.out (by rfl) (by rfl) (by simp [xC,Value.oneCell']) ?_;intro w5 q1 q2 q3 q4))
    refine bodyPost_ret (zCa 36 2 Tryz.underlying36 rfl Tryz.sizeT rfl (by rfl) q1 (by rfl)) rfl ?_
    have hb5:Below w.heap.size w w5:=HBl.out.trans (q4 _ (Nat.le_refl _))
    refine ⟨fun h0=>absurd (by rw [HX.out]) h0,fun _=>⟨so,ao,sc,ac,?_,?_⟩,hb5⟩
    ·rw [HX.out,← HR.out.run];rfl
    ·rw [HX.out,← HR.out.run]
     have q2':∀ k',k'≠w.heap.size→w5.heap[k']?=wr.heap[k']?:=q2
     have nr:∀ (o:Option Addr) (n c:Nat) (e:TypeId) (sz:Nat) (xs:List Value),wr.ownsRow (w.heap.size+1) e sz (.slice o n c) n xs→w5.ownsRow w.heap.size e sz (.slice o n c) n xs:=by
      intro o n c e sz xs hrow
      have h1:=zJ (w':=w5) hrow (fun q hq=>q2' q (fun e=>by have:=(World.ownsRow.lt hrow q (by rw [zY];exact hq)).1;omega))
      refine ⟨h1.1,?_⟩
      rcases h1.2 with h' | ⟨g',cap',cur,hv,h0,hg,rest⟩
      ·exact .inl h'
      ·exact .inr ⟨g',cap',cur,hv,by omega,hg,rest⟩
     exact ⟨nr _ _ _ _ _ _ HB.out.zT,nr _ _ _ _ _ _ HB.out.atoms⟩
theorem zNE (p:ByteArray) (w:World) (hm:p.size≤maxLen):Calls Tryz.prog 33 #[.string p] w (Builds p w):=by
 by_cases hp:p.size≤64
 ·exact zPA p w hp
 ·have ht:(Mt.tokens p).2=(1,0):=by unfold Mt.tokens;rw [if_pos (by omega)]
  exact (zLQ p w (by omega) hm).mono (fun e w' hh=>zCT ht (by decide) hh.1 hh.2)
theorem zJR (n:Nat) (w:World):Calls Tryz.prog 58 #[.int .i64 (n:Int)] w fun e w'=>e=.returned (.int .i64 (Mt.lim n:Nat))∧w=w':=by
 by_cases h:300<n
 ·have e:Mt.lim n=301:=by unfold Mt.lim;omega
  have b1:decide (300<(n:Int))=true:=by simp;omega
  have b2:decide (300<n)=true:=by simp;omega
  rw [e]
  clear e
  go_enter Tryz.func58,Tryz.ntmps58
  go_wp2
  go_ret
  exact ⟨rfl,rfl⟩
 ·have e:Mt.lim n=n:=by unfold Mt.lim;omega
  have b1:decide (300<(n:Int))=false:=by simp;omega
  have b2:decide (300<n)=false:=by simp;omega
  rw [e]
  clear e
  go_enter Tryz.func58,Tryz.ntmps58
  go_wp2
  go_ret
  exact ⟨rfl,rfl⟩
theorem zQ8:Mt.rp none=Mt.pt0:=rfl
theorem zQ9 (q:Mt.Tok) (hk:q.kind=8):Mt.rp (some q)=⟨4,q.to,0,0,q.n,q.m,q.how+1,q.set⟩:=by
 show Mt.jW q=_;unfold Mt.jW;rw [hk];rfl
theorem xD (x:Int) (n:Nat) (h:x=n) (w:World):Calls Tryz.prog 58 #[.int .i64 x] w fun e w'=>e=.returned (.int .i64 (Mt.lim n:Nat))∧w=w':=by subst h;exact zJR n w
theorem zEI (o:Nat) (r:Option Mt.Tok) (w:World) (ho:o≤301) (hr:Mt.zDJ r) (hk:Mt.zLp r) :
  Calls Tryz.prog 129 #[.int .i64 (o:Int),ptV (Mt.rp r)] w fun e w'=>e=.returned (.int .i64 (Mt.lim (Mt.zBh o r):Nat))∧Below w.heap.size w w':=by
 cases r with
 | none =>
  rw [zQ8]
  have e:Mt.lim (Mt.zBh o none)=o:=by show Mt.lim o=o;unfold Mt.lim;omega
  rw [e]
  clear e hr hk
  unfold ptV ptA Mt.pt0
  go_enter Tryz.func129,Tryz.ntmps129
  go_wp2_with fail
  go_ret
  exact ⟨rfl,by go_grown⟩
 | some q =>
  rw [zQ9 q (hk q rfl)]
  obtain ⟨h1,h2,h3,h4,h5,h6,h7⟩:=hr q rfl
  obtain ⟨n,hn⟩:=Int.eq_ofNat_of_zero_le h1
  have hmul:n*o≤20*301:=Nat.mul_le_mul (by omega) ho
  have hmi:((n:Int)*(o:Int))=((n*o:Nat):Int):=by simp
  have m0:0≤(n:Int)*(o:Int):=by rw [hmi];omega
  have m1:(n:Int)*(o:Int)≤6020:=by rw [hmi];omega
  have HMI:Hid (((n:Int)*(o:Int))=((n*o:Nat):Int)):=hmi
  by_cases hm:q.m=-1
  ·have e0:Mt.zBh o (some q)=n*o+(o+3)+(if q.how=2 then 2 else 0):=by
    show Mt.zC5 o q=_;unfold Mt.zC5;rw [if_pos hm,show q.n.toNat=n by omega]
   rw [e0,hm,hn]
   clear e0 hr hk h7 hmi hm hn hmul
   unfold ptV ptA
   by_cases hw:q.how=2
   ·rw [if_pos hw,hw]
    clear hw
    go_enter Tryz.func129,Tryz.ntmps129
    go_wp2_with fail
    refine (xD _ (n*o+(o+3)+2) (by have:=HMI.out;omega) _).mono ?_
    rintro e w1 ⟨rfl,rfl⟩
    go_wp2_with fail
    go_ret
    exact ⟨rfl,by go_grown⟩
   ·have hb:(q.how+1==3)=false:=by simp;omega
    rw [if_neg hw]
    clear hw
    go_enter Tryz.func129,Tryz.ntmps129
    go_wp2_with fail
    refine (xD _ (n*o+(o+3)+0) (by have:=HMI.out;omega) _).mono ?_
    rintro e w1 ⟨rfl,rfl⟩
    go_wp2_with fail
    go_ret
    exact ⟨rfl,by go_grown⟩
  ·obtain ⟨m,hmm⟩:=Int.eq_ofNat_of_zero_le (show 0≤q.m by omega)
   obtain ⟨d,hd⟩:∃ d:Nat,m=n+d:=⟨m-n,by omega⟩
   subst hd
   have e0:Mt.zBh o (some q)=n*o+d*(o+1)+(if q.how=2 then 2 else 0):=by
    show Mt.zC5 o q=_;unfold Mt.zC5;rw [if_neg hm,show q.n.toNat=n by omega,show (q.m-q.n).toNat=d by omega]
   have zS2:d*(o+1)≤20*302:=Nat.mul_le_mul (by omega) (by omega)
   have zSB:((d:Int)*((o:Int)+1))=((d*(o+1):Nat):Int):=by simp
   have m2:0≤(d:Int)*((o:Int)+1):=by rw [zSB];omega
   have m3:(d:Int)*((o:Int)+1)≤6040:=by rw [zSB];omega
   have zTt:Hid (((d:Int)*((o:Int)+1))=((d*(o+1):Nat):Int)):=zSB
   have hb1:(((n+d:Nat):Int)==-1)=false:=by simp;omega
   have zUP:(d:Int)≤20:=by omega
   have zUQ:(n:Int)≤20:=by omega
   have hsub:((n+d:Nat):Int)-(n:Int)=d:=by omega
   have hb2:(n:Int)+(d:Int)-(n:Int)=d:=by omega
   rw [e0,hmm,hn]
   clear e0 hr hk h7 hmi hm hn hmul zS2 zSB hmm
   unfold ptV ptA
   by_cases hw:q.how=2
   ·rw [if_pos hw,hw]
    clear hw
    go_enter Tryz.func129,Tryz.ntmps129
    go_wp2_with fail
    refine (xD _ (n*o+d*(o+1)+2) (by have:=HMI.out;have:=zTt.out;omega) _).mono ?_
    rintro e w1 ⟨rfl,rfl⟩
    go_wp2_with fail
    go_ret
    exact ⟨rfl,by go_grown⟩
   ·have hb:(q.how+1==3)=false:=by simp;omega
    rw [if_neg hw]
    clear hw
    go_enter Tryz.func129,Tryz.ntmps129
    go_wp2_with fail
    refine (xD _ (n*o+d*(o+1)+0) (by have:=HMI.out;have:=zTt.out;omega) _).mono ?_
    rintro e w1 ⟨rfl,rfl⟩
    go_wp2_with fail
    go_ret
    exact ⟨rfl,by go_grown⟩
section
variable {L:Nat} {w:World} {b:Mt.PB} {so ao:Option Addr} {sc ac:Nat}
theorem qE.below {w':World} (h:qE L w b so ao sc ac) (hb:Below w.heap.size w w'):qE L w' b so ao sc ac :=
 ⟨zJ h.zT (fun q hq=>hb.block q (World.ownsRow.lt h.zT q (by rw [zY];exact hq)).2),zJ h.atoms (fun q hq=>hb.block q (World.ownsRow.lt h.atoms q (by rw [zY];exact hq)).2)⟩
theorem qE.zB8 (h:qE L w b so ao sc ac) (i:Nat) (hi:i<b.zT.length):∃ gs,so=some ⟨gs,0,none⟩∧gs<w.heap.size∧b.zT.length≤sc∧w.cell? ⟨gs,i*2,none⟩=some (.int .i64 (b.sAt i).first)∧w.cell? ⟨gs,i*2+1,none⟩=some (.int .i64 (b.sAt i).next):=by
 obtain ⟨gs,cap,hv,_,hlt⟩:=World.ownsRow.form h.zT (by omega)
 simp only [Value.slice.injEq] at hv
 obtain ⟨rfl,_,rfl⟩:=hv
 have c:∀ j,j<2→w.cell? ⟨gs,i*2+j,none⟩=(psC (b.sAt i))[j]?:=fun j hj=>by
  rw [World.ownsRow.cellAt h.zT _ (by omega),flat_get psC 2 zJM Mt.ps0 _ _ _ hi hj];rfl
 rcases h.zT.2 with ⟨e,_⟩ | ⟨g',cap',cur,hv,_,_,hc,_⟩
 ·simp at e
 ·simp only [Value.slice.injEq] at hv
  exact ⟨gs,rfl,hlt,by omega,c 0 (by decide),c 1 (by decide)⟩
theorem qE.zDk (h:qE L w b so ao sc ac) (i:Nat) (hi:i<b.atoms.length):∃ ga,ao=some ⟨ga,0,none⟩∧ga<w.heap.size∧b.atoms.length≤ac∧(∀ j,j<20→w.cell? ⟨ga,i*20+j,none⟩=(paC (b.aAt i))[j]?):=by
 obtain ⟨gs,cap,hv,_,hlt⟩:=World.ownsRow.form h.atoms (by omega)
 simp only [Value.slice.injEq] at hv
 obtain ⟨rfl,_,rfl⟩:=hv
 have c:∀ j,j<20→w.cell? ⟨gs,i*20+j,none⟩=(paC (b.aAt i))[j]?:=fun j hj=>by
  rw [World.ownsRow.cellAt h.atoms _ (by omega),flat_get paC 20 zD8 Mt.pa0 _ _ _ hi hj];rfl
 rcases h.atoms.2 with ⟨e,_⟩ | ⟨g',cap',cur,hv,_,_,hc,_⟩
 ·simp at e
 ·simp only [Value.slice.injEq] at hv
  exact ⟨gs,rfl,hlt,by omega,c⟩
end
theorem Tryz.sizeAt:(Tryz.prog.info? 180).map (·.size)=some 20:=by kernel_rfl
theorem zJS (a:Mt.PA):(paC a).toArray.all (·.oneCell')=true:=by
 rw [List.all_toArray];simp [paC,ptL,Value.oneCell']
def zSh (b:Mt.PB) (so ao:Option Addr) (sc ac:Nat) (N:Nat):Prop :=
 ∀ (f:Mt.Fs),f.wf→f.ok→f.flat.length<N→∀ (s:Nat),s<b.zT.length→Mt.jF b 0 0 f (b.sAt s).first (b.sAt s).next→∀ (L:Nat) (w:World),qE L w b so ao sc ac →
  Calls Tryz.prog 57 #[zAg b so ao sc ac,.int .i64 (s:Int)] w fun e w'=>e=.returned (.int .i64 (Mt.lim f.re.len:Nat))∧Below w.heap.size w w'
theorem zHo {b:Mt.PB} {so ao:Option Addr} {sc ac:Nat} {L:Nat} {w:World} (hT:qE L w b so ao sc ac) (k:Nat) (hk:k<b.atoms.length) (hn:b.atoms.length≤1000) (hb:(b.aAt k).body=-1) :
  Calls Tryz.prog 128 #[zAg b so ao sc ac,.int .i64 (k:Int)] w fun e w'=>e=.returned (.int .i64 1)∧Below w.heap.size w w':=by
 obtain ⟨ga,rfl,hga,hac,hc⟩:=hT.zDk k hk
 have hR:∀ W:World,(∀ q,q<w.heap.size→W.heap[q]?=w.heap[q]?)→W.rangeAt ga (k*20) (paC (b.aAt k)):=fun W hW j v hv=>by
  by_cases hj:j<20
  ·rw [World.cell?_of_block (a:=⟨ga,k*20+j,none⟩) (hW ga hga),hc j hj];exact hv
  ·rw [List.getElem?_eq_none (by rw [zD8];omega)] at hv;simp at hv
 have HR:Hid (∀ W:World,(∀ q,q<w.heap.size→W.heap[q]?=w.heap[q]?)→W.rangeAt ga (k*20) (paC (b.aAt k))):=hR
 have HBD:Hid ((b.aAt k).body=-1):=hb
 clear hR hc hT hb
 have hk':(k:Int)<(b.atoms.length:Int):=by omega
 unfold zAg
 generalize b.aAt k=A at *
 generalize b.atoms.length=N at *
 go_enter Tryz.func128,Tryz.ntmps128
 go_wp2_with (first | (refine wpList_load_mid (by rfl) 180 (.tmp 10) (by rfl) ga (k*20) (by rfl) (paC A) _ (HR.out _ (fun q hq=>kG _ _ _ hq)) Tryz.underlying180 rfl (by rw [Tryz.sizeAt];rfl) ?_) | (refine zK 180 20 Tryz.sizeAt (by rfl) (.tmp 5) (.tmp 11) (by rfl) (w.heap.size+1) (paC A).toArray (by rfl) (by rfl) (by exact zA2 _ _ _) (by rfl) (by rfl) (zJS A) ?_;intro w3 r1 r2 r3 r4;have t17:=(zA r1).1 17;change w3.cell? ⟨w.heap.size+1,17,none⟩=some (.int .i64 A.body) at t17;rw [HBD.out] at t17;have R4:Hid (Below w.heap.size w w3):=(((Below.refl _ _).alloc (Nat.le_refl _) _).alloc (by simp) _).trans (r4 _ (by omega));clear r1 r2 r3 r4))
 go_returns
 exact ⟨rfl,R4.out⟩
theorem zID {b:Mt.PB} {so ao:Option Addr} {sc ac N:Nat} (hA:zSh b so ao sc ac N) {L:Nat} {w:World} (hT:qE L w b so ao sc ac) (k:Nat) (hk:k<b.atoms.length) (hn:b.atoms.length≤1000) (hns:b.zT.length≤1000) (t:Mt.Tok) (i:Mt.Fs) (ht:t.kind=6) (hh:0≤t.how∧t.how≤4) (hw:i.wf) (ho:i.ok) (hl:i.flat.length<N)
  (htk:(b.aAt k).tok=Mt.jW t) (q:Nat) (hq:(b.aAt k).body=q) (hql:q<b.zT.length) (hs:Mt.jF b 0 0 i (b.sAt q).first (b.sAt q).next) :
  Calls Tryz.prog 128 #[zAg b so ao sc ac,.int .i64 (k:Int)] w fun e w'=>e=.returned (.int .i64 (Mt.lim (Mt.zBK t i.re).len:Nat))∧Below w.heap.size w w':=by
 have HC:Hid (∀ W:World,Below w.heap.size w W→Calls Tryz.prog 57 #[zAg b so ao sc ac,.int .i64 (q:Int)] W fun e w'=>e=.returned (.int .i64 (Mt.lim i.re.len:Nat))∧Below W.heap.size W w'):=fun W hW=>hA i hw ho hl q hql hs L W (hT.below hW)
 obtain ⟨ga,rfl,hga,hac,hc⟩:=hT.zDk k hk
 have hR:∀ W:World,(∀ q,q<w.heap.size→W.heap[q]?=w.heap[q]?)→W.rangeAt ga (k*20) (paC (b.aAt k)):=fun W hW j v hv=>by
  by_cases hj:j<20
  ·rw [World.cell?_of_block (a:=⟨ga,k*20+j,none⟩) (hW ga hga),hc j hj];exact hv
  ·rw [List.getElem?_eq_none (by rw [zD8];omega)] at hv;simp at hv
 have HR:Hid (∀ W:World,(∀ q,q<w.heap.size→W.heap[q]?=w.heap[q]?)→W.rangeAt ga (k*20) (paC (b.aAt k))):=hR
 have HBD:Hid ((b.aAt k).body=q):=hq
 have hgr:(b.aAt k).tok.group=Mt.zO5 t.how:=by rw [htk];simp [Mt.jW,ht]
 have HGR:Hid ((b.aAt k).tok.group=Mt.zO5 t.how):=hgr
 have hll:=Mt.zDI i.re.len
 have hk':(k:Int)<(b.atoms.length:Int):=by omega
 have hg3:(Mt.zO5 t.how==2)=decide (t.how=3):=by
  unfold Mt.zO5
  by_cases h4:t.how=4
  ·rw [if_pos h4,h4];rfl
  ·rw [if_neg h4]
   by_cases h3:t.how=3
   ·rw [if_pos h3,h3];rfl
   ·rw [if_neg h3];simp [h3];omega
 have HF:Hid (Mt.lim (Mt.zBK t i.re).len=if t.how=3 then Mt.lim i.re.len else Mt.lim (Mt.lim i.re.len+2)):=by
  show _=_
  rw [Mt.zNa]
  by_cases h3:t.how=3
  ·rw [if_pos h3,if_pos h3];rfl
  ·rw [if_neg h3,if_neg h3];unfold Mt.lim;omega
 clear hR hc hT hq hs hw ho hl hA htk hgr
 unfold zAg
 unfold zAg at HC
 generalize b.aAt k=A at *
 generalize b.atoms.length=NA at *
 generalize Mt.lim i.re.len=I at *
 cases h3:decide (t.how=3)
 ·rw [h3] at hg3
  have HF2:Hid (Mt.lim (Mt.zBK t i.re).len=Mt.lim (I+2)):=by show _=_;rw [HF.out,if_neg (by simpa using h3)]
  rw [HF2.out]
  clear HF HF2 h3
  go_enter Tryz.func128,Tryz.ntmps128
  go_wp2_with (first | (refine wpList_load_mid (by rfl) 180 (.tmp 10) (by rfl) ga (k*20) (by rfl) (paC A) _ (HR.out _ (fun q hq=>kG _ _ _ hq)) Tryz.underlying180 rfl (by rw [Tryz.sizeAt];rfl) ?_) | (refine zK 180 20 Tryz.sizeAt (by rfl) (.tmp 5) (.tmp 11) (by rfl) (w.heap.size+1) (paC A).toArray (by rfl) (by rfl) (by exact zA2 _ _ _) (by rfl) (by rfl) (zJS A) ?_;intro w3 r1 r2 r3 r4;have t17:=(zA r1).1 17;change w3.cell? ⟨w.heap.size+1,17,none⟩=some (.int .i64 A.body) at t17;rw [HBD.out] at t17;have bx:=(r2 w.heap.size (by omega)).trans (zBj _ _ _);have bx0:=(zA bx).1 0;have bx1:=(zA bx).1 1;simp only [List.getElem?_toArray,List.getElem?_cons_succ,List.getElem?_cons_zero] at bx0 bx1;have R4:Hid (Below w.heap.size w w3∧w3.heap[w.heap.size+1]?=some (.cells (paC A).toArray 180 (0,0))∧w.heap.size+1<w3.heap.size):=⟨(((Below.refl _ _).alloc (Nat.le_refl _) _).alloc (by simp) _).trans (r4 _ (by omega)),r1,(Array.getElem?_eq_some_iff.1 r1).1⟩;clear r1 r2 r3 r4 bx))
  refine (HC.out w3 R4.out.1).mono ?_
  rintro e w4 ⟨rfl,b4⟩
  have g2:=(zA ((b4.block _ R4.out.2.2).trans R4.out.2.1)).1 2
  change w4.cell? ⟨w.heap.size+1,2,none⟩=some (.int .i64 A.tok.group) at g2
  rw [HGR.out] at g2
  have R5:Hid (Below w.heap.size w w4):=R4.out.1.trans (b4.mono (by have:=R4.out.2.2;omega))
  clear b4
  go_wp2_with (go_at_call 58;refine (xD _ (I+2) (by omega) _).mono ?_;rintro e w' ⟨rfl,rfl⟩)
  go_returns
  exact ⟨rfl,R5.out⟩
 ·rw [h3] at hg3
  have HF2:Hid (Mt.lim (Mt.zBK t i.re).len=I):=by show _=_;rw [HF.out,if_pos (by simpa using h3)]
  rw [HF2.out]
  clear HF HF2 h3
  go_enter Tryz.func128,Tryz.ntmps128
  go_wp2_with (first | (refine wpList_load_mid (by rfl) 180 (.tmp 10) (by rfl) ga (k*20) (by rfl) (paC A) _ (HR.out _ (fun q hq=>kG _ _ _ hq)) Tryz.underlying180 rfl (by rw [Tryz.sizeAt];rfl) ?_) | (refine zK 180 20 Tryz.sizeAt (by rfl) (.tmp 5) (.tmp 11) (by rfl) (w.heap.size+1) (paC A).toArray (by rfl) (by rfl) (by exact zA2 _ _ _) (by rfl) (by rfl) (zJS A) ?_;intro w3 r1 r2 r3 r4;have t17:=(zA r1).1 17;change w3.cell? ⟨w.heap.size+1,17,none⟩=some (.int .i64 A.body) at t17;rw [HBD.out] at t17;have bx:=(r2 w.heap.size (by omega)).trans (zBj _ _ _);have bx0:=(zA bx).1 0;have bx1:=(zA bx).1 1;simp only [List.getElem?_toArray,List.getElem?_cons_succ,List.getElem?_cons_zero] at bx0 bx1;have R4:Hid (Below w.heap.size w w3∧w3.heap[w.heap.size+1]?=some (.cells (paC A).toArray 180 (0,0))∧w.heap.size+1<w3.heap.size):=⟨(((Below.refl _ _).alloc (Nat.le_refl _) _).alloc (by simp) _).trans (r4 _ (by omega)),r1,(Array.getElem?_eq_some_iff.1 r1).1⟩;clear r1 r2 r3 r4 bx))
  refine (HC.out w3 R4.out.1).mono ?_
  rintro e w4 ⟨rfl,b4⟩
  have g2:=(zA ((b4.block _ R4.out.2.2).trans R4.out.2.1)).1 2
  change w4.cell? ⟨w.heap.size+1,2,none⟩=some (.int .i64 A.tok.group) at g2
  rw [HGR.out] at g2
  have R5:Hid (Below w.heap.size w w4):=R4.out.1.trans (b4.mono (by have:=R4.out.2.2;omega))
  clear b4
  go_wp2_with fail
  go_returns
  exact ⟨rfl,R5.out⟩
end Go.Proofs.YtebpgfodelggoabGreat
