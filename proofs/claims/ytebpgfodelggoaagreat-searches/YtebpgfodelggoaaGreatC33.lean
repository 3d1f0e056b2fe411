import Derived.Test.YtebpgfodelggoaaGreatC32
import Derived.Test.YtebpgfodelggoaaGreatC28
set_option linter.unusedVariables false
set_option linter.unusedSimpArgs false
set_option maxRecDepth 100000
set_option maxHeartbeats 8000000
namespace Mt
theorem zFz (p:ByteArray) (hp:p.size≤64):tokens p=if (qD p [] 0).2.1≠0 then qD p [] 0 else if 0<opened (qD p [] 0).1 then ([],11,(p.size:Int)) else ((qD p [] 0).1,0,0):=by
 unfold tokens;rw [if_neg (by omega),vD p hp]
theorem zGp {p:ByteArray} (hp:p.size≤64) {e k:Int} (h:qD p [] 0=([],e,k)) (he:e≠0):(tokens p).2=(e,k):=by
 rw [zFz p hp,h,if_pos he]
theorem zBP {p:ByteArray} (hp:p.size≤64) {l:List Tok} {k:Int} (h:qD p [] 0=(l,0,k)) (ho:0<opened l):(tokens p).2=(11,(p.size:Int)):=by
 rw [zFz p hp,h,if_neg (by simp),if_pos ho]
theorem zJy {p:ByteArray} (hp:p.size≤64) {l:List Tok} {k:Int} (h:qD p [] 0=(l,0,k)) (ho:¬ 0<opened l):tokens p=(l,0,0):=by
 rw [zFz p hp,h,if_neg (by simp),if_neg ho]
end Mt
namespace Go.Proofs.YtebpgfodelggoaaGreat
open Go.RowKit
structure qE (L:Nat) (w:World) (b:Mt.PB) (so ao:Option Addr) (sc ac:Nat):Prop where
 zR:w.ownsRow L 183 2 (.slice so b.zR.length sc) b.zR.length (b.zR.flatMap psC)
 atoms:w.ownsRow L 200 20 (.slice ao b.atoms.length ac) b.atoms.length (b.atoms.flatMap paC)
def zAb (b:Mt.PB) (so ao:Option Addr) (sc ac:Nat):Value:=.agg #[.slice so b.zR.length sc,.slice ao b.atoms.length ac]
def vZ (b:Mt.PB) (so ao:Option Addr) (sc ac:Nat):Array Value:=#[.slice so b.zR.length sc,.slice ao b.atoms.length ac]
def Builds (p:ByteArray) (w:World) (e:Ending) (w':World):Prop :=
 ((Mt.tokens p).2.1≠0→e=.returned (.tuple #[.agg #[.slice none 0 0,.slice none 0 0],.int .i64 (Mt.tokens p).2.1,.int .i64 (Mt.tokens p).2.2])) ∧
 ((Mt.tokens p).2.1=0→∃ so ao sc ac,e=.returned (.tuple #[zAb (Mt.PB.start.run (Mt.tokens p).1) so ao sc ac,.int .i64 0,.int .i64 0])∧qE w.heap.size w' (Mt.PB.start.run (Mt.tokens p).1) so ao sc ac)∧Below w.heap.size w w'
theorem zCO {p:ByteArray} {w w':World} {e:Ending} {E k:Int} (h:(Mt.tokens p).2=(E,k)) (hE:E≠0) (he:e=.returned (.tuple #[.agg #[.slice none 0 0,.slice none 0 0],.int .i64 E,.int .i64 k])) (hb:Below w.heap.size w w'):Builds p w e w':=by
 refine ⟨fun _=>by rw [h];exact he,fun h0=>?_,hb⟩
 rw [h] at h0;exact absurd h0 hE
def zDy:Array Value:=#[.slice none 0 0,.slice none 0 0]
theorem zIj (w:World):BAt (w.heap.size+1) ((w.alloc (.cells zDy 107)).alloc (.cells (bA Mt.PB.zNc none none none 0 0 0) 171)) (w.heap.size+1) Mt.PB.zNc none none none 0 0 0 :=
 ⟨zAH _ _ _,Nat.le_refl _,World.ownsRow_nil _ _ _ _,World.ownsRow_nil _ _ _ _,World.ownsRow_nil _ _ _ _,⟨by simp [blk],by simp [blk],by simp [blk],fun q hq=>by simp [blk] at hq,fun q hq=>by simp [blk] at hq⟩,rfl⟩
theorem zG7 {fn:Func} {p u v:Tmp} {ty:TypeId} (h:fn.results=#[.cell p ty,.tmp u,.tmp v]) (tmps:Array Value) (P:Program) (w:World) :
  (results fn tmps).run P w =
   ((asAddr (tmps.getD p undef)).run P w).andThen fun a w₁=>((loadVar ty a).run P w₁).andThen fun x w₂=>.ok (.tuple #[x,tmps.getD u undef,tmps.getD v undef]) w₂:=by
 simp only [results,h]
 simp [Sem.run_bind,Result.andThen]
theorem zB4 {P:Program} {fn:Func} {p u v:Tmp} (ty:TypeId) (n:Nat) {d:TypeDesc} (hu:P.underlying ty=some d) (hd:d.isRow=true) (hn:(P.info? ty).map (·.size)=some n) (hr:fn.results=#[.cell p ty,.tmp u,.tmp v]) {tmps:Array Value} {w:World} {b:Nat} {t:TypeId} {A:Array Value}
  (hp:tmps.getD p undef=.pointer (some ⟨b,0,none⟩)) (hA:w.heap[b]?=some (.cells A t (0,0))) (hs:A.size=n) :
  (results fn tmps).run P w=.ok (.tuple #[.agg A,tmps.getD u undef,tmps.getD v undef]) w:=by
 rw [zG7 hr,hp]
 have:=run_loadVar_mid (P:=P) w b 0 ty A.toList _ (yS hA) hu hd (by rw [hn];simp [hs])
 simp [asAddr,Result.andThen,this]
theorem zB5:zDy.all (·.oneCell')=true:=by simp [zDy,Value.oneCell']
theorem zO4 (p:ByteArray) (w:World) (hp:p.size≤64) :
  Calls Tryz.prog 89 #[.string p] w (Builds p w):=by
 have b1:decide (64<(p.size:Int))=false:=by simp;omega
 have b2:decide (64<p.size)=false:=by simp;omega
 have HC:Hid (Calls Tryz.prog 115 _ _ _):=zAv (zIj w) (by decide)
 go_enter Tryz.func89,Tryz.ntmps89
 go_wp2_with fail
 refine HC.out.mono ?_
 rintro e w1 ⟨rfl,so1,sc1,hP,hSt⟩
 have hz1:w1.heap[w.heap.size]?=some (.cells zDy 107 (0,0)):=(hSt.block w.heap.size (by simp;omega) (by rintro (e | e | e | e);omega;simp [blk] at e;simp [blk] at e;simp [blk] at e)).trans (zAX _ _ _)
 obtain ⟨x0,x1,x2,_,_,_,_,xf⟩:=hP.cells
 have xf2:=xf 2
 have hb1:Below w.heap.size w w1:=(((Below.refl _ _).alloc (Nat.le_refl _) _).alloc (by simp) _).trans ((hSt.low (zIj w) (by simp)).mono (by omega))
 have M0:=hP.field (k:=2) (v:=.int .i64 0) (b':=Mt.PB.start) (so':=so1) (ao':=none) (oo':=none) (sc':=sc1) (ac':=0) (oc':=0) (by unfold bA;rfl) hP.zR hP.atoms hP.opn hP.ap hP.cl
 have HM0:Hid (BAt (w.heap.size+1) (w1.setCell ⟨w.heap.size+1,2,none⟩ (.int .i64 0)) (w.heap.size+1) Mt.PB.start so1 none none sc1 0 0∧(w1.setCell ⟨w.heap.size+1,2,none⟩ (.int .i64 0)).heap[w.heap.size]?=some (.cells zDy 107 (0,0))∧Below w.heap.size w (w1.setCell ⟨w.heap.size+1,2,none⟩ (.int .i64 0))) :=
  ⟨M0,(Below.heap_setCell _ _ _ _ (by show w.heap.size≠w.heap.size+1;omega)).trans hz1,hb1.setCell (p:=⟨w.heap.size+1,2,none⟩) (by simp) _⟩
 clear hP hSt hz1 xf hb1 M0 HC x0 x1
 go_wp2_with fail
 go_loopw [7] (fun at' wr=>∃ (k:Nat) (l:List Mt.Tok) (b:Mt.PB) (so ao oo:Option Addr) (sc ac oc:Nat),at'=.int .i64 k∧Mt.Read p k b l∧BAt (w.heap.size+1) wr (w.heap.size+1) b so ao oo sc ac oc∧wr.heap[w.heap.size]?=some (.cells zDy 107 (0,0))∧Below w.heap.size w wr) (fun at' _=>p.size-(intOf at').toNat)
 case atStart=>exact ⟨0,[],Mt.PB.start,so1,none,none,sc1,0,0,rfl,Mt.zLu p,HM0.out.1,HM0.out.2.1,HM0.out.2.2⟩
 case round =>
  obtain ⟨k,l,b,so,ao,oo,sc,ac,oc,rfl,hR,hB,hz,hBl⟩:=hrel
  have hkle:=hR.le
  have HR:Hid (Mt.Read p k b l):=hR
  have HB:Hid (BAt (w.heap.size+1) wr (w.heap.size+1) b so ao oo sc ac oc):=hB
  have HZ:Hid (wr.heap[w.heap.size]?=some (.cells zDy 107 (0,0))):=hz
  have HBl:Hid (Below w.heap.size w wr):=hBl
  have hgr:w.heap.size+1<wr.heap.size:=(hB.lt _ (Or.inl rfl)).2
  obtain ⟨_,_,_,_,y4,_,_,_⟩:=hB.cells
  clear hR hB hz hBl
  by_cases hk:k<p.size
  ·have hg0:=Mt.zJg p k
   have zLw:Hid (Calls Tryz.prog 116 #[.string p,.int .i64 (k:Int)] wr _):=zOS p k wr hp (by omega) (by omega)
   by_cases hn:(Mt.kK p k).2=0
   ·have erd:Mt.xV p k=(Mt.jT (Mt.kK p k).1,0):=by unfold Mt.xV;rw [if_pos hn]
    have HG:Hid (Mt.zEk (Mt.kK p k).1):=hg0 hn
    have HNN:Hid ((Mt.kK p k).2=0):=hn
    simp only [erd] at zLw
    clear hg0 hn erd
    generalize hT:Mt.jT (Mt.kK p k).1=T at *
    have HTT:Hid (Mt.jT (Mt.kK p k).1=T):=hT
    clear hT
    go_wp2_with fail
    refine zLw.out.mono ?_
    rintro e w2 ⟨rfl,b2⟩
    have hg2:wr.heap.size≤w2.heap.size:=b2.size
    have HB2:Hid (BAt (w.heap.size+1) w2 (w.heap.size+1) b so ao oo sc ac oc∧w2.heap[w.heap.size]?=some (.cells zDy 107 (0,0))∧Below w.heap.size w w2):=⟨HB.out.below b2,(b2.block _ (by omega)).trans HZ.out,HBl.out.trans (b2.mono (by omega))⟩
    clear b2 zLw
    have HNo:Hid (¬ own (w.heap.size+1) so ao oo w2.heap.size):=fun ho=>by have:=(HB.out.lt _ ho).2;omega
    go_wp2_with (first | (refine zI 174 8 Tryz.sizePT (by rfl) (.tmp 8) (.tmp 26) (by rfl) w2.heap.size (ptA T) (by rfl) (by rfl) (by exact jE _ _) (by rfl) (by rfl) (yT _) ?_;intro w3 r1 r2 r3 r4) | (refine zZ 174 8 Tryz.underlying174 rfl Tryz.sizePT (by rfl) (.tmp 8) (by rfl) w2.heap.size (by rfl) r1 (by rfl) ?_))
    have hw3:Below w2.heap.size w2 w3:=((Below.refl _ _).alloc (Nat.le_refl _) _).trans (r4 _ (Nat.le_refl _))
    have hs3:w2.heap.size<w3.heap.size:=(Array.getElem?_eq_some_iff.1 r1).1
    have HTK:=zO3 (HB2.out.1.below hw3) HR.out hp (Mt.kK p k).1 HG.out
    rw [HTT.out] at HTK
    have HB3:Hid (w3.heap[w.heap.size]?=some (.cells zDy 107 (0,0))∧Below w.heap.size w w3):=⟨(hw3.block _ (by omega)).trans HB2.out.2.1,HB2.out.2.2.trans (hw3.mono (by omega))⟩
    have HR1:Hid (w3.heap[w2.heap.size]?=some (.cells (ptA T) 174 (0,0))):=r1
    clear r1 r2 r3 r4 hw3
    by_cases hm:Mt.may l (Mt.kK p k).1=0
    ·obtain ⟨m,hm1,hm2,hRm⟩:=Mt.zNe HR.out hk HNN.out hm
     rw [HTT.out] at hRm
     have HRm:Hid (Mt.Read p m (b.next T) (l++[Mt.joined l (Mt.kK p k).1])):=hRm
     have zSS:T.en=m:=by rw [← HTT.out];exact hm1
     rw [hm] at HTK
     refine HTK.mono ?_
     clear HTK hm hm1 hRm
     rintro e w4 ⟨rfl,hT1,hT2⟩
     obtain ⟨so',ao',oo',sc',ac',oc',hB4,hS4⟩:=hT1 rfl
     have t1:=(zA ((hS4.block w2.heap.size hs3 HNo.out).trans HR1.out)).1 1
     change w4.cell? ⟨w2.heap.size,1,none⟩=some (.int .i64 T.en) at t1
     rw [zSS] at t1
     have R4:Hid (BAt (w.heap.size+1) w4 (w.heap.size+1) (b.next T) so' ao' oo' sc' ac' oc'∧w4.heap[w.heap.size]?=some (.cells zDy 107 (0,0))∧Below w.heap.size w w4):=⟨hB4,(hT2.block _ (by omega)).trans HB3.out.1,HB3.out.2.trans (hT2.mono (by omega))⟩
     clear hT1 hT2 hB4 hS4 zSS
     have zUe:=HRm.out.le
     go_wp2_with fail
     go_roundw
     case rel=>exact ⟨m,_,_,so',ao',oo',sc',ac',oc',rfl,HRm.out,R4.out.1,R4.out.2.1,R4.out.2.2⟩
     case measure=>simp [intOf];omega
    ·have HX:Hid ((Mt.tokens p).2=(Mt.may l (Mt.kK p k).1,(k:Int))):=Mt.zGp hp (by rw [← HR.out.on];exact Mt.zJx p l k (by omega) (by omega) HNN.out hm) hm
     generalize Mt.may l (Mt.kK p k).1=M at *
     have m1:(M==0)=false:=by simpa using hm
     have m2:(M != 0)=true:=by simpa using hm
     refine HTK.mono ?_
     clear HTK
     rintro e w4 ⟨rfl,hT1,hT2⟩
     have R4:Hid (w4.heap[w.heap.size]?=some (.cells zDy 107 (0,0))∧Below w.heap.size w w4):=⟨(hT2.block _ (by omega)).trans HB3.out.1,HB3.out.2.trans (hT2.mono (by omega))⟩
     clear hT1 hT2
     have zSt:Hid (M≠0):=hm
     clear hm
     go_wp2_with (refine zI 107 2 Tryz.sizeT (by rfl) (.tmp 2) (.tmp 34) (by rfl) w.heap.size zDy (by rfl) (by rfl) R4.out.1 (by rfl) (by rfl) zB5 ?_;intro w5 q1 q2 q3 q4)
     refine bodyPost_ret (zB4 107 2 Tryz.underlying107 rfl Tryz.sizeT rfl (by rfl) q1 (by rfl)) rfl ?_
     exact zCO HX.out zSt.out rfl (R4.out.2.trans (q4 _ (Nat.le_refl _)))
   ·have erd:Mt.xV p k=(Mt.pt0,(Mt.kK p k).2):=by unfold Mt.xV;rw [if_neg hn]
    have HX:Hid ((Mt.tokens p).2=((Mt.kK p k).2,(k:Int))):=Mt.zGp hp (by rw [← HR.out.on];exact Mt.zJw p l k (by omega) (by omega) hn) hn
    simp only [erd] at zLw
    clear hg0 erd
    generalize (Mt.kK p k).2=M at *
    have m1:(M==0)=false:=by simpa using hn
    have m2:(M != 0)=true:=by simpa using hn
    have zSt:Hid (M≠0):=hn
    clear hn
    go_wp2_with fail
    refine zLw.out.mono ?_
    rintro e w2 ⟨rfl,b2⟩
    have HB2:Hid (w2.heap[w.heap.size]?=some (.cells zDy 107 (0,0))∧Below w.heap.size w w2):=⟨(b2.block _ (by omega)).trans HZ.out,HBl.out.trans (b2.mono (by omega))⟩
    have hg2:wr.heap.size≤w2.heap.size:=b2.size
    clear b2 zLw
    go_wp2_with (first | (refine zI 174 8 Tryz.sizePT (by rfl) (.tmp 8) (.tmp 26) (by rfl) w2.heap.size (ptA Mt.pt0) (by rfl) (by rfl) (by exact jE _ _) (by rfl) (by rfl) (yT _) ?_;intro w3 r1 r2 r3 r4;have R3:Hid (w3.heap[w.heap.size]?=some (.cells zDy 107 (0,0))∧Below w.heap.size w w3):=⟨(r2 _ (by omega)).trans ((zX _ _ _ (by omega)).trans HB2.out.1),(HB2.out.2.alloc (by omega) _).trans (r4 _ (by omega))⟩;clear r1 r2 r3 r4) | (refine zI 107 2 Tryz.sizeT (by rfl) (.tmp 2) (.tmp 34) (by rfl) w.heap.size zDy (by rfl) (by rfl) R3.out.1 (by rfl) (by rfl) zB5 ?_;intro w5 q1 q2 q3 q4))
    refine bodyPost_ret (zB4 107 2 Tryz.underlying107 rfl Tryz.sizeT rfl (by rfl) q1 (by rfl)) rfl ?_
    exact zCO HX.out zSt.out rfl (R3.out.2.trans (q4 _ (Nat.le_refl _)))
  ·have hk2:k=p.size:=by omega
   have HON:Hid (Mt.qD p [] 0=(l,0,(k:Int))):=by show _=_;rw [← HR.out.on];exact Mt.zLt p l k (by omega) (by omega)
   have hop:(b.opn.length:Int)=Mt.opened l:=by
    obtain ⟨stk,hr⟩:=HR.out.rel
    rw [hr.len,hr.op]
   have hol:b.opn.length≤64:=by
    obtain ⟨stk,hr⟩:=HR.out.rel
    exact (Mt.zPR hr (by have:=HR.out.len;omega)).2.2.1
   by_cases ho:0<b.opn.length
   ·have HX:Hid ((Mt.tokens p).2=(11,(p.size:Int))):=Mt.zBP hp HON.out (by omega)
    have o1:decide (0<(b.opn.length:Int))=true:=by simp;omega
    have o2:decide (0<b.opn.length)=true:=by simp;omega
    clear hop
    go_wp2_with (refine zI 107 2 Tryz.sizeT (by rfl) (.tmp 2) (.tmp 43) (by rfl) w.heap.size zDy (by rfl) (by rfl) HZ.out (by rfl) (by rfl) zB5 ?_;intro w5 q1 q2 q3 q4)
    refine bodyPost_ret (zB4 107 2 Tryz.underlying107 rfl Tryz.sizeT rfl (by rfl) q1 (by rfl)) rfl ?_
    exact zCO HX.out (by decide) rfl (HBl.out.trans (q4 _ (Nat.le_refl _)))
   ·have HX:Hid (Mt.tokens p=(l,0,0)):=Mt.zJy hp HON.out (by omega)
    have o1:decide (0<(b.opn.length:Int))=false:=by simp only [decide_eq_false_iff_not];omega
    have o2:decide (0<b.opn.length)=false:=by simp only [decide_eq_false_iff_not];omega
    have HRA:Hid (wr.rangeAt (w.heap.size+1) 0 (vZ b so ao sc ac).toList):=fun j v hv=>by
     rw [Nat.zero_add,(zA HB.out.cell).1]
     match j,hv with
     | 0,hv=>simpa [vZ,bA] using hv
     | 1,hv=>simpa [vZ,bA] using hv
     | j+2,hv=>simp [vZ] at hv
    clear hop
    go_wp2_with (first | (refine wpList_load_mid (by rfl) 107 (.tmp 46) (by rfl) (w.heap.size+1) 0 (by rfl) (vZ b so ao sc ac).toList _ HRA.out Tryz.underlying107 rfl (by rw [Tryz.sizeT];rfl) ?_) | (refine zI 107 2 Tryz.sizeT (by rfl) (.tmp 2) (.tmp 47) (by rfl) w.heap.size (vZ b so ao sc ac) (by rfl) (by rfl) HZ.out (by rfl) (by rfl) (by simp [vZ,Value.oneCell']) ?_;intro w5 q1 q2 q3 q4))
    refine bodyPost_ret (zB4 107 2 Tryz.underlying107 rfl Tryz.sizeT rfl (by rfl) q1 (by rfl)) rfl ?_
    have hb5:Below w.heap.size w w5:=HBl.out.trans (q4 _ (Nat.le_refl _))
    refine ⟨fun h0=>absurd (by rw [HX.out]) h0,fun _=>⟨so,ao,sc,ac,?_,?_⟩,hb5⟩
    ·rw [HX.out,← HR.out.run];rfl
    ·rw [HX.out,← HR.out.run]
     have q2':∀ k',k'≠w.heap.size→w5.heap[k']?=wr.heap[k']?:=q2
     have nr:∀ (o:Option Addr) (n c:Nat) (e:TypeId) (sz:Nat) (xs:List Value),wr.ownsRow (w.heap.size+1) e sz (.slice o n c) n xs→w5.ownsRow w.heap.size e sz (.slice o n c) n xs:=by
      intro o n c e sz xs hrow
      have h1:=zK (w':=w5) hrow (fun q hq=>q2' q (fun e=>by have:=(World.ownsRow.lt hrow q (by rw [zW];exact hq)).1;omega))
      refine ⟨h1.1,?_⟩
      rcases h1.2 with h' | ⟨g',cap',cur,hv,h0,hg,rest⟩
      ·exact .inl h'
      ·exact .inr ⟨g',cap',cur,hv,by omega,hg,rest⟩
     exact ⟨nr _ _ _ _ _ _ HB.out.zR,nr _ _ _ _ _ _ HB.out.atoms⟩
theorem zNf (p:ByteArray) (w:World) (hm:p.size≤maxLen):Calls Tryz.prog 89 #[.string p] w (Builds p w):=by
 by_cases hp:p.size≤64
 ·exact zO4 p w hp
 ·have ht:(Mt.tokens p).2=(1,0):=by unfold Mt.tokens;rw [if_pos (by omega)]
  exact (zLv p w (by omega) hm).mono (fun e w' hh=>zCO ht (by decide) hh.1 hh.2)
end Go.Proofs.YtebpgfodelggoaaGreat
namespace Mt
theorem zAL (x:Re):∀ n,(kH x n).len=n*x.len
 | 0=>by simp [kH,Re.len]
 | n+1=>by rw [kH,Re.len,zAL x n,Nat.add_mul];omega
def zGq (q:Tok):Prop:=0≤q.n∧q.n≤20∧-1≤q.m∧q.m≤20∧0≤q.how∧q.how≤2∧(q.m=-1∨q.n≤q.m)
def zC1 (o:Nat) (q:Tok):Nat:=q.n.toNat*o+(if q.m=-1 then o+3 else (q.m-q.n).toNat*(o+1))+(if q.how=2 then 2 else 0)
theorem zO5 (x:Re) (q:Tok) (h:zGq q):(zHt x q).len=zC1 x.len q:=by
 obtain ⟨h1,h2,h3,h4,h5,h6,h7⟩:=h
 unfold zHt zC1
 dsimp only
 have c1:(if 0<q.n∨0<q.m then (if q.n<q.m then Re.cat (kH x q.n.toNat) (zBD x (decide (q.how=1)) (q.m-q.n).toNat) else kH x q.n.toNat) else Re.eps).len=q.n.toNat*x.len+(if q.m=-1 then 0 else (q.m-q.n).toNat*(x.len+1)):=by
  by_cases a:0<q.n∨0<q.m
  ·rw [if_pos a]
   by_cases b:q.n<q.m
   ·rw [if_pos b,if_neg (by omega),Re.len,zAL,zCI]
   ·rw [if_neg b,zAL]
    by_cases c:q.m=-1
    ·rw [if_pos c];omega
    ·rw [if_neg c,show (q.m-q.n).toNat=0 by omega];simp
  ·rw [if_neg a,show q.n.toNat=0 by omega]
   by_cases c:q.m=-1
   ·rw [if_pos c];simp [Re.len]
   ·rw [if_neg c,show (q.m-q.n).toNat=0 by omega];simp [Re.len]
 generalize (if 0<q.n∨0<q.m then (if q.n<q.m then Re.cat (kH x q.n.toNat) (zBD x (decide (q.how=1)) (q.m-q.n).toNat) else kH x q.n.toNat) else Re.eps)=z at *
 have c2:(if q.m<0 then Re.cat z (.loop (decide (q.how=1)) x) else z).len=q.n.toNat*x.len+(if q.m=-1 then x.len+3 else (q.m-q.n).toNat*(x.len+1)):=by
  by_cases c:q.m=-1
  ·rw [if_pos (by omega),if_pos c,Re.len,Re.len,c1,if_pos c];omega
  ·rw [if_neg (by omega),if_neg c,c1,if_neg c]
 generalize (if q.m<0 then Re.cat z (.loop (decide (q.how=1)) x) else z)=z2 at *
 by_cases e:q.how=2
 ·rw [if_pos e,if_pos e,Re.len,c2]
 ·rw [if_neg e,if_neg e,c2];omega
def lim (n:Nat):Nat:=min n 301
theorem zDz (n:Nat):lim n≤301:=Nat.min_le_right _ _
theorem zQJ (o:Nat) (q:Tok) (h:zGq q):lim (zC1 (lim o) q)=lim (zC1 o q):=by
 obtain ⟨h1,h2,h3,h4,h5,h6,h7⟩:=h
 by_cases a:o≤301
 ·have:lim o=o:=by unfold lim;omega
  rw [this]
 ·have:lim o=301:=by unfold lim;omega
  rw [this]
  unfold zC1 lim
  have key:∀ (n c:Nat),0<n→301≤n*(301+c)∧301≤n*(o+c):=fun n c hn=>by
   have e1:1*(301+c)≤n*(301+c):=Nat.mul_le_mul_right _ (by omega)
   have e2:1*(o+c)≤n*(o+c):=Nat.mul_le_mul_right _ (by omega)
   omega
  by_cases b:0<q.n.toNat
  ·have:=key q.n.toNat 0 b
   simp only [Nat.add_zero] at this
   omega
  ·have e:q.n.toNat=0:=by omega
   rw [e]
   simp only [Nat.zero_mul,Nat.zero_add]
   by_cases c:q.m=-1
   ·rw [if_pos c,if_pos c];omega
   ·rw [if_neg c,if_neg c]
    by_cases d:0<(q.m-q.n).toNat
    ·have:=key (q.m-q.n).toNat 1 d
     omega
    ·rw [show (q.m-q.n).toNat=0 by omega];simp
def zBe (o:Nat) (r:Option Tok):Nat:=match r with
 | none=>o
 | some q=>zC1 o q
def zDA (r:Option Tok):Prop:=∀ q,r=some q→zGq q
theorem zO6 (x:Re) (r:Option Tok) (h:zDA r):(part r x).len=zBe x.len r:=by
 cases r with
 | none=>rfl
 | some q=>exact zO5 x q (h q rfl)
theorem zO7 (o:Nat) (r:Option Tok) (h:zDA r):lim (zBe (lim o) r)=lim (zBe o r):=by
 cases r with
 | none=>show lim (lim o)=lim o;unfold lim;omega
 | some q=>exact zQJ o q (h q rfl)
def Fs.ok:Fs→Prop
 | .nil=>True
 | .bar _ r=>r.ok
 | .leaf t r s=>zDA r∧s.ok
 | .grp t i c r s=>zDA r∧(0≤t.how∧t.how≤4)∧i.ok∧s.ok
theorem zLx (t:Tok):(xM t).len=1:=by
 unfold xM
 split
 ·rfl
 split
 ·rfl
 split
 ·rfl
 ·rfl
theorem zNg (t:Tok) (x:Re):(zBE t x).len=x.len+if t.how=3 then 0 else 2:=by
 unfold zBE
 by_cases h:t.how=3
 ·rw [if_pos h,if_pos h];rfl
 ·rw [if_neg h,if_neg h];split <;> rfl
theorem zRK (f:Fs):f.re.len=f.both.1.len+(match f.rs with | none=>0 | some r=>2+r.re.len):=by
 have h:=f.zK6
 unfold Fs.re
 generalize f.both=xy at *
 obtain ⟨x,y⟩:=xy
 simp only at h
 cases hr:f.rs with
 | none=>rw [hr] at h;simp at h;subst h;rfl
 | some r=>rw [hr] at h;simp at h;subst h;show x.len+r.re.len+2=x.len+(2+r.re.len);omega
theorem zDB {b:PB}:∀ (f:Fs) (a n:Int),jF b 0 0 f a n→(f.rs=none∧n=-1)∨∃ (r:Fs) (k:Nat),f.rs=some r∧n=k∧k<b.zR.length∧jF b 0 0 r (b.sAt k).first (b.sAt k).next
 | .nil,a,n,h=>Or.inl ⟨rfl,h.2⟩
 | .bar t r,a,n,⟨_,k,h1,_,h2,h3⟩=>Or.inr ⟨r,k,rfl,h1,h2,h3⟩
 | .leaf t r s,a,n,⟨k,_,_,_,_,_,_,h⟩=>zDB s _ _ h
 | .grp t i c r s,a,n,⟨k,_,_,_,_,_,_,_,h⟩=>zDB s _ _ h
theorem zG8:∀ (f r:Fs),f.rs=some r→r.flat.length<f.flat.length∧(f.wf→r.wf)∧(f.ok→r.ok)
 | .nil,r,h=>by simp [Fs.rs] at h
 | .bar t s,r,h=>by simp only [Fs.rs,Option.some.injEq] at h;subst h;exact ⟨by simp [Fs.flat],fun h=>h.2,fun h=>h⟩
 | .leaf t q s,r,h=>by have:=zG8 s r h;exact ⟨by simp [Fs.flat];omega,fun hh=>this.2.1 hh.2.2,fun hh=>this.2.2 hh.2⟩
 | .grp t i c q s,r,h=>by have:=zG8 s r h;exact ⟨by simp [Fs.flat];omega,fun hh=>this.2.1 hh.2.2.2.2,fun hh=>this.2.2 hh.2.2.2⟩
end Mt
namespace Go.Proofs.YtebpgfodelggoaaGreat
open Go.RowKit
theorem zJz (n:Nat) (w:World):Calls Tryz.prog 119 #[.int .i64 (n:Int)] w fun e w'=>e=.returned (.int .i64 (Mt.lim n:Nat))∧w=w':=by
 by_cases h:300<n
 ·have e:Mt.lim n=301:=by unfold Mt.lim;omega
  have b1:decide (300<(n:Int))=true:=by simp;omega
  have b2:decide (300<n)=true:=by simp;omega
  rw [e]
  clear e
  go_enter Tryz.func119,Tryz.ntmps119
  go_wp2
  go_ret
  exact ⟨rfl,rfl⟩
 ·have e:Mt.lim n=n:=by unfold Mt.lim;omega
  have b1:decide (300<(n:Int))=false:=by simp;omega
  have b2:decide (300<n)=false:=by simp;omega
  rw [e]
  clear e
  go_enter Tryz.func119,Tryz.ntmps119
  go_wp2
  go_ret
  exact ⟨rfl,rfl⟩
theorem zQK:Mt.rp none=Mt.pt0:=rfl
theorem zQL (q:Mt.Tok) (hk:q.kind=8):Mt.rp (some q)=⟨4,q.to,0,0,q.n,q.m,q.how+1,q.set⟩:=by
 show Mt.jT q=_;unfold Mt.jT;rw [hk];rfl
theorem xA (x:Int) (n:Nat) (h:x=n) (w:World):Calls Tryz.prog 119 #[.int .i64 x] w fun e w'=>e=.returned (.int .i64 (Mt.lim n:Nat))∧w=w':=by subst h;exact zJz n w
theorem zEy (o:Nat) (r:Option Mt.Tok) (w:World) (ho:o≤301) (hr:Mt.zDA r) (hk:Mt.zK5 r) :
  Calls Tryz.prog 160 #[.int .i64 (o:Int),ptV (Mt.rp r)] w fun e w'=>e=.returned (.int .i64 (Mt.lim (Mt.zBe o r):Nat))∧Below w.heap.size w w':=by
 cases r with
 | none =>
  rw [zQK]
  have e:Mt.lim (Mt.zBe o none)=o:=by show Mt.lim o=o;unfold Mt.lim;omega
  rw [e]
  clear e hr hk
  unfold ptV ptA Mt.pt0
  go_enter Tryz.func160,Tryz.ntmps160
  go_wp2_with fail
  go_ret
  exact ⟨rfl,by go_grown⟩
 | some q =>
  rw [zQL q (hk q rfl)]
  obtain ⟨h1,h2,h3,h4,h5,h6,h7⟩:=hr q rfl
  obtain ⟨n,hn⟩:=Int.eq_ofNat_of_zero_le h1
  have hmul:n*o≤20*301:=Nat.mul_le_mul (by omega) ho
  have hmi:((n:Int)*(o:Int))=((n*o:Nat):Int):=by simp
  have m0:0≤(n:Int)*(o:Int):=by rw [hmi];omega
  have m1:(n:Int)*(o:Int)≤6020:=by rw [hmi];omega
  have HMI:Hid (((n:Int)*(o:Int))=((n*o:Nat):Int)):=hmi
  by_cases hm:q.m=-1
  ·have e0:Mt.zBe o (some q)=n*o+(o+3)+(if q.how=2 then 2 else 0):=by
    show Mt.zC1 o q=_;unfold Mt.zC1;rw [if_pos hm,show q.n.toNat=n by omega]
   rw [e0,hm,hn]
   clear e0 hr hk h7 hmi hm hn hmul
   unfold ptV ptA
   by_cases hw:q.how=2
   ·rw [if_pos hw,hw]
    clear hw
    go_enter Tryz.func160,Tryz.ntmps160
    go_wp2_with fail
    refine (xA _ (n*o+(o+3)+2) (by have:=HMI.out;omega) _).mono ?_
    rintro e w1 ⟨rfl,rfl⟩
    go_wp2_with fail
    go_ret
    exact ⟨rfl,by go_grown⟩
   ·have hb:(q.how+1==3)=false:=by simp;omega
    rw [if_neg hw]
    clear hw
    go_enter Tryz.func160,Tryz.ntmps160
    go_wp2_with fail
    refine (xA _ (n*o+(o+3)+0) (by have:=HMI.out;omega) _).mono ?_
    rintro e w1 ⟨rfl,rfl⟩
    go_wp2_with fail
    go_ret
    exact ⟨rfl,by go_grown⟩
  ·obtain ⟨m,hmm⟩:=Int.eq_ofNat_of_zero_le (show 0≤q.m by omega)
   obtain ⟨d,hd⟩:∃ d:Nat,m=n+d:=⟨m-n,by omega⟩
   subst hd
   have e0:Mt.zBe o (some q)=n*o+d*(o+1)+(if q.how=2 then 2 else 0):=by
    show Mt.zC1 o q=_;unfold Mt.zC1;rw [if_neg hm,show q.n.toNat=n by omega,show (q.m-q.n).toNat=d by omega]
   have zSu:d*(o+1)≤20*302:=Nat.mul_le_mul (by omega) (by omega)
   have zR3:((d:Int)*((o:Int)+1))=((d*(o+1):Nat):Int):=by simp
   have m2:0≤(d:Int)*((o:Int)+1):=by rw [zR3];omega
   have m3:(d:Int)*((o:Int)+1)≤6040:=by rw [zR3];omega
   have zST:Hid (((d:Int)*((o:Int)+1))=((d*(o+1):Nat):Int)):=zR3
   have hb1:(((n+d:Nat):Int)==-1)=false:=by simp;omega
   have zUf:(d:Int)≤20:=by omega
   have zUg:(n:Int)≤20:=by omega
   have hsub:((n+d:Nat):Int)-(n:Int)=d:=by omega
   have hb2:(n:Int)+(d:Int)-(n:Int)=d:=by omega
   rw [e0,hmm,hn]
   clear e0 hr hk h7 hmi hm hn hmul zSu zR3 hmm
   unfold ptV ptA
   by_cases hw:q.how=2
   ·rw [if_pos hw,hw]
    clear hw
    go_enter Tryz.func160,Tryz.ntmps160
    go_wp2_with fail
    refine (xA _ (n*o+d*(o+1)+2) (by have:=HMI.out;have:=zST.out;omega) _).mono ?_
    rintro e w1 ⟨rfl,rfl⟩
    go_wp2_with fail
    go_ret
    exact ⟨rfl,by go_grown⟩
   ·have hb:(q.how+1==3)=false:=by simp;omega
    rw [if_neg hw]
    clear hw
    go_enter Tryz.func160,Tryz.ntmps160
    go_wp2_with fail
    refine (xA _ (n*o+d*(o+1)+0) (by have:=HMI.out;have:=zST.out;omega) _).mono ?_
    rintro e w1 ⟨rfl,rfl⟩
    go_wp2_with fail
    go_ret
    exact ⟨rfl,by go_grown⟩
end Go.Proofs.YtebpgfodelggoaaGreat
