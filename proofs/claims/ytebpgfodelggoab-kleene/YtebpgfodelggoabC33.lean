import Derived.Test.YtebpgfodelggoabC32
import Derived.Test.YtebpgfodelggoabC10
set_option linter.unusedVariables false
set_option linter.unusedSimpArgs false
set_option maxRecDepth 100000
set_option maxHeartbeats 8000000
namespace Mt
theorem tokens_is (p:ByteArray) (hp:p.size≤64):tokens p=if (readOn p [] 0).2.1≠0 then readOn p [] 0 else if 0<opened (readOn p [] 0).1 then ([],11,(p.size:Int)) else ((readOn p [] 0).1,0,0):=by
 unfold tokens;rw [if_neg (by omega),readOn_start p hp]
theorem tokens_bad {p:ByteArray} (hp:p.size≤64) {e k:Int} (h:readOn p [] 0=([],e,k)) (he:e≠0):(tokens p).2=(e,k):=by
 rw [tokens_is p hp,h,if_pos he]
theorem tokens_open {p:ByteArray} (hp:p.size≤64) {l:List Tok} {k:Int} (h:readOn p [] 0=(l,0,k)) (ho:0<opened l):(tokens p).2=(11,(p.size:Int)):=by
 rw [tokens_is p hp,h,if_neg (by simp),if_pos ho]
theorem tokens_good {p:ByteArray} (hp:p.size≤64) {l:List Tok} {k:Int} (h:readOn p [] 0=(l,0,k)) (ho:¬ 0<opened l):tokens p=(l,0,0):=by
 rw [tokens_is p hp,h,if_neg (by simp),if_neg ho]
end Mt
namespace Go.Proofs.Ytebpgfodelggoab
open Go.RowKit
structure TreeAt (L:Nat) (w:World) (b:Mt.PB) (so ao:Option Addr) (sc ac:Nat):Prop where
 seqs:w.ownsRow L 129 2 (.slice so b.seqs.length sc) b.seqs.length (b.seqs.flatMap psC)
 atoms:w.ownsRow L 142 20 (.slice ao b.atoms.length ac) b.atoms.length (b.atoms.flatMap paC)
def treeV (b:Mt.PB) (so ao:Option Addr) (sc ac:Nat):Value:=.agg #[.slice so b.seqs.length sc,.slice ao b.atoms.length ac]
def treeA (b:Mt.PB) (so ao:Option Addr) (sc ac:Nat):Array Value:=#[.slice so b.seqs.length sc,.slice ao b.atoms.length ac]
def Builds (p:ByteArray) (w:World) (e:Ending) (w':World):Prop :=
 ((Mt.tokens p).2.1≠0→e=.returned (.tuple #[.agg #[.slice none 0 0,.slice none 0 0],.int .i64 (Mt.tokens p).2.1,.int .i64 (Mt.tokens p).2.2])) ∧
 ((Mt.tokens p).2.1=0→∃ so ao sc ac,e=.returned (.tuple #[treeV (Mt.PB.start.run (Mt.tokens p).1) so ao sc ac,.int .i64 0,.int .i64 0])∧TreeAt w.heap.size w' (Mt.PB.start.run (Mt.tokens p).1) so ao sc ac)∧Below w.heap.size w w'
theorem builds_bad {p:ByteArray} {w w':World} {e:Ending} {E k:Int} (h:(Mt.tokens p).2=(E,k)) (hE:E≠0) (he:e=.returned (.tuple #[.agg #[.slice none 0 0,.slice none 0 0],.int .i64 E,.int .i64 k])) (hb:Below w.heap.size w w'):Builds p w e w':=by
 refine ⟨fun _=>by rw [h];exact he,fun h0=>?_,hb⟩
 rw [h] at h0;exact absurd h0 hE
def nil2:Array Value:=#[.slice none 0 0,.slice none 0 0]
theorem start_mem (w:World):BAt (w.heap.size+1) ((w.alloc (.cells nil2 80)).alloc (.cells (bA Mt.PB.start0 none none none 0 0 0) 118)) (w.heap.size+1) Mt.PB.start0 none none none 0 0 0 :=
 ⟨heap_b3 _ _ _,Nat.le_refl _,World.ownsRow_nil _ _ _ _,World.ownsRow_nil _ _ _ _,World.ownsRow_nil _ _ _ _,⟨by simp [blk],by simp [blk],by simp [blk],fun q hq=>by simp [blk] at hq,fun q hq=>by simp [blk] at hq⟩,rfl⟩
theorem results_cell3 {fn:Func} {p u v:Tmp} {ty:TypeId} (h:fn.results=#[.cell p ty,.tmp u,.tmp v]) (tmps:Array Value) (P:Program) (w:World) :
  (results fn tmps).run P w =
   ((asAddr (tmps.getD p undef)).run P w).andThen fun a w₁=>((loadVar ty a).run P w₁).andThen fun x w₂=>.ok (.tuple #[x,tmps.getD u undef,tmps.getD v undef]) w₂:=by
 simp only [results,h]
 simp [Sem.run_bind,Result.andThen]
theorem ret_blk3 {P:Program} {fn:Func} {p u v:Tmp} (ty:TypeId) (n:Nat) {d:TypeDesc} (hu:P.underlying ty=some d) (hd:d.isRow=true) (hn:(P.info? ty).map (·.size)=some n) (hr:fn.results=#[.cell p ty,.tmp u,.tmp v]) {tmps:Array Value} {w:World} {b:Nat} {t:TypeId} {A:Array Value}
  (hp:tmps.getD p undef=.pointer (some ⟨b,0,none⟩)) (hA:w.heap[b]?=some (.cells A t (0,0))) (hs:A.size=n) :
  (results fn tmps).run P w=.ok (.tuple #[.agg A,tmps.getD u undef,tmps.getD v undef]) w:=by
 rw [results_cell3 hr,hp]
 have:=run_loadVar_mid (P:=P) w b 0 ty A.toList _ (rangeAt_blk hA) hu hd (by rw [hn];simp [hs])
 simp [asAddr,Result.andThen,this]
theorem nil2_all:nil2.all (·.oneCell')=true:=by simp [nil2,Value.oneCell']
theorem Build_ok (p:ByteArray) (w:World) (hp:p.size≤64) :
  Calls Try.prog 50 #[.string p] w (Builds p w):=by
 have b1:decide (64<(p.size:Int))=false:=by simp;omega
 have b2:decide (64<p.size)=false:=by simp;omega
 have HC:Hid (Calls Try.prog 60 _ _ _):=newSequence_any (start_mem w) (by decide)
 go_enter Try.func50,Try.ntmps50
 go_wp2_with fail
 refine HC.out.mono ?_
 rintro e w1 ⟨rfl,so1,sc1,hP,hSt⟩
 have hz1:w1.heap[w.heap.size]?=some (.cells nil2 80 (0,0)):=(hSt.block w.heap.size (by simp;omega) (by rintro (e | e | e | e);omega;simp [blk] at e;simp [blk] at e;simp [blk] at e)).trans (heap_b2 _ _ _)
 obtain ⟨x0,x1,x2,_,_,_,_,xf⟩:=hP.cells
 have xf2:=xf 2
 have hb1:Below w.heap.size w w1:=(((Below.refl _ _).alloc (Nat.le_refl _) _).alloc (by simp) _).trans ((hSt.low (start_mem w) (by simp)).mono (by omega))
 have M0:=hP.field (k:=2) (v:=.int .i64 0) (b':=Mt.PB.start) (so':=so1) (ao':=none) (oo':=none) (sc':=sc1) (ac':=0) (oc':=0) (by unfold bA;rfl) hP.seqs hP.atoms hP.opn hP.ap hP.cl
 have HM0:Hid (BAt (w.heap.size+1) (w1.setCell ⟨w.heap.size+1,2,none⟩ (.int .i64 0)) (w.heap.size+1) Mt.PB.start so1 none none sc1 0 0∧(w1.setCell ⟨w.heap.size+1,2,none⟩ (.int .i64 0)).heap[w.heap.size]?=some (.cells nil2 80 (0,0))∧Below w.heap.size w (w1.setCell ⟨w.heap.size+1,2,none⟩ (.int .i64 0))) :=
  ⟨M0,(Below.heap_setCell _ _ _ _ (by show w.heap.size≠w.heap.size+1;omega)).trans hz1,hb1.setCell (p:=⟨w.heap.size+1,2,none⟩) (by simp) _⟩
 clear hP hSt hz1 xf hb1 M0 HC x0 x1
 go_wp2_with fail
 go_loopw [7] (fun at' wr=>∃ (k:Nat) (l:List Mt.Tok) (b:Mt.PB) (so ao oo:Option Addr) (sc ac oc:Nat),at'=.int .i64 k∧Mt.Read p k b l∧BAt (w.heap.size+1) wr (w.heap.size+1) b so ao oo sc ac oc∧wr.heap[w.heap.size]?=some (.cells nil2 80 (0,0))∧Below w.heap.size w wr) (fun at' _=>p.size-(intOf at').toNat)
 case atStart=>exact ⟨0,[],Mt.PB.start,so1,none,none,sc1,0,0,rfl,Mt.read_start p,HM0.out.1,HM0.out.2.1,HM0.out.2.2⟩
 case round =>
  obtain ⟨k,l,b,so,ao,oo,sc,ac,oc,rfl,hR,hB,hz,hBl⟩:=hrel
  have hkle:=hR.le
  have HR:Hid (Mt.Read p k b l):=hR
  have HB:Hid (BAt (w.heap.size+1) wr (w.heap.size+1) b so ao oo sc ac oc):=hB
  have HZ:Hid (wr.heap[w.heap.size]?=some (.cells nil2 80 (0,0))):=hz
  have HBl:Hid (Below w.heap.size w wr):=hBl
  have hgr:w.heap.size+1<wr.heap.size:=(hB.lt _ (Or.inl rfl)).2
  obtain ⟨_,_,_,_,y4,_,_,_⟩:=hB.cells
  clear hR hB hz hBl
  by_cases hk:k<p.size
  ·have hg0:=Mt.nextT_G p k
   have HRead:Hid (Calls Try.prog 61 #[.string p,.int .i64 (k:Int)] wr _):=Read_any p k wr hp (by omega) (by omega)
   by_cases hn:(Mt.nextT p k).2=0
   ·have erd:Mt.readP p k=(Mt.ptok (Mt.nextT p k).1,0):=by unfold Mt.readP;rw [if_pos hn]
    have HG:Hid (Mt.tokG (Mt.nextT p k).1):=hg0 hn
    have HNN:Hid ((Mt.nextT p k).2=0):=hn
    simp only [erd] at HRead
    clear hg0 hn erd
    generalize hT:Mt.ptok (Mt.nextT p k).1=T at *
    have HTT:Hid (Mt.ptok (Mt.nextT p k).1=T):=hT
    clear hT
    go_wp2_with fail
    refine HRead.out.mono ?_
    rintro e w2 ⟨rfl,b2⟩
    have hg2:wr.heap.size≤w2.heap.size:=b2.size
    have HB2:Hid (BAt (w.heap.size+1) w2 (w.heap.size+1) b so ao oo sc ac oc∧w2.heap[w.heap.size]?=some (.cells nil2 80 (0,0))∧Below w.heap.size w w2):=⟨HB.out.below b2,(b2.block _ (by omega)).trans HZ.out,HBl.out.trans (b2.mono (by omega))⟩
    clear b2 HRead
    have HNo:Hid (¬ own (w.heap.size+1) so ao oo w2.heap.size):=fun ho=>by have:=(HB.out.lt _ ho).2;omega
    go_wp2_with (first | (refine store_blk 121 8 Try.sizePT (by rfl) (.tmp 8) (.tmp 26) (by rfl) w2.heap.size (ptA T) (by rfl) (by rfl) (by exact heap_b1 _ _) (by rfl) (by rfl) (ptA_all _) ?_;intro w3 r1 r2 r3 r4) | (refine load_blk 121 8 Try.underlying121 rfl Try.sizePT (by rfl) (.tmp 8) (by rfl) w2.heap.size (by rfl) r1 (by rfl) ?_))
    have hw3:Below w2.heap.size w2 w3:=((Below.refl _ _).alloc (Nat.le_refl _) _).trans (r4 _ (Nat.le_refl _))
    have hs3:w2.heap.size<w3.heap.size:=(Array.getElem?_eq_some_iff.1 r1).1
    have HTK:=take_any (HB2.out.1.below hw3) HR.out hp (Mt.nextT p k).1 HG.out
    rw [HTT.out] at HTK
    have HB3:Hid (w3.heap[w.heap.size]?=some (.cells nil2 80 (0,0))∧Below w.heap.size w w3):=⟨(hw3.block _ (by omega)).trans HB2.out.2.1,HB2.out.2.2.trans (hw3.mono (by omega))⟩
    have HR1:Hid (w3.heap[w2.heap.size]?=some (.cells (ptA T) 121 (0,0))):=r1
    clear r1 r2 r3 r4 hw3
    by_cases hm:Mt.may l (Mt.nextT p k).1=0
    ·obtain ⟨m,hm1,hm2,hRm⟩:=Mt.read_next HR.out hk HNN.out hm
     rw [HTT.out] at hRm
     have HRm:Hid (Mt.Read p m (b.next T) (l++[Mt.joined l (Mt.nextT p k).1])):=hRm
     have hTen:T.en=m:=by rw [← HTT.out];exact hm1
     rw [hm] at HTK
     refine HTK.mono ?_
     clear HTK hm hm1 hRm
     rintro e w4 ⟨rfl,hT1,hT2⟩
     obtain ⟨so',ao',oo',sc',ac',oc',hB4,hS4⟩:=hT1 rfl
     have t1:=(cell_block ((hS4.block w2.heap.size hs3 HNo.out).trans HR1.out)).1 1
     change w4.cell? ⟨w2.heap.size,1,none⟩=some (.int .i64 T.en) at t1
     rw [hTen] at t1
     have R4:Hid (BAt (w.heap.size+1) w4 (w.heap.size+1) (b.next T) so' ao' oo' sc' ac' oc'∧w4.heap[w.heap.size]?=some (.cells nil2 80 (0,0))∧Below w.heap.size w w4):=⟨hB4,(hT2.block _ (by omega)).trans HB3.out.1,HB3.out.2.trans (hT2.mono (by omega))⟩
     clear hT1 hT2 hB4 hS4 hTen
     have hmle:=HRm.out.le
     go_wp2_with fail
     go_roundw
     case rel=>exact ⟨m,_,_,so',ao',oo',sc',ac',oc',rfl,HRm.out,R4.out.1,R4.out.2.1,R4.out.2.2⟩
     case measure=>simp [intOf];omega
    ·have HX:Hid ((Mt.tokens p).2=(Mt.may l (Mt.nextT p k).1,(k:Int))):=Mt.tokens_bad hp (by rw [← HR.out.on];exact Mt.readOn_bad2 p l k (by omega) (by omega) HNN.out hm) hm
     generalize Mt.may l (Mt.nextT p k).1=M at *
     have m1:(M==0)=false:=by simpa using hm
     have m2:(M != 0)=true:=by simpa using hm
     refine HTK.mono ?_
     clear HTK
     rintro e w4 ⟨rfl,hT1,hT2⟩
     have R4:Hid (w4.heap[w.heap.size]?=some (.cells nil2 80 (0,0))∧Below w.heap.size w w4):=⟨(hT2.block _ (by omega)).trans HB3.out.1,HB3.out.2.trans (hT2.mono (by omega))⟩
     clear hT1 hT2
     have HMne:Hid (M≠0):=hm
     clear hm
     go_wp2_with (refine store_blk 80 2 Try.sizeT (by rfl) (.tmp 2) (.tmp 34) (by rfl) w.heap.size nil2 (by rfl) (by rfl) R4.out.1 (by rfl) (by rfl) nil2_all ?_;intro w5 q1 q2 q3 q4)
     refine bodyPost_ret (ret_blk3 80 2 Try.underlying80 rfl Try.sizeT rfl (by rfl) q1 (by rfl)) rfl ?_
     exact builds_bad HX.out HMne.out rfl (R4.out.2.trans (q4 _ (Nat.le_refl _)))
   ·have erd:Mt.readP p k=(Mt.pt0,(Mt.nextT p k).2):=by unfold Mt.readP;rw [if_neg hn]
    have HX:Hid ((Mt.tokens p).2=((Mt.nextT p k).2,(k:Int))):=Mt.tokens_bad hp (by rw [← HR.out.on];exact Mt.readOn_bad1 p l k (by omega) (by omega) hn) hn
    simp only [erd] at HRead
    clear hg0 erd
    generalize (Mt.nextT p k).2=M at *
    have m1:(M==0)=false:=by simpa using hn
    have m2:(M != 0)=true:=by simpa using hn
    have HMne:Hid (M≠0):=hn
    clear hn
    go_wp2_with fail
    refine HRead.out.mono ?_
    rintro e w2 ⟨rfl,b2⟩
    have HB2:Hid (w2.heap[w.heap.size]?=some (.cells nil2 80 (0,0))∧Below w.heap.size w w2):=⟨(b2.block _ (by omega)).trans HZ.out,HBl.out.trans (b2.mono (by omega))⟩
    have hg2:wr.heap.size≤w2.heap.size:=b2.size
    clear b2 HRead
    go_wp2_with (first | (refine store_blk 121 8 Try.sizePT (by rfl) (.tmp 8) (.tmp 26) (by rfl) w2.heap.size (ptA Mt.pt0) (by rfl) (by rfl) (by exact heap_b1 _ _) (by rfl) (by rfl) (ptA_all _) ?_;intro w3 r1 r2 r3 r4;have R3:Hid (w3.heap[w.heap.size]?=some (.cells nil2 80 (0,0))∧Below w.heap.size w w3):=⟨(r2 _ (by omega)).trans ((heap_old _ _ _ (by omega)).trans HB2.out.1),(HB2.out.2.alloc (by omega) _).trans (r4 _ (by omega))⟩;clear r1 r2 r3 r4) | (refine store_blk 80 2 Try.sizeT (by rfl) (.tmp 2) (.tmp 34) (by rfl) w.heap.size nil2 (by rfl) (by rfl) R3.out.1 (by rfl) (by rfl) nil2_all ?_;intro w5 q1 q2 q3 q4))
    refine bodyPost_ret (ret_blk3 80 2 Try.underlying80 rfl Try.sizeT rfl (by rfl) q1 (by rfl)) rfl ?_
    exact builds_bad HX.out HMne.out rfl (R3.out.2.trans (q4 _ (Nat.le_refl _)))
  ·have hk2:k=p.size:=by omega
   have HON:Hid (Mt.readOn p [] 0=(l,0,(k:Int))):=by show _=_;rw [← HR.out.on];exact Mt.readOn_end p l k (by omega) (by omega)
   have hop:(b.opn.length:Int)=Mt.opened l:=by
    obtain ⟨stk,hr⟩:=HR.out.rel
    rw [hr.len,hr.op]
   have hol:b.opn.length≤64:=by
    obtain ⟨stk,hr⟩:=HR.out.rel
    exact (Mt.rel_ok hr (by have:=HR.out.len;omega)).2.2.1
   by_cases ho:0<b.opn.length
   ·have HX:Hid ((Mt.tokens p).2=(11,(p.size:Int))):=Mt.tokens_open hp HON.out (by omega)
    have o1:decide (0<(b.opn.length:Int))=true:=by simp;omega
    have o2:decide (0<b.opn.length)=true:=by simp;omega
    clear hop
    go_wp2_with (refine store_blk 80 2 Try.sizeT (by rfl) (.tmp 2) (.tmp 43) (by rfl) w.heap.size nil2 (by rfl) (by rfl) HZ.out (by rfl) (by rfl) nil2_all ?_;intro w5 q1 q2 q3 q4)
    refine bodyPost_ret (ret_blk3 80 2 Try.underlying80 rfl Try.sizeT rfl (by rfl) q1 (by rfl)) rfl ?_
    exact builds_bad HX.out (by decide) rfl (HBl.out.trans (q4 _ (Nat.le_refl _)))
   ·have HX:Hid (Mt.tokens p=(l,0,0)):=Mt.tokens_good hp HON.out (by omega)
    have o1:decide (0<(b.opn.length:Int))=false:=by simp only [decide_eq_false_iff_not];omega
    have o2:decide (0<b.opn.length)=false:=by simp only [decide_eq_false_iff_not];omega
    have HRA:Hid (wr.rangeAt (w.heap.size+1) 0 (treeA b so ao sc ac).toList):=fun j v hv=>by
     rw [Nat.zero_add,(cell_block HB.out.cell).1]
     match j,hv with
     | 0,hv=>simpa [treeA,bA] using hv
     | 1,hv=>simpa [treeA,bA] using hv
     | j+2,hv=>simp [treeA] at hv
    clear hop
    go_wp2_with (first | (refine wpList_load_mid (by rfl) 80 (.tmp 46) (by rfl) (w.heap.size+1) 0 (by rfl) (treeA b so ao sc ac).toList _ HRA.out Try.underlying80 rfl (by rw [Try.sizeT];rfl) ?_) | (refine store_blk 80 2 Try.sizeT (by rfl) (.tmp 2) (.tmp 47) (by rfl) w.heap.size (treeA b so ao sc ac) (by rfl) (by rfl) HZ.out (by rfl) (by rfl) (by simp [treeA,Value.oneCell']) ?_;intro w5 q1 q2 q3 q4))
    refine bodyPost_ret (ret_blk3 80 2 Try.underlying80 rfl Try.sizeT rfl (by rfl) q1 (by rfl)) rfl ?_
    have hb5:Below w.heap.size w w5:=HBl.out.trans (q4 _ (Nat.le_refl _))
    refine ⟨fun h0=>absurd (by rw [HX.out]) h0,fun _=>⟨so,ao,sc,ac,?_,?_⟩,hb5⟩
    ·rw [HX.out,← HR.out.run];rfl
    ·rw [HX.out,← HR.out.run]
     have q2':∀ k',k'≠w.heap.size→w5.heap[k']?=wr.heap[k']?:=q2
     have nr:∀ (o:Option Addr) (n c:Nat) (e:TypeId) (sz:Nat) (xs:List Value),wr.ownsRow (w.heap.size+1) e sz (.slice o n c) n xs→w5.ownsRow w.heap.size e sz (.slice o n c) n xs:=by
      intro o n c e sz xs hrow
      have h1:=row_keep (w':=w5) hrow (fun q hq=>q2' q (fun e=>by have:=(World.ownsRow.lt hrow q (by rw [ownBlock_blk];exact hq)).1;omega))
      refine ⟨h1.1,?_⟩
      rcases h1.2 with h' | ⟨g',cap',cur,hv,h0,hg,rest⟩
      ·exact .inl h'
      ·exact .inr ⟨g',cap',cur,hv,by omega,hg,rest⟩
     exact ⟨nr _ _ _ _ _ _ HB.out.seqs,nr _ _ _ _ _ _ HB.out.atoms⟩
theorem Build_any (p:ByteArray) (w:World) (hm:p.size≤maxLen):Calls Try.prog 50 #[.string p] w (Builds p w):=by
 by_cases hp:p.size≤64
 ·exact Build_ok p w hp
 ·have ht:(Mt.tokens p).2=(1,0):=by unfold Mt.tokens;rw [if_pos (by omega)]
  exact (Build_long p w (by omega) hm).mono (fun e w' hh=>builds_bad ht (by decide) hh.1 hh.2)
theorem limited_any (n:Nat) (w:World):Calls Try.prog 64 #[.int .i64 (n:Int)] w fun e w'=>e=.returned (.int .i64 (Mt.lim n:Nat))∧w=w':=by
 by_cases h:300<n
 ·have e:Mt.lim n=301:=by unfold Mt.lim;omega
  have b1:decide (300<(n:Int))=true:=by simp;omega
  have b2:decide (300<n)=true:=by simp;omega
  rw [e]
  clear e
  go_enter Try.func64,Try.ntmps64
  go_wp2
  go_ret
  exact ⟨rfl,rfl⟩
 ·have e:Mt.lim n=n:=by unfold Mt.lim;omega
  have b1:decide (300<(n:Int))=false:=by simp;omega
  have b2:decide (300<n)=false:=by simp;omega
  rw [e]
  clear e
  go_enter Try.func64,Try.ntmps64
  go_wp2
  go_ret
  exact ⟨rfl,rfl⟩
theorem rp_none:Mt.rp none=Mt.pt0:=rfl
theorem rp_some (q:Mt.Tok) (hk:q.kind=8):Mt.rp (some q)=⟨4,q.to,0,0,q.n,q.m,q.how+1,q.set⟩:=by
 show Mt.ptok q=_;unfold Mt.ptok;rw [hk];rfl
theorem limited_int (x:Int) (n:Nat) (h:x=n) (w:World):Calls Try.prog 64 #[.int .i64 x] w fun e w'=>e=.returned (.int .i64 (Mt.lim n:Nat))∧w=w':=by subst h;exact limited_any n w
theorem repeatedSize_any (o:Nat) (r:Option Mt.Tok) (w:World) (ho:o≤301) (hr:Mt.repsOk r) (hk:Mt.repK r) :
  Calls Try.prog 101 #[.int .i64 (o:Int),ptV (Mt.rp r)] w fun e w'=>e=.returned (.int .i64 (Mt.lim (Mt.partLen o r):Nat))∧Below w.heap.size w w':=by
 cases r with
 | none =>
  rw [rp_none]
  have e:Mt.lim (Mt.partLen o none)=o:=by show Mt.lim o=o;unfold Mt.lim;omega
  rw [e]
  clear e hr hk
  unfold ptV ptA Mt.pt0
  go_enter Try.func101,Try.ntmps101
  go_wp2_with fail
  go_ret
  exact ⟨rfl,by go_grown⟩
 | some q =>
  rw [rp_some q (hk q rfl)]
  obtain ⟨h1,h2,h3,h4,h5,h6,h7⟩:=hr q rfl
  obtain ⟨n,hn⟩:=Int.eq_ofNat_of_zero_le h1
  have hmul:n*o≤20*301:=Nat.mul_le_mul (by omega) ho
  have hmi:((n:Int)*(o:Int))=((n*o:Nat):Int):=by simp
  have m0:0≤(n:Int)*(o:Int):=by rw [hmi];omega
  have m1:(n:Int)*(o:Int)≤6020:=by rw [hmi];omega
  have HMI:Hid (((n:Int)*(o:Int))=((n*o:Nat):Int)):=hmi
  by_cases hm:q.m=-1
  ·have e0:Mt.partLen o (some q)=n*o+(o+3)+(if q.how=2 then 2 else 0):=by
    show Mt.repLen o q=_;unfold Mt.repLen;rw [if_pos hm,show q.n.toNat=n by omega]
   rw [e0,hm,hn]
   clear e0 hr hk h7 hmi hm hn hmul
   unfold ptV ptA
   by_cases hw:q.how=2
   ·rw [if_pos hw,hw]
    clear hw
    go_enter Try.func101,Try.ntmps101
    go_wp2_with fail
    refine (limited_int _ (n*o+(o+3)+2) (by have:=HMI.out;omega) _).mono ?_
    rintro e w1 ⟨rfl,rfl⟩
    go_wp2_with fail
    go_ret
    exact ⟨rfl,by go_grown⟩
   ·have hb:(q.how+1==3)=false:=by simp;omega
    rw [if_neg hw]
    clear hw
    go_enter Try.func101,Try.ntmps101
    go_wp2_with fail
    refine (limited_int _ (n*o+(o+3)+0) (by have:=HMI.out;omega) _).mono ?_
    rintro e w1 ⟨rfl,rfl⟩
    go_wp2_with fail
    go_ret
    exact ⟨rfl,by go_grown⟩
  ·obtain ⟨m,hmm⟩:=Int.eq_ofNat_of_zero_le (show 0≤q.m by omega)
   obtain ⟨d,hd⟩:∃ d:Nat,m=n+d:=⟨m-n,by omega⟩
   subst hd
   have e0:Mt.partLen o (some q)=n*o+d*(o+1)+(if q.how=2 then 2 else 0):=by
    show Mt.repLen o q=_;unfold Mt.repLen;rw [if_neg hm,show q.n.toNat=n by omega,show (q.m-q.n).toNat=d by omega]
   have hmul2:d*(o+1)≤20*302:=Nat.mul_le_mul (by omega) (by omega)
   have hmi2:((d:Int)*((o:Int)+1))=((d*(o+1):Nat):Int):=by simp
   have m2:0≤(d:Int)*((o:Int)+1):=by rw [hmi2];omega
   have m3:(d:Int)*((o:Int)+1)≤6040:=by rw [hmi2];omega
   have HMI2:Hid (((d:Int)*((o:Int)+1))=((d*(o+1):Nat):Int)):=hmi2
   have hb1:(((n+d:Nat):Int)==-1)=false:=by simp;omega
   have hd20:(d:Int)≤20:=by omega
   have hn20:(n:Int)≤20:=by omega
   have hsub:((n+d:Nat):Int)-(n:Int)=d:=by omega
   have hb2:(n:Int)+(d:Int)-(n:Int)=d:=by omega
   rw [e0,hmm,hn]
   clear e0 hr hk h7 hmi hm hn hmul hmul2 hmi2 hmm
   unfold ptV ptA
   by_cases hw:q.how=2
   ·rw [if_pos hw,hw]
    clear hw
    go_enter Try.func101,Try.ntmps101
    go_wp2_with fail
    refine (limited_int _ (n*o+d*(o+1)+2) (by have:=HMI.out;have:=HMI2.out;omega) _).mono ?_
    rintro e w1 ⟨rfl,rfl⟩
    go_wp2_with fail
    go_ret
    exact ⟨rfl,by go_grown⟩
   ·have hb:(q.how+1==3)=false:=by simp;omega
    rw [if_neg hw]
    clear hw
    go_enter Try.func101,Try.ntmps101
    go_wp2_with fail
    refine (limited_int _ (n*o+d*(o+1)+0) (by have:=HMI.out;have:=HMI2.out;omega) _).mono ?_
    rintro e w1 ⟨rfl,rfl⟩
    go_wp2_with fail
    go_ret
    exact ⟨rfl,by go_grown⟩
section
variable {L:Nat} {w:World} {b:Mt.PB} {so ao:Option Addr} {sc ac:Nat}
theorem TreeAt.below {w':World} (h:TreeAt L w b so ao sc ac) (hb:Below w.heap.size w w'):TreeAt L w' b so ao sc ac :=
 ⟨row_keep h.seqs (fun q hq=>hb.block q (World.ownsRow.lt h.seqs q (by rw [ownBlock_blk];exact hq)).2),row_keep h.atoms (fun q hq=>hb.block q (World.ownsRow.lt h.atoms q (by rw [ownBlock_blk];exact hq)).2)⟩
theorem TreeAt.seqCell (h:TreeAt L w b so ao sc ac) (i:Nat) (hi:i<b.seqs.length):∃ gs,so=some ⟨gs,0,none⟩∧gs<w.heap.size∧b.seqs.length≤sc∧w.cell? ⟨gs,i*2,none⟩=some (.int .i64 (b.sAt i).first)∧w.cell? ⟨gs,i*2+1,none⟩=some (.int .i64 (b.sAt i).next):=by
 obtain ⟨gs,cap,hv,_,hlt⟩:=World.ownsRow.form h.seqs (by omega)
 simp only [Value.slice.injEq] at hv
 obtain ⟨rfl,_,rfl⟩:=hv
 have c:∀ j,j<2→w.cell? ⟨gs,i*2+j,none⟩=(psC (b.sAt i))[j]?:=fun j hj=>by
  rw [World.ownsRow.cellAt h.seqs _ (by omega),flat_get psC 2 psC_len Mt.ps0 _ _ _ hi hj];rfl
 rcases h.seqs.2 with ⟨e,_⟩ | ⟨g',cap',cur,hv,_,_,hc,_⟩
 ·simp at e
 ·simp only [Value.slice.injEq] at hv
  exact ⟨gs,rfl,hlt,by omega,c 0 (by decide),c 1 (by decide)⟩
theorem TreeAt.atomRow (h:TreeAt L w b so ao sc ac) (i:Nat) (hi:i<b.atoms.length):∃ ga,ao=some ⟨ga,0,none⟩∧ga<w.heap.size∧b.atoms.length≤ac∧(∀ j,j<20→w.cell? ⟨ga,i*20+j,none⟩=(paC (b.aAt i))[j]?):=by
 obtain ⟨gs,cap,hv,_,hlt⟩:=World.ownsRow.form h.atoms (by omega)
 simp only [Value.slice.injEq] at hv
 obtain ⟨rfl,_,rfl⟩:=hv
 have c:∀ j,j<20→w.cell? ⟨gs,i*20+j,none⟩=(paC (b.aAt i))[j]?:=fun j hj=>by
  rw [World.ownsRow.cellAt h.atoms _ (by omega),flat_get paC 20 paC_len Mt.pa0 _ _ _ hi hj];rfl
 rcases h.atoms.2 with ⟨e,_⟩ | ⟨g',cap',cur,hv,_,_,hc,_⟩
 ·simp at e
 ·simp only [Value.slice.injEq] at hv
  exact ⟨gs,rfl,hlt,by omega,c⟩
end
theorem Try.sizeAt:(Try.prog.info? 142).map (·.size)=some 20:=by kernel_rfl
theorem paA_all (a:Mt.PA):(paC a).toArray.all (·.oneCell')=true:=by
 rw [List.all_toArray];simp [paC,ptL,Value.oneCell']
def AltC (b:Mt.PB) (so ao:Option Addr) (sc ac:Nat) (N:Nat):Prop :=
 ∀ (f:Mt.Fs),f.wf→f.ok→f.flat.length<N→∀ (s:Nat),s<b.seqs.length→Mt.standsF b 0 0 f (b.sAt s).first (b.sAt s).next→∀ (L:Nat) (w:World),TreeAt L w b so ao sc ac →
  Calls Try.prog 63 #[treeV b so ao sc ac,.int .i64 (s:Int)] w fun e w'=>e=.returned (.int .i64 (Mt.lim f.re.len:Nat))∧Below w.heap.size w w'
theorem atomSize_leaf {b:Mt.PB} {so ao:Option Addr} {sc ac:Nat} {L:Nat} {w:World} (hT:TreeAt L w b so ao sc ac) (k:Nat) (hk:k<b.atoms.length) (hn:b.atoms.length≤1000) (hb:(b.aAt k).body=-1) :
  Calls Try.prog 100 #[treeV b so ao sc ac,.int .i64 (k:Int)] w fun e w'=>e=.returned (.int .i64 1)∧Below w.heap.size w w':=by
 obtain ⟨ga,rfl,hga,hac,hc⟩:=hT.atomRow k hk
 have hR:∀ W:World,(∀ q,q<w.heap.size→W.heap[q]?=w.heap[q]?)→W.rangeAt ga (k*20) (paC (b.aAt k)):=fun W hW j v hv=>by
  by_cases hj:j<20
  ·rw [World.cell?_of_block (a:=⟨ga,k*20+j,none⟩) (hW ga hga),hc j hj];exact hv
  ·rw [List.getElem?_eq_none (by rw [paC_len];omega)] at hv;simp at hv
 have HR:Hid (∀ W:World,(∀ q,q<w.heap.size→W.heap[q]?=w.heap[q]?)→W.rangeAt ga (k*20) (paC (b.aAt k))):=hR
 have HBD:Hid ((b.aAt k).body=-1):=hb
 clear hR hc hT hb
 have hk':(k:Int)<(b.atoms.length:Int):=by omega
 unfold treeV
 generalize b.aAt k=A at *
 generalize b.atoms.length=N at *
 go_enter Try.func100,Try.ntmps100
 go_wp2_with (first | (refine wpList_load_mid (by rfl) 142 (.tmp 10) (by rfl) ga (k*20) (by rfl) (paC A) _ (HR.out _ (fun q hq=>heap_old _ _ _ hq)) Try.underlying142 rfl (by rw [Try.sizeAt];rfl) ?_) | (refine store_blk 142 20 Try.sizeAt (by rfl) (.tmp 5) (.tmp 11) (by rfl) (w.heap.size+1) (paC A).toArray (by rfl) (by rfl) (by exact heap_b3 _ _ _) (by rfl) (by rfl) (paA_all A) ?_;intro w3 r1 r2 r3 r4;have t17:=(cell_block r1).1 17;change w3.cell? ⟨w.heap.size+1,17,none⟩=some (.int .i64 A.body) at t17;rw [HBD.out] at t17;have R4:Hid (Below w.heap.size w w3):=(((Below.refl _ _).alloc (Nat.le_refl _) _).alloc (by simp) _).trans (r4 _ (by omega));clear r1 r2 r3 r4))
 go_returns
 exact ⟨rfl,R4.out⟩
theorem atomSize_grp {b:Mt.PB} {so ao:Option Addr} {sc ac N:Nat} (hA:AltC b so ao sc ac N) {L:Nat} {w:World} (hT:TreeAt L w b so ao sc ac) (k:Nat) (hk:k<b.atoms.length) (hn:b.atoms.length≤1000) (hns:b.seqs.length≤1000) (t:Mt.Tok) (i:Mt.Fs) (ht:t.kind=6) (hh:0≤t.how∧t.how≤4) (hw:i.wf) (ho:i.ok) (hl:i.flat.length<N)
  (htk:(b.aAt k).tok=Mt.ptok t) (q:Nat) (hq:(b.aAt k).body=q) (hql:q<b.seqs.length) (hs:Mt.standsF b 0 0 i (b.sAt q).first (b.sAt q).next) :
  Calls Try.prog 100 #[treeV b so ao sc ac,.int .i64 (k:Int)] w fun e w'=>e=.returned (.int .i64 (Mt.lim (Mt.grpRe t i.re).len:Nat))∧Below w.heap.size w w':=by
 have HC:Hid (∀ W:World,Below w.heap.size w W→Calls Try.prog 63 #[treeV b so ao sc ac,.int .i64 (q:Int)] W fun e w'=>e=.returned (.int .i64 (Mt.lim i.re.len:Nat))∧Below W.heap.size W w'):=fun W hW=>hA i hw ho hl q hql hs L W (hT.below hW)
 obtain ⟨ga,rfl,hga,hac,hc⟩:=hT.atomRow k hk
 have hR:∀ W:World,(∀ q,q<w.heap.size→W.heap[q]?=w.heap[q]?)→W.rangeAt ga (k*20) (paC (b.aAt k)):=fun W hW j v hv=>by
  by_cases hj:j<20
  ·rw [World.cell?_of_block (a:=⟨ga,k*20+j,none⟩) (hW ga hga),hc j hj];exact hv
  ·rw [List.getElem?_eq_none (by rw [paC_len];omega)] at hv;simp at hv
 have HR:Hid (∀ W:World,(∀ q,q<w.heap.size→W.heap[q]?=w.heap[q]?)→W.rangeAt ga (k*20) (paC (b.aAt k))):=hR
 have HBD:Hid ((b.aAt k).body=q):=hq
 have hgr:(b.aAt k).tok.group=Mt.grpP t.how:=by rw [htk];simp [Mt.ptok,ht]
 have HGR:Hid ((b.aAt k).tok.group=Mt.grpP t.how):=hgr
 have hll:=Mt.lim_le i.re.len
 have hk':(k:Int)<(b.atoms.length:Int):=by omega
 have hg3:(Mt.grpP t.how==2)=decide (t.how=3):=by
  unfold Mt.grpP
  by_cases h4:t.how=4
  ·rw [if_pos h4,h4];rfl
  ·rw [if_neg h4]
   by_cases h3:t.how=3
   ·rw [if_pos h3,h3];rfl
   ·rw [if_neg h3];simp [h3];omega
 have HF:Hid (Mt.lim (Mt.grpRe t i.re).len=if t.how=3 then Mt.lim i.re.len else Mt.lim (Mt.lim i.re.len+2)):=by
  show _=_
  rw [Mt.grpRe_len]
  by_cases h3:t.how=3
  ·rw [if_pos h3,if_pos h3];rfl
  ·rw [if_neg h3,if_neg h3];unfold Mt.lim;omega
 clear hR hc hT hq hs hw ho hl hA htk hgr
 unfold treeV
 unfold treeV at HC
 generalize b.aAt k=A at *
 generalize b.atoms.length=NA at *
 generalize Mt.lim i.re.len=I at *
 cases h3:decide (t.how=3)
 ·rw [h3] at hg3
  have HF2:Hid (Mt.lim (Mt.grpRe t i.re).len=Mt.lim (I+2)):=by show _=_;rw [HF.out,if_neg (by simpa using h3)]
  rw [HF2.out]
  clear HF HF2 h3
  go_enter Try.func100,Try.ntmps100
  go_wp2_with (first | (refine wpList_load_mid (by rfl) 142 (.tmp 10) (by rfl) ga (k*20) (by rfl) (paC A) _ (HR.out _ (fun q hq=>heap_old _ _ _ hq)) Try.underlying142 rfl (by rw [Try.sizeAt];rfl) ?_) | (refine store_blk 142 20 Try.sizeAt (by rfl) (.tmp 5) (.tmp 11) (by rfl) (w.heap.size+1) (paC A).toArray (by rfl) (by rfl) (by exact heap_b3 _ _ _) (by rfl) (by rfl) (paA_all A) ?_;intro w3 r1 r2 r3 r4;have t17:=(cell_block r1).1 17;change w3.cell? ⟨w.heap.size+1,17,none⟩=some (.int .i64 A.body) at t17;rw [HBD.out] at t17;have bx:=(r2 w.heap.size (by omega)).trans (heap_b2 _ _ _);have bx0:=(cell_block bx).1 0;have bx1:=(cell_block bx).1 1;simp only [List.getElem?_toArray,List.getElem?_cons_succ,List.getElem?_cons_zero] at bx0 bx1;have R4:Hid (Below w.heap.size w w3∧w3.heap[w.heap.size+1]?=some (.cells (paC A).toArray 142 (0,0))∧w.heap.size+1<w3.heap.size):=⟨(((Below.refl _ _).alloc (Nat.le_refl _) _).alloc (by simp) _).trans (r4 _ (by omega)),r1,(Array.getElem?_eq_some_iff.1 r1).1⟩;clear r1 r2 r3 r4 bx))
  refine (HC.out w3 R4.out.1).mono ?_
  rintro e w4 ⟨rfl,b4⟩
  have g2:=(cell_block ((b4.block _ R4.out.2.2).trans R4.out.2.1)).1 2
  change w4.cell? ⟨w.heap.size+1,2,none⟩=some (.int .i64 A.tok.group) at g2
  rw [HGR.out] at g2
  have R5:Hid (Below w.heap.size w w4):=R4.out.1.trans (b4.mono (by have:=R4.out.2.2;omega))
  clear b4
  go_wp2_with (go_at_call 64;refine (limited_int _ (I+2) (by omega) _).mono ?_;rintro e w' ⟨rfl,rfl⟩)
  go_returns
  exact ⟨rfl,R5.out⟩
 ·rw [h3] at hg3
  have HF2:Hid (Mt.lim (Mt.grpRe t i.re).len=I):=by show _=_;rw [HF.out,if_pos (by simpa using h3)]
  rw [HF2.out]
  clear HF HF2 h3
  go_enter Try.func100,Try.ntmps100
  go_wp2_with (first | (refine wpList_load_mid (by rfl) 142 (.tmp 10) (by rfl) ga (k*20) (by rfl) (paC A) _ (HR.out _ (fun q hq=>heap_old _ _ _ hq)) Try.underlying142 rfl (by rw [Try.sizeAt];rfl) ?_) | (refine store_blk 142 20 Try.sizeAt (by rfl) (.tmp 5) (.tmp 11) (by rfl) (w.heap.size+1) (paC A).toArray (by rfl) (by rfl) (by exact heap_b3 _ _ _) (by rfl) (by rfl) (paA_all A) ?_;intro w3 r1 r2 r3 r4;have t17:=(cell_block r1).1 17;change w3.cell? ⟨w.heap.size+1,17,none⟩=some (.int .i64 A.body) at t17;rw [HBD.out] at t17;have bx:=(r2 w.heap.size (by omega)).trans (heap_b2 _ _ _);have bx0:=(cell_block bx).1 0;have bx1:=(cell_block bx).1 1;simp only [List.getElem?_toArray,List.getElem?_cons_succ,List.getElem?_cons_zero] at bx0 bx1;have R4:Hid (Below w.heap.size w w3∧w3.heap[w.heap.size+1]?=some (.cells (paC A).toArray 142 (0,0))∧w.heap.size+1<w3.heap.size):=⟨(((Below.refl _ _).alloc (Nat.le_refl _) _).alloc (by simp) _).trans (r4 _ (by omega)),r1,(Array.getElem?_eq_some_iff.1 r1).1⟩;clear r1 r2 r3 r4 bx))
  refine (HC.out w3 R4.out.1).mono ?_
  rintro e w4 ⟨rfl,b4⟩
  have g2:=(cell_block ((b4.block _ R4.out.2.2).trans R4.out.2.1)).1 2
  change w4.cell? ⟨w.heap.size+1,2,none⟩=some (.int .i64 A.tok.group) at g2
  rw [HGR.out] at g2
  have R5:Hid (Below w.heap.size w w4):=R4.out.1.trans (b4.mono (by have:=R4.out.2.2;omega))
  clear b4
  go_wp2_with fail
  go_returns
  exact ⟨rfl,R5.out⟩
end Go.Proofs.Ytebpgfodelggoab
