import Derived.Test.YtebpgfodelggoaaDoorC32
set_option linter.unusedVariables false
set_option linter.unusedSimpArgs false
set_option maxRecDepth 100000
set_option maxHeartbeats 4000000
namespace Go.Proofs.YtebpgfodelggoaaDoor
open Go.RowKit
theorem takeOpening_plain {L:Nat} {w:World} {g:Nat} {b:Mt.PB} {so ao oo:Option Addr} {sc ac oc:Nat} (t:Mt.PT) (h:BAt L w g b so ao oo sc ac oc) (hn:b.atoms.length≤900) (hns:b.seqs.length≤900) (hs:b.seq<b.seqs.length) (hla:b.last=-1∨∃ k:Nat,b.last=k∧k<b.atoms.length) (ho:b.opn.length<10) (hgr:t.group≠1) :
  Calls Tryd.prog 71 #[.pointer (some ⟨g,0,none⟩),ptV t] w fun e w'=>e=.returned (.int .i64 0)∧∃ so' ao' oo' sc' ac' oc',BAt L w' g (b.opening t) so' ao' oo' sc' ac' oc'∧BStep g so ao oo so' ao' oo' w w':=by
 obtain ⟨i0,hi,hz0,hz1,hz2⟩:=info_parts Tryd.infoInt
 have HB:Hid (BAt L w g b so ao oo sc ac oc):=h
 obtain ⟨_,_,_,_,c4,c5,_,_⟩:=h.cells
 have hg:g<w.heap.size:=(h.lt g (Or.inl rfl)).2
 have hL:L≤w.heap.size:=by have:=h.lo;omega
 have W1:Below w.heap.size w (w.alloc (.cells (ptA t) 111)):=(Below.refl _ _).alloc (Nat.le_refl _) _
 have HT:Hid (Calls Tryd.prog 75 #[.pointer (some ⟨g,0,none⟩),.agg (ptA t)] (w.alloc (.cells (ptA t) 111)) _):=addAtom_prog t (h.below W1) (by omega) hs hla
 have HW1:Hid (Below w.heap.size w (w.alloc (.cells (ptA t) 111))):=W1
 obtain ⟨k1,k2,k3,k4,k5,k6,k7,k8,k9⟩:=Mt.addAtom_ok t hs hla
 have b1:decide (10≤(b.opn.length:Int))=false:=by simp;omega
 have b2:decide (10≤b.opn.length)=false:=by simp;omega
 have b3:(t.group==1)=false:=by simpa using hgr
 have HEO:Hid (b.opening t=Mt.PB.into (b.addAtom t) b.atoms.length):=by
  show _=_;unfold Mt.PB.opening Mt.PB.number;rw [if_neg (by simpa using hgr)]
 obtain ⟨e,hee⟩:∃ e:Mt.PB,e=b.addAtom t:=⟨_,rfl⟩
 rw [← hee] at HEO
 have he1:e.seqs.length=b.seqs.length:=by rw [hee];exact k2
 have he2:e.atoms.length=b.atoms.length+1:=by rw [hee];exact k1
 have he4:e.opn=b.opn:=by rw [hee];exact k5
 have HEE:Hid (e=b.addAtom t):=hee
 have HK:Hid (((b.addAtom t).last=b.atoms.length∧(b.addAtom t).groups=b.groups)∧(b.addAtom t).atoms.length=b.atoms.length+1):=⟨⟨k3,k6⟩,k1⟩
 clear h W1 hee k1 k2 k3 k4 k5 k6 k7 k8 k9
 unfold ptV
 unfold ptA at HT HW1 ⊢
 go_enter Tryd.func71,Tryd.ntmps71
 go_wp2_with fail
 refine HT.out.mono ?_
 rintro e0 w1 ⟨rfl,ao1,ac1,hP,hSt⟩
 have St1:BStep g so ao oo so ao1 oo w w1:=(BStep.below HW1.out).trans hSt
 obtain ⟨x0,x1,x2,x3,_,x5,_,xf⟩:=hP.cells
 rw [HK.out.1.1] at x3
 rw [HK.out.1.2] at x5
 have hblk:w1.heap[w.heap.size]?=_:=(hSt.block w.heap.size (by simp) (fun ho=>by have:=(HB.out.lt _ ho).2;omega)).trans (heap_alloc_new _ _)
 have t2:=(cell_block hblk).1 2
 simp only [List.getElem?_toArray,List.getElem?_cons_succ,List.getElem?_cons_zero] at t2
 have hg1:g<w1.heap.size:=(hP.lt g (Or.inl rfl)).2
 have HP:Hid (BAt L w1 g (b.addAtom t) so ao1 oo sc ac1 oc∧BStep g so ao oo so ao1 oo w w1):=⟨hP,St1⟩
 clear hP hSt St1 xf hblk HT
 go_upto_region 10 with fail
 obtain ⟨w3,hw3⟩:∃ w3:World,w3=w1:=⟨_,rfl⟩
 have B3:BAt L w3 g e so ao1 oo sc ac1 oc:=by rw [hw3,HEE.out];exact HP.out.1
 have St3:BStep g so ao oo so ao1 oo w w3:=by rw [hw3];exact HP.out.2
 rw [← hw3]
 clear hw3 x0 x1 x2 x3 x5 t2 HP HK HEE
 ·skip
  have hW3:Hid (BAt L w3 g e so ao1 oo sc ac1 oc∧BStep g so ao oo so ao1 oo w w3):=⟨B3,St3⟩
  obtain ⟨y0,y1,y2,y3,y4,y5,_,yf⟩:=B3.cells
  have yf4:=yf 4
  have y4':w3.cell? ⟨g,4,none⟩=some (.slice oo b.opn.length oc):=by rw [y4,he4]
  have HO3:Hid (w3.ownsRow L 3 1 (.slice oo b.opn.length oc) b.opn.length (opL b.opn)):=by show World.ownsRow _ _ _ _ _ _ _;have:=B3.opn;rw [he4] at this;exact this
  have hg3:g<w3.heap.size:=(B3.lt g (Or.inl rfl)).2
  have hL3:L≤w3.heap.size:=by have:=B3.lo;omega
  clear B3 St3 y0 y1 y2 y3 y4 y5 yf
  go_wp2_with (at_builtin;refine wpList_append_lies _ rfl (.tmp 56) (.tmp 58) 39 rfl L 3 i0 _ 1 8 Tryd.underlying39 hi hz0 hz1 hz2 rfl (by decide) _ _ _ rfl (HO3.out.alloc _) ⟨w3.heap.size,0,none⟩ 1 1 [.int .i64 (b.atoms.length:Int)] rfl rfl ?c1 ?c2 (by decide) ?c3 ?c4 ?c5 (w3.heap.size+1) ?c6 ?_)
  case c1=>exact World.news_of_block (cs:=#[.int .i64 (b.atoms.length:Int)]) (heap_alloc_new _ _)
  case c2=>intro u hu;simp at hu;subst hu;rfl
  case c3=>unfold maxLen;omega
  case c4=>omega
  case c5=>simp;omega
  case c6=>simp
  intro q cap w4 hown hgrow hq hqlt
  rw [ownBlock_blk] at hgrow hq
  have hb0:Below w3.heap.size w3 (w3.alloc (.cells #[.int .i64 (b.atoms.length:Int)] 3)):=(Below.refl _ _).alloc (Nat.le_refl _) _
  have HM:=push_mem (k:=b.atoms.length) hW3.out.1 hb0 (by simp) hgrow (by simpa using hq) (by rw [he4];exact hown)
  rw [he4] at HM
  have kg:w4.heap[g]?=w3.heap[g]?:=hW3.out.1.grown hb0 hgrow g (Or.inl rfl) (fun e=>hW3.out.1.ap.2.2.1 e.symm)
  have d4:w4.cell? ⟨g,4,none⟩=some (.slice oo b.opn.length oc):=(World.cell?_of_block (a:=⟨g,4,none⟩) kg).trans y4'
  have e4:w4.frozen? ⟨g,4,none⟩=false:=(World.frozen?_of_block (a:=⟨g,4,none⟩) kg).trans yf4
  have HM':Hid (BAt L (w4.setCell ⟨g,4,none⟩ (.slice (some ⟨q,0,none⟩) (b.opn.length+1) cap)) g (e.push b.atoms.length) so ao1 (some ⟨q,0,none⟩) sc ac1 cap∧BStep g so ao oo so ao1 (some ⟨q,0,none⟩) w (w4.setCell ⟨g,4,none⟩ (.slice (some ⟨q,0,none⟩) (b.opn.length+1) cap))):=⟨HM.1,hW3.out.2.trans HM.2⟩
  have hls:(e.push b.atoms.length).seqs.length≤1000:=by show e.seqs.length≤1000;rw [he1];omega
  have CN:=newSequence_any HM'.out.1 hls
  have ls:(e.push b.atoms.length).seqs.length=b.seqs.length:=he1
  rw [ls] at CN
  have HCN:Hid (Calls Tryd.prog _ _ _ _):=CN
  clear HM hown hgrow hq kg hb0 CN yf4 y4'
  go_wp2_with fail
  refine HCN.out.mono ?_
  rintro e' w5 ⟨rfl,so5,sc5,hP,hSt⟩
  obtain ⟨x0,x1,x2,x3,_,_,_,xf⟩:=hP.cells
  have xf2:=xf 2
  have xf3:=xf 3
  obtain ⟨ga,hao,ga1,ga2,ga3⟩:=hP.atomForm (by show 0<e.atoms.length;omega)
  subst hao
  have ac17:=hP.atomCell b.atoms.length 17 (by show _<e.atoms.length;omega) (by decide)
  have a17:=ac17.1
  have f17:=ac17.2
  change w5.cell? ⟨ga,b.atoms.length*20+17,none⟩=some (.int .i64 (e.aAt b.atoms.length).body) at a17
  change w5.cell? ⟨g,1,none⟩=some (.slice (some ⟨ga,0,none⟩) e.atoms.length ac1) at x1
  rw [he2] at x1
  change w5.cell? ⟨g,2,none⟩=some (.int .i64 e.seq) at x2
  change w5.cell? ⟨g,3,none⟩=some (.int .i64 e.last) at x3
  have ga4:b.atoms.length+1≤ac1:=by change e.atoms.length≤ac1 at ga3;omega
  have hg5:g<w5.heap.size:=(hP.lt g (Or.inl rfl)).2
  have R:Hid (BAt L w5 g (e.push b.atoms.length).newSeq so5 (some ⟨ga,0,none⟩) (some ⟨q,0,none⟩) sc5 ac1 cap∧BStep g so ao oo so5 (some ⟨ga,0,none⟩) (some ⟨q,0,none⟩) w w5):=⟨hP,HM'.out.2.trans hSt⟩
  clear hP hSt xf ac17 HCN HM' x0 ga3
  go_wp2_with fail
  go_returns
  have hi3:b.atoms.length<(e.push b.atoms.length).newSeq.atoms.length:=by show _<e.atoms.length;omega
  have M1:=R.out.1.atomSet b.atoms.length 17 [.int .i64 b.seqs.length] { e.aAt b.atoms.length with body:=b.seqs.length } hi3 (by simp) rfl
  have M2:=M1.field (k:=2) (v:=.int .i64 b.seqs.length) (b':={ (e.push b.atoms.length).newSeq with atoms:=e.atoms.set b.atoms.length { e.aAt b.atoms.length with body:=b.seqs.length },seq:=b.seqs.length }) (so':=so5) (ao':=some ⟨ga,0,none⟩) (oo':=some ⟨q,0,none⟩) (sc':=sc5) (ac':=ac1) (oc':=cap) (by unfold bA;simp;rfl) M1.seqs M1.atoms M1.opn M1.ap M1.cl
  have eo:b.opening t={ (e.push b.atoms.length).newSeq with atoms:=e.atoms.set b.atoms.length { e.aAt b.atoms.length with body:=b.seqs.length },seq:=b.seqs.length,last:=-1 }:=by
   rw [HEO.out,Mt.into_eq,he1]
  have M3:=M2.field (k:=3) (v:=.int .i64 (-1)) (b':=b.opening t) (so':=so5) (ao':=some ⟨ga,0,none⟩) (oo':=some ⟨q,0,none⟩) (sc':=sc5) (ac':=ac1) (oc':=cap) (by rw [eo];unfold bA;simp) (by rw [eo];exact M2.seqs) (by rw [eo];exact M2.atoms) (by rw [eo];exact M2.opn) M2.ap (by rw [eo];exact M2.cl)
  refine ⟨rfl,so5,some ⟨ga,0,none⟩,some ⟨q,0,none⟩,sc5,ac1,cap,M3,?_⟩
  exact (((R.out.2.set (p:=⟨ga,b.atoms.length*20+17,none⟩) (Or.inr (Or.inr (Or.inl rfl))) _).set (p:=⟨g,2,none⟩) (Or.inl rfl) _).set (p:=⟨g,3,none⟩) (Or.inl rfl) _)
theorem takeOpening_cap {L:Nat} {w:World} {g:Nat} {b:Mt.PB} {so ao oo:Option Addr} {sc ac oc:Nat} (t:Mt.PT) (h:BAt L w g b so ao oo sc ac oc) (hn:b.atoms.length≤900) (hns:b.seqs.length≤900) (hs:b.seq<b.seqs.length) (hla:b.last=-1∨∃ k:Nat,b.last=k∧k<b.atoms.length) (ho:b.opn.length<10) (hgr:t.group=1) (hg9:b.groups<9) :
  Calls Tryd.prog 71 #[.pointer (some ⟨g,0,none⟩),ptV t] w fun e w'=>e=.returned (.int .i64 0)∧∃ so' ao' oo' sc' ac' oc',BAt L w' g (b.opening t) so' ao' oo' sc' ac' oc'∧BStep g so ao oo so' ao' oo' w w':=by
 obtain ⟨i0,hi,hz0,hz1,hz2⟩:=info_parts Tryd.infoInt
 have HB:Hid (BAt L w g b so ao oo sc ac oc):=h
 obtain ⟨_,_,_,_,c4,c5,_,_⟩:=h.cells
 have hg:g<w.heap.size:=(h.lt g (Or.inl rfl)).2
 have hL:L≤w.heap.size:=by have:=h.lo;omega
 have W1:Below w.heap.size w (w.alloc (.cells (ptA t) 111)):=(Below.refl _ _).alloc (Nat.le_refl _) _
 have HT:Hid (Calls Tryd.prog 75 #[.pointer (some ⟨g,0,none⟩),.agg (ptA t)] (w.alloc (.cells (ptA t) 111)) _):=addAtom_prog t (h.below W1) (by omega) hs hla
 have HW1:Hid (Below w.heap.size w (w.alloc (.cells (ptA t) 111))):=W1
 obtain ⟨k1,k2,k3,k4,k5,k6,k7,k8,k9⟩:=Mt.addAtom_ok t hs hla
 have b1:decide (10≤(b.opn.length:Int))=false:=by simp;omega
 have b2:decide (10≤b.opn.length)=false:=by simp;omega
 have b3:decide (9≤(b.groups:Int))=false:=by simp;omega
 have b4:decide (9≤b.groups)=false:=by simp;omega
 have HEO:Hid (b.opening t=Mt.PB.into { b.addAtom t with groups:=b.groups+1,atoms:=(b.addAtom t).atoms.set b.atoms.length { (b.addAtom t).aAt b.atoms.length with num:=(b.groups:Int)+1 } } b.atoms.length):=by
  show _=_;unfold Mt.PB.opening Mt.PB.number;rw [hgr];simp [k6]
 obtain ⟨e,hee⟩:∃ e:Mt.PB,e={ b.addAtom t with groups:=b.groups+1,atoms:=(b.addAtom t).atoms.set b.atoms.length { (b.addAtom t).aAt b.atoms.length with num:=(b.groups:Int)+1 } }:=⟨_,rfl⟩
 rw [← hee] at HEO
 have he1:e.seqs.length=b.seqs.length:=by rw [hee];exact k2
 have he2:e.atoms.length=b.atoms.length+1:=by rw [hee];simp [k1]
 have he4:e.opn=b.opn:=by rw [hee];exact k5
 have HEE:Hid (e={ b.addAtom t with groups:=b.groups+1,atoms:=(b.addAtom t).atoms.set b.atoms.length { (b.addAtom t).aAt b.atoms.length with num:=(b.groups:Int)+1 } }):=hee
 have HK:Hid (((b.addAtom t).last=b.atoms.length∧(b.addAtom t).groups=b.groups)∧(b.addAtom t).atoms.length=b.atoms.length+1):=⟨⟨k3,k6⟩,k1⟩
 clear h W1 hee k1 k2 k3 k4 k5 k6 k7 k8 k9
 unfold ptV
 unfold ptA at HT HW1 ⊢
 rw [hgr] at HT HW1 ⊢
 go_enter Tryd.func71,Tryd.ntmps71
 go_wp2_with fail
 refine HT.out.mono ?_
 rintro e0 w1 ⟨rfl,ao1,ac1,hP,hSt⟩
 have St1:BStep g so ao oo so ao1 oo w w1:=(BStep.below HW1.out).trans hSt
 obtain ⟨x0,x1,x2,x3,_,x5,_,xf⟩:=hP.cells
 rw [HK.out.1.1] at x3
 rw [HK.out.1.2] at x5
 have hblk:w1.heap[w.heap.size]?=_:=(hSt.block w.heap.size (by simp) (fun ho=>by have:=(HB.out.lt _ ho).2;omega)).trans (heap_alloc_new _ _)
 have t2:=(cell_block hblk).1 2
 simp only [List.getElem?_toArray,List.getElem?_cons_succ,List.getElem?_cons_zero] at t2
 have hg1:g<w1.heap.size:=(hP.lt g (Or.inl rfl)).2
 have HP:Hid (BAt L w1 g (b.addAtom t) so ao1 oo sc ac1 oc∧BStep g so ao oo so ao1 oo w w1):=⟨hP,St1⟩
 obtain ⟨ga0,hao0,ga01,ga02,ga03⟩:=hP.atomForm (by rw [HK.out.2];omega)
 subst hao0
 have q8:=hP.atomCell b.atoms.length 8 (by rw [HK.out.2];omega) (by decide)
 have q81:=q8.1
 have q82:=q8.2
 change w1.cell? ⟨ga0,b.atoms.length*20+8,none⟩=some (.int .i64 ((b.addAtom t).aAt b.atoms.length).num) at q81
 rw [HK.out.2] at x1 ga03
 have f5:=xf 5
 clear hP hSt St1 xf hblk q8 HT
 go_wp2_with fail
 go_region
 go_upto_region 10 with fail
 obtain ⟨w3,hw3⟩:∃ w3:World,w3=((w1.setCell ⟨g,5,none⟩ (.int .i64 ((b.groups:Int)+1))).setCell ⟨ga0,b.atoms.length*20+8,none⟩ (.int .i64 ((b.groups:Int)+1))).drew:=⟨_,rfl⟩
 have B3:BAt L w3 g e so (some ⟨ga0,0,none⟩) oo sc ac1 oc:=by
  rw [hw3,HEE.out]
  have M1:=HP.out.1.field (k:=5) (v:=.int .i64 ((b.groups:Int)+1)) (b':={ b.addAtom t with groups:=b.groups+1 }) (so':=so) (ao':=some ⟨ga0,0,none⟩) (oo':=oo) (sc':=sc) (ac':=ac1) (oc':=oc) (by unfold bA;simp) HP.out.1.seqs HP.out.1.atoms HP.out.1.opn HP.out.1.ap HP.out.1.cl
  exact (M1.atomSet b.atoms.length 8 [.int .i64 ((b.groups:Int)+1)] { (b.addAtom t).aAt b.atoms.length with num:=(b.groups:Int)+1 } (by show _<(b.addAtom t).atoms.length;rw [HK.out.2];omega) (by simp) rfl).drew
 have St3:BStep g so ao oo so (some ⟨ga0,0,none⟩) oo w w3:=by
  rw [hw3]
  exact ((HP.out.2.set (p:=⟨g,5,none⟩) (Or.inl rfl) _).set (p:=⟨ga0,b.atoms.length*20+8,none⟩) (Or.inr (Or.inr (Or.inl rfl))) _).drew
 rw [← hw3]
 clear hw3 x0 x1 x2 x3 x5 t2 q81 q82 f5 HP HK HEE
 ·clear ga01 ga02 ga03
  have hW3:Hid (BAt L w3 g e so (some ⟨ga0,0,none⟩) oo sc ac1 oc∧BStep g so ao oo so (some ⟨ga0,0,none⟩) oo w w3):=⟨B3,St3⟩
  obtain ⟨y0,y1,y2,y3,y4,y5,_,yf⟩:=B3.cells
  have yf4:=yf 4
  have y4':w3.cell? ⟨g,4,none⟩=some (.slice oo b.opn.length oc):=by rw [y4,he4]
  have HO3:Hid (w3.ownsRow L 3 1 (.slice oo b.opn.length oc) b.opn.length (opL b.opn)):=by show World.ownsRow _ _ _ _ _ _ _;have:=B3.opn;rw [he4] at this;exact this
  have hg3:g<w3.heap.size:=(B3.lt g (Or.inl rfl)).2
  have hL3:L≤w3.heap.size:=by have:=B3.lo;omega
  clear B3 St3 y0 y1 y2 y3 y4 y5 yf
  go_wp2_with (at_builtin;refine wpList_append_lies _ rfl (.tmp 56) (.tmp 58) 39 rfl L 3 i0 _ 1 8 Tryd.underlying39 hi hz0 hz1 hz2 rfl (by decide) _ _ _ rfl (HO3.out.alloc _) ⟨w3.heap.size,0,none⟩ 1 1 [.int .i64 (b.atoms.length:Int)] rfl rfl ?c1 ?c2 (by decide) ?c3 ?c4 ?c5 (w3.heap.size+1) ?c6 ?_)
  case c1=>exact World.news_of_block (cs:=#[.int .i64 (b.atoms.length:Int)]) (heap_alloc_new _ _)
  case c2=>intro u hu;simp at hu;subst hu;rfl
  case c3=>unfold maxLen;omega
  case c4=>omega
  case c5=>simp;omega
  case c6=>simp
  intro q cap w4 hown hgrow hq hqlt
  rw [ownBlock_blk] at hgrow hq
  have hb0:Below w3.heap.size w3 (w3.alloc (.cells #[.int .i64 (b.atoms.length:Int)] 3)):=(Below.refl _ _).alloc (Nat.le_refl _) _
  have HM:=push_mem (k:=b.atoms.length) hW3.out.1 hb0 (by simp) hgrow (by simpa using hq) (by rw [he4];exact hown)
  rw [he4] at HM
  have kg:w4.heap[g]?=w3.heap[g]?:=hW3.out.1.grown hb0 hgrow g (Or.inl rfl) (fun e=>hW3.out.1.ap.2.2.1 e.symm)
  have d4:w4.cell? ⟨g,4,none⟩=some (.slice oo b.opn.length oc):=(World.cell?_of_block (a:=⟨g,4,none⟩) kg).trans y4'
  have e4:w4.frozen? ⟨g,4,none⟩=false:=(World.frozen?_of_block (a:=⟨g,4,none⟩) kg).trans yf4
  have HM':Hid (BAt L (w4.setCell ⟨g,4,none⟩ (.slice (some ⟨q,0,none⟩) (b.opn.length+1) cap)) g (e.push b.atoms.length) so (some ⟨ga0,0,none⟩) (some ⟨q,0,none⟩) sc ac1 cap∧BStep g so ao oo so (some ⟨ga0,0,none⟩) (some ⟨q,0,none⟩) w (w4.setCell ⟨g,4,none⟩ (.slice (some ⟨q,0,none⟩) (b.opn.length+1) cap))):=⟨HM.1,hW3.out.2.trans HM.2⟩
  have hls:(e.push b.atoms.length).seqs.length≤1000:=by show e.seqs.length≤1000;rw [he1];omega
  have CN:=newSequence_any HM'.out.1 hls
  have ls:(e.push b.atoms.length).seqs.length=b.seqs.length:=he1
  rw [ls] at CN
  have HCN:Hid (Calls Tryd.prog _ _ _ _):=CN
  clear HM hown hgrow hq kg hb0 CN yf4 y4'
  go_wp2_with fail
  refine HCN.out.mono ?_
  rintro e' w5 ⟨rfl,so5,sc5,hP,hSt⟩
  obtain ⟨x0,x1,x2,x3,_,_,_,xf⟩:=hP.cells
  have xf2:=xf 2
  have xf3:=xf 3
  obtain ⟨ga,hao,ga1,ga2,ga3⟩:=hP.atomForm (by show 0<e.atoms.length;omega)
  simp only [Option.some.injEq,Addr.mk.injEq,and_true,true_and] at hao
  subst hao
  have ac17:=hP.atomCell b.atoms.length 17 (by show _<e.atoms.length;omega) (by decide)
  have a17:=ac17.1
  have f17:=ac17.2
  change w5.cell? ⟨ga0,b.atoms.length*20+17,none⟩=some (.int .i64 (e.aAt b.atoms.length).body) at a17
  change w5.cell? ⟨g,1,none⟩=some (.slice (some ⟨ga0,0,none⟩) e.atoms.length ac1) at x1
  rw [he2] at x1
  change w5.cell? ⟨g,2,none⟩=some (.int .i64 e.seq) at x2
  change w5.cell? ⟨g,3,none⟩=some (.int .i64 e.last) at x3
  have ga4:b.atoms.length+1≤ac1:=by change e.atoms.length≤ac1 at ga3;omega
  have hg5:g<w5.heap.size:=(hP.lt g (Or.inl rfl)).2
  have R:Hid (BAt L w5 g (e.push b.atoms.length).newSeq so5 (some ⟨ga0,0,none⟩) (some ⟨q,0,none⟩) sc5 ac1 cap∧BStep g so ao oo so5 (some ⟨ga0,0,none⟩) (some ⟨q,0,none⟩) w w5):=⟨hP,HM'.out.2.trans hSt⟩
  clear hP hSt xf ac17 HCN HM' x0 ga3
  go_wp2_with fail
  go_returns
  have hi3:b.atoms.length<(e.push b.atoms.length).newSeq.atoms.length:=by show _<e.atoms.length;omega
  have M1:=R.out.1.atomSet b.atoms.length 17 [.int .i64 b.seqs.length] { e.aAt b.atoms.length with body:=b.seqs.length } hi3 (by simp) rfl
  have M2:=M1.field (k:=2) (v:=.int .i64 b.seqs.length) (b':={ (e.push b.atoms.length).newSeq with atoms:=e.atoms.set b.atoms.length { e.aAt b.atoms.length with body:=b.seqs.length },seq:=b.seqs.length }) (so':=so5) (ao':=some ⟨ga0,0,none⟩) (oo':=some ⟨q,0,none⟩) (sc':=sc5) (ac':=ac1) (oc':=cap) (by unfold bA;simp;rfl) M1.seqs M1.atoms M1.opn M1.ap M1.cl
  have eo:b.opening t={ (e.push b.atoms.length).newSeq with atoms:=e.atoms.set b.atoms.length { e.aAt b.atoms.length with body:=b.seqs.length },seq:=b.seqs.length,last:=-1 }:=by
   rw [HEO.out,Mt.into_eq,he1]
  have M3:=M2.field (k:=3) (v:=.int .i64 (-1)) (b':=b.opening t) (so':=so5) (ao':=some ⟨ga0,0,none⟩) (oo':=some ⟨q,0,none⟩) (sc':=sc5) (ac':=ac1) (oc':=cap) (by rw [eo];unfold bA;simp) (by rw [eo];exact M2.seqs) (by rw [eo];exact M2.atoms) (by rw [eo];exact M2.opn) M2.ap (by rw [eo];exact M2.cl)
  refine ⟨rfl,so5,some ⟨ga0,0,none⟩,some ⟨q,0,none⟩,sc5,ac1,cap,M3,?_⟩
  exact (((R.out.2.set (p:=⟨ga0,b.atoms.length*20+17,none⟩) (Or.inr (Or.inr (Or.inl rfl))) _).set (p:=⟨g,2,none⟩) (Or.inl rfl) _).set (p:=⟨g,3,none⟩) (Or.inl rfl) _)
end Go.Proofs.YtebpgfodelggoaaDoor
