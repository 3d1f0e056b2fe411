import Derived.Test.YtebpgfodelggoabC31
set_option linter.unusedVariables false
set_option linter.unusedSimpArgs false
set_option maxRecDepth 100000
set_option maxHeartbeats 4000000
namespace Go.Proofs.Ytebpgfodelggoab
open Go.RowKit
theorem takeOpening_plain {L:Nat} {w:World} {g:Nat} {b:Mt.PB} {so ao oo:Option Addr} {sc ac oc:Nat} (t:Mt.PT) (h:BAt L w g b so ao oo sc ac oc) (hn:b.atoms.length≤900) (hns:b.seqs.length≤900) (hs:b.seq<b.seqs.length) (hla:b.last=-1∨∃ k:Nat,b.last=k∧k<b.atoms.length) (ho:b.opn.length<10) (hgr:t.group≠1) :
  Calls Try.prog 81 #[.pointer (some ⟨g,0,none⟩),ptV t] w fun e w'=>e=.returned (.int .i64 0)∧∃ so' ao' oo' sc' ac' oc',BAt L w' g (b.opening t) so' ao' oo' sc' ac' oc'∧BStep g so ao oo so' ao' oo' w w':=by
 obtain ⟨i0,hi,hz0,hz1,hz2⟩:=info_parts Try.infoInt
 have HB:Hid (BAt L w g b so ao oo sc ac oc):=h
 obtain ⟨_,_,_,_,c4,c5,_,_⟩:=h.cells
 have hg:g<w.heap.size:=(h.lt g (Or.inl rfl)).2
 have hL:L≤w.heap.size:=by have:=h.lo;omega
 have W1:Below w.heap.size w (w.alloc (.cells (ptA t) 121)):=(Below.refl _ _).alloc (Nat.le_refl _) _
 have HT:Hid (Calls Try.prog 85 #[.pointer (some ⟨g,0,none⟩),.agg (ptA t)] (w.alloc (.cells (ptA t) 121)) _):=addAtom_prog t (h.below W1) (by omega) hs hla
 have HW1:Hid (Below w.heap.size w (w.alloc (.cells (ptA t) 121))):=W1
 obtain ⟨k1,k2,k3,k4,k5,k6,k7,k8,k9⟩:=Mt.addAtom_ok t hs hla
 have b1:decide (10≤(b.opn.length:Int))=false:=by simp;omega
 have b2:decide (10≤b.opn.length)=false:=by simp;omega
 have b3:(t.group==1)=false:=by simpa using hgr
 have HEO:Hid (b.opening t=Mt.PB.into (b.addAtom t) b.atoms.length):=by
  show _=_;unfold Mt.PB.opening Mt.PB.number;rw [if_neg (by simpa using hgr)]
 obtain ⟨e,hee⟩:∃ e:Mt.PB,e=b.addAtom t:=⟨_,rfl⟩
 rw [← hee] at HEO
 have he1:e.seqs.length=b.seqs.length:=by rw [hee];exact k2
 have he2:e.atoms.length=b.atoms.length+1:=by rw [hee];exact k1
 have he4:e.opn=b.opn:=by rw [hee];exact k5
 have HEE:Hid (e=b.addAtom t):=hee
 have HK:Hid (((b.addAtom t).last=b.atoms.length∧(b.addAtom t).groups=b.groups)∧(b.addAtom t).atoms.length=b.atoms.length+1):=⟨⟨k3,k6⟩,k1⟩
 clear h W1 hee k1 k2 k3 k4 k5 k6 k7 k8 k9
 unfold ptV
 unfold ptA at HT HW1 ⊢
 go_enter Try.func81,Try.ntmps81
 go_wp2_with fail
 refine HT.out.mono ?_
 rintro e0 w1 ⟨rfl,ao1,ac1,hP,hSt⟩
 have St1:BStep g so ao oo so ao1 oo w w1:=(BStep.below HW1.out).trans hSt
 obtain ⟨x0,x1,x2,x3,_,x5,_,xf⟩:=hP.cells
 rw [HK.out.1.1] at x3
 rw [HK.out.1.2] at x5
 have hblk:w1.heap[w.heap.size]?=_:=(hSt.block w.heap.size (by simp) (fun ho=>by have:=(HB.out.lt _ ho).2;omega)).trans (heap_alloc_new _ _)
 have t2:=(cell_block hblk).1 2
 simp only [List.getElem?_toArray,List.getElem?_cons_succ,List.getElem?_cons_zero] at t2
 have hg1:g<w1.heap.size:=(hP.lt g (Or.inl rfl)).2
 have HP:Hid (BAt L w1 g (b.addAtom t) so ao1 oo sc ac1 oc∧BStep g so ao oo so ao1 oo w w1):=⟨hP,St1⟩
 clear hP hSt St1 xf hblk HT
 go_upto_region 10 with fail
 obtain ⟨w3,hw3⟩:∃ w3:World,w3=w1:=⟨_,rfl⟩
 have B3:BAt L w3 g e so ao1 oo sc ac1 oc:=by rw [hw3,HEE.out];exact HP.out.1
 have St3:BStep g so ao oo so ao1 oo w w3:=by rw [hw3];exact HP.out.2
 rw [← hw3]
 clear hw3 x0 x1 x2 x3 x5 t2 HP HK HEE
 ·skip
  have hW3:Hid (BAt L w3 g e so ao1 oo sc ac1 oc∧BStep g so ao oo so ao1 oo w w3):=⟨B3,St3⟩
  obtain ⟨y0,y1,y2,y3,y4,y5,_,yf⟩:=B3.cells
  have yf4:=yf 4
  have y4':w3.cell? ⟨g,4,none⟩=some (.slice oo b.opn.length oc):=by rw [y4,he4]
  have HO3:Hid (w3.ownsRow L 3 1 (.slice oo b.opn.length oc) b.opn.length (opL b.opn)):=by show World.ownsRow _ _ _ _ _ _ _;have:=B3.opn;rw [he4] at this;exact this
  have hg3:g<w3.heap.size:=(B3.lt g (Or.inl rfl)).2
  have hL3:L≤w3.heap.size:=by have:=B3.lo;omega
  clear B3 St3 y0 y1 y2 y3 y4 y5 yf
  go_wp2_with (at_builtin;refine wpList_append_lies _ rfl (.tmp 56) (.tmp 58) 51 rfl L 3 i0 _ 1 8 Try.underlying51 hi hz0 hz1 hz2 rfl (by decide) _ _ _ rfl (HO3.out.alloc _) ⟨w3.heap.size,0,none⟩ 1 1 [.int .i64 (b.atoms.length:Int)] rfl rfl ?c1 ?c2 (by decide) ?c3 ?c4 ?c5 (w3.heap.size+1) ?c6 ?_)
  case c1=>exact World.news_of_block (cs:=#[.int .i64 (b.atoms.length:Int)]) (heap_alloc_new _ _)
  case c2=>intro u hu;simp at hu;subst hu;rfl
  case c3=>unfold maxLen;omega
  case c4=>omega
  case c5=>simp;omega
  case c6=>simp
  intro q cap w4 hown hgrow hq hqlt
  rw [ownBlock_blk] at hgrow hq
  have hb0:Below w3.heap.size w3 (w3.alloc (.cells #[.int .i64 (b.atoms.length:Int)] 3)):=(Below.refl _ _).alloc (Nat.le_refl _) _
  have HM:=push_mem (k:=b.atoms.length) hW3.out.1 hb0 (by simp) hgrow (by simpa using hq) (by rw [he4];exact hown)
  rw [he4] at HM
  have kg:w4.heap[g]?=w3.heap[g]?:=hW3.out.1.grown hb0 hgrow g (Or.inl rfl) (fun e=>hW3.out.1.ap.2.2.1 e.symm)
  have d4:w4.cell? ⟨g,4,none⟩=some (.slice oo b.opn.length oc):=(World.cell?_of_block (a:=⟨g,4,none⟩) kg).trans y4'
  have e4:w4.frozen? ⟨g,4,none⟩=false:=(World.frozen?_of_block (a:=⟨g,4,none⟩) kg).trans yf4
  have HM':Hid (BAt L (w4.setCell ⟨g,4,none⟩ (.slice (some ⟨q,0,none⟩) (b.opn.length+1) cap)) g (e.push b.atoms.length) so ao1 (some ⟨q,0,none⟩) sc ac1 cap∧BStep g so ao oo so ao1 (some ⟨q,0,none⟩) w (w4.setCell ⟨g,4,none⟩ (.slice (some ⟨q,0,none⟩) (b.opn.length+1) cap))):=⟨HM.1,hW3.out.2.trans HM.2⟩
  have hls:(e.push b.atoms.length).seqs.length≤1000:=by show e.seqs.length≤1000;rw [he1];omega
  have CN:=newSequence_any HM'.out.1 hls
  have ls:(e.push b.atoms.length).seqs.length=b.seqs.length:=he1
  rw [ls] at CN
  have HCN:Hid (Calls Try.prog _ _ _ _):=CN
  clear HM hown hgrow hq kg hb0 CN yf4 y4'
  go_wp2_with fail
  refine HCN.out.mono ?_
  rintro e' w5 ⟨rfl,so5,sc5,hP,hSt⟩
  obtain ⟨x0,x1,x2,x3,_,_,_,xf⟩:=hP.cells
  have xf2:=xf 2
  have xf3:=xf 3
  obtain ⟨ga,hao,ga1,ga2,ga3⟩:=hP.atomForm (by show 0<e.atoms.length;omega)
  subst hao
  have ac17:=hP.atomCell b.atoms.length 17 (by show _<e.atoms.length;omega) (by decide)
  have a17:=ac17.1
  have f17:=ac17.2
  change w5.cell? ⟨ga,b.atoms.length*20+17,none⟩=some (.int .i64 (e.aAt b.atoms.length).body) at a17
  change w5.cell? ⟨g,1,none⟩=some (.slice (some ⟨ga,0,none⟩) e.atoms.length ac1) at x1
  rw [he2] at x1
  change w5.cell? ⟨g,2,none⟩=some (.int .i64 e.seq) at x2
  change w5.cell? ⟨g,3,none⟩=some (.int .i64 e.last) at x3
  have ga4:b.atoms.length+1≤ac1:=by change e.atoms.length≤ac1 at ga3;omega
  have hg5:g<w5.heap.size:=(hP.lt g (Or.inl rfl)).2
  have R:Hid (BAt L w5 g (e.push b.atoms.length).newSeq so5 (some ⟨ga,0,none⟩) (some ⟨q,0,none⟩) sc5 ac1 cap∧BStep g so ao oo so5 (some ⟨ga,0,none⟩) (some ⟨q,0,none⟩) w w5):=⟨hP,HM'.out.2.trans hSt⟩
  clear hP hSt xf ac17 HCN HM' x0 ga3
  go_wp2_with fail
  go_returns
  have hi3:b.atoms.length<(e.push b.atoms.length).newSeq.atoms.length:=by show _<e.atoms.length;omega
  have M1:=R.out.1.atomSet b.atoms.length 17 [.int .i64 b.seqs.length] { e.aAt b.atoms.length with body:=b.seqs.length } hi3 (by simp) rfl
  have M2:=M1.field (k:=2) (v:=.int .i64 b.seqs.length) (b':={ (e.push b.atoms.length).newSeq with atoms:=e.atoms.set b.atoms.length { e.aAt b.atoms.length with body:=b.seqs.length },seq:=b.seqs.length }) (so':=so5) (ao':=some ⟨ga,0,none⟩) (oo':=some ⟨q,0,none⟩) (sc':=sc5) (ac':=ac1) (oc':=cap) (by unfold bA;simp;rfl) M1.seqs M1.atoms M1.opn M1.ap M1.cl
  have eo:b.opening t={ (e.push b.atoms.length).newSeq with atoms:=e.atoms.set b.atoms.length { e.aAt b.atoms.length with body:=b.seqs.length },seq:=b.seqs.length,last:=-1 }:=by
   rw [HEO.out,Mt.into_eq,he1]
  have M3:=M2.field (k:=3) (v:=.int .i64 (-1)) (b':=b.opening t) (so':=so5) (ao':=some ⟨ga,0,none⟩) (oo':=some ⟨q,0,none⟩) (sc':=sc5) (ac':=ac1) (oc':=cap) (by rw [eo];unfold bA;simp) (by rw [eo];exact M2.seqs) (by rw [eo];exact M2.atoms) (by rw [eo];exact M2.opn) M2.ap (by rw [eo];exact M2.cl)
  refine ⟨rfl,so5,some ⟨ga,0,none⟩,some ⟨q,0,none⟩,sc5,ac1,cap,M3,?_⟩
  exact (((R.out.2.set (p:=⟨ga,b.atoms.length*20+17,none⟩) (Or.inr (Or.inr (Or.inl rfl))) _).set (p:=⟨g,2,none⟩) (Or.inl rfl) _).set (p:=⟨g,3,none⟩) (Or.inl rfl) _)
theorem takeOpening_cap {L:Nat} {w:World} {g:Nat} {b:Mt.PB} {so ao oo:Option Addr} {sc ac oc:Nat} (t:Mt.PT) (h:BAt L w g b so ao oo sc ac oc) (hn:b.atoms.length≤900) (hns:b.seqs.length≤900) (hs:b.seq<b.seqs.length) (hla:b.last=-1∨∃ k:Nat,b.last=k∧k<b.atoms.length) (ho:b.opn.length<10) (hgr:t.group=1) (hg9:b.groups<9) :
  Calls Try.prog 81 #[.pointer (some ⟨g,0,none⟩),ptV t] w fun e w'=>e=.returned (.int .i64 0)∧∃ so' ao' oo' sc' ac' oc',BAt L w' g (b.opening t) so' ao' oo' sc' ac' oc'∧BStep g so ao oo so' ao' oo' w w':=by
 obtain ⟨i0,hi,hz0,hz1,hz2⟩:=info_parts Try.infoInt
 have HB:Hid (BAt L w g b so ao oo sc ac oc):=h
 obtain ⟨_,_,_,_,c4,c5,_,_⟩:=h.cells
 have hg:g<w.heap.size:=(h.lt g (Or.inl rfl)).2
 have hL:L≤w.heap.size:=by have:=h.lo;omega
 have W1:Below w.heap.size w (w.alloc (.cells (ptA t) 121)):=(Below.refl _ _).alloc (Nat.le_refl _) _
 have HT:Hid (Calls Try.prog 85 #[.pointer (some ⟨g,0,none⟩),.agg (ptA t)] (w.alloc (.cells (ptA t) 121)) _):=addAtom_prog t (h.below W1) (by omega) hs hla
 have HW1:Hid (Below w.heap.size w (w.alloc (.cells (ptA t) 121))):=W1
 obtain ⟨k1,k2,k3,k4,k5,k6,k7,k8,k9⟩:=Mt.addAtom_ok t hs hla
 have b1:decide (10≤(b.opn.length:Int))=false:=by simp;omega
 have b2:decide (10≤b.opn.length)=false:=by simp;omega
 have b3:decide (9≤(b.groups:Int))=false:=by simp;omega
 have b4:decide (9≤b.groups)=false:=by simp;omega
 have HEO:Hid (b.opening t=Mt.PB.into { b.addAtom t with groups:=b.groups+1,atoms:=(b.addAtom t).atoms.set b.atoms.length { (b.addAtom t).aAt b.atoms.length with num:=(b.groups:Int)+1 } } b.atoms.length):=by
  show _=_;unfold Mt.PB.opening Mt.PB.number;rw [hgr];simp [k6]
 obtain ⟨e,hee⟩:∃ e:Mt.PB,e={ b.addAtom t with groups:=b.groups+1,atoms:=(b.addAtom t).atoms.set b.atoms.length { (b.addAtom t).aAt b.atoms.length with num:=(b.groups:Int)+1 } }:=⟨_,rfl⟩
 rw [← hee] at HEO
 have he1:e.seqs.length=b.seqs.length:=by rw [hee];exact k2
 have he2:e.atoms.length=b.atoms.length+1:=by rw [hee];simp [k1]
 have he4:e.opn=b.opn:=by rw [hee];exact k5
 have HEE:Hid (e={ b.addAtom t with groups:=b.groups+1,atoms:=(b.addAtom t).atoms.set b.atoms.length { (b.addAtom t).aAt b.atoms.length with num:=(b.groups:Int)+1 } }):=hee
 have HK:Hid (((b.addAtom t).last=b.atoms.length∧(b.addAtom t).groups=b.groups)∧(b.addAtom t).atoms.length=b.atoms.length+1):=⟨⟨k3,k6⟩,k1⟩
 clear h W1 hee k1 k2 k3 k4 k5 k6 k7 k8 k9
 unfold ptV
 unfold ptA at HT HW1 ⊢
 rw [hgr] at HT HW1 ⊢
 go_enter Try.func81,Try.ntmps81
 go_wp2_with fail
 refine HT.out.mono ?_
 rintro e0 w1 ⟨rfl,ao1,ac1,hP,hSt⟩
 have St1:BStep g so ao oo so ao1 oo w w1:=(BStep.below HW1.out).trans hSt
 obtain ⟨x0,x1,x2,x3,_,x5,_,xf⟩:=hP.cells
 rw [HK.out.1.1] at x3
 rw [HK.out.1.2] at x5
 have hblk:w1.heap[w.heap.size]?=_:=(hSt.block w.heap.size (by simp) (fun ho=>by have:=(HB.out.lt _ ho).2;omega)).trans (heap_alloc_new _ _)
 have t2:=(cell_block hblk).1 2
 simp only [List.getElem?_toArray,List.getElem?_cons_succ,List.getElem?_cons_zero] at t2
 have hg1:g<w1.heap.size:=(hP.lt g (Or.inl rfl)).2
 have HP:Hid (BAt L w1 g (b.addAtom t) so ao1 oo sc ac1 oc∧BStep g so ao oo so ao1 oo w w1):=⟨hP,St1⟩
 obtain ⟨ga0,hao0,ga01,ga02,ga03⟩:=hP.atomForm (by rw [HK.out.2];omega)
 subst hao0
 have q8:=hP.atomCell b.atoms.length 8 (by rw [HK.out.2];omega) (by decide)
 have q81:=q8.1
 have q82:=q8.2
 change w1.cell? ⟨ga0,b.atoms.length*20+8,none⟩=some (.int .i64 ((b.addAtom t).aAt b.atoms.length).num) at q81
 rw [HK.out.2] at x1 ga03
 have f5:=xf 5
 clear hP hSt St1 xf hblk q8 HT
 go_wp2_with fail
 go_region
 go_upto_region 10 with fail
 obtain ⟨w3,hw3⟩:∃ w3:World,w3=((w1.setCell ⟨g,5,none⟩ (.int .i64 ((b.groups:Int)+1))).setCell ⟨ga0,b.atoms.length*20+8,none⟩ (.int .i64 ((b.groups:Int)+1))).drew:=⟨_,rfl⟩
 have B3:BAt L w3 g e so (some ⟨ga0,0,none⟩) oo sc ac1 oc:=by
  rw [hw3,HEE.out]
  have M1:=HP.out.1.field (k:=5) (v:=.int .i64 ((b.groups:Int)+1)) (b':={ b.addAtom t with groups:=b.groups+1 }) (so':=so) (ao':=some ⟨ga0,0,none⟩) (oo':=oo) (sc':=sc) (ac':=ac1) (oc':=oc) (by unfold bA;simp) HP.out.1.seqs HP.out.1.atoms HP.out.1.opn HP.out.1.ap HP.out.1.cl
  exact (M1.atomSet b.atoms.length 8 [.int .i64 ((b.groups:Int)+1)] { (b.addAtom t).aAt b.atoms.length with num:=(b.groups:Int)+1 } (by show _<(b.addAtom t).atoms.length;rw [HK.out.2];omega) (by simp) rfl).drew
 have St3:BStep g so ao oo so (some ⟨ga0,0,none⟩) oo w w3:=by
  rw [hw3]
  exact ((HP.out.2.set (p:=⟨g,5,none⟩) (Or.inl rfl) _).set (p:=⟨ga0,b.atoms.length*20+8,none⟩) (Or.inr (Or.inr (Or.inl rfl))) _).drew
 rw [← hw3]
 clear hw3 x0 x1 x2 x3 x5 t2 q81 q82 f5 HP HK HEE
 ·clear ga01 ga02 ga03
  have hW3:Hid (BAt L w3 g e so (some ⟨ga0,0,none⟩) oo sc ac1 oc∧BStep g so ao oo so (some ⟨ga0,0,none⟩) oo w w3):=⟨B3,St3⟩
  obtain ⟨y0,y1,y2,y3,y4,y5,_,yf⟩:=B3.cells
  have yf4:=yf 4
  have y4':w3.cell? ⟨g,4,none⟩=some (.slice oo b.opn.length oc):=by rw [y4,he4]
  have HO3:Hid (w3.ownsRow L 3 1 (.slice oo b.opn.length oc) b.opn.length (opL b.opn)):=by show World.ownsRow _ _ _ _ _ _ _;have:=B3.opn;rw [he4] at this;exact this
  have hg3:g<w3.heap.size:=(B3.lt g (Or.inl rfl)).2
  have hL3:L≤w3.heap.size:=by have:=B3.lo;omega
  clear B3 St3 y0 y1 y2 y3 y4 y5 yf
  go_wp2_with (at_builtin;refine wpList_append_lies _ rfl (.tmp 56) (.tmp 58) 51 rfl L 3 i0 _ 1 8 Try.underlying51 hi hz0 hz1 hz2 rfl (by decide) _ _ _ rfl (HO3.out.alloc _) ⟨w3.heap.size,0,none⟩ 1 1 [.int .i64 (b.atoms.length:Int)] rfl rfl ?c1 ?c2 (by decide) ?c3 ?c4 ?c5 (w3.heap.size+1) ?c6 ?_)
  case c1=>exact World.news_of_block (cs:=#[.int .i64 (b.atoms.length:Int)]) (heap_alloc_new _ _)
  case c2=>intro u hu;simp at hu;subst hu;rfl
  case c3=>unfold maxLen;omega
  case c4=>omega
  case c5=>simp;omega
  case c6=>simp
  intro q cap w4 hown hgrow hq hqlt
  rw [ownBlock_blk] at hgrow hq
  have hb0:Below w3.heap.size w3 (w3.alloc (.cells #[.int .i64 (b.atoms.length:Int)] 3)):=(Below.refl _ _).alloc (Nat.le_refl _) _
  have HM:=push_mem (k:=b.atoms.length) hW3.out.1 hb0 (by simp) hgrow (by simpa using hq) (by rw [he4];exact hown)
  rw [he4] at HM
  have kg:w4.heap[g]?=w3.heap[g]?:=hW3.out.1.grown hb0 hgrow g (Or.inl rfl) (fun e=>hW3.out.1.ap.2.2.1 e.symm)
  have d4:w4.cell? ⟨g,4,none⟩=some (.slice oo b.opn.length oc):=(World.cell?_of_block (a:=⟨g,4,none⟩) kg).trans y4'
  have e4:w4.frozen? ⟨g,4,none⟩=false:=(World.frozen?_of_block (a:=⟨g,4,none⟩) kg).trans yf4
  have HM':Hid (BAt L (w4.setCell ⟨g,4,none⟩ (.slice (some ⟨q,0,none⟩) (b.opn.length+1) cap)) g (e.push b.atoms.length) so (some ⟨ga0,0,none⟩) (some ⟨q,0,none⟩) sc ac1 cap∧BStep g so ao oo so (some ⟨ga0,0,none⟩) (some ⟨q,0,none⟩) w (w4.setCell ⟨g,4,none⟩ (.slice (some ⟨q,0,none⟩) (b.opn.length+1) cap))):=⟨HM.1,hW3.out.2.trans HM.2⟩
  have hls:(e.push b.atoms.length).seqs.length≤1000:=by show e.seqs.length≤1000;rw [he1];omega
  have CN:=newSequence_any HM'.out.1 hls
  have ls:(e.push b.atoms.length).seqs.length=b.seqs.length:=he1
  rw [ls] at CN
  have HCN:Hid (Calls Try.prog _ _ _ _):=CN
  clear HM hown hgrow hq kg hb0 CN yf4 y4'
  go_wp2_with fail
  refine HCN.out.mono ?_
  rintro e' w5 ⟨rfl,so5,sc5,hP,hSt⟩
  obtain ⟨x0,x1,x2,x3,_,_,_,xf⟩:=hP.cells
  have xf2:=xf 2
  have xf3:=xf 3
  obtain ⟨ga,hao,ga1,ga2,ga3⟩:=hP.atomForm (by show 0<e.atoms.length;omega)
  simp only [Option.some.injEq,Addr.mk.injEq,and_true,true_and] at hao
  subst hao
  have ac17:=hP.atomCell b.atoms.length 17 (by show _<e.atoms.length;omega) (by decide)
  have a17:=ac17.1
  have f17:=ac17.2
  change w5.cell? ⟨ga0,b.atoms.length*20+17,none⟩=some (.int .i64 (e.aAt b.atoms.length).body) at a17
  change w5.cell? ⟨g,1,none⟩=some (.slice (some ⟨ga0,0,none⟩) e.atoms.length ac1) at x1
  rw [he2] at x1
  change w5.cell? ⟨g,2,none⟩=some (.int .i64 e.seq) at x2
  change w5.cell? ⟨g,3,none⟩=some (.int .i64 e.last) at x3
  have ga4:b.atoms.length+1≤ac1:=by change e.atoms.length≤ac1 at ga3;omega
  have hg5:g<w5.heap.size:=(hP.lt g (Or.inl rfl)).2
  have R:Hid (BAt L w5 g (e.push b.atoms.length).newSeq so5 (some ⟨ga0,0,none⟩) (some ⟨q,0,none⟩) sc5 ac1 cap∧BStep g so ao oo so5 (some ⟨ga0,0,none⟩) (some ⟨q,0,none⟩) w w5):=⟨hP,HM'.out.2.trans hSt⟩
  clear hP hSt xf ac17 HCN HM' x0 ga3
  go_wp2_with fail
  go_returns
  have hi3:b.atoms.length<(e.push b.atoms.length).newSeq.atoms.length:=by show _<e.atoms.length;omega
  have M1:=R.out.1.atomSet b.atoms.length 17 [.int .i64 b.seqs.length] { e.aAt b.atoms.length with body:=b.seqs.length } hi3 (by simp) rfl
  have M2:=M1.field (k:=2) (v:=.int .i64 b.seqs.length) (b':={ (e.push b.atoms.length).newSeq with atoms:=e.atoms.set b.atoms.length { e.aAt b.atoms.length with body:=b.seqs.length },seq:=b.seqs.length }) (so':=so5) (ao':=some ⟨ga0,0,none⟩) (oo':=some ⟨q,0,none⟩) (sc':=sc5) (ac':=ac1) (oc':=cap) (by unfold bA;simp;rfl) M1.seqs M1.atoms M1.opn M1.ap M1.cl
  have eo:b.opening t={ (e.push b.atoms.length).newSeq with atoms:=e.atoms.set b.atoms.length { e.aAt b.atoms.length with body:=b.seqs.length },seq:=b.seqs.length,last:=-1 }:=by
   rw [HEO.out,Mt.into_eq,he1]
  have M3:=M2.field (k:=3) (v:=.int .i64 (-1)) (b':=b.opening t) (so':=so5) (ao':=some ⟨ga0,0,none⟩) (oo':=some ⟨q,0,none⟩) (sc':=sc5) (ac':=ac1) (oc':=cap) (by rw [eo];unfold bA;simp) (by rw [eo];exact M2.seqs) (by rw [eo];exact M2.atoms) (by rw [eo];exact M2.opn) M2.ap (by rw [eo];exact M2.cl)
  refine ⟨rfl,so5,some ⟨ga0,0,none⟩,some ⟨q,0,none⟩,sc5,ac1,cap,M3,?_⟩
  exact (((R.out.2.set (p:=⟨ga0,b.atoms.length*20+17,none⟩) (Or.inr (Or.inr (Or.inl rfl))) _).set (p:=⟨g,2,none⟩) (Or.inl rfl) _).set (p:=⟨g,3,none⟩) (Or.inl rfl) _)
def Takes (L:Nat) (w:World) (g:Nat) (so ao oo:Option Addr) (E:Int) (b':Mt.PB) (e:Ending) (w':World):Prop :=
 e=.returned (.int .i64 E)∧(E=0→∃ so' ao' oo' sc' ac' oc',BAt L w' g b' so' ao' oo' sc' ac' oc'∧BStep g so ao oo so' ao' oo' w w')∧Below L w w'
theorem takeOpening_prog {L:Nat} {w:World} {g:Nat} {b:Mt.PB} {so ao oo:Option Addr} {sc ac oc:Nat} (t:Mt.PT) (h:BAt L w g b so ao oo sc ac oc) (hn:b.atoms.length≤900) (hns:b.seqs.length≤900) (hs:b.seq<b.seqs.length) (hla:b.last=-1∨∃ k:Nat,b.last=k∧k<b.atoms.length) :
  Calls Try.prog 81 #[.pointer (some ⟨g,0,none⟩),ptV t] w (Takes L w g so ao oo (if 10≤b.opn.length then 8 else if t.group=1∧9≤b.groups then 9 else 0) (b.opening t)):=by
 have hL:L≤w.heap.size:=by have:=h.lo;have:=(h.lt g (Or.inl rfl)).2;omega
 by_cases h1:10≤b.opn.length
 ·rw [if_pos h1]
  exact (takeOpening_bad t h 8 (Or.inl ⟨h1,rfl⟩)).mono (fun e w' hh=>⟨hh.1,fun e=>by omega,hh.2⟩)
 ·rw [if_neg h1]
  by_cases h2:t.group=1
  ·by_cases h3:9≤b.groups
   ·rw [if_pos ⟨h2,h3⟩]
    exact (takeOpening_bad t h 9 (Or.inr ⟨h1,h2,h3,rfl⟩)).mono (fun e w' hh=>⟨hh.1,fun e=>by omega,hh.2⟩)
   ·rw [if_neg (fun x=>h3 x.2)]
    exact (takeOpening_cap t h hn hns hs hla (by omega) h2 (by omega)).mono (fun e w' ⟨h4,so',ao',oo',sc',ac',oc',h5,h6⟩=>⟨h4,fun _=>⟨so',ao',oo',sc',ac',oc',h5,h6⟩,h6.low h hL⟩)
  ·rw [if_neg (fun x=>h2 x.1)]
   exact (takeOpening_plain t h hn hns hs hla (by omega) h2).mono (fun e w' ⟨h4,so',ao',oo',sc',ac',oc',h5,h6⟩=>⟨h4,fun _=>⟨so',ao',oo',sc',ac',oc',h5,h6⟩,h6.low h hL⟩)
structure BOk (b:Mt.PB):Prop where
 na:b.atoms.length≤900
 ns:b.seqs.length≤900
 no:b.opn.length≤900
 sq:b.seq<b.seqs.length
 la:b.last=-1∨∃ k:Nat,b.last=k∧k<b.atoms.length
 tp:0<b.opn.length→b.top<b.atoms.length∧∃ nu hm:Nat,(b.aAt b.top).num=nu∧nu≤9∧(b.aAt b.top).home=hm
theorem Takes.of {L:Nat} {w W w':World} {g:Nat} {b b':Mt.PB} {so ao oo so' ao' oo':Option Addr} {sc ac oc sc' ac' oc':Nat} {e:Ending} (h:BAt L w g b so ao oo sc ac oc) (hW:Below w.heap.size w W) (he:e=.returned (.int .i64 0)) (hb:BAt L w' g b' so' ao' oo' sc' ac' oc') (hs:BStep g so ao oo so' ao' oo' W w'):Takes L w g so ao oo 0 b' e w':=by
 have hL:L≤w.heap.size:=by have:=h.lo;have:=(h.lt g (Or.inl rfl)).2;omega
 have:=(BStep.below (g:=g) (so:=so) (ao:=ao) (oo:=oo) hW).trans hs
 exact ⟨he,fun _=>⟨so',ao',oo',sc',ac',oc',hb,this⟩,this.low h hL⟩
theorem Takes.up {L:Nat} {w W w':World} {g:Nat} {b b':Mt.PB} {so ao oo:Option Addr} {sc ac oc:Nat} {E:Int} {e:Ending} (h:BAt L w g b so ao oo sc ac oc) (hW:Below w.heap.size w W) (ht:Takes L W g so ao oo E b' e w'):Takes L w g so ao oo E b' e w':=by
 have hL:L≤w.heap.size:=by have:=h.lo;have:=(h.lt g (Or.inl rfl)).2;omega
 refine ⟨ht.1,fun h0=>?_,(hW.mono hL).trans ht.2.2⟩
 obtain ⟨so',ao',oo',sc',ac',oc',h1,h2⟩:=ht.2.1 h0
 exact ⟨so',ao',oo',sc',ac',oc',h1,(BStep.below hW).trans h2⟩
theorem take_bar {L:Nat} {w:World} {g:Nat} {b:Mt.PB} {so ao oo:Option Addr} {sc ac oc:Nat} (t:Mt.PT) (h:BAt L w g b so ao oo sc ac oc) (hO:BOk b) (hk:t.kind=1) :
  Calls Try.prog 62 #[.pointer (some ⟨g,0,none⟩),ptV t] w (Takes L w g so ao oo (b.err t) (b.next t)):=by
 have HB:Hid (BAt L w g b so ao oo sc ac oc):=h
 have W1:Below w.heap.size w (w.alloc (.cells (ptA t) 121)):=(Below.refl _ _).alloc (Nat.le_refl _) _
 have hw:=h.below W1
 have e1:b.err t=0:=by unfold Mt.PB.err;rw [if_pos hk]
 have e2:b.next t=b.bar:=by unfold Mt.PB.next;rw [if_pos hk]
 rw [e1,e2]
 clear e1 e2
 have HT:Hid (Calls Try.prog 80 _ (w.alloc (.cells (ptA t) 121)) _):=takeBar_prog hw (by have:=hO.ns;omega) hO.sq
 have HW1:Hid (Below w.heap.size w (w.alloc (.cells (ptA t) 121))):=W1
 clear h W1 hw hO
 unfold ptV
 unfold ptA at HT
 unfold ptA at HW1 ⊢
 rw [hk] at HT HW1 ⊢
 clear hk
 go_enter Try.func62,Try.ntmps62
 go_wp2_with fail
 refine HT.out.mono ?_
 rintro e w1 ⟨rfl,so1,sc1,hP,hSt⟩
 have R:Hid (BAt L w1 g b.bar so1 ao oo sc1 ac oc∧BStep g so ao oo so1 ao oo _ w1):=⟨hP,hSt⟩
 clear hP hSt
 go_wp2_with fail
 go_returns
 exact Takes.of HB.out HW1.out rfl R.out.1 R.out.2
theorem take_open {L:Nat} {w:World} {g:Nat} {b:Mt.PB} {so ao oo:Option Addr} {sc ac oc:Nat} (t:Mt.PT) (h:BAt L w g b so ao oo sc ac oc) (hO:BOk b) (hk:t.kind=2) :
  Calls Try.prog 62 #[.pointer (some ⟨g,0,none⟩),ptV t] w (Takes L w g so ao oo (b.err t) (b.next t)):=by
 have HB:Hid (BAt L w g b so ao oo sc ac oc):=h
 have W1:Below w.heap.size w (w.alloc (.cells (ptA t) 121)):=(Below.refl _ _).alloc (Nat.le_refl _) _
 have hw:=h.below W1
 have e1:b.err t=if 10≤b.opn.length then 8 else if t.group=1∧9≤b.groups then 9 else 0:=by unfold Mt.PB.err;rw [if_neg (by omega),if_pos hk]
 have e2:b.next t=b.opening t:=by unfold Mt.PB.next;rw [if_neg (by omega),if_pos hk]
 rw [e1,e2]
 clear e1 e2
 have HT0:=takeOpening_prog t hw hO.na hO.ns hO.sq hO.la
 generalize (if 10≤b.opn.length then (8:Int) else if t.group=1∧9≤b.groups then 9 else 0)=E at *
 have HT:Hid (Calls Try.prog 81 _ (w.alloc (.cells (ptA t) 121)) _):=HT0
 have HW1:Hid (Below w.heap.size w (w.alloc (.cells (ptA t) 121))):=W1
 clear HT0 h W1 hw hO
 unfold ptV
 unfold ptV ptA at HT
 unfold ptA at HW1 ⊢
 rw [hk] at HT HW1 ⊢
 clear hk
 go_enter Try.func62,Try.ntmps62
 go_wp2_with fail
 refine HT.out.mono ?_
 rintro e w1 hT
 obtain ⟨rfl,hR⟩:=(show e=.returned (.int .i64 E)∧Takes L (w.alloc _) g so ao oo E (b.opening t) e w1 from ⟨hT.1,hT⟩)
 have R:Hid (Takes L _ g so ao oo E (b.opening t) (.returned (.int .i64 E)) w1):=hR
 clear hT hR
 go_wp2_with fail
 go_returns
 exact Takes.up HB.out HW1.out R.out
theorem take_close {L:Nat} {w:World} {g:Nat} {b:Mt.PB} {so ao oo:Option Addr} {sc ac oc:Nat} (t:Mt.PT) (h:BAt L w g b so ao oo sc ac oc) (hO:BOk b) (hk:t.kind=3) :
  Calls Try.prog 62 #[.pointer (some ⟨g,0,none⟩),ptV t] w (Takes L w g so ao oo (b.err t) (b.next t)):=by
 have HB:Hid (BAt L w g b so ao oo sc ac oc):=h
 have W1:Below w.heap.size w (w.alloc (.cells (ptA t) 121)):=(Below.refl _ _).alloc (Nat.le_refl _) _
 have hw:=h.below W1
 have e1:b.err t=if b.opn.length=0 then 10 else 0:=by unfold Mt.PB.err;rw [if_neg (by omega),if_neg (by omega),if_pos hk]
 have e2:b.next t=b.close:=by unfold Mt.PB.next;rw [if_neg (by omega),if_neg (by omega),if_pos hk]
 rw [e1,e2]
 clear e1 e2
 have HT0:=takeClose_prog hw (by have:=hO.na;omega) (by have:=hO.no;omega) hO.tp _ rfl
 generalize (if b.opn.length=0 then (10:Int) else 0)=E at *
 have HT:Hid (Calls Try.prog 82 _ (w.alloc (.cells (ptA t) 121)) _):=HT0
 have HW1:Hid (Below w.heap.size w (w.alloc (.cells (ptA t) 121))):=W1
 clear HT0 h W1 hw hO
 unfold ptV
 unfold ptA at HT
 unfold ptA at HW1 ⊢
 rw [hk] at HT HW1 ⊢
 clear hk
 go_enter Try.func62,Try.ntmps62
 go_wp2_with fail
 refine HT.out.mono ?_
 rintro e w1 ⟨rfl,hT1,hT2⟩
 have R:Hid (Takes L _ g so ao oo E b.close (.returned (.int .i64 E)) w1):=⟨rfl,fun h0=>⟨so,ao,oo,sc,ac,oc,(hT1 h0).1,(hT1 h0).2⟩,hT2⟩
 clear hT1 hT2
 go_wp2_with fail
 go_returns
 exact Takes.up HB.out HW1.out R.out
theorem take_rep {L:Nat} {w:World} {g:Nat} {b:Mt.PB} {so ao oo:Option Addr} {sc ac oc:Nat} (t:Mt.PT) (h:BAt L w g b so ao oo sc ac oc) (hO:BOk b) (hk:t.kind=4) :
  Calls Try.prog 62 #[.pointer (some ⟨g,0,none⟩),ptV t] w (Takes L w g so ao oo (b.err t) (b.next t)):=by
 have HB:Hid (BAt L w g b so ao oo sc ac oc):=h
 have W1:Below w.heap.size w (w.alloc (.cells (ptA t) 121)):=(Below.refl _ _).alloc (Nat.le_refl _) _
 have hw:=h.below W1
 have e1:b.err t=if b.last=-1∨(b.aAt b.last.toNat).rep.kind≠0 then 7 else 0:=by unfold Mt.PB.err;rw [if_neg (by omega),if_neg (by omega),if_neg (by omega),if_pos hk]
 have e2:b.next t=b.repeated t:=by unfold Mt.PB.next;rw [if_neg (by omega),if_neg (by omega),if_neg (by omega),if_pos hk]
 rw [e1,e2]
 clear e1 e2
 have HT0:=takeRepeat_prog t hw (by have:=hO.na;omega) hO.la _ rfl
 generalize (if b.last=-1∨(b.aAt b.last.toNat).rep.kind≠0 then (7:Int) else 0)=E at *
 have HT:Hid (Calls Try.prog 83 _ (w.alloc (.cells (ptA t) 121)) _):=HT0
 have HW1:Hid (Below w.heap.size w (w.alloc (.cells (ptA t) 121))):=W1
 clear HT0 h W1 hw hO
 unfold ptV
 unfold ptV ptA at HT
 unfold ptA at HW1 ⊢
 rw [hk] at HT HW1 ⊢
 clear hk
 go_enter Try.func62,Try.ntmps62
 go_wp2_with fail
 refine HT.out.mono ?_
 rintro e w1 ⟨rfl,hT1,hT2⟩
 have R:Hid (Takes L _ g so ao oo E (b.repeated t) (.returned (.int .i64 E)) w1):=⟨rfl,fun h0=>⟨so,ao,oo,sc,ac,oc,(hT1 h0).1,(hT1 h0).2⟩,hT2⟩
 clear hT1 hT2
 go_wp2_with fail
 go_returns
 exact Takes.up HB.out HW1.out R.out
theorem take_back {L:Nat} {w:World} {g:Nat} {b:Mt.PB} {so ao oo:Option Addr} {sc ac oc:Nat} (t:Mt.PT) (h:BAt L w g b so ao oo sc ac oc) (hO:BOk b) (hk:t.kind=6) (n:Nat) (hnum:t.number=n) (hn9:n≤9) :
  Calls Try.prog 62 #[.pointer (some ⟨g,0,none⟩),ptV t] w (Takes L w g so ao oo (b.err t) (b.next t)):=by
 have HB:Hid (BAt L w g b so ao oo sc ac oc):=h
 have W1:Below w.heap.size w (w.alloc (.cells (ptA t) 121)):=(Below.refl _ _).alloc (Nat.le_refl _) _
 have hw:=h.below W1
 have e1:b.err t=if (b.groups:Int)<t.number∨b.clo.getD t.number.toNat false=false then 6 else 0:=by unfold Mt.PB.err;rw [if_neg (by omega),if_neg (by omega),if_neg (by omega),if_neg (by omega),if_pos hk]
 have e2:b.next t=b.addAtom t:=by unfold Mt.PB.next;rw [if_neg (by omega),if_neg (by omega),if_neg (by omega),if_neg (by omega)]
 rw [e1,e2]
 clear e1 e2
 have HT0:=takeBack_prog t hw (by have:=hO.na;omega) hO.sq hO.la n hnum hn9 _ rfl
 generalize (if (b.groups:Int)<t.number∨b.clo.getD t.number.toNat false=false then (6:Int) else 0)=E at *
 have HT:Hid (Calls Try.prog 84 _ (w.alloc (.cells (ptA t) 121)) _):=HT0
 have HW1:Hid (Below w.heap.size w (w.alloc (.cells (ptA t) 121))):=W1
 clear HT0 hnum h W1 hw hO
 unfold ptV
 unfold ptV ptA at HT
 unfold ptA at HW1 ⊢
 rw [hk] at HT HW1 ⊢
 clear hk
 go_enter Try.func62,Try.ntmps62
 go_wp2_with fail
 refine HT.out.mono ?_
 rintro e w1 ⟨rfl,hT1,hT2⟩
 have R:Hid (Takes L _ g so ao oo E (b.addAtom t) (.returned (.int .i64 E)) w1):=⟨rfl,fun h0=>by obtain ⟨ao',ac',x1,x2⟩:=hT1 h0;exact ⟨so,ao',oo,sc,ac',oc,x1,x2⟩,hT2⟩
 clear hT1 hT2
 go_wp2_with fail
 go_returns
 exact Takes.up HB.out HW1.out R.out
theorem take_leaf {L:Nat} {w:World} {g:Nat} {b:Mt.PB} {so ao oo:Option Addr} {sc ac oc:Nat} (t:Mt.PT) (h:BAt L w g b so ao oo sc ac oc) (hO:BOk b) (hk:t.kind=5∨t.kind=7∨t.kind=8) :
  Calls Try.prog 62 #[.pointer (some ⟨g,0,none⟩),ptV t] w (Takes L w g so ao oo (b.err t) (b.next t)):=by
 have HB:Hid (BAt L w g b so ao oo sc ac oc):=h
 have W1:Below w.heap.size w (w.alloc (.cells (ptA t) 121)):=(Below.refl _ _).alloc (Nat.le_refl _) _
 have hw:=h.below W1
 have e1:b.err t=0:=by unfold Mt.PB.err;rw [if_neg (by omega),if_neg (by omega),if_neg (by omega),if_neg (by omega),if_neg (by omega)]
 have e2:b.next t=b.addAtom t:=by unfold Mt.PB.next;rw [if_neg (by omega),if_neg (by omega),if_neg (by omega),if_neg (by omega)]
 rw [e1,e2]
 clear e1 e2
 have HT:Hid (Calls Try.prog 85 _ (w.alloc (.cells (ptA t) 121)) _):=addAtom_prog t hw (by have:=hO.na;omega) hO.sq hO.la
 have HW1:Hid (Below w.heap.size w (w.alloc (.cells (ptA t) 121))):=W1
 clear h W1 hw hO
 rcases hk with hk | hk | hk
 all_goals
  unfold ptV
  unfold ptV ptA at HT
  unfold ptA at HW1 ⊢
  rw [hk] at HT HW1 ⊢
  clear hk
  go_enter Try.func62,Try.ntmps62
  go_wp2_with fail
  refine HT.out.mono ?_
  rintro e w1 ⟨rfl,ao1,ac1,hP,hSt⟩
  have R:Hid (BAt L w1 g (b.addAtom t) so ao1 oo sc ac1 oc∧BStep g so ao oo so ao1 oo _ w1):=⟨hP,hSt⟩
  clear hP hSt
  go_wp2_with fail
  go_returns
  exact Takes.of HB.out HW1.out rfl R.out.1 R.out.2
end Go.Proofs.Ytebpgfodelggoab
namespace Mt
def PB.start0:PB:=⟨[],[],0,-1,[],0,List.replicate 10 false⟩
theorem rel_ok {b:PB} {l:List Tok} {stk:List Nat} (h:b.Rel l stk) (hl:l.length≤64):b.atoms.length≤64∧b.seqs.length≤65∧b.opn.length≤64∧(0<b.opn.length→b.top<b.atoms.length∧∃ nu hm:Nat,(b.aAt b.top).num=nu∧nu≤9∧(b.aAt b.top).home=hm):=by
 have h1:=h.al
 have h2:=h.sl
 have h3:=h.len
 have h4:=h.op
 have h5:=opened_bd l
 refine ⟨by omega,by omega,by omega,fun hp=>?_⟩
 have ht:b.top=b.opn.getD (stk.length-1) 0:=by unfold PB.top;rw [getLastD_at _ _ hp,h3]
 have T:=h.tops (stk.length-1) (by omega)
 rw [← ht] at T
 obtain ⟨hm,e1,e2⟩:=h.homes b.top T.1
 have n:=h.nums b.top T.1
 exact ⟨T.1,(b.aAt b.top).num.toNat,hm,by omega,by omega,e1⟩
theorem readOn_end (p:ByteArray) (l:List Tok) (k:Int) (h0:0≤k) (h:k=p.size):readOn p l k=(l,0,k):=by
 rw [readOn_step p l k h0 (by omega),if_pos (by omega)]
theorem readOn_bad1 (p:ByteArray) (l:List Tok) (k:Int) (h0:0≤k) (h:k<p.size) (h2:(nextT p k).2≠0):readOn p l k=([],(nextT p k).2,k):=by
 rw [readOn_step p l k h0 (by omega),if_neg (by omega),if_pos h2]
theorem readOn_bad2 (p:ByteArray) (l:List Tok) (k:Int) (h0:0≤k) (h:k<p.size) (h2:(nextT p k).2=0) (h3:may l (nextT p k).1≠0):readOn p l k=([],may l (nextT p k).1,k):=by
 rw [readOn_step p l k h0 (by omega),if_neg (by omega),if_neg (by omega),if_pos h3]
theorem readOn_go (p:ByteArray) (l:List Tok) (k:Int) (h0:0≤k) (h:k<p.size) (h2:(nextT p k).2=0) (h3:may l (nextT p k).1=0):readOn p l k=readOn p (l++[joined l (nextT p k).1]) (nextT p k).1.to:=by
 rw [readOn_step p l k h0 (by omega),if_neg (by omega),if_neg (by omega),if_neg (by omega)]
structure Read (p:ByteArray) (k:Nat) (b:PB) (l:List Tok):Prop where
 le:k≤p.size
 len:l.length≤k
 run:b=PB.start.run l
 rel:∃ stk,b.Rel l stk
 val:Valid l
 on:readOn p l k=readOn p [] 0
theorem read_start (p:ByteArray):Read p 0 PB.start []:=⟨by omega,by simp,rfl,⟨[],rel_start⟩,by intro k hk;simp at hk,rfl⟩
theorem read_next {p:ByteArray} {k:Nat} {b:PB} {l:List Tok} (h:Read p k b l) (hk:k<p.size) (h2:(nextT p k).2=0) (h3:may l (nextT p k).1=0):∃ m:Nat,(nextT p k).1.to=m∧k<m∧Read p m (b.next (ptok (nextT p k).1)) (l++[joined l (nextT p k).1]):=by
 have ht:=nextT_to p k (by omega) (by omega) h2
 obtain ⟨m,hm⟩:=Int.eq_ofNat_of_zero_le (show 0≤(nextT p k).1.to by omega)
 have hg:=nextT_G p k h2
 obtain ⟨stk,hr⟩:=h.rel
 refine ⟨m,hm,by omega,by omega,by simp;have:=h.len;omega,?_,rel_next hr h.val hg h3,valid_next h.val hg h3,?_⟩
 ·rw [PB.run_app,← h.run];show _=b.next (ptok (joined l (nextT p k).1));rw [ptok_joined]
 ·rw [← h.on,readOn_go p l k (by omega) (by omega) h2 h3,hm]
end Mt
namespace Go.Proofs.Ytebpgfodelggoab
open Go.RowKit
theorem bok_read {p:ByteArray} {k:Nat} {b:Mt.PB} {l:List Mt.Tok} (h:Mt.Read p k b l) (hp:p.size≤64):BOk b:=by
 obtain ⟨stk,hr⟩:=h.rel
 have hl:=h.len
 have hk:=h.le
 obtain ⟨a1,a2,a3,a4⟩:=Mt.rel_ok hr (by omega)
 exact ⟨by omega,by omega,by omega,hr.sq,hr.la,a4⟩
theorem take_any {L:Nat} {w:World} {g:Nat} {b:Mt.PB} {so ao oo:Option Addr} {sc ac oc:Nat} {p:ByteArray} {k:Nat} {l:List Mt.Tok} (h:BAt L w g b so ao oo sc ac oc) (hR:Mt.Read p k b l) (hp:p.size≤64) (t:Mt.Tok) (hg:Mt.tokG t) :
  Calls Try.prog 62 #[.pointer (some ⟨g,0,none⟩),ptV (Mt.ptok t)] w (Takes L w g so ao oo (Mt.may l t) (b.next (Mt.ptok t))):=by
 have hO:=bok_read hR hp
 obtain ⟨stk,hr⟩:=hR.rel
 rw [← Mt.err_same hr (Mt.nums_valid hR.val) hg]
 obtain ⟨⟨k1,k2⟩,g2,g3,g4,g5⟩:=hg
 have hk:t.kind=1∨t.kind=2∨t.kind=3∨t.kind=4∨t.kind=5∨t.kind=6∨t.kind=7∨t.kind=8:=by omega
 rcases hk with e | e | e | e | e | e | e | e
 ·exact take_leaf _ h hO (by rw [Mt.ptok_kind,e];decide)
 ·obtain ⟨n1,n2⟩:=g3 e
  exact take_back _ h hO (by rw [Mt.ptok_kind,e];decide) t.n.toNat (by simp [Mt.ptok,e];omega) (by omega)
 ·exact take_leaf _ h hO (by rw [Mt.ptok_kind,e];decide)
 ·exact take_leaf _ h hO (by rw [Mt.ptok_kind,e];decide)
 ·exact take_bar _ h hO (by rw [Mt.ptok_kind,e];decide)
 ·exact take_open _ h hO (by rw [Mt.ptok_kind,e];decide)
 ·exact take_close _ h hO (by rw [Mt.ptok_kind,e];decide)
 ·exact take_rep _ h hO (by rw [Mt.ptok_kind,e];decide)
theorem Try.sizeT:(Try.prog.info? 80).map (·.size)=some 2:=by kernel_rfl
theorem Build_long (p:ByteArray) (w:World) (hp:64<p.size) (hm:p.size≤maxLen) :
  Calls Try.prog 50 #[.string p] w fun e w'=>e=.returned (.tuple #[.agg #[.slice none 0 0,.slice none 0 0],.int .i64 1,.int .i64 0])∧Below w.heap.size w w':=by
 have b1:decide (64<(p.size:Int))=true:=by simp;omega
 have b2:decide (64<p.size)=true:=by simp;omega
 have hm':p.size≤9223372036854775807:=by unfold maxLen at hm;omega
 go_enter Try.func50,Try.ntmps50
 go_wp2_with fail
 go_returns
 exact ⟨rfl,by go_grown⟩
end Go.Proofs.Ytebpgfodelggoab
