import Derived.Test.YtebpgfodelggoaaGreatC31
set_option linter.unusedVariables false
set_option linter.unusedSimpArgs false
set_option maxRecDepth 100000
set_option maxHeartbeats 4000000
namespace Go.Proofs.YtebpgfodelggoaaGreat
open Go.RowKit
theorem zD0 {L:Nat} {w:World} {g:Nat} {b:Mt.PB} {so ao oo:Option Addr} {sc ac oc:Nat} (t:Mt.PT) (h:BAt L w g b so ao oo sc ac oc) (hn:b.atoms.length≤900) (hns:b.zR.length≤900) (hs:b.seq<b.zR.length) (hla:b.last=-1∨∃ k:Nat,b.last=k∧k<b.atoms.length) (ho:b.opn.length<10) (hgr:t.group≠1) :
  Calls Tryz.prog 140 #[.pointer (some ⟨g,0,none⟩),ptV t] w fun e w'=>e=.returned (.int .i64 0)∧∃ so' ao' oo' sc' ac' oc',BAt L w' g (b.opening t) so' ao' oo' sc' ac' oc'∧jU g so ao oo so' ao' oo' w w':=by
 obtain ⟨i0,hi,hz0,hz1,hz2⟩:=info_parts Tryz.infoInt
 have HB:Hid (BAt L w g b so ao oo sc ac oc):=h
 obtain ⟨_,_,_,_,c4,c5,_,_⟩:=h.cells
 have hg:g<w.heap.size:=(h.lt g (Or.inl rfl)).2
 have hL:L≤w.heap.size:=by have:=h.lo;omega
 have W1:Below w.heap.size w (w.alloc (.cells (ptA t) 174)):=(Below.refl _ _).alloc (Nat.le_refl _) _
 have HT:Hid (Calls Tryz.prog 144 #[.pointer (some ⟨g,0,none⟩),.agg (ptA t)] (w.alloc (.cells (ptA t) 174)) _):=zBq t (h.below W1) (by omega) hs hla
 have HW1:Hid (Below w.heap.size w (w.alloc (.cells (ptA t) 174))):=W1
 obtain ⟨k1,k2,k3,k4,k5,k6,k7,k8,k9⟩:=Mt.zCL t hs hla
 have b1:decide (10≤(b.opn.length:Int))=false:=by simp;omega
 have b2:decide (10≤b.opn.length)=false:=by simp;omega
 have b3:(t.group==1)=false:=by simpa using hgr
 have HEO:Hid (b.opening t=Mt.PB.into (b.addAtom t) b.atoms.length):=by
  show _=_;unfold Mt.PB.opening Mt.PB.number;rw [if_neg (by simpa using hgr)]
 obtain ⟨e,hee⟩:∃ e:Mt.PB,e=b.addAtom t:=⟨_,rfl⟩
 rw [← hee] at HEO
 have he1:e.zR.length=b.zR.length:=by rw [hee];exact k2
 have he2:e.atoms.length=b.atoms.length+1:=by rw [hee];exact k1
 have he4:e.opn=b.opn:=by rw [hee];exact k5
 have HEE:Hid (e=b.addAtom t):=hee
 have HK:Hid (((b.addAtom t).last=b.atoms.length∧(b.addAtom t).groups=b.groups)∧(b.addAtom t).atoms.length=b.atoms.length+1):=⟨⟨k3,k6⟩,k1⟩
 clear h W1 hee k1 k2 k3 k4 k5 k6 k7 k8 k9
 unfold ptV
 unfold ptA at HT HW1 ⊢
 go_enter Tryz.func140,Tryz.ntmps140
 go_wp2_with fail
 refine HT.out.mono ?_
 rintro e0 w1 ⟨rfl,ao1,ac1,hP,hSt⟩
 have St1:jU g so ao oo so ao1 oo w w1:=(jU.below HW1.out).trans hSt
 obtain ⟨x0,x1,x2,x3,_,x5,_,xf⟩:=hP.cells
 rw [HK.out.1.1] at x3
 rw [HK.out.1.2] at x5
 have hblk:w1.heap[w.heap.size]?=_:=(hSt.block w.heap.size (by simp) (fun ho=>by have:=(HB.out.lt _ ho).2;omega)).trans (heap_alloc_new _ _)
 have t2:=(zA hblk).1 2
 simp only [List.getElem?_toArray,List.getElem?_cons_succ,List.getElem?_cons_zero] at t2
 have hg1:g<w1.heap.size:=(hP.lt g (Or.inl rfl)).2
 have HP:Hid (BAt L w1 g (b.addAtom t) so ao1 oo sc ac1 oc∧jU g so ao oo so ao1 oo w w1):=⟨hP,St1⟩
 clear hP hSt St1 xf hblk HT
 go_upto_region 10 with fail
 obtain ⟨w3,hw3⟩:∃ w3:World,w3=w1:=⟨_,rfl⟩
 have B3:BAt L w3 g e so ao1 oo sc ac1 oc:=by rw [hw3,HEE.out];exact HP.out.1
 have St3:jU g so ao oo so ao1 oo w w3:=by rw [hw3];exact HP.out.2
 rw [← hw3]
 clear hw3 x0 x1 x2 x3 x5 t2 HP HK HEE
 ·skip
  have hW3:Hid (BAt L w3 g e so ao1 oo sc ac1 oc∧jU g so ao oo so ao1 oo w w3):=⟨B3,St3⟩
  obtain ⟨y0,y1,y2,y3,y4,y5,_,yf⟩:=B3.cells
  have yf4:=yf 4
  have y4':w3.cell? ⟨g,4,none⟩=some (.slice oo b.opn.length oc):=by rw [y4,he4]
  have HO3:Hid (w3.ownsRow L 3 1 (.slice oo b.opn.length oc) b.opn.length (opL b.opn)):=by show World.ownsRow _ _ _ _ _ _ _;have:=B3.opn;rw [he4] at this;exact this
  have hg3:g<w3.heap.size:=(B3.lt g (Or.inl rfl)).2
  have hL3:L≤w3.heap.size:=by have:=B3.lo;omega
  clear B3 St3 y0 y1 y2 y3 y4 y5 yf
  go_wp2_with (at_builtin;refine wpList_append_lies _ rfl (.tmp 56) (.tmp 58) 41 rfl L 3 i0 _ 1 8 Tryz.underlying41 hi hz0 hz1 hz2 rfl (by decide) _ _ _ rfl (HO3.out.alloc _) ⟨w3.heap.size,0,none⟩ 1 1 [.int .i64 (b.atoms.length:Int)] rfl rfl ?c1 ?c2 (by decide) ?c3 ?c4 ?c5 (w3.heap.size+1) ?c6 ?_)
  case c1=>exact World.news_of_block (cs:=#[.int .i64 (b.atoms.length:Int)]) (heap_alloc_new _ _)
  case c2=>intro u hu;simp at hu;subst hu;rfl
  case c3=>unfold maxLen;omega
  case c4=>omega
  case c5=>simp;omega
  case c6=>simp
  intro q cap w4 hown hgrow hq zM8
  rw [zW] at hgrow hq
  have hb0:Below w3.heap.size w3 (w3.alloc (.cells #[.int .i64 (b.atoms.length:Int)] 3)):=(Below.refl _ _).alloc (Nat.le_refl _) _
  have HM:=zKk (k:=b.atoms.length) hW3.out.1 hb0 (by simp) hgrow (by simpa using hq) (by rw [he4];exact hown)
  rw [he4] at HM
  have kg:w4.heap[g]?=w3.heap[g]?:=hW3.out.1.grown hb0 hgrow g (Or.inl rfl) (fun e=>hW3.out.1.ap.2.2.1 e.symm)
  have d4:w4.cell? ⟨g,4,none⟩=some (.slice oo b.opn.length oc):=(World.cell?_of_block (a:=⟨g,4,none⟩) kg).trans y4'
  have e4:w4.frozen? ⟨g,4,none⟩=false:=(World.frozen?_of_block (a:=⟨g,4,none⟩) kg).trans yf4
  have HM':Hid (BAt L (w4.setCell ⟨g,4,none⟩ (.slice (some ⟨q,0,none⟩) (b.opn.length+1) cap)) g (e.push b.atoms.length) so ao1 (some ⟨q,0,none⟩) sc ac1 cap∧jU g so ao oo so ao1 (some ⟨q,0,none⟩) w (w4.setCell ⟨g,4,none⟩ (.slice (some ⟨q,0,none⟩) (b.opn.length+1) cap))):=⟨HM.1,hW3.out.2.trans HM.2⟩
  have hls:(e.push b.atoms.length).zR.length≤1000:=by show e.zR.length≤1000;rw [he1];omega
  have CN:=zAv HM'.out.1 hls
  have ls:(e.push b.atoms.length).zR.length=b.zR.length:=he1
  rw [ls] at CN
  have HCN:Hid (Calls Tryz.prog _ _ _ _):=CN
  clear HM hown hgrow hq kg hb0 CN yf4 y4'
  go_wp2_with fail
  refine HCN.out.mono ?_
  rintro e' w5 ⟨rfl,so5,sc5,hP,hSt⟩
  obtain ⟨x0,x1,x2,x3,_,_,_,xf⟩:=hP.cells
  have xf2:=xf 2
  have xf3:=xf 3
  obtain ⟨ga,hao,ga1,ga2,ga3⟩:=hP.zCN (by show 0<e.atoms.length;omega)
  subst hao
  have zQI:=hP.zB3 b.atoms.length 17 (by show _<e.atoms.length;omega) (by decide)
  have a17:=zQI.1
  have f17:=zQI.2
  change w5.cell? ⟨ga,b.atoms.length*20+17,none⟩=some (.int .i64 (e.aAt b.atoms.length).body) at a17
  change w5.cell? ⟨g,1,none⟩=some (.slice (some ⟨ga,0,none⟩) e.atoms.length ac1) at x1
  rw [he2] at x1
  change w5.cell? ⟨g,2,none⟩=some (.int .i64 e.seq) at x2
  change w5.cell? ⟨g,3,none⟩=some (.int .i64 e.last) at x3
  have ga4:b.atoms.length+1≤ac1:=by change e.atoms.length≤ac1 at ga3;omega
  have hg5:g<w5.heap.size:=(hP.lt g (Or.inl rfl)).2
  have R:Hid (BAt L w5 g (e.push b.atoms.length).newSeq so5 (some ⟨ga,0,none⟩) (some ⟨q,0,none⟩) sc5 ac1 cap∧jU g so ao oo so5 (some ⟨ga,0,none⟩) (some ⟨q,0,none⟩) w w5):=⟨hP,HM'.out.2.trans hSt⟩
  clear hP hSt xf zQI HCN HM' x0 ga3
  go_wp2_with fail
  go_returns
  have hi3:b.atoms.length<(e.push b.atoms.length).newSeq.atoms.length:=by show _<e.atoms.length;omega
  have M1:=R.out.1.zFv b.atoms.length 17 [.int .i64 b.zR.length] { e.aAt b.atoms.length with body:=b.zR.length } hi3 (by simp) rfl
  have M2:=M1.field (k:=2) (v:=.int .i64 b.zR.length) (b':={ (e.push b.atoms.length).newSeq with atoms:=e.atoms.set b.atoms.length { e.aAt b.atoms.length with body:=b.zR.length },seq:=b.zR.length }) (so':=so5) (ao':=some ⟨ga,0,none⟩) (oo':=some ⟨q,0,none⟩) (sc':=sc5) (ac':=ac1) (oc':=cap) (by unfold bA;simp;rfl) M1.zR M1.atoms M1.opn M1.ap M1.cl
  have eo:b.opening t={ (e.push b.atoms.length).newSeq with atoms:=e.atoms.set b.atoms.length { e.aAt b.atoms.length with body:=b.zR.length },seq:=b.zR.length,last:=-1 }:=by
   rw [HEO.out,Mt.zM9,he1]
  have M3:=M2.field (k:=3) (v:=.int .i64 (-1)) (b':=b.opening t) (so':=so5) (ao':=some ⟨ga,0,none⟩) (oo':=some ⟨q,0,none⟩) (sc':=sc5) (ac':=ac1) (oc':=cap) (by rw [eo];unfold bA;simp) (by rw [eo];exact M2.zR) (by rw [eo];exact M2.atoms) (by rw [eo];exact M2.opn) M2.ap (by rw [eo];exact M2.cl)
  refine ⟨rfl,so5,some ⟨ga,0,none⟩,some ⟨q,0,none⟩,sc5,ac1,cap,M3,?_⟩
  exact (((R.out.2.set (p:=⟨ga,b.atoms.length*20+17,none⟩) (Or.inr (Or.inr (Or.inl rfl))) _).set (p:=⟨g,2,none⟩) (Or.inl rfl) _).set (p:=⟨g,3,none⟩) (Or.inl rfl) _)
theorem zFx {L:Nat} {w:World} {g:Nat} {b:Mt.PB} {so ao oo:Option Addr} {sc ac oc:Nat} (t:Mt.PT) (h:BAt L w g b so ao oo sc ac oc) (hn:b.atoms.length≤900) (hns:b.zR.length≤900) (hs:b.seq<b.zR.length) (hla:b.last=-1∨∃ k:Nat,b.last=k∧k<b.atoms.length) (ho:b.opn.length<10) (hgr:t.group=1) (hg9:b.groups<9) :
  Calls Tryz.prog 140 #[.pointer (some ⟨g,0,none⟩),ptV t] w fun e w'=>e=.returned (.int .i64 0)∧∃ so' ao' oo' sc' ac' oc',BAt L w' g (b.opening t) so' ao' oo' sc' ac' oc'∧jU g so ao oo so' ao' oo' w w':=by
 obtain ⟨i0,hi,hz0,hz1,hz2⟩:=info_parts Tryz.infoInt
 have HB:Hid (BAt L w g b so ao oo sc ac oc):=h
 obtain ⟨_,_,_,_,c4,c5,_,_⟩:=h.cells
 have hg:g<w.heap.size:=(h.lt g (Or.inl rfl)).2
 have hL:L≤w.heap.size:=by have:=h.lo;omega
 have W1:Below w.heap.size w (w.alloc (.cells (ptA t) 174)):=(Below.refl _ _).alloc (Nat.le_refl _) _
 have HT:Hid (Calls Tryz.prog 144 #[.pointer (some ⟨g,0,none⟩),.agg (ptA t)] (w.alloc (.cells (ptA t) 174)) _):=zBq t (h.below W1) (by omega) hs hla
 have HW1:Hid (Below w.heap.size w (w.alloc (.cells (ptA t) 174))):=W1
 obtain ⟨k1,k2,k3,k4,k5,k6,k7,k8,k9⟩:=Mt.zCL t hs hla
 have b1:decide (10≤(b.opn.length:Int))=false:=by simp;omega
 have b2:decide (10≤b.opn.length)=false:=by simp;omega
 have b3:decide (9≤(b.groups:Int))=false:=by simp;omega
 have b4:decide (9≤b.groups)=false:=by simp;omega
 have HEO:Hid (b.opening t=Mt.PB.into { b.addAtom t with groups:=b.groups+1,atoms:=(b.addAtom t).atoms.set b.atoms.length { (b.addAtom t).aAt b.atoms.length with num:=(b.groups:Int)+1 } } b.atoms.length):=by
  show _=_;unfold Mt.PB.opening Mt.PB.number;rw [hgr];simp [k6]
 obtain ⟨e,hee⟩:∃ e:Mt.PB,e={ b.addAtom t with groups:=b.groups+1,atoms:=(b.addAtom t).atoms.set b.atoms.length { (b.addAtom t).aAt b.atoms.length with num:=(b.groups:Int)+1 } }:=⟨_,rfl⟩
 rw [← hee] at HEO
 have he1:e.zR.length=b.zR.length:=by rw [hee];exact k2
 have he2:e.atoms.length=b.atoms.length+1:=by rw [hee];simp [k1]
 have he4:e.opn=b.opn:=by rw [hee];exact k5
 have HEE:Hid (e={ b.addAtom t with groups:=b.groups+1,atoms:=(b.addAtom t).atoms.set b.atoms.length { (b.addAtom t).aAt b.atoms.length with num:=(b.groups:Int)+1 } }):=hee
 have HK:Hid (((b.addAtom t).last=b.atoms.length∧(b.addAtom t).groups=b.groups)∧(b.addAtom t).atoms.length=b.atoms.length+1):=⟨⟨k3,k6⟩,k1⟩
 clear h W1 hee k1 k2 k3 k4 k5 k6 k7 k8 k9
 unfold ptV
 unfold ptA at HT HW1 ⊢
 rw [hgr] at HT HW1 ⊢
 go_enter Tryz.func140,Tryz.ntmps140
 go_wp2_with fail
 refine HT.out.mono ?_
 rintro e0 w1 ⟨rfl,ao1,ac1,hP,hSt⟩
 have St1:jU g so ao oo so ao1 oo w w1:=(jU.below HW1.out).trans hSt
 obtain ⟨x0,x1,x2,x3,_,x5,_,xf⟩:=hP.cells
 rw [HK.out.1.1] at x3
 rw [HK.out.1.2] at x5
 have hblk:w1.heap[w.heap.size]?=_:=(hSt.block w.heap.size (by simp) (fun ho=>by have:=(HB.out.lt _ ho).2;omega)).trans (heap_alloc_new _ _)
 have t2:=(zA hblk).1 2
 simp only [List.getElem?_toArray,List.getElem?_cons_succ,List.getElem?_cons_zero] at t2
 have hg1:g<w1.heap.size:=(hP.lt g (Or.inl rfl)).2
 have HP:Hid (BAt L w1 g (b.addAtom t) so ao1 oo sc ac1 oc∧jU g so ao oo so ao1 oo w w1):=⟨hP,St1⟩
 obtain ⟨ga0,zTv,zTw,zTx,zSR⟩:=hP.zCN (by rw [HK.out.2];omega)
 subst zTv
 have q8:=hP.zB3 b.atoms.length 8 (by rw [HK.out.2];omega) (by decide)
 have q81:=q8.1
 have q82:=q8.2
 change w1.cell? ⟨ga0,b.atoms.length*20+8,none⟩=some (.int .i64 ((b.addAtom t).aAt b.atoms.length).num) at q81
 rw [HK.out.2] at x1 zSR
 have f5:=xf 5
 clear hP hSt St1 xf hblk q8 HT
 go_wp2_with fail
 go_region
 go_upto_region 10 with fail
 obtain ⟨w3,hw3⟩:∃ w3:World,w3=((w1.setCell ⟨g,5,none⟩ (.int .i64 ((b.groups:Int)+1))).setCell ⟨ga0,b.atoms.length*20+8,none⟩ (.int .i64 ((b.groups:Int)+1))).drew:=⟨_,rfl⟩
 have B3:BAt L w3 g e so (some ⟨ga0,0,none⟩) oo sc ac1 oc:=by
  rw [hw3,HEE.out]
  have M1:=HP.out.1.field (k:=5) (v:=.int .i64 ((b.groups:Int)+1)) (b':={ b.addAtom t with groups:=b.groups+1 }) (so':=so) (ao':=some ⟨ga0,0,none⟩) (oo':=oo) (sc':=sc) (ac':=ac1) (oc':=oc) (by unfold bA;simp) HP.out.1.zR HP.out.1.atoms HP.out.1.opn HP.out.1.ap HP.out.1.cl
  exact (M1.zFv b.atoms.length 8 [.int .i64 ((b.groups:Int)+1)] { (b.addAtom t).aAt b.atoms.length with num:=(b.groups:Int)+1 } (by show _<(b.addAtom t).atoms.length;rw [HK.out.2];omega) (by simp) rfl).drew
 have St3:jU g so ao oo so (some ⟨ga0,0,none⟩) oo w w3:=by
  rw [hw3]
  exact ((HP.out.2.set (p:=⟨g,5,none⟩) (Or.inl rfl) _).set (p:=⟨ga0,b.atoms.length*20+8,none⟩) (Or.inr (Or.inr (Or.inl rfl))) _).drew
 rw [← hw3]
 clear hw3 x0 x1 x2 x3 x5 t2 q81 q82 f5 HP HK HEE
 ·clear zTw zTx zSR
  have hW3:Hid (BAt L w3 g e so (some ⟨ga0,0,none⟩) oo sc ac1 oc∧jU g so ao oo so (some ⟨ga0,0,none⟩) oo w w3):=⟨B3,St3⟩
  obtain ⟨y0,y1,y2,y3,y4,y5,_,yf⟩:=B3.cells
  have yf4:=yf 4
  have y4':w3.cell? ⟨g,4,none⟩=some (.slice oo b.opn.length oc):=by rw [y4,he4]
  have HO3:Hid (w3.ownsRow L 3 1 (.slice oo b.opn.length oc) b.opn.length (opL b.opn)):=by show World.ownsRow _ _ _ _ _ _ _;have:=B3.opn;rw [he4] at this;exact this
  have hg3:g<w3.heap.size:=(B3.lt g (Or.inl rfl)).2
  have hL3:L≤w3.heap.size:=by have:=B3.lo;omega
  clear B3 St3 y0 y1 y2 y3 y4 y5 yf
  go_wp2_with (at_builtin;refine wpList_append_lies _ rfl (.tmp 56) (.tmp 58) 41 rfl L 3 i0 _ 1 8 Tryz.underlying41 hi hz0 hz1 hz2 rfl (by decide) _ _ _ rfl (HO3.out.alloc _) ⟨w3.heap.size,0,none⟩ 1 1 [.int .i64 (b.atoms.length:Int)] rfl rfl ?c1 ?c2 (by decide) ?c3 ?c4 ?c5 (w3.heap.size+1) ?c6 ?_)
  case c1=>exact World.news_of_block (cs:=#[.int .i64 (b.atoms.length:Int)]) (heap_alloc_new _ _)
  case c2=>intro u hu;simp at hu;subst hu;rfl
  case c3=>unfold maxLen;omega
  case c4=>omega
  case c5=>simp;omega
  case c6=>simp
  intro q cap w4 hown hgrow hq zM8
  rw [zW] at hgrow hq
  have hb0:Below w3.heap.size w3 (w3.alloc (.cells #[.int .i64 (b.atoms.length:Int)] 3)):=(Below.refl _ _).alloc (Nat.le_refl _) _
  have HM:=zKk (k:=b.atoms.length) hW3.out.1 hb0 (by simp) hgrow (by simpa using hq) (by rw [he4];exact hown)
  rw [he4] at HM
  have kg:w4.heap[g]?=w3.heap[g]?:=hW3.out.1.grown hb0 hgrow g (Or.inl rfl) (fun e=>hW3.out.1.ap.2.2.1 e.symm)
  have d4:w4.cell? ⟨g,4,none⟩=some (.slice oo b.opn.length oc):=(World.cell?_of_block (a:=⟨g,4,none⟩) kg).trans y4'
  have e4:w4.frozen? ⟨g,4,none⟩=false:=(World.frozen?_of_block (a:=⟨g,4,none⟩) kg).trans yf4
  have HM':Hid (BAt L (w4.setCell ⟨g,4,none⟩ (.slice (some ⟨q,0,none⟩) (b.opn.length+1) cap)) g (e.push b.atoms.length) so (some ⟨ga0,0,none⟩) (some ⟨q,0,none⟩) sc ac1 cap∧jU g so ao oo so (some ⟨ga0,0,none⟩) (some ⟨q,0,none⟩) w (w4.setCell ⟨g,4,none⟩ (.slice (some ⟨q,0,none⟩) (b.opn.length+1) cap))):=⟨HM.1,hW3.out.2.trans HM.2⟩
  have hls:(e.push b.atoms.length).zR.length≤1000:=by show e.zR.length≤1000;rw [he1];omega
  have CN:=zAv HM'.out.1 hls
  have ls:(e.push b.atoms.length).zR.length=b.zR.length:=he1
  rw [ls] at CN
  have HCN:Hid (Calls Tryz.prog _ _ _ _):=CN
  clear HM hown hgrow hq kg hb0 CN yf4 y4'
  go_wp2_with fail
  refine HCN.out.mono ?_
  rintro e' w5 ⟨rfl,so5,sc5,hP,hSt⟩
  obtain ⟨x0,x1,x2,x3,_,_,_,xf⟩:=hP.cells
  have xf2:=xf 2
  have xf3:=xf 3
  obtain ⟨ga,hao,ga1,ga2,ga3⟩:=hP.zCN (by show 0<e.atoms.length;omega)
  simp only [Option.some.injEq,Addr.mk.injEq,and_true,true_and] at hao
  subst hao
  have zQI:=hP.zB3 b.atoms.length 17 (by show _<e.atoms.length;omega) (by decide)
  have a17:=zQI.1
  have f17:=zQI.2
  change w5.cell? ⟨ga0,b.atoms.length*20+17,none⟩=some (.int .i64 (e.aAt b.atoms.length).body) at a17
  change w5.cell? ⟨g,1,none⟩=some (.slice (some ⟨ga0,0,none⟩) e.atoms.length ac1) at x1
  rw [he2] at x1
  change w5.cell? ⟨g,2,none⟩=some (.int .i64 e.seq) at x2
  change w5.cell? ⟨g,3,none⟩=some (.int .i64 e.last) at x3
  have ga4:b.atoms.length+1≤ac1:=by change e.atoms.length≤ac1 at ga3;omega
  have hg5:g<w5.heap.size:=(hP.lt g (Or.inl rfl)).2
  have R:Hid (BAt L w5 g (e.push b.atoms.length).newSeq so5 (some ⟨ga0,0,none⟩) (some ⟨q,0,none⟩) sc5 ac1 cap∧jU g so ao oo so5 (some ⟨ga0,0,none⟩) (some ⟨q,0,none⟩) w w5):=⟨hP,HM'.out.2.trans hSt⟩
  clear hP hSt xf zQI HCN HM' x0 ga3
  go_wp2_with fail
  go_returns
  have hi3:b.atoms.length<(e.push b.atoms.length).newSeq.atoms.length:=by show _<e.atoms.length;omega
  have M1:=R.out.1.zFv b.atoms.length 17 [.int .i64 b.zR.length] { e.aAt b.atoms.length with body:=b.zR.length } hi3 (by simp) rfl
  have M2:=M1.field (k:=2) (v:=.int .i64 b.zR.length) (b':={ (e.push b.atoms.length).newSeq with atoms:=e.atoms.set b.atoms.length { e.aAt b.atoms.length with body:=b.zR.length },seq:=b.zR.length }) (so':=so5) (ao':=some ⟨ga0,0,none⟩) (oo':=some ⟨q,0,none⟩) (sc':=sc5) (ac':=ac1) (oc':=cap) (by unfold bA;simp;rfl) M1.zR M1.atoms M1.opn M1.ap M1.cl
  have eo:b.opening t={ (e.push b.atoms.length).newSeq with atoms:=e.atoms.set b.atoms.length { e.aAt b.atoms.length with body:=b.zR.length },seq:=b.zR.length,last:=-1 }:=by
   rw [HEO.out,Mt.zM9,he1]
  have M3:=M2.field (k:=3) (v:=.int .i64 (-1)) (b':=b.opening t) (so':=so5) (ao':=some ⟨ga0,0,none⟩) (oo':=some ⟨q,0,none⟩) (sc':=sc5) (ac':=ac1) (oc':=cap) (by rw [eo];unfold bA;simp) (by rw [eo];exact M2.zR) (by rw [eo];exact M2.atoms) (by rw [eo];exact M2.opn) M2.ap (by rw [eo];exact M2.cl)
  refine ⟨rfl,so5,some ⟨ga0,0,none⟩,some ⟨q,0,none⟩,sc5,ac1,cap,M3,?_⟩
  exact (((R.out.2.set (p:=⟨ga0,b.atoms.length*20+17,none⟩) (Or.inr (Or.inr (Or.inl rfl))) _).set (p:=⟨g,2,none⟩) (Or.inl rfl) _).set (p:=⟨g,3,none⟩) (Or.inl rfl) _)
def Takes (L:Nat) (w:World) (g:Nat) (so ao oo:Option Addr) (E:Int) (b':Mt.PB) (e:Ending) (w':World):Prop :=
 e=.returned (.int .i64 E)∧(E=0→∃ so' ao' oo' sc' ac' oc',BAt L w' g b' so' ao' oo' sc' ac' oc'∧jU g so ao oo so' ao' oo' w w')∧Below L w w'
theorem zEx {L:Nat} {w:World} {g:Nat} {b:Mt.PB} {so ao oo:Option Addr} {sc ac oc:Nat} (t:Mt.PT) (h:BAt L w g b so ao oo sc ac oc) (hn:b.atoms.length≤900) (hns:b.zR.length≤900) (hs:b.seq<b.zR.length) (hla:b.last=-1∨∃ k:Nat,b.last=k∧k<b.atoms.length) :
  Calls Tryz.prog 140 #[.pointer (some ⟨g,0,none⟩),ptV t] w (Takes L w g so ao oo (if 10≤b.opn.length then 8 else if t.group=1∧9≤b.groups then 9 else 0) (b.opening t)):=by
 have hL:L≤w.heap.size:=by have:=h.lo;have:=(h.lt g (Or.inl rfl)).2;omega
 by_cases h1:10≤b.opn.length
 ·rw [if_pos h1]
  exact (zCw t h 8 (Or.inl ⟨h1,rfl⟩)).mono (fun e w' hh=>⟨hh.1,fun e=>by omega,hh.2⟩)
 ·rw [if_neg h1]
  by_cases h2:t.group=1
  ·by_cases h3:9≤b.groups
   ·rw [if_pos ⟨h2,h3⟩]
    exact (zCw t h 9 (Or.inr ⟨h1,h2,h3,rfl⟩)).mono (fun e w' hh=>⟨hh.1,fun e=>by omega,hh.2⟩)
   ·rw [if_neg (fun x=>h3 x.2)]
    exact (zFx t h hn hns hs hla (by omega) h2 (by omega)).mono (fun e w' ⟨h4,so',ao',oo',sc',ac',oc',h5,h6⟩=>⟨h4,fun _=>⟨so',ao',oo',sc',ac',oc',h5,h6⟩,h6.low h hL⟩)
  ·rw [if_neg (fun x=>h2 x.1)]
   exact (zD0 t h hn hns hs hla (by omega) h2).mono (fun e w' ⟨h4,so',ao',oo',sc',ac',oc',h5,h6⟩=>⟨h4,fun _=>⟨so',ao',oo',sc',ac',oc',h5,h6⟩,h6.low h hL⟩)
structure BOk (b:Mt.PB):Prop where
 na:b.atoms.length≤900
 ns:b.zR.length≤900
 no:b.opn.length≤900
 sq:b.seq<b.zR.length
 la:b.last=-1∨∃ k:Nat,b.last=k∧k<b.atoms.length
 tp:0<b.opn.length→b.top<b.atoms.length∧∃ nu hm:Nat,(b.aAt b.top).num=nu∧nu≤9∧(b.aAt b.top).home=hm
theorem Takes.of {L:Nat} {w W w':World} {g:Nat} {b b':Mt.PB} {so ao oo so' ao' oo':Option Addr} {sc ac oc sc' ac' oc':Nat} {e:Ending} (h:BAt L w g b so ao oo sc ac oc) (hW:Below w.heap.size w W) (he:e=.returned (.int .i64 0)) (hb:BAt L w' g b' so' ao' oo' sc' ac' oc') (hs:jU g so ao oo so' ao' oo' W w'):Takes L w g so ao oo 0 b' e w':=by
 have hL:L≤w.heap.size:=by have:=h.lo;have:=(h.lt g (Or.inl rfl)).2;omega
 have:=(jU.below (g:=g) (so:=so) (ao:=ao) (oo:=oo) hW).trans hs
 exact ⟨he,fun _=>⟨so',ao',oo',sc',ac',oc',hb,this⟩,this.low h hL⟩
theorem Takes.up {L:Nat} {w W w':World} {g:Nat} {b b':Mt.PB} {so ao oo:Option Addr} {sc ac oc:Nat} {E:Int} {e:Ending} (h:BAt L w g b so ao oo sc ac oc) (hW:Below w.heap.size w W) (ht:Takes L W g so ao oo E b' e w'):Takes L w g so ao oo E b' e w':=by
 have hL:L≤w.heap.size:=by have:=h.lo;have:=(h.lt g (Or.inl rfl)).2;omega
 refine ⟨ht.1,fun h0=>?_,(hW.mono hL).trans ht.2.2⟩
 obtain ⟨so',ao',oo',sc',ac',oc',h1,h2⟩:=ht.2.1 h0
 exact ⟨so',ao',oo',sc',ac',oc',h1,(jU.below hW).trans h2⟩
theorem zO0 {L:Nat} {w:World} {g:Nat} {b:Mt.PB} {so ao oo:Option Addr} {sc ac oc:Nat} (t:Mt.PT) (h:BAt L w g b so ao oo sc ac oc) (hO:BOk b) (hk:t.kind=1) :
  Calls Tryz.prog 117 #[.pointer (some ⟨g,0,none⟩),ptV t] w (Takes L w g so ao oo (b.err t) (b.next t)):=by
 have HB:Hid (BAt L w g b so ao oo sc ac oc):=h
 have W1:Below w.heap.size w (w.alloc (.cells (ptA t) 174)):=(Below.refl _ _).alloc (Nat.le_refl _) _
 have hw:=h.below W1
 have e1:b.err t=0:=by unfold Mt.PB.err;rw [if_pos hk]
 have e2:b.next t=b.bar:=by unfold Mt.PB.next;rw [if_pos hk]
 rw [e1,e2]
 clear e1 e2
 have HT:Hid (Calls Tryz.prog 139 _ (w.alloc (.cells (ptA t) 174)) _):=zIg hw (by have:=hO.ns;omega) hO.sq
 have HW1:Hid (Below w.heap.size w (w.alloc (.cells (ptA t) 174))):=W1
 clear h W1 hw hO
 unfold ptV
 unfold ptA at HT
 unfold ptA at HW1 ⊢
 rw [hk] at HT HW1 ⊢
 clear hk
 go_enter Tryz.func117,Tryz.ntmps117
 go_wp2_with fail
 refine HT.out.mono ?_
 rintro e w1 ⟨rfl,so1,sc1,hP,hSt⟩
 have R:Hid (BAt L w1 g b.bar so1 ao oo sc1 ac oc∧jU g so ao oo so1 ao oo _ w1):=⟨hP,hSt⟩
 clear hP hSt
 go_wp2_with fail
 go_returns
 exact Takes.of HB.out HW1.out rfl R.out.1 R.out.2
theorem zNa {L:Nat} {w:World} {g:Nat} {b:Mt.PB} {so ao oo:Option Addr} {sc ac oc:Nat} (t:Mt.PT) (h:BAt L w g b so ao oo sc ac oc) (hO:BOk b) (hk:t.kind=2) :
  Calls Tryz.prog 117 #[.pointer (some ⟨g,0,none⟩),ptV t] w (Takes L w g so ao oo (b.err t) (b.next t)):=by
 have HB:Hid (BAt L w g b so ao oo sc ac oc):=h
 have W1:Below w.heap.size w (w.alloc (.cells (ptA t) 174)):=(Below.refl _ _).alloc (Nat.le_refl _) _
 have hw:=h.below W1
 have e1:b.err t=if 10≤b.opn.length then 8 else if t.group=1∧9≤b.groups then 9 else 0:=by unfold Mt.PB.err;rw [if_neg (by omega),if_pos hk]
 have e2:b.next t=b.opening t:=by unfold Mt.PB.next;rw [if_neg (by omega),if_pos hk]
 rw [e1,e2]
 clear e1 e2
 have HT0:=zEx t hw hO.na hO.ns hO.sq hO.la
 generalize (if 10≤b.opn.length then (8:Int) else if t.group=1∧9≤b.groups then 9 else 0)=E at *
 have HT:Hid (Calls Tryz.prog 140 _ (w.alloc (.cells (ptA t) 174)) _):=HT0
 have HW1:Hid (Below w.heap.size w (w.alloc (.cells (ptA t) 174))):=W1
 clear HT0 h W1 hw hO
 unfold ptV
 unfold ptV ptA at HT
 unfold ptA at HW1 ⊢
 rw [hk] at HT HW1 ⊢
 clear hk
 go_enter Tryz.func117,Tryz.ntmps117
 go_wp2_with fail
 refine HT.out.mono ?_
 rintro e w1 hT
 obtain ⟨rfl,hR⟩:=(show e=.returned (.int .i64 E)∧Takes L (w.alloc _) g so ao oo E (b.opening t) e w1 from ⟨hT.1,hT⟩)
 have R:Hid (Takes L _ g so ao oo E (b.opening t) (.returned (.int .i64 E)) w1):=hR
 clear hT hR
 go_wp2_with fail
 go_returns
 exact Takes.up HB.out HW1.out R.out
theorem zLs {L:Nat} {w:World} {g:Nat} {b:Mt.PB} {so ao oo:Option Addr} {sc ac oc:Nat} (t:Mt.PT) (h:BAt L w g b so ao oo sc ac oc) (hO:BOk b) (hk:t.kind=3) :
  Calls Tryz.prog 117 #[.pointer (some ⟨g,0,none⟩),ptV t] w (Takes L w g so ao oo (b.err t) (b.next t)):=by
 have HB:Hid (BAt L w g b so ao oo sc ac oc):=h
 have W1:Below w.heap.size w (w.alloc (.cells (ptA t) 174)):=(Below.refl _ _).alloc (Nat.le_refl _) _
 have hw:=h.below W1
 have e1:b.err t=if b.opn.length=0 then 10 else 0:=by unfold Mt.PB.err;rw [if_neg (by omega),if_neg (by omega),if_pos hk]
 have e2:b.next t=b.close:=by unfold Mt.PB.next;rw [if_neg (by omega),if_neg (by omega),if_pos hk]
 rw [e1,e2]
 clear e1 e2
 have HT0:=zF2 hw (by have:=hO.na;omega) (by have:=hO.no;omega) hO.tp _ rfl
 generalize (if b.opn.length=0 then (10:Int) else 0)=E at *
 have HT:Hid (Calls Tryz.prog 141 _ (w.alloc (.cells (ptA t) 174)) _):=HT0
 have HW1:Hid (Below w.heap.size w (w.alloc (.cells (ptA t) 174))):=W1
 clear HT0 h W1 hw hO
 unfold ptV
 unfold ptA at HT
 unfold ptA at HW1 ⊢
 rw [hk] at HT HW1 ⊢
 clear hk
 go_enter Tryz.func117,Tryz.ntmps117
 go_wp2_with fail
 refine HT.out.mono ?_
 rintro e w1 ⟨rfl,hT1,hT2⟩
 have R:Hid (Takes L _ g so ao oo E b.close (.returned (.int .i64 E)) w1):=⟨rfl,fun h0=>⟨so,ao,oo,sc,ac,oc,(hT1 h0).1,(hT1 h0).2⟩,hT2⟩
 clear hT1 hT2
 go_wp2_with fail
 go_returns
 exact Takes.up HB.out HW1.out R.out
theorem zO1 {L:Nat} {w:World} {g:Nat} {b:Mt.PB} {so ao oo:Option Addr} {sc ac oc:Nat} (t:Mt.PT) (h:BAt L w g b so ao oo sc ac oc) (hO:BOk b) (hk:t.kind=4) :
  Calls Tryz.prog 117 #[.pointer (some ⟨g,0,none⟩),ptV t] w (Takes L w g so ao oo (b.err t) (b.next t)):=by
 have HB:Hid (BAt L w g b so ao oo sc ac oc):=h
 have W1:Below w.heap.size w (w.alloc (.cells (ptA t) 174)):=(Below.refl _ _).alloc (Nat.le_refl _) _
 have hw:=h.below W1
 have e1:b.err t=if b.last=-1∨(b.aAt b.last.toNat).rep.kind≠0 then 7 else 0:=by unfold Mt.PB.err;rw [if_neg (by omega),if_neg (by omega),if_neg (by omega),if_pos hk]
 have e2:b.next t=b.repeated t:=by unfold Mt.PB.next;rw [if_neg (by omega),if_neg (by omega),if_neg (by omega),if_pos hk]
 rw [e1,e2]
 clear e1 e2
 have HT0:=zFw t hw (by have:=hO.na;omega) hO.la _ rfl
 generalize (if b.last=-1∨(b.aAt b.last.toNat).rep.kind≠0 then (7:Int) else 0)=E at *
 have HT:Hid (Calls Tryz.prog 142 _ (w.alloc (.cells (ptA t) 174)) _):=HT0
 have HW1:Hid (Below w.heap.size w (w.alloc (.cells (ptA t) 174))):=W1
 clear HT0 h W1 hw hO
 unfold ptV
 unfold ptV ptA at HT
 unfold ptA at HW1 ⊢
 rw [hk] at HT HW1 ⊢
 clear hk
 go_enter Tryz.func117,Tryz.ntmps117
 go_wp2_with fail
 refine HT.out.mono ?_
 rintro e w1 ⟨rfl,hT1,hT2⟩
 have R:Hid (Takes L _ g so ao oo E (b.repeated t) (.returned (.int .i64 E)) w1):=⟨rfl,fun h0=>⟨so,ao,oo,sc,ac,oc,(hT1 h0).1,(hT1 h0).2⟩,hT2⟩
 clear hT1 hT2
 go_wp2_with fail
 go_returns
 exact Takes.up HB.out HW1.out R.out
theorem zNb {L:Nat} {w:World} {g:Nat} {b:Mt.PB} {so ao oo:Option Addr} {sc ac oc:Nat} (t:Mt.PT) (h:BAt L w g b so ao oo sc ac oc) (hO:BOk b) (hk:t.kind=6) (n:Nat) (zLW:t.number=n) (hn9:n≤9) :
  Calls Tryz.prog 117 #[.pointer (some ⟨g,0,none⟩),ptV t] w (Takes L w g so ao oo (b.err t) (b.next t)):=by
 have HB:Hid (BAt L w g b so ao oo sc ac oc):=h
 have W1:Below w.heap.size w (w.alloc (.cells (ptA t) 174)):=(Below.refl _ _).alloc (Nat.le_refl _) _
 have hw:=h.below W1
 have e1:b.err t=if (b.groups:Int)<t.number∨b.clo.getD t.number.toNat false=false then 6 else 0:=by unfold Mt.PB.err;rw [if_neg (by omega),if_neg (by omega),if_neg (by omega),if_neg (by omega),if_pos hk]
 have e2:b.next t=b.addAtom t:=by unfold Mt.PB.next;rw [if_neg (by omega),if_neg (by omega),if_neg (by omega),if_neg (by omega)]
 rw [e1,e2]
 clear e1 e2
 have HT0:=zG6 t hw (by have:=hO.na;omega) hO.sq hO.la n zLW hn9 _ rfl
 generalize (if (b.groups:Int)<t.number∨b.clo.getD t.number.toNat false=false then (6:Int) else 0)=E at *
 have HT:Hid (Calls Tryz.prog 143 _ (w.alloc (.cells (ptA t) 174)) _):=HT0
 have HW1:Hid (Below w.heap.size w (w.alloc (.cells (ptA t) 174))):=W1
 clear HT0 zLW h W1 hw hO
 unfold ptV
 unfold ptV ptA at HT
 unfold ptA at HW1 ⊢
 rw [hk] at HT HW1 ⊢
 clear hk
 go_enter Tryz.func117,Tryz.ntmps117
 go_wp2_with fail
 refine HT.out.mono ?_
 rintro e w1 ⟨rfl,hT1,hT2⟩
 have R:Hid (Takes L _ g so ao oo E (b.addAtom t) (.returned (.int .i64 E)) w1):=⟨rfl,fun h0=>by obtain ⟨ao',ac',x1,x2⟩:=hT1 h0;exact ⟨so,ao',oo,sc,ac',oc,x1,x2⟩,hT2⟩
 clear hT1 hT2
 go_wp2_with fail
 go_returns
 exact Takes.up HB.out HW1.out R.out
theorem zFy {L:Nat} {w:World} {g:Nat} {b:Mt.PB} {so ao oo:Option Addr} {sc ac oc:Nat} (t:Mt.PT) (h:BAt L w g b so ao oo sc ac oc) (hO:BOk b) (hk:t.kind=5∨t.kind=7∨t.kind=8) :
  Calls Tryz.prog 117 #[.pointer (some ⟨g,0,none⟩),ptV t] w (Takes L w g so ao oo (b.err t) (b.next t)):=by
 have HB:Hid (BAt L w g b so ao oo sc ac oc):=h
 have W1:Below w.heap.size w (w.alloc (.cells (ptA t) 174)):=(Below.refl _ _).alloc (Nat.le_refl _) _
 have hw:=h.below W1
 have e1:b.err t=0:=by unfold Mt.PB.err;rw [if_neg (by omega),if_neg (by omega),if_neg (by omega),if_neg (by omega),if_neg (by omega)]
 have e2:b.next t=b.addAtom t:=by unfold Mt.PB.next;rw [if_neg (by omega),if_neg (by omega),if_neg (by omega),if_neg (by omega)]
 rw [e1,e2]
 clear e1 e2
 have HT:Hid (Calls Tryz.prog 144 _ (w.alloc (.cells (ptA t) 174)) _):=zBq t hw (by have:=hO.na;omega) hO.sq hO.la
 have HW1:Hid (Below w.heap.size w (w.alloc (.cells (ptA t) 174))):=W1
 clear h W1 hw hO
 rcases hk with hk | hk | hk
 all_goals
  unfold ptV
  unfold ptV ptA at HT
  unfold ptA at HW1 ⊢
  rw [hk] at HT HW1 ⊢
  clear hk
  go_enter Tryz.func117,Tryz.ntmps117
  go_wp2_with fail
  refine HT.out.mono ?_
  rintro e w1 ⟨rfl,ao1,ac1,hP,hSt⟩
  have R:Hid (BAt L w1 g (b.addAtom t) so ao1 oo sc ac1 oc∧jU g so ao oo so ao1 oo _ w1):=⟨hP,hSt⟩
  clear hP hSt
  go_wp2_with fail
  go_returns
  exact Takes.of HB.out HW1.out rfl R.out.1 R.out.2
end Go.Proofs.YtebpgfodelggoaaGreat
namespace Mt
def PB.zNc:PB:=⟨[],[],0,-1,[],0,List.replicate 10 false⟩
theorem zRJ:PB.zNc.newSeq=PB.start:=rfl
theorem zPR {b:PB} {l:List Tok} {stk:List Nat} (h:b.Rel l stk) (hl:l.length≤64):b.atoms.length≤64∧b.zR.length≤65∧b.opn.length≤64∧(0<b.opn.length→b.top<b.atoms.length∧∃ nu hm:Nat,(b.aAt b.top).num=nu∧nu≤9∧(b.aAt b.top).home=hm):=by
 have h1:=h.al
 have h2:=h.sl
 have h3:=h.len
 have h4:=h.op
 have h5:=zDi l
 refine ⟨by omega,by omega,by omega,fun hp=>?_⟩
 have ht:b.top=b.opn.getD (stk.length-1) 0:=by unfold PB.top;rw [zDb _ _ hp,h3]
 have T:=h.zOW (stk.length-1) (by omega)
 rw [← ht] at T
 obtain ⟨hm,e1,e2⟩:=h.homes b.top T.1
 have n:=h.nums b.top T.1
 exact ⟨T.1,(b.aAt b.top).num.toNat,hm,by omega,by omega,e1⟩
theorem zLt (p:ByteArray) (l:List Tok) (k:Int) (h0:0≤k) (h:k=p.size):qD p l k=(l,0,k):=by
 rw [vF p l k h0 (by omega),if_pos (by omega)]
theorem zJw (p:ByteArray) (l:List Tok) (k:Int) (h0:0≤k) (h:k<p.size) (h2:(kK p k).2≠0):qD p l k=([],(kK p k).2,k):=by
 rw [vF p l k h0 (by omega),if_neg (by omega),if_pos h2]
theorem zJx (p:ByteArray) (l:List Tok) (k:Int) (h0:0≤k) (h:k<p.size) (h2:(kK p k).2=0) (h3:may l (kK p k).1≠0):qD p l k=([],may l (kK p k).1,k):=by
 rw [vF p l k h0 (by omega),if_neg (by omega),if_neg (by omega),if_pos h3]
theorem zNd (p:ByteArray) (l:List Tok) (k:Int) (h0:0≤k) (h:k<p.size) (h2:(kK p k).2=0) (h3:may l (kK p k).1=0):qD p l k=qD p (l++[joined l (kK p k).1]) (kK p k).1.to:=by
 rw [vF p l k h0 (by omega),if_neg (by omega),if_neg (by omega),if_neg (by omega)]
structure Read (p:ByteArray) (k:Nat) (b:PB) (l:List Tok):Prop where
 le:k≤p.size
 len:l.length≤k
 run:b=PB.start.run l
 rel:∃ stk,b.Rel l stk
 val:Valid l
 on:qD p l k=qD p [] 0
theorem zLu (p:ByteArray):Read p 0 PB.start []:=⟨by omega,by simp,rfl,⟨[],zM4⟩,by intro k hk;simp at hk,rfl⟩
theorem zNe {p:ByteArray} {k:Nat} {b:PB} {l:List Tok} (h:Read p k b l) (hk:k<p.size) (h2:(kK p k).2=0) (h3:may l (kK p k).1=0):∃ m:Nat,(kK p k).1.to=m∧k<m∧Read p m (b.next (jT (kK p k).1)) (l++[joined l (kK p k).1]):=by
 have ht:=zBL p k (by omega) (by omega) h2
 obtain ⟨m,hm⟩:=Int.eq_ofNat_of_zero_le (show 0≤(kK p k).1.to by omega)
 have hg:=zJg p k h2
 obtain ⟨stk,hr⟩:=h.rel
 refine ⟨m,hm,by omega,by omega,by simp;have:=h.len;omega,?_,zOZ hr h.val hg h3,zDV h.val hg h3,?_⟩
 ·rw [PB.zG3,← h.run];show _=b.next (jT (joined l (kK p k).1));rw [zFu]
 ·rw [← h.on,zNd p l k (by omega) (by omega) h2 h3,hm]
end Mt
namespace Go.Proofs.YtebpgfodelggoaaGreat
open Go.RowKit
theorem zO2 {p:ByteArray} {k:Nat} {b:Mt.PB} {l:List Mt.Tok} (h:Mt.Read p k b l) (hp:p.size≤64):BOk b:=by
 obtain ⟨stk,hr⟩:=h.rel
 have hl:=h.len
 have hk:=h.le
 obtain ⟨a1,a2,a3,a4⟩:=Mt.zPR hr (by omega)
 exact ⟨by omega,by omega,by omega,hr.sq,hr.la,a4⟩
theorem zO3 {L:Nat} {w:World} {g:Nat} {b:Mt.PB} {so ao oo:Option Addr} {sc ac oc:Nat} {p:ByteArray} {k:Nat} {l:List Mt.Tok} (h:BAt L w g b so ao oo sc ac oc) (hR:Mt.Read p k b l) (hp:p.size≤64) (t:Mt.Tok) (hg:Mt.zEk t) :
  Calls Tryz.prog 117 #[.pointer (some ⟨g,0,none⟩),ptV (Mt.jT t)] w (Takes L w g so ao oo (Mt.may l t) (b.next (Mt.jT t))):=by
 have hO:=zO2 hR hp
 obtain ⟨stk,hr⟩:=hR.rel
 rw [← Mt.zKj hr (Mt.zCM hR.val) hg]
 obtain ⟨⟨k1,k2⟩,g2,g3,g4,g5⟩:=hg
 have hk:t.kind=1∨t.kind=2∨t.kind=3∨t.kind=4∨t.kind=5∨t.kind=6∨t.kind=7∨t.kind=8:=by omega
 rcases hk with e | e | e | e | e | e | e | e
 ·exact zFy _ h hO (by rw [Mt.kS,e];decide)
 ·obtain ⟨n1,n2⟩:=g3 e
  exact zNb _ h hO (by rw [Mt.kS,e];decide) t.n.toNat (by simp [Mt.jT,e];omega) (by omega)
 ·exact zFy _ h hO (by rw [Mt.kS,e];decide)
 ·exact zFy _ h hO (by rw [Mt.kS,e];decide)
 ·exact zO0 _ h hO (by rw [Mt.kS,e];decide)
 ·exact zNa _ h hO (by rw [Mt.kS,e];decide)
 ·exact zLs _ h hO (by rw [Mt.kS,e];decide)
 ·exact zO1 _ h hO (by rw [Mt.kS,e];decide)
theorem Tryz.sizeB:(Tryz.prog.info? 171).map (·.size)=some 16:=by kernel_rfl
theorem Tryz.sizeT:(Tryz.prog.info? 107).map (·.size)=some 2:=by kernel_rfl
theorem zLv (p:ByteArray) (w:World) (hp:64<p.size) (hm:p.size≤maxLen) :
  Calls Tryz.prog 89 #[.string p] w fun e w'=>e=.returned (.tuple #[.agg #[.slice none 0 0,.slice none 0 0],.int .i64 1,.int .i64 0])∧Below w.heap.size w w':=by
 have b1:decide (64<(p.size:Int))=true:=by simp;omega
 have b2:decide (64<p.size)=true:=by simp;omega
 have hm':p.size≤9223372036854775807:=by unfold maxLen at hm;omega
 go_enter Tryz.func89,Tryz.ntmps89
 go_wp2_with fail
 go_returns
 exact ⟨rfl,by go_grown⟩
end Go.Proofs.YtebpgfodelggoaaGreat
