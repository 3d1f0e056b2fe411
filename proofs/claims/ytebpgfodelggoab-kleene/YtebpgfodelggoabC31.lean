import Derived.Test.YtebpgfodelggoabC30
set_option linter.unusedVariables false
set_option linter.unusedSimpArgs false
set_option maxRecDepth 100000
set_option maxHeartbeats 4000000
namespace Go.Proofs.Ytebpgfodelggoab
open Go.RowKit
theorem takeBar_prog {L:Nat} {w:World} {g:Nat} {b:Mt.PB} {so ao oo:Option Addr} {sc ac oc:Nat} (h:BAt L w g b so ao oo sc ac oc) (hn:b.seqs.length≤1000) (hs:b.seq<b.seqs.length) :
  Calls Try.prog 80 #[.pointer (some ⟨g,0,none⟩)] w fun e w'=>e=.returned (.tuple #[])∧∃ so' sc',BAt L w' g b.bar so' ao oo sc' ac oc∧BStep g so ao oo so' ao oo w w':=by
 have HC:Hid (Calls Try.prog _ _ _ _):=newSequence_any h hn
 clear h
 go_enter Try.func80,Try.ntmps80
 go_wp2_with fail
 refine HC.out.mono ?_
 rintro e w1 ⟨rfl,so1,sc1,hP,hSt⟩
 have len1:b.newSeq.seqs.length=b.seqs.length+1:=by simp [Mt.PB.newSeq]
 obtain ⟨gs,hso,gs1,gs2,gs3⟩:=hP.seqForm (by omega)
 subst hso
 obtain ⟨x0,x1,x2,x3,_,_,_,hxf⟩:=hP.cells
 have y2:=hxf 2
 have y3:=hxf 3
 have hgw:g<w1.heap.size:=(hP.lt g (Or.inl rfl)).2
 have q0:=hP.seqCell b.seq 1 (by omega) (by decide)
 have q1:=q0.1
 have q2:=q0.2
 have ea:b.newSeq.sAt b.seq=b.sAt b.seq:=by
  unfold Mt.PB.sAt Mt.PB.newSeq;dsimp only;rw [Mt.getD_app,if_neg (by omega)]
 rw [ea] at q1
 rw [len1] at x0 gs3
 change w1.cell? ⟨gs,b.seq*2+1,none⟩=some (.int .i64 (b.sAt b.seq).next) at q1
 change w1.cell? ⟨g,2,none⟩=some (.int .i64 b.seq) at x2
 change w1.cell? ⟨g,3,none⟩=some (.int .i64 b.last) at x3
 have HP:Hid (BAt L w1 g b.newSeq (some ⟨gs,0,none⟩) ao oo sc1 ac oc):=hP
 have HSt:Hid (BStep g so ao oo (some ⟨gs,0,none⟩) ao oo w w1):=hSt
 have HE:Hid (b.newSeq.sAt b.seq=b.sAt b.seq):=ea
 clear hP hSt hxf q0 ea
 go_wp2_with fail
 go_region
 go_wp2_with fail
 go_returns
 have M1:=HP.out.seqSet b.seq 1 (.int .i64 b.seqs.length) ⟨(b.sAt b.seq).first,b.seqs.length⟩ (by omega) (by decide) (by rw [HE.out];rfl)
 have M2:=M1.drew
 have M3:=M2.field (k:=2) (v:=.int .i64 b.seqs.length) (b':={ b.bar with last:=b.last }) (so':=some ⟨gs,0,none⟩) (ao':=ao) (oo':=oo) (sc':=sc1) (ac':=ac) (oc':=oc) (by unfold bA Mt.PB.bar Mt.PB.newSeq;simp) M2.seqs M2.atoms M2.opn M2.ap M2.cl
 have M4:=M3.field (k:=3) (v:=.int .i64 (-1)) (b':=b.bar) (so':=some ⟨gs,0,none⟩) (ao':=ao) (oo':=oo) (sc':=sc1) (ac':=ac) (oc':=oc) (by unfold bA Mt.PB.bar;simp) M3.seqs M3.atoms M3.opn M3.ap M3.cl
 refine ⟨rfl,some ⟨gs,0,none⟩,sc1,M4,?_⟩
 exact (((HSt.out.set (p:=⟨gs,b.seq*2+1,none⟩) (Or.inr (Or.inl rfl)) _).drew).set (p:=⟨g,2,none⟩) (Or.inl rfl) _).set (p:=⟨g,3,none⟩) (Or.inl rfl) _
theorem takeBack_prog {L:Nat} {w:World} {g:Nat} {b:Mt.PB} {so ao oo:Option Addr} {sc ac oc:Nat} (t:Mt.PT) (h:BAt L w g b so ao oo sc ac oc) (hn:b.atoms.length≤1000) (hs:b.seq<b.seqs.length) (hla:b.last=-1∨∃ k:Nat,b.last=k∧k<b.atoms.length)
  (n:Nat) (hnum:t.number=n) (hn9:n≤9) (E:Int) (hE:E=if (b.groups:Int)<t.number∨b.clo.getD t.number.toNat false=false then 6 else 0) :
  Calls Try.prog 84 #[.pointer (some ⟨g,0,none⟩),ptV t] w fun e w'=>e=.returned (.int .i64 E)∧(E=0→∃ ao' ac',BAt L w' g (b.addAtom t) so ao' oo sc ac' oc∧BStep g so ao oo so ao' oo w w')∧Below L w w':=by
 have HB:Hid (BAt L w g b so ao oo sc ac oc):=h
 obtain ⟨_,_,_,_,_,c5,ck,_⟩:=h.cells
 have ckn:=ck n (by omega)
 have hn10:(n:Int)<10:=by omega
 have hg:g<w.heap.size:=(h.lt g (Or.inl rfl)).2
 have hL:L≤w.heap.size:=by have:=h.lo;omega
 have HT:Hid (∀ W:World,Below w.heap.size w W→Calls Try.prog 85 #[.pointer (some ⟨g,0,none⟩),ptV t] W fun e w'=>e=.returned (.tuple #[])∧∃ ao' ac',BAt L w' g (b.addAtom t) so ao' oo sc ac' oc∧BStep g so ao oo so ao' oo W w'):=fun W hW=>addAtom_prog t (h.below hW) hn hs hla
 have hto:t.number.toNat=n:=by rw [hnum];simp
 rw [hto] at hE
 generalize hcl:b.clo.getD n false=cb at *
 clear h ck hto
 rw [hnum] at hE
 have HN:Hid (t.number=n):=hnum
 cases hgr:decide (b.groups<n)
 ·have hng:¬ b.groups<n:=by simpa using hgr
  cases cb
  ·have HE:Hid (E=6):=by show _=_;rw [hE,if_pos (Or.inr rfl)]
   clear hE hng
   unfold ptV ptA
   rw [hnum]
   go_enter Try.func84,Try.ntmps84
   go_wp2_with fail
   go_quiet (fail)
   go_wp2_with fail
   go_returns
   exact ⟨by rw [HE.out];rfl,fun e=>by have:=HE.out;omega,(below_drewN ((Below.refl _ _).alloc (Nat.le_refl _) _) _).mono hL⟩
  ·have HE:Hid (E=0):=by show _=_;rw [hE,if_neg (by simp;omega)]
   have HV:Hid (ptV t=.agg #[.int .i64 t.kind,.int .i64 t.en,.int .i64 t.group,.int .i64 n,.int .i64 t.least,.int .i64 t.most,.int .i64 t.mood,.string ⟨t.set.toArray⟩]):=by show _=_;unfold ptV ptA;rw [hnum]
   have HT2:=HT.out
   simp only [HV.out] at HT2
   have HT3:Hid (∀ W:World,Below w.heap.size w W→Calls Try.prog 85 _ W _):=HT2
   clear hE hng HT2
   rw [HV.out]
   go_enter Try.func84,Try.ntmps84
   go_wp2_with fail
   go_quiet (fail)
   go_wp2_with fail
   refine (HT3.out _ (by exact below_drewN ((Below.refl _ _).alloc (Nat.le_refl _) _) _)).mono ?_
   rintro e w1 ⟨rfl,ao1,ac1,hP,hSt⟩
   have R:Hid (BAt L w1 g (b.addAtom t) so ao1 oo sc ac1 oc∧BStep g so ao oo so ao1 oo w w1):=⟨hP,(BStep.below (below_drewN ((Below.refl _ _).alloc (Nat.le_refl _) _) _)).trans hSt⟩
   clear hP hSt
   go_wp2_with fail
   go_returns
   exact ⟨by rw [HE.out];rfl,fun _=>⟨ao1,ac1,R.out.1,R.out.2⟩,R.out.2.low HB.out hL⟩
 ·have hng:b.groups<n:=by simpa using hgr
  have HE:Hid (E=6):=by show _=_;rw [hE,if_pos (Or.inl (by omega))]
  clear hE hng
  unfold ptV ptA
  rw [hnum]
  go_enter Try.func84,Try.ntmps84
  go_wp2_with fail
  go_quiet (fail)
  go_wp2_with fail
  go_returns
  exact ⟨by rw [HE.out];rfl,fun e=>by have:=HE.out;omega,(below_drewN ((Below.refl _ _).alloc (Nat.le_refl _) _) _).mono hL⟩
theorem there_row {L:Nat} {w:World} {e:TypeId} {sz g n cap:Nat} {xs:List Value} (h:w.ownsRow L e sz (.slice (some ⟨g,0,none⟩) n cap) n xs) (o m:Nat) (hm:o+m≤n*sz):w.there g o m:=by
 intro j hj
 rw [World.ownsRow.cellAt h (o+j) (by omega)]
 refine ⟨?_,World.ownsRow.frozenAt h _⟩
 have:=h.1
 rw [List.getElem?_eq_getElem (by omega)];rfl
theorem BStep.setMany {g:Nat} {so ao oo so' ao' oo':Option Addr} {a w:World} (h:BStep g so ao oo so' ao' oo' a w) (q o:Nat) (vs:List Value) (hp:own g so' ao' oo' q):BStep g so ao oo so' ao' oo' a (w.setCells q o vs) :=
 h.trans ⟨(below_setCells q vs o w 0 (Nat.zero_le _)).1.os,(below_setCells q vs o w 0 (Nat.zero_le _)).1.tape,(below_setCells q vs o w 0 (Nat.zero_le _)).1.output,Nat.le_of_eq (below_setCells q vs o w 0 (Nat.zero_le _)).2.symm,fun i hi hn=>setCells_oth q vs o w i (fun e=>hn (by rw [e];exact hp)),fun _ _ h=>h⟩
theorem takeRepeat_prog {L:Nat} {w:World} {g:Nat} {b:Mt.PB} {so ao oo:Option Addr} {sc ac oc:Nat} (t:Mt.PT) (h:BAt L w g b so ao oo sc ac oc) (hn:b.atoms.length≤1000) (hla:b.last=-1∨∃ k:Nat,b.last=k∧k<b.atoms.length)
  (E:Int) (hE:E=if b.last=-1∨(b.aAt b.last.toNat).rep.kind≠0 then 7 else 0) :
  Calls Try.prog 83 #[.pointer (some ⟨g,0,none⟩),ptV t] w fun e w'=>e=.returned (.int .i64 E)∧(E=0→BAt L w' g (b.repeated t) so ao oo sc ac oc∧BStep g so ao oo so ao oo w w')∧Below L w w':=by
 have HB:Hid (BAt L w g b so ao oo sc ac oc):=h
 obtain ⟨_,c1,_,c3,_,_,_,hf⟩:=h.cells
 have hg:g<w.heap.size:=(h.lt g (Or.inl rfl)).2
 have hL:L≤w.heap.size:=by have:=h.lo;omega
 rcases hla with hl | ⟨k,hl,hk⟩
 ·have HE:Hid (E=7):=by show _=_;rw [hE,if_pos (Or.inl hl)]
  rw [hl] at c3
  clear h hE hf hl
  unfold ptV ptA
  go_enter Try.func83,Try.ntmps83
  go_wp2_with fail
  go_quiet (fail)
  go_wp2_with fail
  go_returns
  exact ⟨by rw [HE.out];rfl,fun e=>by have:=HE.out;omega,(below_drewN ((Below.refl _ _).alloc (Nat.le_refl _) _) _).mono hL⟩
 ·obtain ⟨ga,hao,ga1,ga2,ga3⟩:=h.atomForm (by omega)
  subst hao
  have hto:b.last.toNat=k:=by rw [hl];simp
  have bt:((k:Int)==-1)=false:=by simp
  have q9:=(h.atomCell k 9 (by omega) (by decide)).1
  change w.cell? ⟨ga,k*20+9,none⟩=some (.int .i64 (b.aAt k).rep.kind) at q9
  rw [hl] at c3
  have hk':(k:Int)<(b.atoms.length:Int):=by omega
  cases hr:((b.aAt k).rep.kind != 0)
  ·have HE:Hid (E=0):=by show _=_;rw [hE,hto,if_neg (by rintro (x | x);omega;exact x (by simpa using hr))]
   have HR:Hid (b.repeated t={ b with atoms:=b.atoms.set k { b.aAt k with rep:=t } }):=by show _=_;unfold Mt.PB.repeated;rw [hto]
   have HTH:Hid (∀ W:World,Below w.heap.size w W→W.there ga (k*20+9) (ptA t).size):=fun W hW=>there_row (h.below hW).atoms _ _ (by rw [ptA_size];omega)
   clear h hE hf hl
   unfold ptV
   go_enter Try.func83,Try.ntmps83
   go_wp2_with fail
   go_quiet (fail)
   go_upto_region 3 with fail
   have hW:Below w.heap.size w ((w.alloc (.cells (ptA t) 121)).drewN nq):=below_drewN ((Below.refl _ _).alloc (Nat.le_refl _) _) _
   have HNW:((w.alloc (.cells (ptA t) 121)).drewN nq).heap[w.heap.size]?=some (.cells (ptA t) 121 (0,0)):=by rw [World.heap_drewN];exact heap_alloc_new _ _
   have HHW:Hid (Below w.heap.size w ((w.alloc (.cells (ptA t) 121)).drewN nq)):=hW
   generalize hWW:(w.alloc (.cells (ptA t) 121)).drewN nq=W at *
   have d1:=(hW.cell (p:=⟨g,1,none⟩) hg).trans c1
   have d3:=(hW.cell (p:=⟨g,3,none⟩) hg).trans c3
   have hc1:∀ z:World,(z.heap[w.heap.size]?=some (.cells (ptA t) 121 (0,0))∧z.cell? ⟨g,1,none⟩=some (.slice (some ⟨ga,0,none⟩) b.atoms.length ac)∧z.cell? ⟨g,3,none⟩=some (.int .i64 k))→z.cell? ⟨g,1,none⟩=some (.slice (some ⟨ga,0,none⟩) b.atoms.length ac):=fun z hz=>hz.2.1
   have hc3:∀ z:World,(z.heap[w.heap.size]?=some (.cells (ptA t) 121 (0,0))∧z.cell? ⟨g,1,none⟩=some (.slice (some ⟨ga,0,none⟩) b.atoms.length ac)∧z.cell? ⟨g,3,none⟩=some (.int .i64 k))→z.cell? ⟨g,3,none⟩=some (.int .i64 k):=fun z hz=>hz.2.2
   have hcr:∀ z:World,(z.heap[w.heap.size]?=some (.cells (ptA t) 121 (0,0))∧z.cell? ⟨g,1,none⟩=some (.slice (some ⟨ga,0,none⟩) b.atoms.length ac)∧z.cell? ⟨g,3,none⟩=some (.int .i64 k))→z.rangeAt w.heap.size 0 (ptA t).toList:=fun z hz=>rangeAt_blk hz.1
   have S0:W.drew.heap[w.heap.size]?=some (.cells (ptA t) 121 (0,0))∧W.drew.cell? ⟨g,1,none⟩=some (.slice (some ⟨ga,0,none⟩) b.atoms.length ac)∧W.drew.cell? ⟨g,3,none⟩=some (.int .i64 k):=⟨HNW,d1,d3⟩
   refine wp_region_held_drew (S:=fun z:World=>z.heap[w.heap.size]?=some (.cells (ptA t) 121 (0,0))∧z.cell? ⟨g,1,none⟩=some (.slice (some ⟨ga,0,none⟩) b.atoms.length ac)∧z.cell? ⟨g,3,none⟩=some (.int .i64 k)) (by kernel_rfl) S0 (fun hH=>?_)
   refine takeAt 0 26 (.pointer (some ⟨g,0,none⟩)) rfl rfl (by kernel_rfl) (by kernel_rfl) (by kernel_rfl) (fun _ _ _ h=>h) (Or.inl ⟨by rfl,fun z hz=>by clear hH hz hc1 hc3 hcr S0 HNW hW;go_simp⟩) (by assumption) ?_
   simp only [Act.put,List.setIfInBounds_toArray,List.set_cons_zero,List.set_cons_succ]
   refine takeAt 1 27 (.pointer (some ⟨g,0,none⟩)) rfl rfl (by kernel_rfl) (by kernel_rfl) (by kernel_rfl) (fun _ _ _ h=>h) (Or.inl ⟨by rfl,fun z hz=>by clear hH hz hc1 hc3 hcr S0 HNW hW;go_simp⟩) (by assumption) ?_
   simp only [Act.put,List.setIfInBounds_toArray,List.set_cons_zero,List.set_cons_succ]
   refine takeAt 2 28 (.pointer (some ⟨g,0,none⟩)) rfl rfl (by kernel_rfl) (by kernel_rfl) (by kernel_rfl) (fun _ _ _ h=>h) (Or.inl ⟨by rfl,fun z hz=>by clear hH hz hc1 hc3 hcr S0 HNW hW;go_simp⟩) (by assumption) ?_
   simp only [Act.put,List.setIfInBounds_toArray,List.set_cons_zero,List.set_cons_succ]
   refine takeAt 3 29 (.pointer (some ⟨g,1,none⟩)) rfl rfl (by kernel_rfl) (by kernel_rfl) (by kernel_rfl) (fun _ _ _ h=>h) (Or.inl ⟨by rfl,fun z hz=>by clear hH hz hc1 hc3 hcr S0 HNW hW;go_simp⟩) (by assumption) ?_
   simp only [Act.put,List.setIfInBounds_toArray,List.set_cons_zero,List.set_cons_succ]
   refine takeAt 4 30 (.slice (some ⟨ga,0,none⟩) b.atoms.length ac) rfl rfl (by kernel_rfl) (by kernel_rfl) (by kernel_rfl) (fun _ _ _ h=>h) (Or.inl ⟨by rfl,fun z hz=>by have hz1:=hc1 z hz;clear hH hz hc1 hc3 hcr S0 HNW hW;go_simp⟩) (by assumption) ?_
   simp only [Act.put,List.setIfInBounds_toArray,List.set_cons_zero,List.set_cons_succ]
   refine takeAt 5 31 (.pointer (some ⟨g,0,none⟩)) rfl rfl (by kernel_rfl) (by kernel_rfl) (by kernel_rfl) (fun _ _ _ h=>h) (Or.inl ⟨by rfl,fun z hz=>by clear hH hz hc1 hc3 hcr S0 HNW hW;go_simp⟩) (by assumption) ?_
   simp only [Act.put,List.setIfInBounds_toArray,List.set_cons_zero,List.set_cons_succ]
   refine takeAt 6 32 (.pointer (some ⟨g,0,none⟩)) rfl rfl (by kernel_rfl) (by kernel_rfl) (by kernel_rfl) (fun _ _ _ h=>h) (Or.inl ⟨by rfl,fun z hz=>by clear hH hz hc1 hc3 hcr S0 HNW hW;go_simp⟩) (by assumption) ?_
   simp only [Act.put,List.setIfInBounds_toArray,List.set_cons_zero,List.set_cons_succ]
   refine takeAt 7 33 (.pointer (some ⟨g,3,none⟩)) rfl rfl (by kernel_rfl) (by kernel_rfl) (by kernel_rfl) (fun _ _ _ h=>h) (Or.inl ⟨by rfl,fun z hz=>by clear hH hz hc1 hc3 hcr S0 HNW hW;go_simp⟩) (by assumption) ?_
   simp only [Act.put,List.setIfInBounds_toArray,List.set_cons_zero,List.set_cons_succ]
   refine takeAt 8 34 (.int .i64 k) rfl rfl (by kernel_rfl) (by kernel_rfl) (by kernel_rfl) (fun _ _ _ h=>h) (Or.inl ⟨by rfl,fun z hz=>by have hz1:=hc3 z hz;clear hH hz hc1 hc3 hcr S0 HNW hW;go_simp⟩) (by assumption) ?_
   simp only [Act.put,List.setIfInBounds_toArray,List.set_cons_zero,List.set_cons_succ]
   refine takeAt 9 35 (.agg (ptA t)) rfl rfl (by kernel_rfl) (by kernel_rfl) (by kernel_rfl) (fun _ _ _ h=>h) (yieldsIf_load_mid (by rfl) _ _ rfl _ _ rfl _ _ hcr Try.underlying121 rfl (by rw [Try.sizePT];rfl)) (by assumption) ?_
   simp only [Act.put,List.setIfInBounds_toArray,List.set_cons_zero,List.set_cons_succ]
   refine takeAt 10 36 (.pointer (some ⟨ga,k*20,none⟩)) rfl rfl (by kernel_rfl) (by kernel_rfl) (by kernel_rfl) (fun _ _ _ h=>h) (Or.inl ⟨by rfl,fun z hz=>by clear hH hz hc1 hc3 hcr S0 HNW hW;go_simp⟩) (by assumption) ?_
   simp only [Act.put,List.setIfInBounds_toArray,List.set_cons_zero,List.set_cons_succ]
   refine takeAt 11 37 (.pointer (some ⟨ga,k*20+9,none⟩)) rfl rfl (by kernel_rfl) (by kernel_rfl) (by kernel_rfl) (fun _ _ _ h=>h) (Or.inl ⟨by rfl,fun z hz=>by clear hH hz hc1 hc3 hcr S0 HNW hW;go_simp⟩) (by assumption) ?_
   simp only [Act.put,List.setIfInBounds_toArray,List.set_cons_zero,List.set_cons_succ]
   refine lastStore 12 _ rfl rfl (by kernel_rfl) (by kernel_rfl) _ _ _ rfl ga (k*20+9) (ptA t) (by kernel_rfl) (by kernel_rfl) (HTH.out _ HHW.out.drew) (by rw [Try.sizePT];rfl) (ptA_all _) rfl ?_
   have hne:w.heap.size≠ga:=by omega
   refine ⟨⟨(setCells_oth ga _ _ _ _ hne).trans S0.1,(World.cell?_of_block (a:=⟨g,1,none⟩) (setCells_oth ga _ _ _ _ (Ne.symm ga1))).trans S0.2.1,(World.cell?_of_block (a:=⟨g,3,none⟩) (setCells_oth ga _ _ _ _ (Ne.symm ga1))).trans S0.2.2⟩,?_⟩
   clear hH hc1 hc3 hcr S0 HNW hW
   go_wp2_with fail
   go_returns
   have hWd:Below w.heap.size w W.drew:=HHW.out.drew
   refine ⟨by rw [HE.out];rfl,fun _=>?_,?_⟩
   ·rw [HR.out]
    exact ⟨(HB.out.below hWd).atomSet k 9 (ptA t).toList { b.aAt k with rep:=t } hk (by show 9+(ptA t).size≤20;rw [ptA_size];decide) rfl,(BStep.below hWd).setMany ga _ _ (Or.inr (Or.inr (Or.inl rfl)))⟩
   ·exact (((BStep.below hWd).setMany ga (k*20+9) (ptA t).toList (Or.inr (Or.inr (Or.inl rfl))))).low HB.out hL
  ·have HE:Hid (E=7):=by show _=_;rw [hE,hto,if_pos (Or.inr (by simpa using hr))]
   clear h hE hf hl
   unfold ptV ptA
   go_enter Try.func83,Try.ntmps83
   go_wp2_with fail
   go_quiet (fail)
   go_wp2_with fail
   go_returns
   exact ⟨by rw [HE.out];rfl,fun e=>by have:=HE.out;omega,(below_drewN ((Below.refl _ _).alloc (Nat.le_refl _) _) _).mono hL⟩
theorem row_cut {L:Nat} {w:World} {e:TypeId} {n m cap g:Nat} {xs:List Value} (h:w.ownsRow L e 1 (.slice (some ⟨g,0,none⟩) n cap) n xs) (hm:m≤n):w.ownsRow L e 1 (.slice (some ⟨g,0,none⟩) m cap) m (xs.take m):=by
 have h1:=h.1
 refine ⟨by rw [List.length_take];omega,?_⟩
 rcases h.2 with ⟨e,_⟩ | ⟨g',cap',cur,hv,hb,hg,h2,h3,h4,h5⟩
 ·simp at e
 ·simp only [Value.slice.injEq,Option.some.injEq,Addr.mk.injEq,and_true,true_and] at hv
  obtain ⟨rfl,rfl⟩:=hv
  refine .inr ⟨g,cap,cur,rfl,hb,hg,by omega,h3,h4,?_⟩
  rw [← h5,List.take_take,Nat.min_eq_left (by omega),Nat.mul_one]
theorem opL_dropLast (l:List Nat) (m:Nat) (h:l.length=m+1):(opL l).take m=opL l.dropLast:=by
 unfold opL
 rw [List.dropLast_eq_take,h,List.map_take];rfl
theorem bA_clo (b:Mt.PB) (so ao oo:Option Addr) (sc ac oc nu:Nat) (v:Bool):(bA b so ao oo sc ac oc).setIfInBounds (6+nu) (.bool v)=bA { b with clo:=b.clo.set nu v } so ao oo sc ac oc:=by
 unfold bA
 rw [List.setIfInBounds_toArray,show 6+nu=nu+1+1+1+1+1+1 by omega]
 simp only [List.set_cons_succ,List.map_set]
theorem takeClose_prog {L:Nat} {w:World} {g:Nat} {b:Mt.PB} {so ao oo:Option Addr} {sc ac oc:Nat} (h:BAt L w g b so ao oo sc ac oc) (hn:b.atoms.length≤1000) (ho:b.opn.length≤1000)
  (hT:0<b.opn.length→b.top<b.atoms.length∧∃ nu hm:Nat,(b.aAt b.top).num=nu∧nu≤9∧(b.aAt b.top).home=hm)
  (E:Int) (hE:E=if b.opn.length=0 then 10 else 0) :
  Calls Try.prog 82 #[.pointer (some ⟨g,0,none⟩)] w fun e w'=>e=.returned (.int .i64 E)∧(E=0→BAt L w' g b.close so ao oo sc ac oc∧BStep g so ao oo so ao oo w w')∧Below L w w':=by
 have HB:Hid (BAt L w g b so ao oo sc ac oc):=h
 obtain ⟨_,c1,c2,c3,c4,_,ck,hf⟩:=h.cells
 have hg:g<w.heap.size:=(h.lt g (Or.inl rfl)).2
 have hL:L≤w.heap.size:=by have:=h.lo;omega
 by_cases h0:b.opn.length=0
 ·have HE:Hid (E=10):=by show _=_;rw [hE,if_pos h0]
  rw [h0] at c4
  clear h hE hf hT ck h0
  go_enter Try.func82,Try.ntmps82
  go_wp2_with fail
  go_returns
  exact ⟨by rw [HE.out];rfl,fun e=>by have:=HE.out;omega,Below.refl _ _⟩
 ·have HE:Hid (E=0):=by show _=_;rw [hE,if_neg h0]
  obtain ⟨m,hm⟩:∃ m,b.opn.length=m+1:=⟨b.opn.length-1,by omega⟩
  obtain ⟨hT1,nu,hmm,hnu,hnu9,hho⟩:=hT (by omega)
  obtain ⟨go,hoo,go1,go2,go3⟩:=h.opnForm (by omega)
  subst hoo
  obtain ⟨ga,hao,ga1,ga2,ga3⟩:=h.atomForm (by omega)
  subst hao
  have o0:=h.opnCell m (by omega)
  have htop:b.opn.getD m 0=b.top:=by
   unfold Mt.PB.top;rw [Mt.getLastD_at _ _ (by omega),hm];rfl
  rw [htop] at o0
  have a8:=(h.atomCell b.top 8 hT1 (by decide)).1
  have a18:=(h.atomCell b.top 18 hT1 (by decide)).1
  change w.cell? ⟨ga,b.top*20+8,none⟩=some (.int .i64 (b.aAt b.top).num) at a8
  change w.cell? ⟨ga,b.top*20+18,none⟩=some (.int .i64 (b.aAt b.top).home) at a18
  rw [hnu] at a8
  rw [hho] at a18
  have kn:=ck nu (by omega)
  have f2:=hf 2
  have f3:=hf 3
  have f4:=hf 4
  have f6:=hf (6+nu)
  have ne1:(6+nu==4)=false:=by simp;omega
  have hn10:(nu:Int)<10:=by omega
  rw [hm] at c4 go3
  have HN:Hid ((b.aAt b.top).num.toNat=nu∧(b.aAt b.top).home.toNat=hmm):=⟨by rw [hnu];simp,by rw [hho];simp⟩
  have HM:Hid (b.opn.length=m+1):=hm
  have hm1:m≤1000:=by omega
  generalize hTT:b.top=T at *
  have HTT:Hid (b.top=T):=hTT
  clear h hE hf hT ck h0 htop hTT hm ho hnu hho
  generalize b.clo.getD nu false=cb at *
  generalize b.atoms.length=N at *
  go_enter Try.func82,Try.ntmps82
  go_wp2_with fail
  go_region
  go_wp2_with fail
  go_returns
  have M1:=HB.out.field (k:=4) (v:=.slice (some ⟨go,0,none⟩) m oc) (b':={ b with opn:=b.opn.dropLast }) (so':=so) (ao':=some ⟨ga,0,none⟩) (oo':=some ⟨go,0,none⟩) (sc':=sc) (ac':=ac) (oc':=oc) (by unfold bA;simp [List.length_dropLast,HM.out]) HB.out.seqs HB.out.atoms (by
   have r:=row_cut HB.out.opn (m:=m) (by rw [HM.out];omega)
   rw [opL_dropLast _ _ HM.out] at r
   simpa [List.length_dropLast,HM.out] using r) HB.out.ap HB.out.cl
  have M2:=M1.field (k:=6+nu) (v:=.bool true) (b':={ b with opn:=b.opn.dropLast,clo:=b.clo.set nu true }) (so':=so) (ao':=some ⟨ga,0,none⟩) (oo':=some ⟨go,0,none⟩) (sc':=sc) (ac':=ac) (oc':=oc) (by rw [bA_clo]) M1.seqs M1.atoms M1.opn M1.ap (by simp [HB.out.cl])
  have M3:=M2.field (k:=2) (v:=.int .i64 hmm) (b':={ b with opn:=b.opn.dropLast,clo:=b.clo.set nu true,seq:=hmm }) (so':=so) (ao':=some ⟨ga,0,none⟩) (oo':=some ⟨go,0,none⟩) (sc':=sc) (ac':=ac) (oc':=oc) (by unfold bA;simp) M2.seqs M2.atoms M2.opn M2.ap M2.cl
  have ec:b.close={ b with opn:=b.opn.dropLast,clo:=b.clo.set nu true,seq:=hmm,last:=(T:Int) }:=by
   unfold Mt.PB.close;rw [HTT.out,HN.out.1,HN.out.2]
  have M4:=M3.field (k:=3) (v:=.int .i64 T) (b':=b.close) (so':=so) (ao':=some ⟨ga,0,none⟩) (oo':=some ⟨go,0,none⟩) (sc':=sc) (ac':=ac) (oc':=oc) (by rw [ec];unfold bA;simp) (by rw [ec];exact M3.seqs) (by rw [ec];exact M3.atoms) (by rw [ec];exact M3.opn) M3.ap (by rw [ec];exact M3.cl)
  have ST:BStep g so (some ⟨ga,0,none⟩) (some ⟨go,0,none⟩) so (some ⟨ga,0,none⟩) (some ⟨go,0,none⟩) w _:=(((((BStep.refl g so (some ⟨ga,0,none⟩) (some ⟨go,0,none⟩) w).set (p:=⟨g,4,none⟩) (Or.inl rfl) (.slice (some ⟨go,0,none⟩) m oc)).set (p:=⟨g,6+nu,none⟩) (Or.inl rfl) (.bool true)).set (p:=⟨g,2,none⟩) (Or.inl rfl) (.int .i64 hmm)).set (p:=⟨g,3,none⟩) (Or.inl rfl) (.int .i64 T)).drew
  exact ⟨by rw [HE.out];rfl,fun _=>⟨M4.drew,ST⟩,ST.low HB.out hL⟩
end Go.Proofs.Ytebpgfodelggoab
namespace Mt
def PB.push (b:PB) (k:Nat):PB:={ b with opn:=b.opn++[k] }
theorem into_eq (b:PB) (g:Nat):b.into g={ (b.push g).newSeq with atoms:=b.atoms.set g { b.aAt g with body:=b.seqs.length },seq:=b.seqs.length,last:=-1 }:=rfl
end Mt
namespace Go.Proofs.Ytebpgfodelggoab
open Go.RowKit
theorem Try.infoInt:(Try.prog.info? 3).map (fun i=>(i.zero,i.size,i.bytes))=some (some (.int .i64 0),1,8):=by kernel_rfl
theorem push_mem {L:Nat} {w w0 w1:World} {g:Nat} {b:Mt.PB} {so ao oo:Option Addr} {sc ac oc q cap k:Nat} (h:BAt L w g b so ao oo sc ac oc) (h0:Below w.heap.size w w0) (hs0:w.heap.size<w0.heap.size) (hg:w0.grownBy w1 (blk oo)) (hq:blk oo=some q∨q=w0.heap.size)
  (hown:w1.ownsRow L 3 1 (.slice (some ⟨q,0,none⟩) (b.opn.length+1) cap) (b.opn.length+1) (opL b.opn++[.int .i64 (k:Int)])) :
  BAt L (w1.setCell ⟨g,4,none⟩ (.slice (some ⟨q,0,none⟩) (b.opn.length+1) cap)) g (b.push k) so ao (some ⟨q,0,none⟩) sc ac cap∧BStep g so ao oo so ao (some ⟨q,0,none⟩) w (w1.setCell ⟨g,4,none⟩ (.slice (some ⟨q,0,none⟩) (b.opn.length+1) cap)):=by
 have hlt:∀ k,own g so ao oo k→k<w0.heap.size:=fun k hk=>by have:=(h.lt k hk).2;omega
 have n:q≠g∧blk so≠some q∧blk ao≠some q:=by
  rcases hq with e | e
  ·exact ⟨fun x=>h.ap.2.2.1 (by rw [e,x]),fun x=>(h.ap.2.2.2.1 q x).2 e,fun x=>h.ap.2.2.2.2 q x e⟩
  ·subst e
   exact ⟨fun e=>by have:=hlt g (Or.inl rfl);omega,fun e=>by have:=hlt _ (Or.inr (Or.inl e));omega,fun e=>by have:=hlt _ (Or.inr (Or.inr (Or.inl e)));omega⟩
 obtain ⟨n1,n2,n3⟩:=n
 have kg:w1.heap[g]?=w.heap[g]?:=h.grown h0 hg g (Or.inl rfl) (fun e=>h.ap.2.2.1 e.symm)
 have ks:∀ k,blk so=some k→w1.heap[k]?=w.heap[k]?:=fun k hk=>h.grown h0 hg k (Or.inr (Or.inl hk)) (fun e=>(h.ap.2.2.2.1 k hk).2 e.symm)
 have ka:∀ k,blk ao=some k→w1.heap[k]?=w.heap[k]?:=fun k hk=>h.grown h0 hg k (Or.inr (Or.inr (Or.inl hk))) (fun e=>h.ap.2.2.2.2 k hk e.symm)
 have hap:blk so≠some g∧blk ao≠some g∧blk (some ⟨q,0,none⟩)≠some g∧(∀ k,blk so=some k→blk ao≠some k∧blk (some ⟨q,0,none⟩)≠some k)∧(∀ k,blk ao=some k→blk (some ⟨q,0,none⟩)≠some k) :=
  ⟨h.ap.1,h.ap.2.1,fun e=>n1 (by simpa [blk] using e),fun k hk=>⟨(h.ap.2.2.2.1 k hk).1,fun e=>n2 (by simp [blk] at e;rw [hk,e])⟩,fun k hk=>fun e=>n3 (by simp [blk] at e;rw [hk,e])⟩
 have o:∀ k',k'≠g→(w1.setCell ⟨g,4,none⟩ (.slice (some ⟨q,0,none⟩) (b.opn.length+1) cap)).heap[k']?=w1.heap[k']?:=fun k' hk=>Below.heap_setCell _ _ _ _ hk
 refine ⟨⟨?_,h.lo,?_,?_,?_,hap,h.cl⟩,?_⟩
 ·have hc:=Go.heap_setCell_same w1 g 4 _ _ (.slice (some ⟨q,0,none⟩) (b.opn.length+1) cap) (by rw [kg];exact h.cell)
  rw [hc];unfold bA Mt.PB.push;simp
 ·exact row_keep h.seqs (fun k hk=>by rw [o k (fun e=>h.ap.1 (by rw [← e];exact hk)),ks k hk])
 ·exact row_keep h.atoms (fun k hk=>by rw [o k (fun e=>h.ap.2.1 (by rw [← e];exact hk)),ka k hk])
 ·have e1:(b.push k).opn.length=b.opn.length+1:=by simp [Mt.PB.push]
  have e2:opL (b.push k).opn=opL b.opn++[.int .i64 (k:Int)]:=by simp [Mt.PB.push,opL]
  rw [e1,e2]
  exact row_keep hown (fun k hk=>o k (by simp [blk] at hk;omega))
 ·refine ⟨hg.os.trans h0.os,hg.tape.trans h0.tape,hg.output.trans h0.output,?_,fun k hk hn=>?_,fun k hk ho=>?_⟩
  ·have:=hg.size;have:=h0.size;simp [World.setCell];omega
  ·rw [o k (fun e=>hn (Or.inl e)),hg.block k (by have:=h0.size;omega) (fun e=>hn (Or.inr (Or.inr (Or.inr e.symm)))),h0.block k hk]
  ·rcases ho with e | e | e | e
   ·exact Or.inl e
   ·exact Or.inr (Or.inl e)
   ·exact Or.inr (Or.inr (Or.inl e))
   ·simp [blk] at e
    subst e
    rcases hq with hq | hq
    ·exact Or.inr (Or.inr (Or.inr hq))
    ·omega
theorem takeOpening_bad {L:Nat} {w:World} {g:Nat} {b:Mt.PB} {so ao oo:Option Addr} {sc ac oc:Nat} (t:Mt.PT) (h:BAt L w g b so ao oo sc ac oc) (E:Int)
  (hE:(10≤b.opn.length∧E=8)∨(¬ 10≤b.opn.length∧t.group=1∧9≤b.groups∧E=9)) :
  Calls Try.prog 81 #[.pointer (some ⟨g,0,none⟩),ptV t] w fun e w'=>e=.returned (.int .i64 E)∧Below L w w':=by
 obtain ⟨_,_,_,_,c4,c5,_,_⟩:=h.cells
 have hg:g<w.heap.size:=(h.lt g (Or.inl rfl)).2
 have hL:L≤w.heap.size:=by have:=h.lo;omega
 clear h
 generalize b.opn.length=on at *
 generalize b.groups=gr at *
 unfold ptV ptA
 rcases hE with ⟨h1,rfl⟩ | ⟨h1,h2,h3,rfl⟩
 ·have b1:decide (10≤(on:Int))=true:=by simp;omega
  have b2:decide (10≤on)=true:=by simp;omega
  go_enter Try.func81,Try.ntmps81
  go_wp2_with fail
  go_returns
  exact ⟨rfl,((Below.refl _ _).alloc (Nat.le_refl _) _).mono hL⟩
 ·have b1:decide (10≤(on:Int))=false:=by simp;omega
  have b2:decide (10≤on)=false:=by simp;omega
  have b3:decide (9≤(gr:Int))=true:=by simp;omega
  have b4:decide (9≤gr)=true:=by simp;omega
  rw [h2]
  clear h2
  go_enter Try.func81,Try.ntmps81
  go_wp2_with fail
  go_returns
  exact ⟨rfl,((Below.refl _ _).alloc (Nat.le_refl _) _).mono hL⟩
end Go.Proofs.Ytebpgfodelggoab
