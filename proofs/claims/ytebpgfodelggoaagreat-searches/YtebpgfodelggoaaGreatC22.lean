import Derived.Test.YtebpgfodelggoaaGreatC21
set_option linter.unusedVariables false
set_option linter.unusedSimpArgs false
set_option maxRecDepth 100000
set_option maxHeartbeats 8000000
namespace Go.Proofs.YtebpgfodelggoaaGreat
open Go.RowKit
theorem zLb (KP:zFl) (o:Stp) (w:World) (hp:o.p.size≤maxLen) (ht:o.t.size≤maxLen) :
  Calls Tryz.prog 33 #[opV o] w fun e w'=>e=.returned (.bool true)∧Below w.heap.size w w':=by
 have KO:Hid (∀ z:World,Calls Tryz.prog 11 #[opV o] z fun e w'=>e=.returned (.agg #[.int .i64 o.policy,.int .i64 o.mask,.int .i64 o.room,.int .i64 o.budget])∧Below z.heap.size z w'):=fun z=>zJp o z
 have K1:Hid (∀ z:World,Calls Tryz.prog 10 #[.string o.p,.string o.t,.int .i64 o.frm,.agg #[.int .i64 o.policy,.int .i64 o.mask,.int .i64 o.room,.int .i64 o.budget]] z fun e w'=>e=.returned (.tuple #[fdV (Mt.zBc o.p o.t o.frm o.policy o.mask o.room o.budget).1,.int .i64 (Mt.zBc o.p o.t o.frm o.policy o.mask o.room o.budget).2])∧Below z.heap.size z w'):=fun z=>KP o.p o.t o.frm o.policy o.mask o.room o.budget z hp ht
 have K2:Hid (∀ z:World,Calls Tryz.prog 12 #[.string o.p,.string o.t,.int .i64 o.frm,.agg #[.int .i64 o.policy,.int .i64 o.mask,.int .i64 o.room,.int .i64 o.budget]] z fun e w'=>e=.returned (.tuple #[fdV (Mt.zBc o.p o.t o.frm o.policy o.mask o.room o.budget).1,.int .i64 (Mt.zBc o.p o.t o.frm o.policy o.mask o.room o.budget).2])∧Below z.heap.size z w'):=fun z=>zJn o.p o.t o.frm o.policy o.mask o.room o.budget z hp ht
 have HL:Hid ((Mt.zBc o.p o.t o.frm o.policy o.mask o.room o.budget).1.at'.length=20):=zMI _ _ _ _ _ _ _
 have KS:Hid (∀ z:World,Calls Tryz.prog 13 #[fdV (Mt.zBc o.p o.t o.frm o.policy o.mask o.room o.budget).1,fdV (Mt.zBc o.p o.t o.frm o.policy o.mask o.room o.budget).1] z fun e w'=>e=.returned (.bool true)∧Below z.heap.size z w'):=fun z=>zFY _ HL.out z
 generalize Mt.zBc o.p o.t o.frm o.policy o.mask o.room o.budget=R at *
 have hzf:Obj.cells #[Value.bool false,Value.int IntKind.i64 0,Value.int IntKind.i64 0,Value.int IntKind.i64 0,Value.int IntKind.i64 0,Value.int IntKind.i64 0,Value.int IntKind.i64 0,Value.int IntKind.i64 0,Value.int IntKind.i64 0,Value.int IntKind.i64 0,Value.int IntKind.i64 0,Value.int IntKind.i64 0,Value.int IntKind.i64 0,Value.int IntKind.i64 0,Value.int IntKind.i64 0,Value.int IntKind.i64 0,Value.int IntKind.i64 0,Value.int IntKind.i64 0,Value.int IntKind.i64 0,Value.int IntKind.i64 0,Value.int IntKind.i64 0,Value.int IntKind.i64 0] 29=zFd:=rfl
 have HN:Hid ((w.alloc (.cells (opA o) 26 (0,0))).heap[w.heap.size]?=some (.cells (opA o) 26 (0,0))):=heap_alloc_new _ _
 have HB:Below w.heap.size w (w.alloc (.cells (opA o) 26 (0,0))):=(Below.refl _ _).alloc (Nat.le_refl _) _
 have HSz:w.heap.size<(w.alloc (.cells (opA o) 26 (0,0))).heap.size:=by simp
 unfold opV
 go_enter Tryz.func33,Tryz.ntmps33
 go_upto_region 1 with fail
 generalize hW0:w.alloc (.cells (opA o) 26 (0,0))=W0 at *
 have SD:w.heap.size<W0.drew.heap.size:=HSz
 have ND:W0.drew.heap[w.heap.size]?=some (.cells (opA o) 26 (0,0)):=HN.out
 have BD:Below w.heap.size w W0.drew:=HB.drew
 go_cut [3,4] (fun s3 s4 wx=>s4=.int .i64 R.2∧∃ b,s3=.pointer (some ⟨b,0,none⟩)∧wx.heap[b]?=some (.cells (fdA R.1) 29 (0,0))∧wx.heap[w.heap.size]?=some (.cells (opA o) 26 (0,0))∧w.heap.size<b∧b<wx.heap.size∧Below w.heap.size w wx)
 case first =>
  have hc1:∀ z:World,z.heap[w.heap.size]?=some (.cells (opA o) 26 (0,0))→z.cell? ⟨w.heap.size,1,none⟩=some (.string o.p):=fun z hz=>(zA hz).1 1
  have hc2:∀ z:World,z.heap[w.heap.size]?=some (.cells (opA o) 26 (0,0))→z.cell? ⟨w.heap.size,2,none⟩=some (.string o.t):=fun z hz=>(zA hz).1 2
  have hc3:∀ z:World,z.heap[w.heap.size]?=some (.cells (opA o) 26 (0,0))→z.cell? ⟨w.heap.size,3,none⟩=some (.int .i64 o.frm):=fun z hz=>(zA hz).1 3
  have hcr:∀ z:World,z.heap[w.heap.size]?=some (.cells (opA o) 26 (0,0))→z.rangeAt w.heap.size 0 (opA o).toList:=fun z hz=>qY hz
  refine wp_region_held_drew (S:=fun z:World=>z.heap[w.heap.size]?=some (.cells (opA o) 26 (0,0))) (by kernel_rfl) HN.out (fun hHeld=>?_)
  refine take_at 0 9 (.pointer (some ⟨w.heap.size,1,none⟩)) rfl rfl (by kernel_rfl) (by kernel_rfl) (by kernel_rfl) (fun _ _ _ h=>h) (Or.inl ⟨by rfl,fun z hz=>by clear hz hHeld hc1 hc2 hc3 hcr;go_simp⟩) (by assumption) ?_
  simp only [Act.put,List.setIfInBounds_toArray,List.set_cons_zero,List.set_cons_succ]
  refine take_at 1 10 (.string o.p) rfl rfl (by kernel_rfl) (by kernel_rfl) (by kernel_rfl) (fun _ _ _ h=>h) (Or.inl ⟨by rfl,fun z hz=>by have h1:=hc1 z hz;have h2:=hc2 z hz;have h3:=hc3 z hz;clear hz hHeld hc1 hc2 hc3 hcr;go_simp⟩) (by assumption) ?_
  simp only [Act.put,List.setIfInBounds_toArray,List.set_cons_zero,List.set_cons_succ]
  refine take_at 2 11 (.pointer (some ⟨w.heap.size,2,none⟩)) rfl rfl (by kernel_rfl) (by kernel_rfl) (by kernel_rfl) (fun _ _ _ h=>h) (Or.inl ⟨by rfl,fun z hz=>by clear hz hHeld hc1 hc2 hc3 hcr;go_simp⟩) (by assumption) ?_
  simp only [Act.put,List.setIfInBounds_toArray,List.set_cons_zero,List.set_cons_succ]
  refine take_at 3 12 (.string o.t) rfl rfl (by kernel_rfl) (by kernel_rfl) (by kernel_rfl) (fun _ _ _ h=>h) (Or.inl ⟨by rfl,fun z hz=>by have h1:=hc1 z hz;have h2:=hc2 z hz;have h3:=hc3 z hz;clear hz hHeld hc1 hc2 hc3 hcr;go_simp⟩) (by assumption) ?_
  simp only [Act.put,List.setIfInBounds_toArray,List.set_cons_zero,List.set_cons_succ]
  refine take_at 4 13 (.pointer (some ⟨w.heap.size,3,none⟩)) rfl rfl (by kernel_rfl) (by kernel_rfl) (by kernel_rfl) (fun _ _ _ h=>h) (Or.inl ⟨by rfl,fun z hz=>by clear hz hHeld hc1 hc2 hc3 hcr;go_simp⟩) (by assumption) ?_
  simp only [Act.put,List.setIfInBounds_toArray,List.set_cons_zero,List.set_cons_succ]
  refine take_at 5 14 (.int .i64 o.frm) rfl rfl (by kernel_rfl) (by kernel_rfl) (by kernel_rfl) (fun _ _ _ h=>h) (Or.inl ⟨by rfl,fun z hz=>by have h1:=hc1 z hz;have h2:=hc2 z hz;have h3:=hc3 z hz;clear hz hHeld hc1 hc2 hc3 hcr;go_simp⟩) (by assumption) ?_
  simp only [Act.put,List.setIfInBounds_toArray,List.set_cons_zero,List.set_cons_succ]
  refine take_at 6 15 (opV o) rfl rfl (by kernel_rfl) (by kernel_rfl) (by kernel_rfl) (fun _ _ _ h=>h) (yieldsIf_load_mid (by rfl) _ _ rfl _ _ rfl _ _ hcr Tryz.underlying26 rfl (by rw [Tryz.sizeOp];rfl)) (by assumption) ?_
  simp only [Act.put,List.setIfInBounds_toArray,List.set_cons_zero,List.set_cons_succ]
  clear hc1 hc2 hc3 hcr hHeld
  refine wpAnyH_ready (rs:=[7,12]) (by kernel_rfl) (by simp) ?_
  refine AllReadyH.cons rfl (fun K hK=>?_) (AllReadyH.cons rfl (fun K hK=>?_) AllReadyH.nil)
  ·go_simp
   refine (KO.out W0.drew).mono ?_
   rintro e w1 ⟨rfl,hb⟩
   have Nw1:w1.heap[w.heap.size]?=some (.cells (opA o) 26 (0,0)):=(hb.block _ SD).trans ND
   have Sw1:w.heap.size<w1.heap.size:=by have:=hb.size;have:=SD;simp at *;omega
   have Bw1:Below w.heap.size w w1:=BD.trans (hb.mono (by have:=SD;have:=BD.size;simp at *;omega))
   go_simp
   refine hK.out _ _ Nw1 (fun hH=>?_)
   clear hK K
   refine wpAnyH_ready (rs:=[8,12]) (by kernel_rfl) (by simp) ?_
   refine AllReadyH.cons rfl (fun K hK=>?_) (AllReadyH.cons rfl (fun K hK=>?_) AllReadyH.nil)
   ·clear hb hH
    go_simp
    refine (K1.out w1).mono ?_
    rintro e w2 ⟨rfl,hb⟩
    have Nw2:w2.heap[w.heap.size]?=some (.cells (opA o) 26 (0,0)):=(hb.block _ Sw1).trans Nw1
    have Sw2:w.heap.size<w2.heap.size:=by have:=hb.size;have:=Sw1;simp at *;omega
    have Bw2:Below w.heap.size w w2:=Bw1.trans (hb.mono (by have:=Sw1;have:=Bw1.size;simp at *;omega))
    go_simp
    refine hK.out _ _ Nw2 (fun hH=>?_)
    clear hK K
    refine take_at 9 8 (.tuple #[fdV R.1,.int .i64 R.2]) rfl rfl (by kernel_rfl) (by kernel_rfl) (by kernel_rfl) (fun _ _ _ h=>h) (Or.inl ⟨by rfl,fun z hz=>by clear hz hH;go_simp⟩) (by assumption) ?_
    simp only [Act.put,List.setIfInBounds_toArray,List.set_cons_zero,List.set_cons_succ]
    refine take_at 10 18 (fdV R.1) rfl rfl (by kernel_rfl) (by kernel_rfl) (by kernel_rfl) (fun _ _ _ h=>h) (Or.inl ⟨by rfl,fun z hz=>by clear hz hH;go_simp⟩) (by assumption) ?_
    simp only [Act.put,List.setIfInBounds_toArray,List.set_cons_zero,List.set_cons_succ]
    refine take_at 11 19 (.int .i64 R.2) rfl rfl (by kernel_rfl) (by kernel_rfl) (by kernel_rfl) (fun _ _ _ h=>h) (Or.inl ⟨by rfl,fun z hz=>by clear hz hH;go_simp⟩) (by assumption) ?_
    simp only [Act.put,List.setIfInBounds_toArray,List.set_cons_zero,List.set_cons_succ]
    refine wpAnyH_ready (rs:=[12]) (by kernel_rfl) (by simp) ?_
    refine AllReadyH.cons rfl (fun K hK=>?_) AllReadyH.nil
    go_simp
    have Z:(w2.alloc zFd).heap[w2.heap.size]?=some (.cells (fdA Mt.yV) 29 (0,0)):=heap_alloc_new _ _
    have Nw3:(w2.alloc zFd).heap[w.heap.size]?=some (.cells (opA o) 26 (0,0)):=(zX _ _ _ Sw2).trans Nw2
    have Mb:w.heap.size≤w2.heap.size:=by have:=Bw2.size;have:=Sw2;omega
    have Bw3:Below w.heap.size w (w2.alloc zFd):=Bw2.alloc Mb _
    refine hK.out _ _ Nw3 (fun hH=>?_)
    clear hK K hb
    have Sw3:=Sw2
    generalize hb3:w2.heap.size=b3 at *
    generalize w2.alloc zFd=w3 at *
    have q:=Z
    refine zAi 13 _ rfl rfl (by kernel_rfl) _ _ _ rfl (b3) 0 (fdA R.1) (by kernel_rfl) (by kernel_rfl) (jN (zA q).1 (zA q).2 _ (by rw [zV _ HL.out,zV Mt.yV rfl];exact Nat.le_refl _)) (by rw [Tryz.size57,zV _ HL.out]) (zBd _) rfl ?_
    have r1:=qI q (fdA R.1) (by rw [zV _ HL.out,zV Mt.yV rfl])
    have r2:=(kZ (b3) (fdA R.1).toList 0 w3 w.heap.size (by omega)).trans Nw3
    have r4:=below_setCells (b3) (fdA R.1).toList 0 w3 w.heap.size (by omega)
    have r5:(b3)<w3.heap.size:=(Array.getElem?_eq_some_iff.1 q).1
    have r6:(b3)<(World.setCells w3 (b3) 0 (fdA R.1).toList).heap.size:=by rw [r4.2];exact r5
    have r7:=Bw3.trans r4.1
    generalize World.setCells w3 (b3) 0 (fdA R.1).toList=W9 at *
    refine ⟨r2,?_⟩
    have hH:=r2
    refine take_at 14 4 (.int .i64 R.2) rfl rfl (by kernel_rfl) (by kernel_rfl) (by kernel_rfl) (fun _ _ _ h=>h) (Or.inl ⟨by rfl,fun z hz=>by clear hz hH;go_simp⟩) (by assumption) ?_
    simp only [Act.put,List.setIfInBounds_toArray,List.set_cons_zero,List.set_cons_succ]
    refine wpAnyH_done (by kernel_rfl) ?_ _
    go_wp2_with fail
    go_meet
    exact ⟨rfl,_,rfl,r1,r2,by omega,r6,r7⟩
   ·clear hb hH
    go_simp
    have Z:(w1.alloc zFd).heap[w1.heap.size]?=some (.cells (fdA Mt.yV) 29 (0,0)):=heap_alloc_new _ _
    have Nw2:(w1.alloc zFd).heap[w.heap.size]?=some (.cells (opA o) 26 (0,0)):=(zX _ _ _ Sw1).trans Nw1
    have Mb:w.heap.size≤w1.heap.size:=by have:=Bw1.size;have:=Sw1;omega
    have Bw2:Below w.heap.size w (w1.alloc zFd):=Bw1.alloc Mb _
    have zTt:(w1.alloc zFd).heap.size=w1.heap.size+1:=by simp
    refine hK.out _ _ Nw2 (fun hH=>?_)
    clear hK K
    have Sw2:w.heap.size<(w1.alloc zFd).heap.size:=by have:=Sw1;simp at *;omega
    have Zb:w.heap.size<w1.heap.size:=by have:=Sw1;simp at *;omega
    generalize hbb:w1.heap.size=b3 at *
    generalize w1.alloc zFd=w2 at *
    refine wpAnyH_ready (rs:=[8]) (by kernel_rfl) (by simp) ?_
    refine AllReadyH.cons rfl (fun K hK=>?_) AllReadyH.nil
    clear hH
    go_simp
    refine (K1.out w2).mono ?_
    rintro e w3 ⟨rfl,hb⟩
    have Nw3:w3.heap[w.heap.size]?=some (.cells (opA o) 26 (0,0)):=(hb.block _ Sw2).trans Nw2
    have Sw3:w.heap.size<w3.heap.size:=by have:=hb.size;have:=Sw2;simp at *;omega
    have Bw3:Below w.heap.size w w3:=Bw2.trans (hb.mono (by have:=Sw2;have:=Bw2.size;simp at *;omega))
    have Z3:w3.heap[b3]?=some (.cells (fdA Mt.yV) 29 (0,0)):=(hb.block _ (by omega)).trans Z
    go_simp
    refine hK.out _ _ Nw3 (fun hH=>?_)
    clear hK K
    clear hb Z
    have Z:=Z3
    refine take_at 9 8 (.tuple #[fdV R.1,.int .i64 R.2]) rfl rfl (by kernel_rfl) (by kernel_rfl) (by kernel_rfl) (fun _ _ _ h=>h) (Or.inl ⟨by rfl,fun z hz=>by clear hz hH;go_simp⟩) (by assumption) ?_
    simp only [Act.put,List.setIfInBounds_toArray,List.set_cons_zero,List.set_cons_succ]
    refine take_at 10 18 (fdV R.1) rfl rfl (by kernel_rfl) (by kernel_rfl) (by kernel_rfl) (fun _ _ _ h=>h) (Or.inl ⟨by rfl,fun z hz=>by clear hz hH;go_simp⟩) (by assumption) ?_
    simp only [Act.put,List.setIfInBounds_toArray,List.set_cons_zero,List.set_cons_succ]
    refine take_at 11 19 (.int .i64 R.2) rfl rfl (by kernel_rfl) (by kernel_rfl) (by kernel_rfl) (fun _ _ _ h=>h) (Or.inl ⟨by rfl,fun z hz=>by clear hz hH;go_simp⟩) (by assumption) ?_
    simp only [Act.put,List.setIfInBounds_toArray,List.set_cons_zero,List.set_cons_succ]
    have q:=Z
    refine zAi 13 _ rfl rfl (by kernel_rfl) _ _ _ rfl (b3) 0 (fdA R.1) (by kernel_rfl) (by kernel_rfl) (jN (zA q).1 (zA q).2 _ (by rw [zV _ HL.out,zV Mt.yV rfl];exact Nat.le_refl _)) (by rw [Tryz.size57,zV _ HL.out]) (zBd _) rfl ?_
    have r1:=qI q (fdA R.1) (by rw [zV _ HL.out,zV Mt.yV rfl])
    have r2:=(kZ (b3) (fdA R.1).toList 0 w3 w.heap.size (by omega)).trans Nw3
    have r4:=below_setCells (b3) (fdA R.1).toList 0 w3 w.heap.size (by omega)
    have r5:(b3)<w3.heap.size:=(Array.getElem?_eq_some_iff.1 q).1
    have r6:(b3)<(World.setCells w3 (b3) 0 (fdA R.1).toList).heap.size:=by rw [r4.2];exact r5
    have r7:=Bw3.trans r4.1
    generalize World.setCells w3 (b3) 0 (fdA R.1).toList=W9 at *
    refine ⟨r2,?_⟩
    have hH:=r2
    refine take_at 14 4 (.int .i64 R.2) rfl rfl (by kernel_rfl) (by kernel_rfl) (by kernel_rfl) (fun _ _ _ h=>h) (Or.inl ⟨by rfl,fun z hz=>by clear hz hH;go_simp⟩) (by assumption) ?_
    simp only [Act.put,List.setIfInBounds_toArray,List.set_cons_zero,List.set_cons_succ]
    refine wpAnyH_done (by kernel_rfl) ?_ _
    go_wp2_with fail
    go_meet
    exact ⟨rfl,_,rfl,r1,r2,by omega,r6,r7⟩
  ·go_simp
   have Z:(W0.alloc zFd).drew.heap[W0.heap.size]?=some (.cells (fdA Mt.yV) 29 (0,0)):=heap_alloc_new _ _
   have Nw1:(W0.alloc zFd).drew.heap[w.heap.size]?=some (.cells (opA o) 26 (0,0)):=(zX _ _ _ HSz).trans HN.out
   have Mb:w.heap.size≤W0.heap.size:=by have:=HB.size;have:=HSz;omega
   have Bw1:Below w.heap.size w (W0.alloc zFd).drew:=(HB.alloc Mb _).drew
   have zSq:(W0.alloc zFd).drew.heap.size=W0.heap.size+1:=by simp
   refine hK.out _ _ Nw1 (fun hH=>?_)
   clear hK K
   have Sw1:w.heap.size<(W0.alloc zFd).drew.heap.size:=by rw [zSq];omega
   have Zb:w.heap.size<W0.heap.size:=HSz
   generalize hbb:W0.heap.size=b3 at *
   generalize (W0.alloc zFd).drew=w1 at *
   refine wpAnyH_ready (rs:=[7]) (by kernel_rfl) (by simp) ?_
   refine AllReadyH.cons rfl (fun K hK=>?_) AllReadyH.nil
   clear hH
   go_simp
   refine (KO.out w1).mono ?_
   rintro e w2 ⟨rfl,hb⟩
   have Nw2:w2.heap[w.heap.size]?=some (.cells (opA o) 26 (0,0)):=(hb.block _ Sw1).trans Nw1
   have Sw2:w.heap.size<w2.heap.size:=by have:=hb.size;have:=Sw1;simp at *;omega
   have Bw2:Below w.heap.size w w2:=Bw1.trans (hb.mono (by have:=Sw1;have:=Bw1.size;simp at *;omega))
   have Z2:w2.heap[b3]?=some (.cells (fdA Mt.yV) 29 (0,0)):=(hb.block _ (by omega)).trans Z
   have hsz2:=hb.size
   go_simp
   refine hK.out _ _ Nw2 (fun hH=>?_)
   clear hK K
   clear hb Z
   refine wpAnyH_ready (rs:=[8]) (by kernel_rfl) (by simp) ?_
   refine AllReadyH.cons rfl (fun K hK=>?_) AllReadyH.nil
   clear hH
   go_simp
   refine (K1.out w2).mono ?_
   rintro e w3 ⟨rfl,hb⟩
   have Nw3:w3.heap[w.heap.size]?=some (.cells (opA o) 26 (0,0)):=(hb.block _ Sw2).trans Nw2
   have Sw3:w.heap.size<w3.heap.size:=by have:=hb.size;have:=Sw2;simp at *;omega
   have Bw3:Below w.heap.size w w3:=Bw2.trans (hb.mono (by have:=Sw2;have:=Bw2.size;simp at *;omega))
   have Z:w3.heap[b3]?=some (.cells (fdA Mt.yV) 29 (0,0)):=(hb.block _ (by omega)).trans Z2
   go_simp
   refine hK.out _ _ Nw3 (fun hH=>?_)
   clear hK K
   clear hb Z2
   refine take_at 9 8 (.tuple #[fdV R.1,.int .i64 R.2]) rfl rfl (by kernel_rfl) (by kernel_rfl) (by kernel_rfl) (fun _ _ _ h=>h) (Or.inl ⟨by rfl,fun z hz=>by clear hz hH;go_simp⟩) (by assumption) ?_
   simp only [Act.put,List.setIfInBounds_toArray,List.set_cons_zero,List.set_cons_succ]
   refine take_at 10 18 (fdV R.1) rfl rfl (by kernel_rfl) (by kernel_rfl) (by kernel_rfl) (fun _ _ _ h=>h) (Or.inl ⟨by rfl,fun z hz=>by clear hz hH;go_simp⟩) (by assumption) ?_
   simp only [Act.put,List.setIfInBounds_toArray,List.set_cons_zero,List.set_cons_succ]
   refine take_at 11 19 (.int .i64 R.2) rfl rfl (by kernel_rfl) (by kernel_rfl) (by kernel_rfl) (fun _ _ _ h=>h) (Or.inl ⟨by rfl,fun z hz=>by clear hz hH;go_simp⟩) (by assumption) ?_
   simp only [Act.put,List.setIfInBounds_toArray,List.set_cons_zero,List.set_cons_succ]
   have q:=Z
   refine zAi 13 _ rfl rfl (by kernel_rfl) _ _ _ rfl (b3) 0 (fdA R.1) (by kernel_rfl) (by kernel_rfl) (jN (zA q).1 (zA q).2 _ (by rw [zV _ HL.out,zV Mt.yV rfl];exact Nat.le_refl _)) (by rw [Tryz.size57,zV _ HL.out]) (zBd _) rfl ?_
   have r1:=qI q (fdA R.1) (by rw [zV _ HL.out,zV Mt.yV rfl])
   have r2:=(kZ (b3) (fdA R.1).toList 0 w3 w.heap.size (by omega)).trans Nw3
   have r4:=below_setCells (b3) (fdA R.1).toList 0 w3 w.heap.size (by omega)
   have r5:(b3)<w3.heap.size:=(Array.getElem?_eq_some_iff.1 q).1
   have r6:(b3)<(World.setCells w3 (b3) 0 (fdA R.1).toList).heap.size:=by rw [r4.2];exact r5
   have r7:=Bw3.trans r4.1
   generalize World.setCells w3 (b3) 0 (fdA R.1).toList=W9 at *
   refine ⟨r2,?_⟩
   have hH:=r2
   refine take_at 14 4 (.int .i64 R.2) rfl rfl (by kernel_rfl) (by kernel_rfl) (by kernel_rfl) (fun _ _ _ h=>h) (Or.inl ⟨by rfl,fun z hz=>by clear hz hH;go_simp⟩) (by assumption) ?_
   simp only [Act.put,List.setIfInBounds_toArray,List.set_cons_zero,List.set_cons_succ]
   refine wpAnyH_done (by kernel_rfl) ?_ _
   go_wp2_with fail
   go_meet
   exact ⟨rfl,_,rfl,r1,r2,by omega,r6,r7⟩
 case rest =>
 obtain ⟨rfl,b1,rfl,V1,V2,lb1,lb2,VB⟩:=hcut
 obtain ⟨V0,rfl⟩:∃ V0:World,V0=wc:=⟨_,rfl⟩
 clear HB SD ND BD HSz HN hW0 W0
 have HV1:Hid (V0.heap[b1]?=some (.cells (fdA R.1) 29 (0,0))):=V1
 have HVB:Hid (Below w.heap.size w V0):=VB
 obtain ⟨W0,hW0⟩:∃ W0,W0=V0:=⟨_,rfl⟩
 have HN:Hid (W0.heap[w.heap.size]?=some (.cells (opA o) 26 (0,0))):=by show _=_;rw [hW0];exact V2
 have HB:Below V0.heap.size V0 W0:=by rw [hW0];exact Below.refl _ _
 have HSz:w.heap.size<W0.heap.size:=by rw [hW0];omega
 have SD:w.heap.size<W0.drew.heap.size:=HSz
 have ND:W0.drew.heap[w.heap.size]?=some (.cells (opA o) 26 (0,0)):=HN.out
 have BD:Below V0.heap.size V0 W0.drew:=HB.drew
 rw [← hW0]
 have HW0:Hid (W0=V0):=hW0
 clear V1 V2 VB hW0
 go_upto_region 2 with fail
 go_cut [5,6] (fun s5 s6 wx=>s6=.int .i64 R.2∧∃ b,s5=.pointer (some ⟨b,0,none⟩)∧wx.heap[b]?=some (.cells (fdA R.1) 29 (0,0))∧V0.heap.size≤b∧b<wx.heap.size∧Below V0.heap.size V0 wx)
 case first =>
  have hc1:∀ z:World,z.heap[w.heap.size]?=some (.cells (opA o) 26 (0,0))→z.cell? ⟨w.heap.size,1,none⟩=some (.string o.p):=fun z hz=>(zA hz).1 1
  have hc2:∀ z:World,z.heap[w.heap.size]?=some (.cells (opA o) 26 (0,0))→z.cell? ⟨w.heap.size,2,none⟩=some (.string o.t):=fun z hz=>(zA hz).1 2
  have hc3:∀ z:World,z.heap[w.heap.size]?=some (.cells (opA o) 26 (0,0))→z.cell? ⟨w.heap.size,3,none⟩=some (.int .i64 o.frm):=fun z hz=>(zA hz).1 3
  have hcr:∀ z:World,z.heap[w.heap.size]?=some (.cells (opA o) 26 (0,0))→z.rangeAt w.heap.size 0 (opA o).toList:=fun z hz=>qY hz
  refine wp_region_held_drew (S:=fun z:World=>z.heap[w.heap.size]?=some (.cells (opA o) 26 (0,0))) (by kernel_rfl) HN.out (fun hHeld=>?_)
  refine take_at 0 21 (.pointer (some ⟨w.heap.size,1,none⟩)) rfl rfl (by kernel_rfl) (by kernel_rfl) (by kernel_rfl) (fun _ _ _ h=>h) (Or.inl ⟨by rfl,fun z hz=>by clear hz hHeld hc1 hc2 hc3 hcr;go_simp⟩) (by assumption) ?_
  simp only [Act.put,List.setIfInBounds_toArray,List.set_cons_zero,List.set_cons_succ]
  refine take_at 1 22 (.string o.p) rfl rfl (by kernel_rfl) (by kernel_rfl) (by kernel_rfl) (fun _ _ _ h=>h) (Or.inl ⟨by rfl,fun z hz=>by have h1:=hc1 z hz;have h2:=hc2 z hz;have h3:=hc3 z hz;clear hz hHeld hc1 hc2 hc3 hcr;go_simp⟩) (by assumption) ?_
  simp only [Act.put,List.setIfInBounds_toArray,List.set_cons_zero,List.set_cons_succ]
  refine take_at 2 23 (.pointer (some ⟨w.heap.size,2,none⟩)) rfl rfl (by kernel_rfl) (by kernel_rfl) (by kernel_rfl) (fun _ _ _ h=>h) (Or.inl ⟨by rfl,fun z hz=>by clear hz hHeld hc1 hc2 hc3 hcr;go_simp⟩) (by assumption) ?_
  simp only [Act.put,List.setIfInBounds_toArray,List.set_cons_zero,List.set_cons_succ]
  refine take_at 3 24 (.string o.t) rfl rfl (by kernel_rfl) (by kernel_rfl) (by kernel_rfl) (fun _ _ _ h=>h) (Or.inl ⟨by rfl,fun z hz=>by have h1:=hc1 z hz;have h2:=hc2 z hz;have h3:=hc3 z hz;clear hz hHeld hc1 hc2 hc3 hcr;go_simp⟩) (by assumption) ?_
  simp only [Act.put,List.setIfInBounds_toArray,List.set_cons_zero,List.set_cons_succ]
  refine take_at 4 25 (.pointer (some ⟨w.heap.size,3,none⟩)) rfl rfl (by kernel_rfl) (by kernel_rfl) (by kernel_rfl) (fun _ _ _ h=>h) (Or.inl ⟨by rfl,fun z hz=>by clear hz hHeld hc1 hc2 hc3 hcr;go_simp⟩) (by assumption) ?_
  simp only [Act.put,List.setIfInBounds_toArray,List.set_cons_zero,List.set_cons_succ]
  refine take_at 5 26 (.int .i64 o.frm) rfl rfl (by kernel_rfl) (by kernel_rfl) (by kernel_rfl) (fun _ _ _ h=>h) (Or.inl ⟨by rfl,fun z hz=>by have h1:=hc1 z hz;have h2:=hc2 z hz;have h3:=hc3 z hz;clear hz hHeld hc1 hc2 hc3 hcr;go_simp⟩) (by assumption) ?_
  simp only [Act.put,List.setIfInBounds_toArray,List.set_cons_zero,List.set_cons_succ]
  refine take_at 6 27 (opV o) rfl rfl (by kernel_rfl) (by kernel_rfl) (by kernel_rfl) (fun _ _ _ h=>h) (yieldsIf_load_mid (by rfl) _ _ rfl _ _ rfl _ _ hcr Tryz.underlying26 rfl (by rw [Tryz.sizeOp];rfl)) (by assumption) ?_
  simp only [Act.put,List.setIfInBounds_toArray,List.set_cons_zero,List.set_cons_succ]
  clear hc1 hc2 hc3 hcr hHeld
  refine wpAnyH_ready (rs:=[7,12]) (by kernel_rfl) (by simp) ?_
  refine AllReadyH.cons rfl (fun K hK=>?_) (AllReadyH.cons rfl (fun K hK=>?_) AllReadyH.nil)
  ·go_simp
   refine (KO.out W0.drew).mono ?_
   rintro e w1 ⟨rfl,hb⟩
   have Nw1:w1.heap[w.heap.size]?=some (.cells (opA o) 26 (0,0)):=(hb.block _ SD).trans ND
   have Sw1:w.heap.size<w1.heap.size:=by have:=hb.size;have:=SD;simp at *;omega
   have Bw1:Below V0.heap.size V0 w1:=BD.trans (hb.mono (by have:=SD;have:=BD.size;simp at *;omega))
   go_simp
   refine hK.out _ _ Nw1 (fun hH=>?_)
   clear hK K
   refine wpAnyH_ready (rs:=[8,12]) (by kernel_rfl) (by simp) ?_
   refine AllReadyH.cons rfl (fun K hK=>?_) (AllReadyH.cons rfl (fun K hK=>?_) AllReadyH.nil)
   ·clear hb hH
    go_simp
    refine (K2.out w1).mono ?_
    rintro e w2 ⟨rfl,hb⟩
    have Nw2:w2.heap[w.heap.size]?=some (.cells (opA o) 26 (0,0)):=(hb.block _ Sw1).trans Nw1
    have Sw2:w.heap.size<w2.heap.size:=by have:=hb.size;have:=Sw1;simp at *;omega
    have Bw2:Below V0.heap.size V0 w2:=Bw1.trans (hb.mono (by have:=Sw1;have:=Bw1.size;simp at *;omega))
    go_simp
    refine hK.out _ _ Nw2 (fun hH=>?_)
    clear hK K
    refine take_at 9 20 (.tuple #[fdV R.1,.int .i64 R.2]) rfl rfl (by kernel_rfl) (by kernel_rfl) (by kernel_rfl) (fun _ _ _ h=>h) (Or.inl ⟨by rfl,fun z hz=>by clear hz hH;go_simp⟩) (by assumption) ?_
    simp only [Act.put,List.setIfInBounds_toArray,List.set_cons_zero,List.set_cons_succ]
    refine take_at 10 30 (fdV R.1) rfl rfl (by kernel_rfl) (by kernel_rfl) (by kernel_rfl) (fun _ _ _ h=>h) (Or.inl ⟨by rfl,fun z hz=>by clear hz hH;go_simp⟩) (by assumption) ?_
    simp only [Act.put,List.setIfInBounds_toArray,List.set_cons_zero,List.set_cons_succ]
    refine take_at 11 31 (.int .i64 R.2) rfl rfl (by kernel_rfl) (by kernel_rfl) (by kernel_rfl) (fun _ _ _ h=>h) (Or.inl ⟨by rfl,fun z hz=>by clear hz hH;go_simp⟩) (by assumption) ?_
    simp only [Act.put,List.setIfInBounds_toArray,List.set_cons_zero,List.set_cons_succ]
    refine wpAnyH_ready (rs:=[12]) (by kernel_rfl) (by simp) ?_
    refine AllReadyH.cons rfl (fun K hK=>?_) AllReadyH.nil
    go_simp
    have Z:(w2.alloc zFd).heap[w2.heap.size]?=some (.cells (fdA Mt.yV) 29 (0,0)):=heap_alloc_new _ _
    have Nw3:(w2.alloc zFd).heap[w.heap.size]?=some (.cells (opA o) 26 (0,0)):=(zX _ _ _ Sw2).trans Nw2
    have Mb:V0.heap.size≤w2.heap.size:=by have:=Bw2.size;have:=Sw2;omega
    have Bw3:Below V0.heap.size V0 (w2.alloc zFd):=Bw2.alloc Mb _
    refine hK.out _ _ Nw3 (fun hH=>?_)
    clear hK K hb
    have Sw3:=Sw2
    generalize hb3:w2.heap.size=b3 at *
    generalize w2.alloc zFd=w3 at *
    have q:=Z
    refine zAi 13 _ rfl rfl (by kernel_rfl) _ _ _ rfl (b3) 0 (fdA R.1) (by kernel_rfl) (by kernel_rfl) (jN (zA q).1 (zA q).2 _ (by rw [zV _ HL.out,zV Mt.yV rfl];exact Nat.le_refl _)) (by rw [Tryz.size57,zV _ HL.out]) (zBd _) rfl ?_
    have r1:=qI q (fdA R.1) (by rw [zV _ HL.out,zV Mt.yV rfl])
    have r2:=(kZ (b3) (fdA R.1).toList 0 w3 w.heap.size (by omega)).trans Nw3
    have r4:=below_setCells (b3) (fdA R.1).toList 0 w3 V0.heap.size (by omega)
    have r5:(b3)<w3.heap.size:=(Array.getElem?_eq_some_iff.1 q).1
    have r6:(b3)<(World.setCells w3 (b3) 0 (fdA R.1).toList).heap.size:=by rw [r4.2];exact r5
    have r7:=Bw3.trans r4.1
    generalize World.setCells w3 (b3) 0 (fdA R.1).toList=W9 at *
    refine ⟨r2,?_⟩
    have hH:=r2
    refine take_at 14 6 (.int .i64 R.2) rfl rfl (by kernel_rfl) (by kernel_rfl) (by kernel_rfl) (fun _ _ _ h=>h) (Or.inl ⟨by rfl,fun z hz=>by clear hz hH;go_simp⟩) (by assumption) ?_
    simp only [Act.put,List.setIfInBounds_toArray,List.set_cons_zero,List.set_cons_succ]
    refine wpAnyH_done (by kernel_rfl) ?_ _
    go_wp2_with fail
    go_meet
    exact ⟨rfl,_,rfl,r1,by omega,r6,r7⟩
   ·clear hb hH
    go_simp
    have Z:(w1.alloc zFd).heap[w1.heap.size]?=some (.cells (fdA Mt.yV) 29 (0,0)):=heap_alloc_new _ _
    have Nw2:(w1.alloc zFd).heap[w.heap.size]?=some (.cells (opA o) 26 (0,0)):=(zX _ _ _ Sw1).trans Nw1
    have Mb:V0.heap.size≤w1.heap.size:=by have:=Bw1.size;have:=Sw1;omega
    have Bw2:Below V0.heap.size V0 (w1.alloc zFd):=Bw1.alloc Mb _
    have zTt:(w1.alloc zFd).heap.size=w1.heap.size+1:=by simp
    refine hK.out _ _ Nw2 (fun hH=>?_)
    clear hK K
    have Sw2:w.heap.size<(w1.alloc zFd).heap.size:=by have:=Sw1;simp at *;omega
    have Zb:w.heap.size<w1.heap.size:=by have:=Sw1;simp at *;omega
    generalize hbb:w1.heap.size=b3 at *
    generalize w1.alloc zFd=w2 at *
    refine wpAnyH_ready (rs:=[8]) (by kernel_rfl) (by simp) ?_
    refine AllReadyH.cons rfl (fun K hK=>?_) AllReadyH.nil
    clear hH
    go_simp
    refine (K2.out w2).mono ?_
    rintro e w3 ⟨rfl,hb⟩
    have Nw3:w3.heap[w.heap.size]?=some (.cells (opA o) 26 (0,0)):=(hb.block _ Sw2).trans Nw2
    have Sw3:w.heap.size<w3.heap.size:=by have:=hb.size;have:=Sw2;simp at *;omega
    have Bw3:Below V0.heap.size V0 w3:=Bw2.trans (hb.mono (by have:=Sw2;have:=Bw2.size;simp at *;omega))
    have Z3:w3.heap[b3]?=some (.cells (fdA Mt.yV) 29 (0,0)):=(hb.block _ (by omega)).trans Z
    go_simp
    refine hK.out _ _ Nw3 (fun hH=>?_)
    clear hK K
    clear hb Z
    have Z:=Z3
    refine take_at 9 20 (.tuple #[fdV R.1,.int .i64 R.2]) rfl rfl (by kernel_rfl) (by kernel_rfl) (by kernel_rfl) (fun _ _ _ h=>h) (Or.inl ⟨by rfl,fun z hz=>by clear hz hH;go_simp⟩) (by assumption) ?_
    simp only [Act.put,List.setIfInBounds_toArray,List.set_cons_zero,List.set_cons_succ]
    refine take_at 10 30 (fdV R.1) rfl rfl (by kernel_rfl) (by kernel_rfl) (by kernel_rfl) (fun _ _ _ h=>h) (Or.inl ⟨by rfl,fun z hz=>by clear hz hH;go_simp⟩) (by assumption) ?_
    simp only [Act.put,List.setIfInBounds_toArray,List.set_cons_zero,List.set_cons_succ]
    refine take_at 11 31 (.int .i64 R.2) rfl rfl (by kernel_rfl) (by kernel_rfl) (by kernel_rfl) (fun _ _ _ h=>h) (Or.inl ⟨by rfl,fun z hz=>by clear hz hH;go_simp⟩) (by assumption) ?_
    simp only [Act.put,List.setIfInBounds_toArray,List.set_cons_zero,List.set_cons_succ]
    have q:=Z
    refine zAi 13 _ rfl rfl (by kernel_rfl) _ _ _ rfl (b3) 0 (fdA R.1) (by kernel_rfl) (by kernel_rfl) (jN (zA q).1 (zA q).2 _ (by rw [zV _ HL.out,zV Mt.yV rfl];exact Nat.le_refl _)) (by rw [Tryz.size57,zV _ HL.out]) (zBd _) rfl ?_
    have r1:=qI q (fdA R.1) (by rw [zV _ HL.out,zV Mt.yV rfl])
    have r2:=(kZ (b3) (fdA R.1).toList 0 w3 w.heap.size (by omega)).trans Nw3
    have r4:=below_setCells (b3) (fdA R.1).toList 0 w3 V0.heap.size (by omega)
    have r5:(b3)<w3.heap.size:=(Array.getElem?_eq_some_iff.1 q).1
    have r6:(b3)<(World.setCells w3 (b3) 0 (fdA R.1).toList).heap.size:=by rw [r4.2];exact r5
    have r7:=Bw3.trans r4.1
    generalize World.setCells w3 (b3) 0 (fdA R.1).toList=W9 at *
    refine ⟨r2,?_⟩
    have hH:=r2
    refine take_at 14 6 (.int .i64 R.2) rfl rfl (by kernel_rfl) (by kernel_rfl) (by kernel_rfl) (fun _ _ _ h=>h) (Or.inl ⟨by rfl,fun z hz=>by clear hz hH;go_simp⟩) (by assumption) ?_
    simp only [Act.put,List.setIfInBounds_toArray,List.set_cons_zero,List.set_cons_succ]
    refine wpAnyH_done (by kernel_rfl) ?_ _
    go_wp2_with fail
    go_meet
    exact ⟨rfl,_,rfl,r1,by omega,r6,r7⟩
  ·go_simp
   have Z:(W0.alloc zFd).drew.heap[W0.heap.size]?=some (.cells (fdA Mt.yV) 29 (0,0)):=heap_alloc_new _ _
   have Nw1:(W0.alloc zFd).drew.heap[w.heap.size]?=some (.cells (opA o) 26 (0,0)):=(zX _ _ _ HSz).trans HN.out
   have Mb:V0.heap.size≤W0.heap.size:=by have:=HB.size;have:=HSz;omega
   have Bw1:Below V0.heap.size V0 (W0.alloc zFd).drew:=(HB.alloc Mb _).drew
   have zSq:(W0.alloc zFd).drew.heap.size=W0.heap.size+1:=by simp
   refine hK.out _ _ Nw1 (fun hH=>?_)
   clear hK K
   have Sw1:w.heap.size<(W0.alloc zFd).drew.heap.size:=by rw [zSq];omega
   have Zb:w.heap.size<W0.heap.size:=HSz
   generalize hbb:W0.heap.size=b3 at *
   generalize (W0.alloc zFd).drew=w1 at *
   refine wpAnyH_ready (rs:=[7]) (by kernel_rfl) (by simp) ?_
   refine AllReadyH.cons rfl (fun K hK=>?_) AllReadyH.nil
   clear hH
   go_simp
   refine (KO.out w1).mono ?_
   rintro e w2 ⟨rfl,hb⟩
   have Nw2:w2.heap[w.heap.size]?=some (.cells (opA o) 26 (0,0)):=(hb.block _ Sw1).trans Nw1
   have Sw2:w.heap.size<w2.heap.size:=by have:=hb.size;have:=Sw1;simp at *;omega
   have Bw2:Below V0.heap.size V0 w2:=Bw1.trans (hb.mono (by have:=Sw1;have:=Bw1.size;simp at *;omega))
   have Z2:w2.heap[b3]?=some (.cells (fdA Mt.yV) 29 (0,0)):=(hb.block _ (by omega)).trans Z
   have hsz2:=hb.size
   go_simp
   refine hK.out _ _ Nw2 (fun hH=>?_)
   clear hK K
   clear hb Z
   refine wpAnyH_ready (rs:=[8]) (by kernel_rfl) (by simp) ?_
   refine AllReadyH.cons rfl (fun K hK=>?_) AllReadyH.nil
   clear hH
   go_simp
   refine (K2.out w2).mono ?_
   rintro e w3 ⟨rfl,hb⟩
   have Nw3:w3.heap[w.heap.size]?=some (.cells (opA o) 26 (0,0)):=(hb.block _ Sw2).trans Nw2
   have Sw3:w.heap.size<w3.heap.size:=by have:=hb.size;have:=Sw2;simp at *;omega
   have Bw3:Below V0.heap.size V0 w3:=Bw2.trans (hb.mono (by have:=Sw2;have:=Bw2.size;simp at *;omega))
   have Z:w3.heap[b3]?=some (.cells (fdA Mt.yV) 29 (0,0)):=(hb.block _ (by omega)).trans Z2
   go_simp
   refine hK.out _ _ Nw3 (fun hH=>?_)
   clear hK K
   clear hb Z2
   refine take_at 9 20 (.tuple #[fdV R.1,.int .i64 R.2]) rfl rfl (by kernel_rfl) (by kernel_rfl) (by kernel_rfl) (fun _ _ _ h=>h) (Or.inl ⟨by rfl,fun z hz=>by clear hz hH;go_simp⟩) (by assumption) ?_
   simp only [Act.put,List.setIfInBounds_toArray,List.set_cons_zero,List.set_cons_succ]
   refine take_at 10 30 (fdV R.1) rfl rfl (by kernel_rfl) (by kernel_rfl) (by kernel_rfl) (fun _ _ _ h=>h) (Or.inl ⟨by rfl,fun z hz=>by clear hz hH;go_simp⟩) (by assumption) ?_
   simp only [Act.put,List.setIfInBounds_toArray,List.set_cons_zero,List.set_cons_succ]
   refine take_at 11 31 (.int .i64 R.2) rfl rfl (by kernel_rfl) (by kernel_rfl) (by kernel_rfl) (fun _ _ _ h=>h) (Or.inl ⟨by rfl,fun z hz=>by clear hz hH;go_simp⟩) (by assumption) ?_
   simp only [Act.put,List.setIfInBounds_toArray,List.set_cons_zero,List.set_cons_succ]
   have q:=Z
   refine zAi 13 _ rfl rfl (by kernel_rfl) _ _ _ rfl (b3) 0 (fdA R.1) (by kernel_rfl) (by kernel_rfl) (jN (zA q).1 (zA q).2 _ (by rw [zV _ HL.out,zV Mt.yV rfl];exact Nat.le_refl _)) (by rw [Tryz.size57,zV _ HL.out]) (zBd _) rfl ?_
   have r1:=qI q (fdA R.1) (by rw [zV _ HL.out,zV Mt.yV rfl])
   have r2:=(kZ (b3) (fdA R.1).toList 0 w3 w.heap.size (by omega)).trans Nw3
   have r4:=below_setCells (b3) (fdA R.1).toList 0 w3 V0.heap.size (by omega)
   have r5:(b3)<w3.heap.size:=(Array.getElem?_eq_some_iff.1 q).1
   have r6:(b3)<(World.setCells w3 (b3) 0 (fdA R.1).toList).heap.size:=by rw [r4.2];exact r5
   have r7:=Bw3.trans r4.1
   generalize World.setCells w3 (b3) 0 (fdA R.1).toList=W9 at *
   refine ⟨r2,?_⟩
   have hH:=r2
   refine take_at 14 6 (.int .i64 R.2) rfl rfl (by kernel_rfl) (by kernel_rfl) (by kernel_rfl) (fun _ _ _ h=>h) (Or.inl ⟨by rfl,fun z hz=>by clear hz hH;go_simp⟩) (by assumption) ?_
   simp only [Act.put,List.setIfInBounds_toArray,List.set_cons_zero,List.set_cons_succ]
   refine wpAnyH_done (by kernel_rfl) ?_ _
   go_wp2_with fail
   go_meet
   exact ⟨rfl,_,rfl,r1,by omega,r6,r7⟩
 case rest =>
 obtain ⟨rfl,b2,rfl,V3,lb3,lb4,VB2⟩:=hcut
 have V4:Hid (wc.heap[b1]?=some (.cells (fdA R.1) 29 (0,0))):=(VB2.block _ lb2).trans HV1.out
 have V5:Hid (wc.heap[b2]?=some (.cells (fdA R.1) 29 (0,0))):=V3
 have B6:Hid (Below w.heap.size w wc):=HVB.out.trans (VB2.mono (by omega))
 have lwc:w.heap.size≤wc.heap.size:=B6.out.size
 clear V3 VB2 HV1 HVB BD ND SD HSz HB HN HW0 K1 K2 KO
 unfold fdV at KS
 go_wp2_with (first | (refine xU (by rfl) (.tmp 3) (by rfl) b1 (by rfl) (by exact V4.out) (zV _ HL.out) ?_) | (refine xU (by rfl) (.tmp 5) (by rfl) b2 (by rfl) (by exact V5.out) (zV _ HL.out) ?_) | fail)
 refine (KS.out _).mono ?_
 rintro e w9 ⟨rfl,hb9⟩
 have B9:Below w.heap.size w w9:=B6.out.trans (hb9.mono lwc)
 clear hb9
 go_wp2_with fail
 go_ret
 exact ⟨kP (by simp),B9⟩
end Go.Proofs.YtebpgfodelggoaaGreat
