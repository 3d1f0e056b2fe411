import Derived.Test.YtebpgfodelggoabC45
set_option linter.unusedVariables false
set_option linter.unusedSimpArgs false
set_option maxRecDepth 100000
set_option maxHeartbeats 8000000
namespace Go.Proofs.Ytebpgfodelggoab
open Go.RowKit
def plA (E:Mt.Env) (g cap gl gs gh:Nat) (budget room:Int):Array Value:=#[.slice (some ⟨g,0,none⟩) E.c.length cap,.string E.t,.int .i64 budget,.int .i64 0,.int .i64 ((E.t.size:Int)+1),.slice (some ⟨gl,0,none⟩) E.c.length E.c.length,.slice (some ⟨gs,0,none⟩) E.c.length E.c.length,.slice (some ⟨gh,0,none⟩) (E.base E.c.length) (E.base E.c.length),.int .i64 room,.slice none 0 0]
def pk0 (E:Mt.Env) (L gp g cap gl gs gh:Nat) (budget:Int):Pk:=⟨L,gp,g,gl,gs,gh,cap,E.c.length,E.c.length,E.base E.c.length,E.c,E.t,budget,loopList E.c,slotsTo E E.c.length⟩
theorem Try.sizePl:(Try.prog.info? 96).map (·.size)=some 10:=by kernel_rfl
theorem play_start {E:Mt.Env} {w:World} {n0 gp g cap gl gs gh:Nat} {budget room:Int} (hB:w.heap[gp]?=some (.cells (plA E g cap gl gs gh budget room) 96 (0,0))) (hc:ownIns w 0 (.slice (some ⟨g,0,none⟩) E.c.length cap) E.c) (ht:TabIs E n0 gl gs gh w) (h1:g<n0) (h2:n0≤gp) (h3:gp≠gl∧gp≠gs∧gp≠gh) :
  PlayAt (pk0 E n0 gp g cap gl gs gh budget) w 0 (List.replicate (E.base E.c.length) false) room none 0 []:=by
 have l1:=(World.ownsRow.lt ht.l gl rfl).1
 have l2:=(World.ownsRow.lt ht.s gs rfl).1
 have l3:=(World.ownsRow.lt ht.h gh rfl).1
 refine ⟨by rw [List.length_replicate];exact hB,hc,?_,?_,?_,World.ownsRow_nil _ _ _ _,⟨h2,l3⟩,loopList_len _,slotsTo_len _ _,?_,?_,?_⟩
 ·show oInts w (.slice (some ⟨gl,0,none⟩) (loopList E.c).length E.c.length) (loopList E.c)
  rw [loopList_len];exact owns_base ht.l (Nat.zero_le _)
 ·show oInts w (.slice (some ⟨gs,0,none⟩) (slotsTo E E.c.length).length E.c.length) (slotsTo E E.c.length)
  rw [slotsTo_len];exact owns_base ht.s (Nat.zero_le _)
 ·show oBools w (.slice (some ⟨gh,0,none⟩) (List.replicate (E.base E.c.length) false).length (E.base E.c.length)) (List.replicate (E.base E.c.length) false)
  rw [List.length_replicate];exact owns_base ht.h (Nat.zero_le _)
 ·show g≠gp∧gl≠gp∧gs≠gp∧gh≠gp
  omega
 ·show g≠gh∧gl≠gh∧gs≠gh
  have:=ht.ne;omega
 ·refine ⟨?_,?_,?_,?_,?_⟩ <;> (intro e;simp [blk] at e)
theorem ctx_start {E:Mt.Env} {A:Int→Mt.Att} {L gp g cap gl gs gh:Nat} {budget:Int} (hT:TabCtx E) (hK:Mt.Known E.c A) (har:∀ p,p<E.c.length→E.ar.getD p 0=Mt.loopsAt E.c p) (hb:0≤budget∧budget≤10000):Ctx (pk0 E L gp g cap gl gs gh budget) E A :=
 ⟨rfl,rfl,hK,har,hT.ar11,fun p hp=>by show (loopList E.c).getD p 0=_;rw [loopList_at E.c p hp,hT.arN p hp],fun p hp=>slotsTo_at E p hp,hT.t60,hb⟩
theorem Search_any (E:Mt.Env) (A:Int→Mt.Att) (hT:TabCtx E) (hK:Mt.Known E.c A) (har:∀ p,p<E.c.length→E.ar.getD p 0=Mt.loopsAt E.c p) (g cap q nq cq frm:Nat) (room budget:Int) (hr:0≤room∧room≤5000) (hb:0≤budget∧budget≤10000) (hfrm:frm≤E.t.size) (w:World) (h:ownIns w 0 (.slice (some ⟨g,0,none⟩) E.c.length cap) E.c) (hq:rInts w 0 (.slice (some ⟨q,0,none⟩) nq cq) (Mt.numsTo E.inn E.c.length)) (hnq:nq=(Mt.numsTo E.inn E.c.length).length) (S:Mt.Fnd × Bool) (hS:S=Mt.search E budget (E.t.size+1-frm) frm budget.toNat (List.replicate (E.c.length*(E.t.size+1)*12) false) room) :
  Calls Try.prog 31 #[.agg #[.slice (some ⟨g,0,none⟩) E.c.length cap,.slice (some ⟨q,0,none⟩) nq cq,.string E.t,.int .i64 room],.int .i64 (frm:Int),.int .i64 budget] w fun e w'=>e=.returned (.tuple #[.agg (fpA S.1),.int .i64 (errOf S.2)])∧Below w.heap.size w w':=by
 obtain ⟨W1,hW1⟩:∃ W1,W1=(w.alloc (.cells #[.slice (some ⟨g,0,none⟩) E.c.length cap,.slice (some ⟨q,0,none⟩) nq cq,.string E.t,.int .i64 room] 72)).alloc (.cells (fpA Mt.fnd0) 31):=⟨_,rfl⟩
 have B1:Below w.heap.size w W1:=by rw [hW1];exact ((Below.refl _ _).alloc (Nat.le_refl _) _).alloc (by simp) _
 have T1:W1.heap[w.heap.size]?=some (.cells #[.slice (some ⟨g,0,none⟩) E.c.length cap,.slice (some ⟨q,0,none⟩) nq cq,.string E.t,.int .i64 room] 72 (0,0)):=by rw [hW1];exact heap_b2 _ _ _
 have U1:W1.heap[w.heap.size+1]?=some (.cells (fpA Mt.fnd0) 31 (0,0)):=by rw [hW1];exact heap_b3 _ _ _
 have HZ1:Hid (W1.heap.size=w.heap.size+2):=by rw [hW1];show _=_;simp
 have HTB:Hid (∀ z:World,Below w.heap.size w z→Calls Try.prog 44 #[.agg #[.slice (some ⟨g,0,none⟩) E.c.length cap,.slice (some ⟨q,0,none⟩) nq cq,.string E.t,.int .i64 room]] z fun e w'=>∃ gl gs gh,e=.returned (.agg #[.int .i64 ((E.t.size:Int)+1),.slice (some ⟨gl,0,none⟩) E.c.length E.c.length,.slice (some ⟨gs,0,none⟩) E.c.length E.c.length,.slice (some ⟨gh,0,none⟩) (E.base E.c.length) (E.base E.c.length),.int .i64 room])∧TabIs E z.heap.size gl gs gh w'∧Below z.heap.size z w'):=fun z hz=>newTable_any E hT g cap q nq cq room z (h.below hz) (hq.below hz) hnq
 have HCO:Hid (ownIns w 0 (.slice (some ⟨g,0,none⟩) E.c.length cap) E.c∧g<w.heap.size):=⟨h,(World.ownsRow.lt h g rfl).2⟩
 have HCX:Hid (∀ gp gl gs gh:Nat,Ctx (pk0 E w.heap.size gp g cap gl gs gh budget) E A):=fun gp gl gs gh=>ctx_start hT hK har hb
 have HSS:Hid (S=Mt.search E budget (E.t.size+1-frm) frm budget.toNat (List.replicate (E.c.length*(E.t.size+1)*12) false) room):=hS
 have HB1:Hid (Below w.heap.size w W1):=B1
 have HU1:Hid (W1.heap[w.heap.size+1]?=some (.cells (fpA Mt.fnd0) 31 (0,0))):=U1
 have ht60:=hT.t60
 have hcl:=hT.len
 clear h hq hnq hT hK har hS B1 U1
 go_enter Try.func31,Try.ntmps31
 go_upto_region 1 with fail
 show Code.wp _ _ _ _ ((w.alloc (.cells #[.slice (some ⟨g,0,none⟩) E.c.length cap,.slice (some ⟨q,0,none⟩) nq cq,.string E.t,.int .i64 room] 72)).alloc (.cells (fpA Mt.fnd0) 31))
 rw [← hW1]
 clear hW1
 generalize hnn:w.heap.size=n at *
 go_cut [8] (fun v8 wx=>∃ gp gl gs gh,v8=.pointer (some ⟨gp,0,none⟩)∧PlayAt (pk0 E n gp g cap gl gs gh budget) wx 0 (List.replicate (E.base E.c.length) false) room none 0 []∧Below n w wx∧wx.heap[n]?=some (.cells #[.slice (some ⟨g,0,none⟩) E.c.length cap,.slice (some ⟨q,0,none⟩) nq cq,.string E.t,.int .i64 room] 72 (0,0))∧wx.heap[n+1]?=some (.cells (fpA Mt.fnd0) 31 (0,0))∧n+2≤gp∧gh≠n+1∧gh≠n)
 case first =>
  have hcr:∀ z:World,(z.heap[n]?=some (.cells #[.slice (some ⟨g,0,none⟩) E.c.length cap,.slice (some ⟨q,0,none⟩) nq cq,.string E.t,.int .i64 room] 72 (0,0))∧z.heap[n+1]?=some (.cells (fpA Mt.fnd0) 31 (0,0)))→z.cell? ⟨n,0,none⟩=some (.slice (some ⟨g,0,none⟩) E.c.length cap)∧z.cell? ⟨n,2,none⟩=some (.string E.t):=fun z hz=>⟨(cell_block hz.1).1 0,(cell_block hz.1).1 2⟩
  have hcr2:∀ z:World,(z.heap[n]?=some (.cells #[.slice (some ⟨g,0,none⟩) E.c.length cap,.slice (some ⟨q,0,none⟩) nq cq,.string E.t,.int .i64 room] 72 (0,0))∧z.heap[n+1]?=some (.cells (fpA Mt.fnd0) 31 (0,0)))→z.rangeAt n 0 (#[.slice (some ⟨g,0,none⟩) E.c.length cap,.slice (some ⟨q,0,none⟩) nq cq,.string E.t,.int .i64 room]:Array Value).toList:=fun z hz=>rangeAt_blk hz.1
  have S0:W1.drew.heap[n]?=some (.cells #[.slice (some ⟨g,0,none⟩) E.c.length cap,.slice (some ⟨q,0,none⟩) nq cq,.string E.t,.int .i64 room] 72 (0,0))∧W1.drew.heap[n+1]?=some (.cells (fpA Mt.fnd0) 31 (0,0)):=⟨T1,HU1.out⟩
  refine wp_region_held_drew (S:=fun z:World=>z.heap[n]?=some (.cells #[.slice (some ⟨g,0,none⟩) E.c.length cap,.slice (some ⟨q,0,none⟩) nq cq,.string E.t,.int .i64 room] 72 (0,0))∧z.heap[n+1]?=some (.cells (fpA Mt.fnd0) 31 (0,0))) (by kernel_rfl) S0 (fun hH=>?_)
  refine takeAt 0 14 (.pointer (some ⟨n,0,none⟩)) rfl rfl (by kernel_rfl) (by kernel_rfl) (by kernel_rfl) (fun _ _ _ h=>h) (Or.inl ⟨by rfl,fun z hz=>by clear hH hz hcr hcr2 S0 T1;go_simp⟩) (by assumption) ?_
  simp only [Act.put,List.setIfInBounds_toArray,List.set_cons_zero,List.set_cons_succ]
  refine takeAt 1 15 (.slice (some ⟨g,0,none⟩) E.c.length cap) rfl rfl (by kernel_rfl) (by kernel_rfl) (by kernel_rfl) (fun _ _ _ h=>h) (Or.inl ⟨by rfl,fun z hz=>by obtain ⟨hz1,hz2⟩:=hcr z hz;clear hH hz hcr hcr2 S0 T1;go_simp⟩) (by assumption) ?_
  simp only [Act.put,List.setIfInBounds_toArray,List.set_cons_zero,List.set_cons_succ]
  refine takeAt 2 16 (.pointer (some ⟨n,2,none⟩)) rfl rfl (by kernel_rfl) (by kernel_rfl) (by kernel_rfl) (fun _ _ _ h=>h) (Or.inl ⟨by rfl,fun z hz=>by clear hH hz hcr hcr2 S0 T1;go_simp⟩) (by assumption) ?_
  simp only [Act.put,List.setIfInBounds_toArray,List.set_cons_zero,List.set_cons_succ]
  refine takeAt 3 17 (.string E.t) rfl rfl (by kernel_rfl) (by kernel_rfl) (by kernel_rfl) (fun _ _ _ h=>h) (Or.inl ⟨by rfl,fun z hz=>by obtain ⟨hz1,hz2⟩:=hcr z hz;clear hH hz hcr hcr2 S0 T1;go_simp⟩) (by assumption) ?_
  simp only [Act.put,List.setIfInBounds_toArray,List.set_cons_zero,List.set_cons_succ]
  refine takeAt 4 18 (.int .i64 budget) rfl rfl (by kernel_rfl) (by kernel_rfl) (by kernel_rfl) (fun _ _ _ h=>h) (Or.inl ⟨by rfl,fun z hz=>by clear hH hz hcr hcr2 S0 T1;go_simp⟩) (by assumption) ?_
  simp only [Act.put,List.setIfInBounds_toArray,List.set_cons_zero,List.set_cons_succ]
  refine takeAt 5 19 (.agg #[.slice (some ⟨g,0,none⟩) E.c.length cap,.slice (some ⟨q,0,none⟩) nq cq,.string E.t,.int .i64 room]) rfl rfl (by kernel_rfl) (by kernel_rfl) (by kernel_rfl) (fun _ _ _ h=>h) (yieldsIf_load_mid (by rfl) _ _ rfl _ _ rfl _ _ hcr2 Try.underlying72 rfl (by kernel_rfl)) (by assumption) ?_
  simp only [Act.put,List.setIfInBounds_toArray,List.set_cons_zero,List.set_cons_succ]
  have hz1:=HZ1.out
  refine wpAnyH_ready (rs:=[6,8]) (by kernel_rfl) (by simp) ?_
  refine AllReadyH.cons rfl (fun K hK=>?_) (AllReadyH.cons rfl (fun K hK=>?_) AllReadyH.nil)
  ·clear hcr hcr2
   have HC1:Hid (Below n w W1.drew):=HB1.out.drew
   go_simp
   refine (HTB.out W1.drew HC1.out).mono ?_
   rintro e w4 ⟨gl,gs,gh,rfl,hTI,hb4⟩
   have S4:w4.heap[n]?=some (.cells #[.slice (some ⟨g,0,none⟩) E.c.length cap,.slice (some ⟨q,0,none⟩) nq cq,.string E.t,.int .i64 room] 72 (0,0))∧w4.heap[n+1]?=some (.cells (fpA Mt.fnd0) 31 (0,0)):=⟨(hb4.block n (by simp;omega)).trans S0.1,(hb4.block (n+1) (by simp;omega)).trans S0.2⟩
   go_simp
   refine hK.out _ _ S4 (fun hH2=>?_)
   clear hK K
   refine takeAt 7 21 (.agg (plA E g cap gl gs gh budget room)) rfl rfl (by kernel_rfl) (by kernel_rfl) (by kernel_rfl) (fun _ _ _ h=>h) (Or.inl ⟨by rfl,fun z hz=>by refine buildRun (t:=96) (parts:=#[(0,.tmp 15),(1,.tmp 17),(2,.tmp 18),(4,.tmp 20)]) rfl ?_;simp only [List.map_toArray,List.map_cons,List.map_nil];unfold plA;kernel_rfl⟩) (by assumption) ?_
   simp only [Act.put,List.setIfInBounds_toArray,List.set_cons_zero,List.set_cons_succ]
   refine wpAnyH_ready (rs:=[8]) (by kernel_rfl) (by simp) ?_
   refine AllReadyH.cons rfl (fun K hK=>?_) AllReadyH.nil
   have hs4:n+2≤w4.heap.size:=by have:=hb4.size;simp at this;omega
   have HK2:Hid (TabIs E W1.drew.heap.size gl gs gh w4∧Below W1.drew.heap.size W1.drew w4):=⟨hTI,hb4⟩
   clear hTI hb4
   go_simp
   have zb:(w4.alloc (.cells #[.slice none 0 0,.string ⟨#[]⟩,.int .i64 0,.int .i64 0,.int .i64 0,.slice none 0 0,.slice none 0 0,.slice none 0 0,.int .i64 0,.slice none 0 0] 96)).heap[w4.heap.size]?=some (.cells #[.slice none 0 0,.string ⟨#[]⟩,.int .i64 0,.int .i64 0,.int .i64 0,.slice none 0 0,.slice none 0 0,.slice none 0 0,.int .i64 0,.slice none 0 0] 96 (0,0)):=heap_alloc_new _ _
   have S5:(w4.alloc (.cells #[.slice none 0 0,.string ⟨#[]⟩,.int .i64 0,.int .i64 0,.int .i64 0,.slice none 0 0,.slice none 0 0,.slice none 0 0,.int .i64 0,.slice none 0 0] 96)).heap[n]?=some (.cells #[.slice (some ⟨g,0,none⟩) E.c.length cap,.slice (some ⟨q,0,none⟩) nq cq,.string E.t,.int .i64 room] 72 (0,0))∧(w4.alloc (.cells #[.slice none 0 0,.string ⟨#[]⟩,.int .i64 0,.int .i64 0,.int .i64 0,.slice none 0 0,.slice none 0 0,.slice none 0 0,.int .i64 0,.slice none 0 0] 96)).heap[n+1]?=some (.cells (fpA Mt.fnd0) 31 (0,0)):=⟨(heap_old _ _ _ (by omega)).trans S4.1,(heap_old _ _ _ (by omega)).trans S4.2⟩
   have b5:Below w4.heap.size w4 (w4.alloc (.cells #[.slice none 0 0,.string ⟨#[]⟩,.int .i64 0,.int .i64 0,.int .i64 0,.slice none 0 0,.slice none 0 0,.slice none 0 0,.int .i64 0,.slice none 0 0] 96)):=(Below.refl _ _).alloc (Nat.le_refl _) _
   have z5:(w4.alloc (.cells #[.slice none 0 0,.string ⟨#[]⟩,.int .i64 0,.int .i64 0,.int .i64 0,.slice none 0 0,.slice none 0 0,.slice none 0 0,.int .i64 0,.slice none 0 0] 96)).heap.size=w4.heap.size+1:=by simp
   refine hK.out _ _ S5 (fun hH3=>?_)
   clear hK K
   generalize w4.alloc (.cells #[.slice none 0 0,.string ⟨#[]⟩,.int .i64 0,.int .i64 0,.int .i64 0,.slice none 0 0,.slice none 0 0,.slice none 0 0,.int .i64 0,.slice none 0 0] 96)=w5 at *
   have hTH:(w5).there w4.heap.size 0 (plA E g cap gl gs gh budget room).size:=there_block (cell_block zb).1 (cell_block zb).2 10 (Nat.le_refl _)
   refine lastStore 9 _ rfl rfl (by kernel_rfl) (by kernel_rfl) _ _ _ rfl w4.heap.size 0 (plA E g cap gl gs gh budget room) (by kernel_rfl) (by kernel_rfl) hTH (by rw [Try.sizePl];rfl) (by simp [plA,Value.oneCell']) rfl ?_
   have r1:=stored_blk zb (plA E g cap gl gs gh budget room) rfl
   have r2:∀ i,i≠w4.heap.size→((w5).setCells w4.heap.size 0 (plA E g cap gl gs gh budget room).toList).heap[i]?=(w5).heap[i]?:=fun i hi=>setCells_oth w4.heap.size _ 0 _ i hi
   have r4:=(below_setCells w4.heap.size (plA E g cap gl gs gh budget room).toList 0 (w5) n (by simp at *;omega)).1
   generalize w5.setCells w4.heap.size 0 (plA E g cap gl gs gh budget room).toList=w6 at *
   have HREL:Hid (PlayAt (pk0 E n w4.heap.size g cap gl gs gh budget) w6 0 (List.replicate (E.base E.c.length) false) room none 0 []∧Below n w w6∧(w6.heap[n]?=some (.cells #[.slice (some ⟨g,0,none⟩) E.c.length cap,.slice (some ⟨q,0,none⟩) nq cq,.string E.t,.int .i64 room] 72 (0,0))∧w6.heap[n+1]?=some (.cells (fpA Mt.fnd0) 31 (0,0)))∧n+2≤w4.heap.size∧gh≠n+1∧gh≠n):=by
    obtain ⟨k1,k2⟩:=HK2.out
    have hzz:W1.drew.heap.size=n+2:=by simpa using hz1
    have hBW:Below n w w4:=HC1.out.trans (k2.mono (by omega))
    have hl:=World.ownsRow.lt k1.l gl rfl
    have hs:=World.ownsRow.lt k1.s gs rfl
    have hh:=World.ownsRow.lt k1.h gh rfl
    have hgw:=HCO.out.2
    have ti:TabIs E n gl gs gh w6:=by
     refine ⟨?_,?_,?_,k1.ne⟩
     ·have t:=k1.l
      unfold rInts at t ⊢
      rw [loopList_len] at t ⊢
      exact owns_base (row_keep t (fun i hi=>by cases hi;rw [r2 gl (by omega),b5.block gl hl.2])) (by omega)
     ·have t:=k1.s
      unfold rInts at t ⊢
      rw [slotsTo_len] at t ⊢
      exact owns_base (row_keep t (fun i hi=>by cases hi;rw [r2 gs (by omega),b5.block gs hs.2])) (by omega)
     ·have t:=k1.h
      unfold rBools at t ⊢
      rw [List.length_replicate] at t ⊢
      exact owns_base (row_keep t (fun i hi=>by cases hi;rw [r2 gh (by omega),b5.block gh hh.2])) (by omega)
    have hB6:Below n w w6:=(hBW.trans (b5.mono (by omega))).trans r4
    refine ⟨play_start r1 (HCO.out.1.below (by first | exact hB6 | (rw [hnn];exact hB6))) ti hgw (by omega) ⟨by omega,by omega,by omega⟩,hB6,⟨(r2 n (by omega)).trans S5.1,(r2 (n+1) (by omega)).trans S5.2⟩,hs4,by omega,by omega⟩
   refine ⟨HREL.out.2.2.1,?_⟩
   clear r1 r2 r4 hH hH2 hH3 hTH zb b5 S5 S4 S0
   go_wp2_with fail
   go_meet
   case rel=>exact ⟨w4.heap.size,gl,gs,gh,rfl,HREL.out.1,HREL.out.2.1,HREL.out.2.2.1.1,HREL.out.2.2.1.2,HREL.out.2.2.2⟩
  ·clear hcr hcr2
   have zb:(W1.drew.alloc (.cells #[.slice none 0 0,.string ⟨#[]⟩,.int .i64 0,.int .i64 0,.int .i64 0,.slice none 0 0,.slice none 0 0,.slice none 0 0,.int .i64 0,.slice none 0 0] 96)).heap[W1.heap.size]?=some (.cells #[.slice none 0 0,.string ⟨#[]⟩,.int .i64 0,.int .i64 0,.int .i64 0,.slice none 0 0,.slice none 0 0,.slice none 0 0,.int .i64 0,.slice none 0 0] 96 (0,0)):=heap_alloc_new W1.drew _
   have S3:(W1.drew.alloc (.cells #[.slice none 0 0,.string ⟨#[]⟩,.int .i64 0,.int .i64 0,.int .i64 0,.slice none 0 0,.slice none 0 0,.slice none 0 0,.int .i64 0,.slice none 0 0] 96)).heap[n]?=some (.cells #[.slice (some ⟨g,0,none⟩) E.c.length cap,.slice (some ⟨q,0,none⟩) nq cq,.string E.t,.int .i64 room] 72 (0,0))∧(W1.drew.alloc (.cells #[.slice none 0 0,.string ⟨#[]⟩,.int .i64 0,.int .i64 0,.int .i64 0,.slice none 0 0,.slice none 0 0,.slice none 0 0,.int .i64 0,.slice none 0 0] 96)).heap[n+1]?=some (.cells (fpA Mt.fnd0) 31 (0,0)):=⟨(heap_old _ _ _ (by simp;omega)).trans S0.1,(heap_old _ _ _ (by simp;omega)).trans S0.2⟩
   have HC3:Hid (Below n w (W1.drew.alloc (.cells #[.slice none 0 0,.string ⟨#[]⟩,.int .i64 0,.int .i64 0,.int .i64 0,.slice none 0 0,.slice none 0 0,.slice none 0 0,.int .i64 0,.slice none 0 0] 96))):=HB1.out.drew.alloc (by simp;omega) _
   have z3:(W1.drew.alloc (.cells #[.slice none 0 0,.string ⟨#[]⟩,.int .i64 0,.int .i64 0,.int .i64 0,.slice none 0 0,.slice none 0 0,.slice none 0 0,.int .i64 0,.slice none 0 0] 96)).heap.size=W1.heap.size+1:=by simp
   have HZ3:Hid (W1.heap.size=n+2):=hz1
   clear hz1
   go_simp
   refine hK.out _ _ S3 (fun hH2=>?_)
   clear hK K
   have HZ33:Hid ((W1.drew.alloc (.cells #[.slice none 0 0,.string ⟨#[]⟩,.int .i64 0,.int .i64 0,.int .i64 0,.slice none 0 0,.slice none 0 0,.slice none 0 0,.int .i64 0,.slice none 0 0] 96)).heap.size=W1.heap.size+1):=z3
   clear z3
   refine wpAnyH_ready (rs:=[6]) (by kernel_rfl) (by simp) ?_
   refine AllReadyH.cons rfl (fun K hK=>?_) AllReadyH.nil
   go_simp
   refine (HTB.out _ HC3.out).mono ?_
   rintro e w4 ⟨gl,gs,gh,rfl,hTI,hb4⟩
   have z3:=HZ33.out
   have hz1:=HZ3.out
   generalize W1.drew.alloc (.cells #[.slice none 0 0,.string ⟨#[]⟩,.int .i64 0,.int .i64 0,.int .i64 0,.slice none 0 0,.slice none 0 0,.slice none 0 0,.int .i64 0,.slice none 0 0] 96)=w3 at *
   have S4:w4.heap[n]?=some (.cells #[.slice (some ⟨g,0,none⟩) E.c.length cap,.slice (some ⟨q,0,none⟩) nq cq,.string E.t,.int .i64 room] 72 (0,0))∧w4.heap[n+1]?=some (.cells (fpA Mt.fnd0) 31 (0,0)):=⟨(hb4.block n (by omega)).trans S3.1,(hb4.block (n+1) (by omega)).trans S3.2⟩
   have zb4:w4.heap[W1.heap.size]?=some (.cells #[.slice none 0 0,.string ⟨#[]⟩,.int .i64 0,.int .i64 0,.int .i64 0,.slice none 0 0,.slice none 0 0,.slice none 0 0,.int .i64 0,.slice none 0 0] 96 (0,0)):=(hb4.block W1.heap.size (by omega)).trans zb
   clear z3 hz1
   go_simp
   refine hK.out _ _ S4 (fun hH3=>?_)
   clear hK K
   refine takeAt 7 21 (.agg (plA E g cap gl gs gh budget room)) rfl rfl (by kernel_rfl) (by kernel_rfl) (by kernel_rfl) (fun _ _ _ h=>h) (Or.inl ⟨by rfl,fun z hz=>by refine buildRun (t:=96) (parts:=#[(0,.tmp 15),(1,.tmp 17),(2,.tmp 18),(4,.tmp 20)]) rfl ?_;simp only [List.map_toArray,List.map_cons,List.map_nil];unfold plA;kernel_rfl⟩) (by assumption) ?_
   simp only [Act.put,List.setIfInBounds_toArray,List.set_cons_zero,List.set_cons_succ]
   have z3:=HZ33.out
   have hz1:=HZ3.out
   have hTH:w4.there W1.heap.size 0 (plA E g cap gl gs gh budget room).size:=there_block (cell_block zb4).1 (cell_block zb4).2 10 (Nat.le_refl _)
   refine lastStore 9 _ rfl rfl (by kernel_rfl) (by kernel_rfl) _ _ _ rfl W1.heap.size 0 (plA E g cap gl gs gh budget room) (by kernel_rfl) (by kernel_rfl) hTH (by rw [Try.sizePl];rfl) (by simp [plA,Value.oneCell']) rfl ?_
   have r1:=stored_blk zb4 (plA E g cap gl gs gh budget room) rfl
   have r2:∀ i,i≠W1.heap.size→(w4.setCells W1.heap.size 0 (plA E g cap gl gs gh budget room).toList).heap[i]?=w4.heap[i]?:=fun i hi=>setCells_oth W1.heap.size _ 0 _ i hi
   have r4:=(below_setCells W1.heap.size (plA E g cap gl gs gh budget room).toList 0 w4 n (by omega)).1
   generalize w4.setCells W1.heap.size 0 (plA E g cap gl gs gh budget room).toList=w6 at *
   have HREL:Hid (PlayAt (pk0 E n W1.heap.size g cap gl gs gh budget) w6 0 (List.replicate (E.base E.c.length) false) room none 0 []∧Below n w w6∧(w6.heap[n]?=some (.cells #[.slice (some ⟨g,0,none⟩) E.c.length cap,.slice (some ⟨q,0,none⟩) nq cq,.string E.t,.int .i64 room] 72 (0,0))∧w6.heap[n+1]?=some (.cells (fpA Mt.fnd0) 31 (0,0)))∧n+2≤W1.heap.size∧gh≠n+1∧gh≠n):=by
    have hBW:Below n w w4:=HC3.out.trans (hb4.mono (by omega))
    have hl:=World.ownsRow.lt hTI.l gl rfl
    have hs:=World.ownsRow.lt hTI.s gs rfl
    have hh:=World.ownsRow.lt hTI.h gh rfl
    have hgw:=HCO.out.2
    have ti:TabIs E n gl gs gh w6:=by
     refine ⟨?_,?_,?_,hTI.ne⟩
     ·have t:=hTI.l
      unfold rInts at t ⊢
      rw [loopList_len] at t ⊢
      exact owns_base (row_keep t (fun i hi=>by cases hi;rw [r2 gl (by omega)])) (by omega)
     ·have t:=hTI.s
      unfold rInts at t ⊢
      rw [slotsTo_len] at t ⊢
      exact owns_base (row_keep t (fun i hi=>by cases hi;rw [r2 gs (by omega)])) (by omega)
     ·have t:=hTI.h
      unfold rBools at t ⊢
      rw [List.length_replicate] at t ⊢
      exact owns_base (row_keep t (fun i hi=>by cases hi;rw [r2 gh (by omega)])) (by omega)
    have hB6:Below n w w6:=hBW.trans r4
    refine ⟨play_start r1 (HCO.out.1.below (by first | exact hB6 | (rw [hnn];exact hB6))) ti hgw (by omega) ⟨by omega,by omega,by omega⟩,hB6,⟨(r2 n (by omega)).trans S4.1,(r2 (n+1) (by omega)).trans S4.2⟩,by omega,by omega,by omega⟩
   refine ⟨HREL.out.2.2.1,?_⟩
   clear r1 r2 r4 hH hH2 hH3 hTH zb zb4 S3 S4 S0 hTI hb4 z3 hz1
   go_wp2_with fail
   go_meet
   case rel=>exact ⟨W1.heap.size,gl,gs,gh,rfl,HREL.out.1,HREL.out.2.1,HREL.out.2.2.1.1,HREL.out.2.2.1.2,HREL.out.2.2.2⟩
 case rest =>
  obtain ⟨gp,gl,gs,gh,rfl,hP,hB,hT1,hT2,hgp,hgh1,hgh2⟩:=hcut
  have HX:Hid (Ctx (pk0 E n gp g cap gl gs gh budget) E A):=HCX.out gp gl gs gh
  have HBW:Hid (Below n w wc):=hB
  have HSK:Hid (SeekAt (pk0 E n gp g cap gl gs gh budget) E S none wc frm budget.toNat wc):=by
   refine ⟨_,_,room,none,0,?_,PStep.refl _ _ _,Mt.Tab.start E _,by simp,hr,HSS.out.symm,?_⟩
   ·have e:(pk0 E n gp g cap gl gs gh budget).budget+1-((budget.toNat+1:Nat):Int)=0:=by show budget+1-_=_;omega
    rw [e];exact hP
   ·show ((budget.toNat:Nat):Int)≤budget;omega
  have HKEEP:Hid (∀ (wo:Option Addr) (z:World),PStep (pk0 E n gp g cap gl gs gh budget) none wo wc z→z.heap[n]?=some (.cells #[.slice (some ⟨g,0,none⟩) E.c.length cap,.slice (some ⟨q,0,none⟩) nq cq,.string E.t,.int .i64 room] 72 (0,0))∧z.heap[n+1]?=some (.cells (fpA Mt.fnd0) 31 (0,0))∧Below n w z∧n+1<z.heap.size):=fun wo z hz=>by
   have hn0:n<wc.heap.size:=(Array.getElem?_eq_some_iff.1 hT1).1
   have hn1:n+1<wc.heap.size:=(Array.getElem?_eq_some_iff.1 hT2).1
   have b1:z.heap[n]?=wc.heap[n]?:=hz.block n hn0 (by show n≠gp;omega) (by show n≠gh;omega) (fun e=>by simp [blk] at e)
   have b2:z.heap[n+1]?=wc.heap[n+1]?:=hz.block (n+1) hn1 (by show n+1≠gp;omega) (by show n+1≠gh;omega) (fun e=>by simp [blk] at e)
   refine ⟨b1.trans hT1,b2.trans hT2,?_,by have:=hz.size;omega⟩
   have:=PStep.low hP hz (show n≤wc.heap.size by omega)
   exact hB.trans this
  have HGP:Hid (gp<wc.heap.size):=hP.lt.1
  clear hP hB hT1 hT2 HCX HSS HCO HTB HB1 HU1 T1 HZ1
  have hft:(frm:Int)≤(E.t.size:Int):=by omega
  go_wp2_with fail
  go_loopw [9] (fun i wr=>∃ p m:Nat,frm≤p∧p≤E.t.size+1∧i=.int .i64 p∧SeekAt (pk0 E n gp g cap gl gs gh budget) E S none wc p m wr) (fun i _=>E.t.size+1-(intOf i).toNat)
  case atStart=>exact ⟨frm,budget.toNat,Nat.le_refl _,by omega,rfl,HSK.out⟩
  case round =>
   obtain ⟨p,m,hp1,hp2,rfl,hsk⟩:=hrel
   have HSK2:Hid (SeekAt (pk0 E n gp g cap gl gs gh budget) E S none wc p m wr):=hsk
   obtain ⟨hdx,knx,roomx,wox,wcx,hPx,hSx,_⟩:=hsk
   obtain ⟨y1,y2,y3,y4⟩:=HKEEP.out _ _ hSx
   have t2:wr.cell? ⟨n,2,none⟩=some (.string E.t):=(cell_block y1).1 2
   clear hPx hSx y1 y2 y3
   by_cases hpt:p≤E.t.size
   ·have hle:(p:Int)≤(E.t.size:Int):=by omega
    go_wp2_with fail
    refine (firstState_any (p:Int) wr).mono ?_
    rintro e w3 ⟨rfl,hb3⟩
    have HB3:Hid (Below wr.heap.size wr w3):=hb3
    clear hb3 t2
    go_upto_region 6 with (refine store_blk 100 43 Try.sizeSt (by rfl) (.tmp 10) (.tmp 31) (by rfl) w3.heap.size (stA (Mt.startQ p)) (by rfl) (by rfl) (by exact heap_b1 _ _) (by rfl) (stA_size _) (stA_all _) ?_;intro w4 r1 r2 r3 r4)
    have B4:Below wr.heap.size wr w4:=HB3.out.trans ((((Below.refl _ _).alloc (Nat.le_refl _) _).trans (r4 _ (Nat.le_refl _))).mono HB3.out.size)
    have HRUN:Hid (Calls Try.prog 46 #[.pointer (some ⟨gp,0,none⟩),.agg (stA (Mt.startQ p))] w4 fun e w2=>∃ q' b,e=.returned (.tuple #[.agg (stA q'),.bool b])∧RanAt (pk0 E n gp g cap gl gs gh budget) E S none wc p q' b w2):=ran_at HX.out B4 hpt HSK2.out
    clear r2 r3 r4 B4 HSK2 HB3
    generalize w3.heap.size=nb at *
    go_wp2_with (refine load_blk 100 43 Try.underlying100 rfl Try.sizeSt (by rfl) (.tmp 10) (by rfl) nb (by rfl) r1 (stA_size _) ?_)
    refine HRUN.out.mono ?_
    rintro e w5 ⟨q',b,rfl,hR⟩
    have HR:Hid (RanAt (pk0 E n gp g cap gl gs gh budget) E S none wc p q' b w5):=hR
    clear hR r1 HRUN
    go_upto_region 7 with (refine store_blk 100 43 Try.sizeSt (by rfl) (.tmp 11) (.tmp 35) (by rfl) w5.heap.size (stA q') (by rfl) (by rfl) (by exact heap_b1 _ _) (by rfl) (stA_size _) (stA_all _) ?_;intro w6 r1 r2 r3 r4)
    have B6:Below w5.heap.size w5 w6:=((Below.refl _ _).alloc (Nat.le_refl _) _).trans (r4 _ (Nat.le_refl _))
    obtain ⟨hq',st,hd',room',wo',wc',W',hP',hS',hcase⟩:=HR.out
    have hP6:=hP'.below B6
    have HSP:=spent_prog hP6
    have hS6:PStep (pk0 E n gp g cap gl gs gh budget) none wo' wc w6:=hS'.trans (PStep.below B6)
    have HS6:Hid (PStep (pk0 E n gp g cap gl gs gh budget) none wo' wc w6∧PlayAt (pk0 E n gp g cap gl gs gh budget) w6 st hd' room' wo' wc' W'):=⟨hS6,hP6⟩
    have HE6:Hid (w6.heap[w5.heap.size]?=some (.cells (stA q') 100 (0,0))):=r1
    have HQ:Hid (q'.length=43):=hq'
    have HB6:Hid (Below w5.heap.size w5 w6):=B6
    clear r1 r2 r3 r4 B6 hP' hS' hP6 hS6 hq' HR
    generalize hm5:w5.heap.size=m5 at *
    rcases hcase with ⟨hst,hS0⟩ | ⟨hst,hst0,hbt,hS0⟩ | ⟨hst,hst0,hbf,n',hsk'⟩
    ·have HSP':Hid (Calls Try.prog 47 #[.pointer (some ⟨gp,0,none⟩)] w6 fun e w'=>e=.returned (.bool true)∧Below w6.heap.size w6 w'):=HSP.mono (fun e w' hh=>⟨by rw [hh.1,hst,show decide ((pk0 E n gp g cap gl gs gh budget).budget+1>(pk0 E n gp g cap gl gs gh budget).budget)=true by rw [decide_eq_true_eq];omega],hh.2⟩)
     have HSE:Hid (S=(Mt.fnd0,true)):=hS0
     clear HSP hst hS0
     go_wp2_with fail
     refine HSP'.out.mono ?_
     rintro e w7 ⟨rfl,hb7⟩
     obtain ⟨v1,v2,v3,v4⟩:=HKEEP.out _ w7 (HS6.out.1.trans (PStep.below hb7))
     have HV3:Hid (Below n w w7):=v3
     clear hb7 v1 v3
     go_wp2_with (refine store_blk 31 22 Try.sizeFd (by rfl) (.tmp 6) (.tmp 38) (by rfl) (n+1) (fpA Mt.fnd0) (by rfl) (by rfl) v2 (by rfl) (fpA_size _ rfl) (fpA_all _) ?_;intro w9 q1 q2 q3 q4)
     refine bodyPost_ret (ret_blk2 31 22 Try.underlying31 rfl Try.sizeFd rfl (by rfl) q1 (fpA_size _ rfl)) rfl ⟨?_,?_⟩
     ·rw [HSE.out];rfl
     ·first | exact HV3.out.trans (q4 n (by omega)) | (rw [hnn];exact HV3.out.trans (q4 n (by omega)))
    ·have HSP':Hid (Calls Try.prog 47 #[.pointer (some ⟨gp,0,none⟩)] w6 fun e w'=>e=.returned (.bool false)∧Below w6.heap.size w6 w'):=HSP.mono (fun e w' hh=>⟨by rw [hh.1,show decide (st>(pk0 E n gp g cap gl gs gh budget).budget)=false by rw [decide_eq_false_iff_not];omega],hh.2⟩)
     have HSE:Hid (S=(⟨true,Mt.foundAt p q',st⟩,false)):=hS0
     subst hbt
     clear HSP hst hS0 hst0
     go_wp2_with fail
     refine HSP'.out.mono ?_
     rintro e w7 ⟨rfl,hb7⟩
     have hP7:=HS6.out.2.below hb7
     have c3:=hP7.cells.2.2.2.1
     have c3':w7.cell? ⟨gp,3,none⟩=some (.int .i64 st):=c3
     have E7:w7.heap[m5]?=some (.cells (stA q') 100 (0,0)):=(hb7.block m5 (Array.getElem?_eq_some_iff.1 HE6.out).1).trans HE6.out
     have HS7:Hid (PStep (pk0 E n gp g cap gl gs gh budget) none wo' wc w7):=HS6.out.1.trans (PStep.below hb7)
     clear hb7 hP7 c3
     go_wp2_with (refine load_blk 100 43 Try.underlying100 rfl Try.sizeSt (by rfl) (.tmp 11) (by rfl) m5 (by rfl) E7 (stA_size _) ?_)
     refine (match_any (p:Int) q' HQ.out st w7).mono ?_
     rintro e w8 ⟨rfl,hb8⟩
     obtain ⟨v1,v2,v3,v4⟩:=HKEEP.out _ w8 (HS7.out.trans (PStep.below hb8))
     have HV3:Hid (Below n w w8):=v3
     have hF:(Mt.foundAt (p:Int) q').length=20:=by have:=HQ.out;simp [Mt.foundAt,this]
     clear hb8 v1 v3 c3' E7
     generalize hFF:Mt.foundAt (p:Int) q'=F at *
     go_wp2_with (refine store_blk 31 22 Try.sizeFd (by rfl) (.tmp 6) (.tmp 44) (by rfl) (n+1) (fpA ⟨true,F,st⟩) (by rfl) (by rfl) v2 (by rfl) (fpA_size _ hF) (fpA_all _) ?_;intro w9 q1 q2 q3 q4)
     refine bodyPost_ret (ret_blk2 31 22 Try.underlying31 rfl Try.sizeFd rfl (by rfl) q1 (fpA_size _ hF)) rfl ⟨?_,?_⟩
     ·rw [HSE.out];rfl
     ·first | exact HV3.out.trans (q4 n (by omega)) | (rw [hnn];exact HV3.out.trans (q4 n (by omega)))
    ·have HSP':Hid (Calls Try.prog 47 #[.pointer (some ⟨gp,0,none⟩)] w6 fun e w'=>e=.returned (.bool false)∧Below w6.heap.size w6 w'):=HSP.mono (fun e w' hh=>⟨by rw [hh.1,show decide (st>(pk0 E n gp g cap gl gs gh budget).budget)=false by rw [decide_eq_false_iff_not];omega],hh.2⟩)
     have HSK3:Hid (SeekAt (pk0 E n gp g cap gl gs gh budget) E S none wc (p+1) n' w6):=hsk'.below (by rw [hm5];exact HB6.out)
     subst hbf
     clear HSP hst hst0 hsk'
     go_wp2_with fail
     refine HSP'.out.mono ?_
     rintro e w7 ⟨rfl,hb7⟩
     have HSK4:Hid (SeekAt (pk0 E n gp g cap gl gs gh budget) E S none wc (p+1) n' w7):=HSK3.out.below hb7
     clear hb7
     go_wp2_with fail
     go_roundw
     case rel=>exact ⟨p+1,n',by omega,by omega,by go_num,HSK4.out⟩
     case measure=>simp [intOf];omega
   ·have hpe:p=E.t.size+1:=by omega
    have hle:decide ((p:Int)≤(E.t.size:Int))=false:=by rw [decide_eq_false_iff_not];omega
    have hle2:decide (p≤E.t.size)=false:=by rw [decide_eq_false_iff_not];omega
    obtain ⟨hd,kn,room1,wo,wc1,h1,h2,h3,h4,h5,h6,h7⟩:=HSK2.out
    have HSE:Hid (S=(⟨false,Mt.nowhere,budget-(m:Int)⟩,false)):=by
     show _=_
     rw [← h6,hpe,show E.t.size+1-(E.t.size+1)=0 by omega]
     rfl
    have HPX:Hid (PlayAt (pk0 E n gp g cap gl gs gh budget) wr (budget-(m:Int)) hd room1 wo wc1 []∧PStep (pk0 E n gp g cap gl gs gh budget) none wo wc wr):=by
     refine ⟨?_,h2⟩
     have e:(pk0 E n gp g cap gl gs gh budget).budget+1-((m+1:Nat):Int)=budget-(m:Int):=by show budget+1-_=_;omega
     rw [e] at h1;exact h1
    clear h1 h2 h3 h4 h5 h6 h7 HSK2
    go_wp2_with fail
    refine (firstState_any (frm:Int) wr).mono ?_
    rintro e w3 ⟨rfl,hb3⟩
    have HB3:Hid (Below wr.heap.size wr w3):=hb3
    clear hb3 t2
    go_upto_region 12 with (refine store_blk 100 43 Try.sizeSt (by rfl) (.tmp 13) (.tmp 46) (by rfl) w3.heap.size (stA (Mt.startQ frm)) (by rfl) (by rfl) (by exact heap_b1 _ _) (by rfl) (stA_size _) (stA_all _) ?_;intro w4 r1 r2 r3 r4)
    have B4:Below wr.heap.size wr w4:=HB3.out.trans ((((Below.refl _ _).alloc (Nat.le_refl _) _).trans (r4 _ (Nat.le_refl _))).mono HB3.out.size)
    obtain ⟨v1,v2,v3,v4⟩:=HKEEP.out _ w4 (HPX.out.2.trans (PStep.below B4))
    have c3:w4.cell? ⟨gp,3,none⟩=some (.int .i64 (budget-(m:Int))):=(HPX.out.1.below B4).cells.2.2.2.1
    have R1:=stC_range r1 2 20
    rw [places_stC,start_places] at R1
    have HV3:Hid (Below n w w4):=v3
    have HBF:=built_none Mt.nowhere (by simp [Mt.nowhere]) (budget-(m:Int))
    have hlN:Mt.nowhere.length=20:=by simp [Mt.nowhere]
    clear r1 r2 r3 r4 B4 v1 v3 HB3 HPX
    generalize w3.heap.size=nb at *
    generalize hNN:Mt.nowhere=N at *
    generalize hUU:budget-(m:Int)=U at *
    refine wp_region_lit ?_
    refine wpList_plain (by rfl) (fun K hK=>?_)
    go_simp
    refine hK _ _ ?_
    clear hK K
    refine wpList_load_mid (by rfl) 29 (.tmp 47) (by rfl) nb 2 (by rfl) (N.map (Value.int .i64)) _ R1 Try.underlying29 rfl (by rw [Try.underArr20];simp [hlN]) ?_
    simp only [Act.put,List.setIfInBounds_toArray,List.set_cons_zero,List.set_cons_succ]
    refine wpList_plain (by rfl) (fun K hK=>?_)
    go_simp
    refine hK _ _ ?_
    clear hK K
    refine wpList_plain (by rfl) (fun K hK=>?_)
    go_simp
    refine hK _ _ ?_
    clear hK K
    refine wpList_buildTo (by rfl) 31 #[(1,.tmp 48),(2,.tmp 50)] (by rfl) (some 51) rfl (fpA ⟨false,N,U⟩) (by simp only [List.map_toArray,List.map_cons,List.map_nil];exact HBF) ?_
    simp only [Act.put,List.setIfInBounds_toArray,List.set_cons_zero,List.set_cons_succ]
    clear HBF R1 c3
    go_wp2_with (refine store_blk 31 22 Try.sizeFd (by rfl) (.tmp 6) (.tmp 51) (by rfl) (n+1) (fpA ⟨false,N,U⟩) (by rfl) (by rfl) v2 (by rfl) (fpA_size _ hlN) (fpA_all _) ?_;intro w9 q1 q2 q3 q4)
    refine bodyPost_ret (ret_blk2 31 22 Try.underlying31 rfl Try.sizeFd rfl (by rfl) q1 (fpA_size _ hlN)) rfl ⟨?_,?_⟩
    ·rw [HSE.out];rfl
    ·first | exact HV3.out.trans (q4 n (by omega)) | (rw [hnn];exact HV3.out.trans (q4 n (by omega)))
end Go.Proofs.Ytebpgfodelggoab
