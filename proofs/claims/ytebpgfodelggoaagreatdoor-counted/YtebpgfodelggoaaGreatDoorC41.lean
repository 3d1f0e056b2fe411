import Derived.Test.YtebpgfodelggoaaGreatDoorC40
import Derived.Test.YtebpgfodelggoaaGreatDoorC16
import Derived.Deep.QuietTactic
import Derived.BigQuiet
set_option linter.unusedVariables false
set_option linter.unusedSimpArgs false
set_option maxRecDepth 100000
set_option maxHeartbeats 4000000
namespace Go.Proofs.YtebpgfodelggoaaGreatDoor
open Go.RowKit
theorem Tryz.infoSt:(Tryz.prog.info? 64).map (fun i=>(i.zero,i.size,i.bytes))=some (some (.agg (stA [])),43,344):=by kernel_rfl
theorem fill_st (x:List Int) {i0:TypeInfo} (hz1:i0.size=43):Instr.fill (fun i=>some (i*i0.size,i0.size)) ((Array.range (1*i0.size)).map ((Value.agg (stA [])).cells[· % (Value.agg (stA [])).cells.size]!)) [(0,.agg (stA x))]=some (stA x):=by
 rw [hz1];unfold stA stC;kernel_rfl
section
variable {k:Pk} {w:World} {steps:Int} {hd:List Bool} {room:Int} {wo:Option Addr} {wc:Nat} {W:List (List Int)}
theorem spent_prog (h:PlayAt k w steps hd room wo wc W):Calls Tryz.prog 24 #[.pointer (some ⟨k.g,0,none⟩)] w fun e w'=>e=.returned (.bool (decide (steps>k.budget)))∧Below w.heap.size w w':=by
 obtain ⟨c0,c1,c2,c3,c4,c5,c6,c7,c8,c9,hf⟩:=h.cells
 clear h hf c0 c1 c4 c5 c6 c7 c8 c9
 generalize k.g=g at *
 generalize k.budget=B at *
 go_enter Tryz.func24,Tryz.ntmps24
 go_wp2_with fail
 go_region
 go_wp2_with fail
 go_ret
 exact ⟨rfl,(Below.refl _ _).drew⟩
theorem st_after {w1:World} {n m cap:Nat} {T E:Array Value} {ty te:TypeId} {W2:World} (h:PlayAt k w steps hd room wo wc W) (hb:Below w.heap.size w W2) (hn:n<W2.heap.size) (hnn:w.heap.size≤n) (hT:W2.heap[n]?=some (.cells T ty (0,0))) (hg:(W2.drew.alloc (.cells E te)).grownBy w1 (Value.slice wo m cap).ownBlock) :
  w1.heap[n]?=some (.cells T ty (0,0))∧(∀ o,w1.cell? ⟨k.g,o,none⟩=w.cell? ⟨k.g,o,none⟩)∧(∀ o,w1.frozen? ⟨k.g,o,none⟩=w.frozen? ⟨k.g,o,none⟩):=by
 rw [ownBlock_blk] at hg
 obtain ⟨l1,l2,l3,l4,l5,l6⟩:=h.lt
 have hsz:=hb.size
 have h1:w1.heap[n]?=some (.cells T ty (0,0)):=by
  rw [hg.block _ (by simp;omega) (fun e=>by have:=(l6 _ e.symm).2;omega),heap_old _ _ _ (by simpa using hn)]
  exact hT
 have h2:w1.heap[k.g]?=w.heap[k.g]?:=by
  rw [hg.block _ (by simp;omega) (fun e=>h.apw.1 e.symm),heap_old _ _ _ (by simp;omega)]
  exact hb.block _ l1
 exact ⟨h1,fun o=>World.cell?_of_block (a:=⟨k.g,o,none⟩) h2,fun o=>World.frozen?_of_block (a:=⟨k.g,o,none⟩) h2⟩
theorem wait_prog (q:List Int) (inst:Int) (hq:q.length=43) (h:PlayAt k w steps hd room wo wc W) (hn:W.length≤1000000) :
  Calls Tryz.prog 32 #[.pointer (some ⟨k.g,0,none⟩),.agg (stA q),.int .i64 inst] w fun e w'=>e=.returned (.tuple #[])∧∃ wo' wc',PlayAt k w' steps hd room wo' wc' (W++[q.set 0 inst])∧PStep k wo wo' w w':=by
 obtain ⟨i0,hi,hz0,hz1,hz2⟩:=info_parts Tryz.infoSt
 have HB:Hid (PlayAt k w steps hd room wo wc W):=h
 obtain ⟨c0,c1,c2,c3,c4,c5,c6,c7,c8,c9,hf⟩:=h.cells
 have f9:=hf 9
 have hg:k.g<w.heap.size:=h.lt.1
 have hL:k.L≤w.heap.size:=by have:=h.lo;omega
 have HO:Hid (w.ownsRow k.L 64 43 (.slice wo W.length wc) W.length (W.flatMap stC)):=h.wt
 clear h hf c0 c1 c2 c3 c4 c5 c6 c7 c8
 have HSET:Hid ((stA q).setIfInBounds 0 (.int .i64 inst)=stA (q.set 0 inst)):=stA_set q hq 0 inst
 go_enter Tryz.func32,Tryz.ntmps32
 go_upto_region 1 with fail
 generalize hW1:w.alloc (.cells (stA q) 64)=W1 at *
 have B1:Below w.heap.size w W1:=by rw [← hW1];exact (Below.refl _ _).alloc (Nat.le_refl _) _
 have T1:W1.heap[w.heap.size]?=some (.cells (stA q) 64 (0,0)):=by rw [← hW1];exact heap_alloc_new _ _
 have Z1:W1.heap.size=w.heap.size+1:=by rw [← hW1];simp
 have x0:W1.cell? ⟨w.heap.size,0,none⟩=some (.int .i64 (Mt.gt q 0)):=by rw [(cell_block T1).1 0];exact stA_at q 0 (by omega)
 have y0:W1.frozen? ⟨w.heap.size,0,none⟩=false:=(cell_block T1).2 0
 clear hW1
 go_upto_region 2 with fail
 have B2:Below w.heap.size w (W1.setCell ⟨w.heap.size,0,none⟩ (.int .i64 inst)):=B1.setCell (p:=⟨w.heap.size,0,none⟩) (Nat.le_refl _) _
 have T2:(W1.setCell ⟨w.heap.size,0,none⟩ (.int .i64 inst)).heap[w.heap.size]?=some (.cells (stA (q.set 0 inst)) 64 (0,0)):=by
  have:=Go.heap_setCell_same W1 w.heap.size 0 _ _ (.int .i64 inst) T1
  rw [this];rw [← HSET.out]
 have Z2:(W1.setCell ⟨w.heap.size,0,none⟩ (.int .i64 inst)).heap.size=w.heap.size+1:=by simp [World.setCell,Z1]
 generalize W1.setCell ⟨w.heap.size,0,none⟩ (.int .i64 inst)=W2 at *
 clear x0 y0 T1 B1 Z1 HSET
 have hxl:(q.set 0 inst).length=43:=by simp [hq]
 generalize hqx:q.set 0 inst=x at *
 generalize hwn:w.heap.size=n at *
 ·skip
  have hcr:∀ z:World,z.heap[n]?=some (.cells (stA x) 64 (0,0))→z.rangeAt n 0 (stA x).toList:=fun z hz=>rangeAt_blk hz
  have C9:W2.cell? ⟨k.g,9,none⟩=some (.slice wo W.length wc):=by rw [World.cell?_of_block (a:=⟨k.g,9,none⟩) (B2.block k.g hg)];exact c9
  refine wp_region_held_drew (S:=fun z:World=>z.heap[n]?=some (.cells (stA x) 64 (0,0))) (by kernel_rfl) T2 (fun hH=>?_)
  generalize hkg:k.g=G at *
  refine takeAt 0 8 (.pointer (some ⟨G,0,none⟩)) rfl rfl (by kernel_rfl) (by kernel_rfl) (by kernel_rfl) (fun _ _ _ h=>h) (Or.inl ⟨by rfl,fun z hz=>by clear hH hz hcr T2;go_simp⟩) (by assumption) ?_
  simp only [Act.put,List.setIfInBounds_toArray,List.set_cons_zero,List.set_cons_succ]
  refine takeAt 1 9 (.pointer (some ⟨G,0,none⟩)) rfl rfl (by kernel_rfl) (by kernel_rfl) (by kernel_rfl) (fun _ _ _ h=>h) (Or.inl ⟨by rfl,fun z hz=>by clear hH hz hcr T2;go_simp⟩) (by assumption) ?_
  simp only [Act.put,List.setIfInBounds_toArray,List.set_cons_zero,List.set_cons_succ]
  refine takeAt 2 10 (.pointer (some ⟨G,0,none⟩)) rfl rfl (by kernel_rfl) (by kernel_rfl) (by kernel_rfl) (fun _ _ _ h=>h) (Or.inl ⟨by rfl,fun z hz=>by clear hH hz hcr T2;go_simp⟩) (by assumption) ?_
  simp only [Act.put,List.setIfInBounds_toArray,List.set_cons_zero,List.set_cons_succ]
  refine takeAt 3 11 (.pointer (some ⟨G,9,none⟩)) rfl rfl (by kernel_rfl) (by kernel_rfl) (by kernel_rfl) (fun _ _ _ h=>h) (Or.inl ⟨by rfl,fun z hz=>by clear hH hz hcr T2;go_simp⟩) (by assumption) ?_
  simp only [Act.put,List.setIfInBounds_toArray,List.set_cons_zero,List.set_cons_succ]
  refine takeAt 5 13 (.agg (stA x)) rfl rfl (by kernel_rfl) (by kernel_rfl) (by kernel_rfl) (fun _ _ _ h=>h) (yieldsIf_load_mid (by rfl) _ _ rfl _ _ rfl _ _ hcr Tryz.underlying64 rfl (by rw [Tryz.sizeSt];rfl)) (by assumption) ?_
  simp only [Act.put,List.setIfInBounds_toArray,List.set_cons_zero,List.set_cons_succ]
  have S1:(W2.drew.alloc (.cells (stA x) 64)).heap[n]?=some (.cells (stA x) 64 (0,0)) :=
   (heap_old _ _ _ (by simp [Z2])).trans T2
  have hsz:W2.drew.heap.size=n+1:=by simpa using Z2
  have hnw:(W2.drew.alloc (.cells (stA x) 64)).heap[n+1]?=some (.cells (stA x) 64 (0,0)):=by
   rw [← hsz];exact heap_alloc_new _ _
  refine wpAnyH_ready (rs:=[4,6]) (by kernel_rfl) (by simp) ?_
  refine AllReadyH.cons rfl (fun K hK=>?_) (AllReadyH.cons rfl (fun K hK=>?_) AllReadyH.nil)
  all_goals
   first
   | (
     refine step_build1 rfl 58 64 (.tmp 13) rfl (stA x) i0 _ (.agg (stA x)) Tryz.underlying58 hi hz0 (by rw [hz1];decide) (by rw [hz1];decide) (by rfl) (fill_st _ hz1) ?_
     refine hK.out _ _ S1 (fun hH2=>?_)
     clear hK K
     simp only [Act.put,List.setIfInBounds_toArray,List.set_cons_zero,List.set_cons_succ]
     refine wpAnyH_ready (rs:=[4]) (by kernel_rfl) (by simp) ?_
     refine AllReadyH.cons rfl (fun K hK=>?_) AllReadyH.nil
     try clear hH
     try clear hcr
     go_simp
     refine hK.out _ _ S1 (fun hH4=>?_)
     clear hK K
     )
   | (
     try clear hH
     try clear hcr
     go_simp
     refine hK.out _ _ T2 (fun hH4=>?_)
     clear hK K
     refine wpAnyH_ready (rs:=[6]) (by kernel_rfl) (by simp) ?_
     refine AllReadyH.cons rfl (fun K hK=>?_) AllReadyH.nil
     refine step_build1 rfl 58 64 (.tmp 13) rfl (stA x) i0 _ (.agg (stA x)) Tryz.underlying58 hi hz0 (by rw [hz1];decide) (by rw [hz1];decide) (by rfl) (fill_st _ hz1) ?_
     refine hK.out _ _ S1 (fun hH2=>?_)
     clear hK K
     simp only [Act.put,List.setIfInBounds_toArray,List.set_cons_zero,List.set_cons_succ,hsz]
     )
  all_goals
   refine wpAnyH_ready (rs:=[7]) (by kernel_rfl) (by simp) ?_
   refine AllReadyH.cons rfl (fun K hK=>?_) AllReadyH.nil
   refine step_append_lies _ rfl (.tmp 12) (.tmp 14) 58 rfl k.L 64 i0 _ 43 344 Tryz.underlying58 hi hz0 hz1 hz2 (stA_size []) (by decide) (.slice wo W.length wc) W.length (W.flatMap stC) (by rfl) (World.ownsRow.alloc (w:=W2.drew) (row_keep HO.out (fun i hi=>by have:=(HB.out.lt.2.2.2.2.2 i hi).2;exact B2.block i (by omega))) _) ⟨n+1,0,none⟩ 1 1 (stC x) (by rfl) (by rw [stC_len]) (World.news_of_block (cs:=(stA x)) hnw) (stC_all x) (by decide) (by unfold maxLen;omega) (by omega) (by simp [Z2];omega) (n+2) (by simp [Z2]) ?_
   intro q cap w1 hown hgrow hq hqlt
   obtain ⟨A1,A2,A3⟩:=st_after HB.out (by rw [hwn];exact B2) (by omega) (by omega) T2 hgrow
   refine hK.out _ _ A1 (fun hH3=>?_)
   clear hK K
   have d1:=A2 9
   rw [hkg,c9] at d1
   have e1:=A3 9
   rw [hkg,f9] at e1
   have HM:Hid (PlayAt k (w1.setCell ⟨k.g,9,none⟩ (.slice (some ⟨q,0,none⟩) (W.length+1) cap)) steps hd room (some ⟨q,0,none⟩) cap (W++[x])∧PStep k wo (some ⟨q,0,none⟩) w (w1.setCell ⟨k.g,9,none⟩ (.slice (some ⟨q,0,none⟩) (W.length+1) cap))) :=
    wait_mem HB.out (w0:=W2.drew.alloc (.cells (stA x) 64)) (by rw [hwn];exact (B2.drew).alloc (by simp [Z2]) _) (by simp [Z2];omega) (by rw [ownBlock_blk] at hgrow;exact hgrow) (by rw [ownBlock_blk] at hq;simpa [Z2] using hq) hown
   try rw [hkg] at HM
   have SZ:n<w1.heap.size:=(Array.getElem?_eq_some_iff.1 A1).1
   have S4:(w1.setCell ⟨G,9,none⟩ (.slice (some ⟨q,0,none⟩) (W.length+1) cap)).heap[n]?=some (.cells (stA x) 64 (0,0)) :=
    (Below.heap_setCell _ _ _ _ (by show n≠G;omega)).trans A1
   clear A2 A3 hgrow hown hq T2 S1
   simp only [Act.put,List.setIfInBounds_toArray,List.set_cons_zero,List.set_cons_succ]
   refine takeAt 8 16 (.pointer (some ⟨G,0,none⟩)) rfl rfl (by kernel_rfl) (by kernel_rfl) (by kernel_rfl) (fun _ _ _ h=>h) (Or.inl ⟨by rfl,fun z hz=>by clear hH3 hz S4;go_simp⟩) (by assumption) ?_
   simp only [Act.put,List.setIfInBounds_toArray,List.set_cons_zero,List.set_cons_succ]
   refine takeAt 9 17 (.pointer (some ⟨G,9,none⟩)) rfl rfl (by kernel_rfl) (by kernel_rfl) (by kernel_rfl) (fun _ _ _ h=>h) (Or.inl ⟨by rfl,fun z hz=>by clear hH3 hz S4;go_simp⟩) (by assumption) ?_
   simp only [Act.put,List.setIfInBounds_toArray,List.set_cons_zero,List.set_cons_succ]
   refine wpAnyH_ready (rs:=[10]) (by kernel_rfl) (by simp) ?_
   refine AllReadyH.cons rfl (fun K hK=>?_) AllReadyH.nil
   go_simp
   refine hK.out _ _ S4 (fun hH4=>?_)
   clear hK K
   refine wpAnyH_done (by kernel_rfl) ?_ _
   go_wp2_with fail
   go_returns
   exact ⟨rfl,some ⟨q,0,none⟩,cap,by rw [hqx];exact HM.out⟩
end
section
variable {k:Pk} {w:World} {steps:Int} {hd:List Bool} {room:Int} {wo:Option Addr} {wc:Nat} {W:List (List Int)}
theorem hasOne_prog (h:PlayAt k w steps hd room wo wc W) (pos:Nat) (ht:k.t.size≤60) (p:ByteArray) (hp:p.size≤256) (hpos:pos≤60):Calls Tryz.prog 62 #[.pointer (some ⟨k.g,0,none⟩),.int .i64 (pos:Nat),.string p] w fun e w'=>e=.returned (.bool (if (pos:Int)<k.t.size then Mt.hasB p (Mt.byI k.t pos) else false))∧Below w.heap.size w w':=by
 obtain ⟨c0,c1,c2,c3,c4,c5,c6,c7,c8,c9,hf⟩:=h.cells
 have hg:k.g<w.heap.size:=h.lt.1
 clear h hf c0 c2 c3 c4 c5 c6 c7 c8 c9
 generalize k.g=g at *
 generalize k.t=t at *
 by_cases hlt:pos<t.size
 ·have hlt':(pos:Int)<t.size:=by omega
  rw [if_pos hlt']
  have hby:Mt.byI t pos=((t[pos]'hlt).toNat:Int):=by unfold Mt.byI;rw [dif_pos hlt]
  rw [hby]
  have hno:decide ((pos:Int)≥(t.size:Int))=false:=by simp;omega
  go_enter Tryz.func62,Tryz.ntmps62
  go_wp2_with fail
  go_loopw [7] (fun i wr=>∃ j:Nat,j≤p.size∧i=.int .i64 j∧Mt.hasTo p ((t[pos]'hlt).toNat:Int) j=false∧Below w.heap.size w wr) (fun i _=>p.size-(intOf i).toNat)
  case atStart=>exact ⟨0,Nat.zero_le _,rfl,rfl,Below.refl _ _⟩
  case round =>
   obtain ⟨j,hj,rfl,hr,hbr⟩:=hrel
   have d1:wr.cell? ⟨g,1,none⟩=some (.string t):=by rw [hbr.cell (p:=⟨g,1,none⟩) hg];exact c1
   have HR:Hid (Mt.hasTo p ((t[pos]'hlt).toNat:Int) j=false):=hr
   have HBR:Hid (Below w.heap.size w wr):=hbr
   clear hr hbr
   by_cases hjl:j<p.size
   ·cases hq:(((p[j]'hjl).toNat:Int)==((t[pos]'hlt).toNat:Int))
    ·have HN:Hid (Mt.hasTo p ((t[pos]'hlt).toNat:Int) (j+1)=false):=by show _=_;rw [Mt.hasTo_next p _ j hjl,HR.out,hq];rfl
     go_wp2_with fail
     go_region
     go_wp2_with fail
     go_roundw
     case rel=>exact ⟨j+1,by omega,by go_num,HN.out,HBR.out.drew⟩
     case measure=>simp [intOf];omega
    ·have HE:Hid (Mt.hasB p ((t[pos]'hlt).toNat:Int)=true):=Mt.hasB_hit p _ j hjl hq
     go_wp2_with fail
     go_region
     go_wp2_with fail
     go_ret
     exact ⟨ret_bool (by rw [HE.out]),HBR.out.drew⟩
   ·have HE:Hid (Mt.hasB p ((t[pos]'hlt).toNat:Int)=false):=by
     have:=HR.out
     rwa [show j=p.size by omega,Mt.hasTo_all] at this
    go_wp2_with fail
    go_ret
    exact ⟨ret_bool (by rw [HE.out]),HBR.out⟩
 ·rw [if_neg (by omega)]
  have hno:decide ((pos:Int)≥(t.size:Int))=true:=by simp;omega
  go_enter Tryz.func62,Tryz.ntmps62
  go_wp2_with fail
  go_ret
  exact ⟨rfl,Below.refl _ _⟩
end
section
variable {k:Pk} {w:World} {steps:Int} {hd:List Bool} {room:Int} {wo:Option Addr} {wc:Nat} {W:List (List Int)}
theorem hasAgain_prog (h:PlayAt k w steps hd room wo wc W) (pos a n:Nat) (ht:k.t.size≤60) (hpos:pos≤k.t.size) (ha:a+n≤k.t.size):Calls Tryz.prog 63 #[.pointer (some ⟨k.g,0,none⟩),.int .i64 (pos:Nat),.int .i64 (a:Nat),.int .i64 (n:Nat)] w fun e w'=>e=.returned (.bool (if (k.t.size:Int)<pos+n then false else Mt.agTo k.t pos a n))∧∃ m,w'=w.drewN m:=by
 obtain ⟨c0,c1,c2,c3,c4,c5,c6,c7,c8,c9,hf⟩:=h.cells
 have hg:k.g<w.heap.size:=h.lt.1
 clear h hf c0 c2 c3 c4 c5 c6 c7 c8 c9
 generalize k.g=g at *
 generalize k.t=t at *
 by_cases hlt:(t.size:Int)<pos+n
 ·rw [if_pos hlt]
  have hno:decide ((n:Int)>(t.size:Int)-pos)=true:=by simp;omega
  go_enter Tryz.func63,Tryz.ntmps63
  go_wp2_with fail
  go_ret
  exact ⟨rfl,0,rfl⟩
 ·rw [if_neg hlt]
  have hno:decide ((n:Int)>(t.size:Int)-pos)=false:=by simp;omega
  have hpn:pos+n≤t.size:=by omega
  clear hlt
  go_enter Tryz.func63,Tryz.ntmps63
  go_wp2_with fail
  go_loopw [9] (fun i wr=>∃ j:Nat,j≤n∧i=.int .i64 j∧Mt.agTo t pos a j=true∧∃ m,wr=w.drewN m) (fun i _=>n-(intOf i).toNat)
  case atStart=>exact ⟨0,Nat.zero_le _,rfl,rfl,0,rfl⟩
  case round =>
   obtain ⟨j,hj,rfl,hr,m,hbr⟩:=hrel
   have d1:wr.cell? ⟨g,1,none⟩=some (.string t):=by rw [hbr];exact c1
   have HR:Hid (Mt.agTo t pos a j=true):=hr
   have HBR:Hid (wr=w.drewN m):=hbr
   clear hr hbr
   by_cases hjl:j<n
   ·have p1:pos+j<t.size:=by omega
    have p2:a+j<t.size:=by omega
    have i1:(pos:Int)+j<t.size:=by omega
    have i2:(a:Int)+j<t.size:=by omega
    have i3:(0:Int)≤(a:Int)+j:=by omega
    have i4:(0:Int)≤(pos:Int)+j:=by omega
    have HN:Hid (Mt.agTo t pos a (j+1)=(((t[pos+j]'p1).toNat:Int)==((t[a+j]'p2).toNat:Int))):=by show _=_;rw [Mt.agTo_next,HR.out,Bool.true_and,Mt.byI_in t _ p1,Mt.byI_in t _ p2]
    cases hq:(((t[pos+j]'p1).toNat:Int)==((t[a+j]'p2).toNat:Int))
    ·have HE:Hid (Mt.agTo t pos a n=false):=by
      show _=_
      have:=Mt.agTo_less t pos a (j+1) (n-(j+1)) (by rw [HN.out,hq])
      rw [show j+1+(n-(j+1))=n by omega] at this;exact this
     have hq':(((t[pos+j]'p1).toNat:Int) != ((t[a+j]'p2).toNat:Int))=true:=by simp only [bne,hq];rfl
     go_wp2_with fail
     go_region
     go_wp2_with fail
     go_ret
     exact ⟨ret_bool (by rw [HE.out]),m+1,by rw [HBR.out];rfl⟩
    ·have hq':(((t[pos+j]'p1).toNat:Int) != ((t[a+j]'p2).toNat:Int))=false:=by simp only [bne,hq];rfl
     go_wp2_with fail
     go_region
     go_wp2_with fail
     go_roundw
     case rel=>exact ⟨j+1,by omega,by go_num,by rw [HN.out,hq],m+1,by rw [HBR.out];rfl⟩
     case measure=>simp [intOf];omega
   ·have HE:Hid (Mt.agTo t pos a n=true):=by
     have:=HR.out
     rwa [show j=n by omega] at this
    go_wp2_with fail
    go_ret
    exact ⟨ret_bool (by rw [HE.out]),m,HBR.out⟩
end
theorem closeGroup_prog (w:World) (b:Nat) (q:List Int) (hq:q.length=43) (hb:w.heap[b]?=some (.cells (stA q) 64 (0,0))) (x:Nat) (hx:x<10):Calls Tryz.prog 47 #[.pointer (some ⟨b,0,none⟩),.int .i64 (x:Nat)] w fun e w'=>e=.returned (.tuple #[])∧w'.heap[b]?=some (.cells (stA ((q.set (2+2*x) (Mt.gt q (22+x))).set (2+(2*x+1)) (Mt.gt q 1))) 64 (0,0))∧(∀ L,L≤b→Below L w w')∧(∀ j,j≠b→w'.heap[j]?=w.heap[j]?)∧w'.heap.size=w.heap.size:=by
 have hcb:=cell_block hb
 have c1:w.cell? ⟨b,1,none⟩=some (.int .i64 (Mt.gt q 1)):=by rw [hcb.1 1];exact stA_at q 1 (by omega)
 have cn:w.cell? ⟨b,22+x,none⟩=some (.int .i64 (Mt.gt q (22+x))):=by rw [hcb.1 _];exact stA_at q _ (by omega)
 have ca:w.cell? ⟨b,2+2*x,none⟩=some (.int .i64 (Mt.gt q (2+2*x))):=by rw [hcb.1 _];exact stA_at q _ (by omega)
 have cb:w.cell? ⟨b,2+(2*x+1),none⟩=some (.int .i64 (Mt.gt q (2+(2*x+1)))):=by rw [hcb.1 _];exact stA_at q _ (by omega)
 have fa:=hcb.2 (2+2*x)
 have fb:=hcb.2 (2+(2*x+1))
 have HBk:Hid (w.heap[b]?=some (.cells (stA q) 64 (0,0))):=hb
 clear hcb hb
 go_enter Tryz.func47,Tryz.ntmps47
 go_wp2_with fail
 go_region
 go_wp2_with fail
 have T1:=Go.heap_setCell_same w b (2+2*x) _ _ (.int .i64 (Mt.gt q (22+x))) HBk.out
 rw [stA_set q hq] at T1
 have BL:∀ L,L≤b→Below L w (w.setCell ⟨b,2+2*x,none⟩ (.int .i64 (Mt.gt q (22+x)))).drew:=fun L hL=>((Below.refl L w).setCell (p:=⟨b,2+2*x,none⟩) hL _).drew
 have OT:∀ j,j≠b→(w.setCell ⟨b,2+2*x,none⟩ (.int .i64 (Mt.gt q (22+x)))).drew.heap[j]?=w.heap[j]?:=fun j hj=>Below.heap_setCell _ _ _ _ hj
 have SZ:(w.setCell ⟨b,2+2*x,none⟩ (.int .i64 (Mt.gt q (22+x)))).drew.heap.size=w.heap.size:=by simp [World.setCell]
 have T1':(w.setCell ⟨b,2+2*x,none⟩ (.int .i64 (Mt.gt q (22+x)))).drew.heap[b]?=some (.cells (stA (q.set (2+2*x) (Mt.gt q (22+x)))) 64 (0,0)):=T1
 have HBL:Hid (∀ L,L≤b→Below L w (w.setCell ⟨b,2+2*x,none⟩ (.int .i64 (Mt.gt q (22+x)))).drew):=BL
 have HOT:Hid (∀ j,j≠b→(w.setCell ⟨b,2+2*x,none⟩ (.int .i64 (Mt.gt q (22+x)))).drew.heap[j]?=w.heap[j]?):=OT
 have HSZ:Hid ((w.setCell ⟨b,2+2*x,none⟩ (.int .i64 (Mt.gt q (22+x)))).drew.heap.size=w.heap.size):=SZ
 clear T1 BL OT SZ ca cb c1 cn fa fb HBk
 generalize (w.setCell ⟨b,2+2*x,none⟩ (.int .i64 (Mt.gt q (22+x)))).drew=w1 at *
 have e1:Mt.gt (q.set (2+2*x) (Mt.gt q (22+x))) 1=Mt.gt q 1:=Mt.gt_set_ne _ _ _ _ (by omega)
 have hcb:=cell_block T1'
 have c1:w1.cell? ⟨b,1,none⟩=some (.int .i64 (Mt.gt q 1)):=by rw [hcb.1 1,← e1];exact stA_at _ 1 (by omega)
 have cb:w1.cell? ⟨b,2+(2*x+1),none⟩=some (.int .i64 (Mt.gt (q.set (2+2*x) (Mt.gt q (22+x))) (2+(2*x+1)))):=by rw [hcb.1 _];exact stA_at _ _ (by omega)
 have fb:=hcb.2 (2+(2*x+1))
 have hq1:(q.set (2+2*x) (Mt.gt q (22+x))).length=43:=by simp [hq]
 have HBk:Hid (w1.heap[b]?=some (.cells (stA (q.set (2+2*x) (Mt.gt q (22+x)))) 64 (0,0))):=T1'
 clear T1' hcb e1
 generalize hq1e:q.set (2+2*x) (Mt.gt q (22+x))=q1 at *
 generalize Mt.gt q1 (2+(2*x+1))=z at *
 generalize hye:Mt.gt q 1=y at *
 go_region
 go_wp2_with fail
 have T2:=Go.heap_setCell_same w1 b (2+(2*x+1)) _ _ (.int .i64 y) HBk.out
 rw [stA_set q1 hq1] at T2
 go_returns
 refine ⟨rfl,by rw [hq1e,hye];exact T2,fun L hL=>(HBL.out L hL).trans ((Below.refl L w1).setCell (p:=⟨b,2+(2*x+1),none⟩) hL _).drew,fun j hj=>?_,?_⟩
 ·exact (Below.heap_setCell _ _ _ _ hj).trans (HOT.out j hj)
 ·rw [← HSZ.out];simp [World.setCell]
structure Ctx (k:Pk) (E:Mt.Env) (A:Int→Mt.Att):Prop where
 ec:E.c=k.c
 et:E.t=k.t
 known:Mt.Known k.c A
 ar:∀ p,p<k.c.length→E.ar.getD p 0=Mt.loopsAt k.c p
 arN:∀ p,E.arN p≤11
 lp:∀ p,p<k.c.length→k.lp.getD p 0=(E.arN p:Int)
 sl:∀ p,p<k.c.length→k.sl.getD p 0=if E.inn.getD p false=true then (E.base p:Int) else -1
 t60:k.t.size≤60
 bud:0≤k.budget∧k.budget≤10000
section
variable {k:Pk} {w:World} {steps:Int} {hd:List Bool} {room:Int} {wo:Option Addr} {wc:Nat} {W:List (List Int)}
theorem PlayAt.lpAt (h:PlayAt k w steps hd room wo wc W) (p:Nat) (hp:p<k.c.length):w.cell? ⟨k.gl,p,none⟩=some (.int .i64 (k.lp.getD p 0)):=by
 have hl:=h.ll
 rw [World.ownsRow.cellAt h.lps p (by omega),List.getD_eq_getElem?_getD,List.getElem?_map,List.getElem?_eq_getElem (by omega)];rfl
theorem PlayAt.slAt (h:PlayAt k w steps hd room wo wc W) (p:Nat) (hp:p<k.c.length):w.cell? ⟨k.gs,p,none⟩=some (.int .i64 (k.sl.getD p 0)):=by
 have hl:=h.ls
 rw [World.ownsRow.cellAt h.sls p (by omega),List.getD_eq_getElem?_getD,List.getElem?_map,List.getElem?_eq_getElem (by omega)];rfl
theorem PlayAt.hdAt (h:PlayAt k w steps hd room wo wc W) (p:Nat) (hp:p<hd.length):w.cell? ⟨k.gh,p,none⟩=some (.bool (hd.getD p false))∧w.frozen? ⟨k.gh,p,none⟩=false:=by
 refine ⟨?_,World.ownsRow.frozenAt h.hds p⟩
 rw [World.ownsRow.cellAt h.hds p (by omega),List.getD_eq_getElem?_getD,List.getElem?_map,List.getElem?_eq_getElem (by omega)];rfl
theorem slotOf_prog (h:PlayAt k w steps hd room wo wc W) (q:List Int) (pc pos a B:Nat) (hp0:Mt.gt q 0=pc) (hp1:Mt.gt q 1=pos) (hpc:pc<k.c.length) (hc:k.c.length≤300) (hpos:pos≤k.t.size) (ht:k.t.size≤60) (hlp:k.lp.getD pc 0=(a:Int)) (ha:a≤11) (hsl:k.sl.getD pc 0=(B:Int)) (hB:B≤300000) :
  Calls Tryz.prog 46 #[.pointer (some ⟨k.g,4,none⟩),.agg (stA q)] w fun e w'=>e=.returned (.int .i64 ((B+Mt.levelTo q a*(k.t.size+1)+pos:Nat):Int))∧Below w.heap.size w w':=by
 obtain ⟨c0,c1,c2,c3,c4,c5,c6,c7,c8,c9,hf⟩:=h.cells
 have hg:k.g<w.heap.size:=h.lt.1
 have hgl:k.gl<w.heap.size:=h.lt.2.2.1
 have hgs:k.gs<w.heap.size:=h.lt.2.2.2.1
 have cl:=h.lpAt pc hpc
 have cs:=h.slAt pc hpc
 rw [hlp] at cl
 rw [hsl] at cs
 clear h hf c0 c1 c2 c3 c7 c8 c9 hlp hsl
 have hpc':(pc:Int)<(k.c.length:Int):=by omega
 generalize k.g=g at *
 generalize k.t.size=T at *
 generalize k.c.length=CL at *
 generalize k.gl=gl at *
 generalize k.gs=gs at *
 generalize k.cl=ccl at *
 generalize k.cs=ccs at *
 go_enter Tryz.func46,Tryz.ntmps46
 go_upto_region 1 with fail
 generalize hW1:w.alloc (.cells (stA q) 64)=W1 at *
 have B1:Below w.heap.size w W1:=by rw [← hW1];exact (Below.refl _ _).alloc (Nat.le_refl _) _
 have T1:W1.heap[w.heap.size]?=some (.cells (stA q) 64 (0,0)):=by rw [← hW1];exact heap_alloc_new _ _
 have Z1:W1.heap.size=w.heap.size+1:=by rw [← hW1];simp
 clear hW1
 have HT:Hid (∀ j,j<43→∀ z:World,Below W1.heap.size W1 z→z.cell? ⟨w.heap.size,j,none⟩=some (.int .i64 (Mt.gt q j))):=fun j hj z hz=>by
  rw [World.cell?_of_block (a:=⟨w.heap.size,j,none⟩) (hz.block w.heap.size (by omega)),(cell_block T1).1 j];exact stA_at q j hj
 have HCL:Hid (∀ z:World,Below W1.heap.size W1 z→z.cell? ⟨g,5,none⟩=some (.slice (some ⟨gl,0,none⟩) CL ccl)∧z.cell? ⟨g,6,none⟩=some (.slice (some ⟨gs,0,none⟩) CL ccs)∧z.cell? ⟨g,4,none⟩=some (.int .i64 ((T:Int)+1))∧z.cell? ⟨gl,pc,none⟩=some (.int .i64 a)∧z.cell? ⟨gs,pc,none⟩=some (.int .i64 B)):=fun z hz=>by
  have o:∀ b j,b<w.heap.size→z.cell? ⟨b,j,none⟩=w.cell? ⟨b,j,none⟩:=fun b j hb=>World.cell?_of_block (a:=⟨b,j,none⟩) ((hz.block b (by omega)).trans (B1.block b hb))
  exact ⟨(o _ _ hg).trans c5,(o _ _ hg).trans c6,(o _ _ hg).trans c4,(o _ _ hgl).trans cl,(o _ _ hgs).trans cs⟩
 have HB1:Hid (Below w.heap.size w W1):=B1
 have hZ:w.heap.size≤W1.heap.size:=by omega
 clear T1 B1 Z1 c4 c5 c6 cl cs
 generalize hnn:w.heap.size=n at *
 go_wp2_with fail
 go_loopw [5,6] (fun e i wr=>∃ j:Nat,j≤a∧i=.int .i64 j∧e=.int .i64 (Mt.levelTo q j:Nat)∧Below W1.heap.size W1 wr) (fun _ i _=>a-(intOf i).toNat)
 case atStart=>exact ⟨0,Nat.zero_le _,rfl,rfl,Below.refl _ _⟩
 case round =>
  obtain ⟨j,hj,rfl,rfl,hbr⟩:=hrel
  obtain ⟨d5,d6,d4,dl,ds⟩:=HCL.out wr hbr
  have x0:=HT.out 0 (by omega) wr hbr
  have x1:=HT.out 1 (by omega) wr hbr
  rw [hp0] at x0
  rw [hp1] at x1
  have HBR:Hid (Below W1.heap.size W1 wr):=hbr
  have lv:=Mt.levelTo_le q j
  by_cases hlt:j<a
  ·have xm:=HT.out (32+j) (by omega) wr hbr
   have hlt':decide ((j:Int)<(a:Int))=true:=by simp;omega
   have hj11:(j:Int)<11:=by omega
   have HN:Hid (Mt.levelTo q (j+1)=Mt.levelTo q j+if Mt.gt q (32+j)==Mt.gt q 1 then 1 else 0):=Mt.levelTo_next q j
   rw [hp1] at HN
   clear hbr
   cases hq:(Mt.gt q (32+j)==(pos:Int))
   ·have HN':Hid (Mt.levelTo q (j+1)=Mt.levelTo q j):=by show _=_;rw [HN.out,hq];rfl
    clear HN
    generalize Mt.levelTo q j=lj at *
    generalize Mt.gt q (32+j)=mj at *
    go_wp2_with fail
    go_region
    go_wp2_with fail
    go_region
    go_wp2_with fail
    go_roundw
    case rel=>exact ⟨j+1,by omega,by go_num,by rw [HN'.out],HBR.out.drew.drew⟩
    case measure=>simp [intOf];omega
   ·have HN':Hid (Mt.levelTo q (j+1)=Mt.levelTo q j+1):=by show _=_;rw [HN.out,hq];rfl
    clear HN
    generalize Mt.levelTo q j=lj at *
    generalize Mt.gt q (32+j)=mj at *
    go_wp2_with fail
    go_region
    go_wp2_with fail
    go_region
    go_wp2_with fail
    go_roundw
    case rel=>exact ⟨j+1,by omega,by go_num,by rw [HN'.out];go_num,HBR.out.drew.drew⟩
    case measure=>simp [intOf];omega
  ·have e:j=a:=by omega
   subst e
   have hlt':decide ((j:Int)<(j:Int))=false:=by simp
   clear hbr
   generalize hlje:Mt.levelTo q j=lj at *
   have hmul:((lj*(T+1):Nat):Int)=(lj:Int)*((T:Int)+1):=by push_cast;rfl
   have hb1:lj*(T+1)≤11*61:=Nat.mul_le_mul (by omega) (by omega)
   go_wp2_with fail
   go_region
   go_wp2_with fail
   go_region
   go_wp2_with fail
   go_ret
   refine ⟨?_,by rw [hnn];exact HB1.out.trans ((HBR.out.drew.drew).mono hZ)⟩
   show Ending.returned (.int .i64 ((B:Int)+(lj:Int)*((T:Int)+1)+(pos:Int)))=_
   rw [hlje]
   have:(((B+lj*(T+1)+pos:Nat)):Int)=(B:Int)+(lj:Int)*((T:Int)+1)+(pos:Int):=by push_cast;rfl
   rw [this]
end
end Go.Proofs.YtebpgfodelggoaaGreatDoor
