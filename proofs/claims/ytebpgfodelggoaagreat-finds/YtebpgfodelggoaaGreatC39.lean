import Derived.Test.YtebpgfodelggoaaGreatC38
import Derived.Laws.Strings
import Derived.Deep.QuietTactic
import Derived.BigQuiet
set_option linter.unusedVariables false
set_option linter.unusedSimpArgs false
set_option maxRecDepth 100000
set_option maxHeartbeats 4000000
namespace Go.Proofs.YtebpgfodelggoaaGreat
open Go.RowKit
theorem Tryz.infoSt:(Tryz.prog.info? 83).map (fun i=>(i.zero,i.size,i.bytes))=some (some (.agg (stA [])),43,344):=by kernel_rfl
theorem zNx (x:List Int) {i0:TypeInfo} (hz1:i0.size=43):Instr.fill (fun i=>some (i*i0.size,i0.size)) ((Array.range (1*i0.size)).map ((Value.agg (stA [])).cells[· % (Value.agg (stA [])).cells.size]!)) [(0,.agg (stA x))]=some (stA x):=by
 rw [hz1];unfold stA stC;kernel_rfl
section
variable {k:Pk} {w:World} {steps:Int} {hd:List Bool} {room:Int} {wo:Option Addr} {wc:Nat} {W:List (List Int)}
theorem zD5 (h:zL k w steps hd room wo wc W):Calls Tryz.prog 41 #[.pointer (some ⟨k.g,0,none⟩)] w fun e w'=>e=.returned (.bool (decide (steps>k.budget)))∧Below w.heap.size w w':=by
 obtain ⟨c0,c1,c2,c3,c4,c5,c6,c7,c8,c9,hf⟩:=h.cells
 clear h hf c0 c1 c4 c5 c6 c7 c8 c9
 generalize k.g=g at *
 generalize k.budget=B at *
 go_enter Tryz.func41,Tryz.ntmps41
 go_wp2_with fail
 go_region
 go_wp2_with fail
 go_ret
 exact ⟨rfl,(Below.refl _ _).drew⟩
theorem zPj {w1:World} {n m cap:Nat} {T E:Array Value} {ty te:TypeId} {W2:World} (h:zL k w steps hd room wo wc W) (hb:Below w.heap.size w W2) (hn:n<W2.heap.size) (hnn:w.heap.size≤n) (hT:W2.heap[n]?=some (.cells T ty (0,0))) (hg:(W2.drew.alloc (.cells E te)).grownBy w1 (Value.slice wo m cap).ownBlock) :
  w1.heap[n]?=some (.cells T ty (0,0))∧(∀ o,w1.cell? ⟨k.g,o,none⟩=w.cell? ⟨k.g,o,none⟩)∧(∀ o,w1.frozen? ⟨k.g,o,none⟩=w.frozen? ⟨k.g,o,none⟩):=by
 rw [zW] at hg
 obtain ⟨l1,l2,l3,l4,l5,l6⟩:=h.lt
 have hsz:=hb.size
 have h1:w1.heap[n]?=some (.cells T ty (0,0)):=by
  rw [hg.block _ (by simp;omega) (fun e=>by have:=(l6 _ e.symm).2;omega),zX _ _ _ (by simpa using hn)]
  exact hT
 have h2:w1.heap[k.g]?=w.heap[k.g]?:=by
  rw [hg.block _ (by simp;omega) (fun e=>h.apw.1 e.symm),zX _ _ _ (by simp;omega)]
  exact hb.block _ l1
 exact ⟨h1,fun o=>World.cell?_of_block (a:=⟨k.g,o,none⟩) h2,fun o=>World.frozen?_of_block (a:=⟨k.g,o,none⟩) h2⟩
theorem zAR (q:List Int) (inst:Int) (hq:q.length=43) (h:zL k w steps hd room wo wc W) (hn:W.length≤1000000) :
  Calls Tryz.prog 68 #[.pointer (some ⟨k.g,0,none⟩),.agg (stA q),.int .i64 inst] w fun e w'=>e=.returned (.tuple #[])∧∃ wo' wc',zL k w' steps hd room wo' wc' (W++[q.set 0 inst])∧kW k wo wo' w w':=by
 obtain ⟨i0,hi,hz0,hz1,hz2⟩:=info_parts Tryz.infoSt
 have HB:Hid (zL k w steps hd room wo wc W):=h
 obtain ⟨c0,c1,c2,c3,c4,c5,c6,c7,c8,c9,hf⟩:=h.cells
 have f9:=hf 9
 have hg:k.g<w.heap.size:=h.lt.1
 have hL:k.L≤w.heap.size:=by have:=h.lo;omega
 have HO:Hid (w.ownsRow k.L 83 43 (.slice wo W.length wc) W.length (W.flatMap stC)):=h.wt
 clear h hf c0 c1 c2 c3 c4 c5 c6 c7 c8
 have zSV:Hid ((stA q).setIfInBounds 0 (.int .i64 inst)=stA (q.set 0 inst)):=zBh q hq 0 inst
 go_enter Tryz.func68,Tryz.ntmps68
 go_upto_region 1 with fail
 generalize hW1:w.alloc (.cells (stA q) 83)=W1 at *
 have B1:Below w.heap.size w W1:=by rw [← hW1];exact (Below.refl _ _).alloc (Nat.le_refl _) _
 have T1:W1.heap[w.heap.size]?=some (.cells (stA q) 83 (0,0)):=by rw [← hW1];exact heap_alloc_new _ _
 have Z1:W1.heap.size=w.heap.size+1:=by rw [← hW1];simp
 have x0:W1.cell? ⟨w.heap.size,0,none⟩=some (.int .i64 (Mt.gt q 0)):=by rw [(zA T1).1 0];exact qF q 0 (by omega)
 have y0:W1.frozen? ⟨w.heap.size,0,none⟩=false:=(zA T1).2 0
 clear hW1
 go_upto_region 2 with fail
 have B2:Below w.heap.size w (W1.setCell ⟨w.heap.size,0,none⟩ (.int .i64 inst)):=B1.setCell (p:=⟨w.heap.size,0,none⟩) (Nat.le_refl _) _
 have T2:(W1.setCell ⟨w.heap.size,0,none⟩ (.int .i64 inst)).heap[w.heap.size]?=some (.cells (stA (q.set 0 inst)) 83 (0,0)):=by
  have:=Go.heap_setCell_same W1 w.heap.size 0 _ _ (.int .i64 inst) T1
  rw [this];rw [← zSV.out]
 have Z2:(W1.setCell ⟨w.heap.size,0,none⟩ (.int .i64 inst)).heap.size=w.heap.size+1:=by simp [World.setCell,Z1]
 generalize W1.setCell ⟨w.heap.size,0,none⟩ (.int .i64 inst)=W2 at *
 clear x0 y0 T1 B1 Z1 zSV
 have hxl:(q.set 0 inst).length=43:=by simp [hq]
 generalize hqx:q.set 0 inst=x at *
 generalize hwn:w.heap.size=n at *
 ·skip
  have hcr:∀ z:World,z.heap[n]?=some (.cells (stA x) 83 (0,0))→z.rangeAt n 0 (stA x).toList:=fun z hz=>yS hz
  have C9:W2.cell? ⟨k.g,9,none⟩=some (.slice wo W.length wc):=by rw [World.cell?_of_block (a:=⟨k.g,9,none⟩) (B2.block k.g hg)];exact c9
  refine wp_region_held_drew (S:=fun z:World=>z.heap[n]?=some (.cells (stA x) 83 (0,0))) (by kernel_rfl) T2 (fun hH=>?_)
  generalize hkg:k.g=G at *
  refine kG 0 8 (.pointer (some ⟨G,0,none⟩)) rfl rfl (by kernel_rfl) (by kernel_rfl) (by kernel_rfl) (fun _ _ _ h=>h) (Or.inl ⟨by rfl,fun z hz=>by clear hH hz hcr T2;go_simp⟩) (by assumption) ?_
  simp only [Act.put,List.setIfInBounds_toArray,List.set_cons_zero,List.set_cons_succ]
  refine kG 1 9 (.pointer (some ⟨G,0,none⟩)) rfl rfl (by kernel_rfl) (by kernel_rfl) (by kernel_rfl) (fun _ _ _ h=>h) (Or.inl ⟨by rfl,fun z hz=>by clear hH hz hcr T2;go_simp⟩) (by assumption) ?_
  simp only [Act.put,List.setIfInBounds_toArray,List.set_cons_zero,List.set_cons_succ]
  refine kG 2 10 (.pointer (some ⟨G,0,none⟩)) rfl rfl (by kernel_rfl) (by kernel_rfl) (by kernel_rfl) (fun _ _ _ h=>h) (Or.inl ⟨by rfl,fun z hz=>by clear hH hz hcr T2;go_simp⟩) (by assumption) ?_
  simp only [Act.put,List.setIfInBounds_toArray,List.set_cons_zero,List.set_cons_succ]
  refine kG 3 11 (.pointer (some ⟨G,9,none⟩)) rfl rfl (by kernel_rfl) (by kernel_rfl) (by kernel_rfl) (fun _ _ _ h=>h) (Or.inl ⟨by rfl,fun z hz=>by clear hH hz hcr T2;go_simp⟩) (by assumption) ?_
  simp only [Act.put,List.setIfInBounds_toArray,List.set_cons_zero,List.set_cons_succ]
  refine kG 5 13 (.agg (stA x)) rfl rfl (by kernel_rfl) (by kernel_rfl) (by kernel_rfl) (fun _ _ _ h=>h) (yieldsIf_load_mid (by rfl) _ _ rfl _ _ rfl _ _ hcr Tryz.underlying83 rfl (by rw [Tryz.sizeSt];rfl)) (by assumption) ?_
  simp only [Act.put,List.setIfInBounds_toArray,List.set_cons_zero,List.set_cons_succ]
  have S1:(W2.drew.alloc (.cells (stA x) 83)).heap[n]?=some (.cells (stA x) 83 (0,0)) :=
   (zX _ _ _ (by simp [Z2])).trans T2
  have hsz:W2.drew.heap.size=n+1:=by simpa using Z2
  have hnw:(W2.drew.alloc (.cells (stA x) 83)).heap[n+1]?=some (.cells (stA x) 83 (0,0)):=by
   rw [← hsz];exact heap_alloc_new _ _
  refine wpAnyH_ready (rs:=[4,6]) (by kernel_rfl) (by simp) ?_
  refine AllReadyH.cons rfl (fun K hK=>?_) (AllReadyH.cons rfl (fun K hK=>?_) AllReadyH.nil)
  all_goals
   first
   | (
     refine zAK rfl 77 83 (.tmp 13) rfl (stA x) i0 _ (.agg (stA x)) Tryz.underlying77 hi hz0 (by rw [hz1];decide) (by rw [hz1];decide) (by rfl) (zNx _ hz1) ?_
     refine hK.out _ _ S1 (fun hH2=>?_)
     clear hK K
     simp only [Act.put,List.setIfInBounds_toArray,List.set_cons_zero,List.set_cons_succ]
     refine wpAnyH_ready (rs:=[4]) (by kernel_rfl) (by simp) ?_
     refine AllReadyH.cons rfl (fun K hK=>?_) AllReadyH.nil
     try clear hH
     try clear hcr
     go_simp
     refine hK.out _ _ S1 (fun hH4=>?_)
     clear hK K
     )
   | (
     try clear hH
     try clear hcr
     go_simp
     refine hK.out _ _ T2 (fun hH4=>?_)
     clear hK K
     refine wpAnyH_ready (rs:=[6]) (by kernel_rfl) (by simp) ?_
     refine AllReadyH.cons rfl (fun K hK=>?_) AllReadyH.nil
     refine zAK rfl 77 83 (.tmp 13) rfl (stA x) i0 _ (.agg (stA x)) Tryz.underlying77 hi hz0 (by rw [hz1];decide) (by rw [hz1];decide) (by rfl) (zNx _ hz1) ?_
     refine hK.out _ _ S1 (fun hH2=>?_)
     clear hK K
     simp only [Act.put,List.setIfInBounds_toArray,List.set_cons_zero,List.set_cons_succ,hsz]
     )
  all_goals
   refine wpAnyH_ready (rs:=[7]) (by kernel_rfl) (by simp) ?_
   refine AllReadyH.cons rfl (fun K hK=>?_) AllReadyH.nil
   refine step_append_lies _ rfl (.tmp 12) (.tmp 14) 77 rfl k.L 83 i0 _ 43 344 Tryz.underlying77 hi hz0 hz1 hz2 (zQ []) (by decide) (.slice wo W.length wc) W.length (W.flatMap stC) (by rfl) (World.ownsRow.alloc (w:=W2.drew) (zK HO.out (fun i hi=>by have:=(HB.out.lt.2.2.2.2.2 i hi).2;exact B2.block i (by omega))) _) ⟨n+1,0,none⟩ 1 1 (stC x) (by rfl) (by rw [zB6]) (World.news_of_block (cs:=(stA x)) hnw) (zJF x) (by decide) (by unfold maxLen;omega) (by omega) (by simp [Z2];omega) (n+2) (by simp [Z2]) ?_
   intro q cap w1 hown hgrow hq zM8
   obtain ⟨A1,A2,A3⟩:=zPj HB.out (by rw [hwn];exact B2) (by omega) (by omega) T2 hgrow
   refine hK.out _ _ A1 (fun hH3=>?_)
   clear hK K
   have d1:=A2 9
   rw [hkg,c9] at d1
   have e1:=A3 9
   rw [hkg,f9] at e1
   have HM:Hid (zL k (w1.setCell ⟨k.g,9,none⟩ (.slice (some ⟨q,0,none⟩) (W.length+1) cap)) steps hd room (some ⟨q,0,none⟩) cap (W++[x])∧kW k wo (some ⟨q,0,none⟩) w (w1.setCell ⟨k.g,9,none⟩ (.slice (some ⟨q,0,none⟩) (W.length+1) cap))) :=
    zPi HB.out (w0:=W2.drew.alloc (.cells (stA x) 83)) (by rw [hwn];exact (B2.drew).alloc (by simp [Z2]) _) (by simp [Z2];omega) (by rw [zW] at hgrow;exact hgrow) (by rw [zW] at hq;simpa [Z2] using hq) hown
   try rw [hkg] at HM
   have SZ:n<w1.heap.size:=(Array.getElem?_eq_some_iff.1 A1).1
   have S4:(w1.setCell ⟨G,9,none⟩ (.slice (some ⟨q,0,none⟩) (W.length+1) cap)).heap[n]?=some (.cells (stA x) 83 (0,0)) :=
    (Below.heap_setCell _ _ _ _ (by show n≠G;omega)).trans A1
   clear A2 A3 hgrow hown hq T2 S1
   simp only [Act.put,List.setIfInBounds_toArray,List.set_cons_zero,List.set_cons_succ]
   refine kG 8 16 (.pointer (some ⟨G,0,none⟩)) rfl rfl (by kernel_rfl) (by kernel_rfl) (by kernel_rfl) (fun _ _ _ h=>h) (Or.inl ⟨by rfl,fun z hz=>by clear hH3 hz S4;go_simp⟩) (by assumption) ?_
   simp only [Act.put,List.setIfInBounds_toArray,List.set_cons_zero,List.set_cons_succ]
   refine kG 9 17 (.pointer (some ⟨G,9,none⟩)) rfl rfl (by kernel_rfl) (by kernel_rfl) (by kernel_rfl) (fun _ _ _ h=>h) (Or.inl ⟨by rfl,fun z hz=>by clear hH3 hz S4;go_simp⟩) (by assumption) ?_
   simp only [Act.put,List.setIfInBounds_toArray,List.set_cons_zero,List.set_cons_succ]
   refine wpAnyH_ready (rs:=[10]) (by kernel_rfl) (by simp) ?_
   refine AllReadyH.cons rfl (fun K hK=>?_) AllReadyH.nil
   go_simp
   refine hK.out _ _ S4 (fun hH4=>?_)
   clear hK K
   refine wpAnyH_done (by kernel_rfl) ?_ _
   go_wp2_with fail
   go_returns
   exact ⟨rfl,some ⟨q,0,none⟩,cap,by rw [hqx];exact HM.out⟩
end
section
variable {k:Pk} {w:World} {steps:Int} {hd:List Bool} {room:Int} {wo:Option Addr} {wc:Nat} {W:List (List Int)}
theorem zJG (h:zL k w steps hd room wo wc W) (pos:Nat) (ht:k.t.size≤60) (p:ByteArray) (hp:p.size≤256) (hpos:pos≤60):Calls Tryz.prog 123 #[.pointer (some ⟨k.g,0,none⟩),.int .i64 (pos:Nat),.string p] w fun e w'=>e=.returned (.bool (if (pos:Int)<k.t.size then Mt.hasB p (Mt.byI k.t pos) else false))∧Below w.heap.size w w':=by
 obtain ⟨c0,c1,c2,c3,c4,c5,c6,c7,c8,c9,hf⟩:=h.cells
 have hg:k.g<w.heap.size:=h.lt.1
 clear h hf c0 c2 c3 c4 c5 c6 c7 c8 c9
 generalize k.g=g at *
 generalize k.t=t at *
 by_cases hlt:pos<t.size
 ·have hlt':(pos:Int)<t.size:=by omega
  rw [if_pos hlt']
  have hby:Mt.byI t pos=((t[pos]'hlt).toNat:Int):=by unfold Mt.byI;rw [dif_pos hlt]
  rw [hby]
  have hno:decide ((pos:Int)≥(t.size:Int))=false:=by simp;omega
  go_enter Tryz.func123,Tryz.ntmps123
  go_wp2_with fail
  go_loopw [7] (fun i wr=>∃ j:Nat,j≤p.size∧i=.int .i64 j∧Mt.zE4 p ((t[pos]'hlt).toNat:Int) j=false∧Below w.heap.size w wr) (fun i _=>p.size-(intOf i).toNat)
  case atStart=>exact ⟨0,Nat.zero_le _,rfl,rfl,Below.refl _ _⟩
  case round =>
   obtain ⟨j,hj,rfl,hr,hbr⟩:=hrel
   have d1:wr.cell? ⟨g,1,none⟩=some (.string t):=by rw [hbr.cell (p:=⟨g,1,none⟩) hg];exact c1
   have HR:Hid (Mt.zE4 p ((t[pos]'hlt).toNat:Int) j=false):=hr
   have HBR:Hid (Below w.heap.size w wr):=hbr
   clear hr hbr
   by_cases hjl:j<p.size
   ·cases hq:(((p[j]'hjl).toNat:Int)==((t[pos]'hlt).toNat:Int))
    ·have HN:Hid (Mt.zE4 p ((t[pos]'hlt).toNat:Int) (j+1)=false):=by show _=_;rw [Mt.zGg p _ j hjl,HR.out,hq];rfl
     go_wp2_with fail
     go_region
     go_wp2_with fail
     go_roundw
     case rel=>exact ⟨j+1,by omega,by go_num,HN.out,HBR.out.drew⟩
     case measure=>simp [intOf];omega
    ·have HE:Hid (Mt.hasB p ((t[pos]'hlt).toNat:Int)=true):=Mt.zJ4 p _ j hjl hq
     go_wp2_with fail
     go_region
     go_wp2_with fail
     go_ret
     exact ⟨kP (by rw [HE.out]),HBR.out.drew⟩
   ·have HE:Hid (Mt.hasB p ((t[pos]'hlt).toNat:Int)=false):=by
     have:=HR.out
     rwa [show j=p.size by omega,Mt.zHX] at this
    go_wp2_with fail
    go_ret
    exact ⟨kP (by rw [HE.out]),HBR.out⟩
 ·rw [if_neg (by omega)]
  have hno:decide ((pos:Int)≥(t.size:Int))=true:=by simp;omega
  go_enter Tryz.func123,Tryz.ntmps123
  go_wp2_with fail
  go_ret
  exact ⟨rfl,Below.refl _ _⟩
end
end Go.Proofs.YtebpgfodelggoaaGreat
namespace Mt
def Env.arN (E:Env) (p:Nat):Nat:=(E.ar.getD p 0).toNat
def Env.base (E:Env):Nat→Nat
 | 0=>0
 | p+1=>E.base p+if E.inn.getD p false=true then (E.t.size+1)*(E.arN p+1) else 0
theorem Env.zIp (E:Env) (p:Nat) (h:E.inn.getD p false=true):E.base (p+1)=E.base p+(E.t.size+1)*(E.arN p+1):=by rw [Env.base,if_pos h]
theorem Env.zNy (E:Env) (p:Nat) (h:E.inn.getD p false=false):E.base (p+1)=E.base p:=by rw [Env.base,if_neg (by rw [h];exact Bool.false_ne_true)];rfl
theorem Env.zCz (E:Env) (p:Nat):∀ d,E.base p≤E.base (p+d)
 | 0=>Nat.le_refl _
 | d+1=>by
  have:=Env.zCz E p d
  rw [← Nat.add_assoc,Env.base];omega
theorem Env.zHe (E:Env) (h:∀ p,E.arN p≤11):∀ p,E.base p≤p*((E.t.size+1)*12)
 | 0=>by simp [Env.base]
 | p+1=>by
  have ih:=Env.zHe E h p
  have:=Nat.mul_le_mul_left (E.t.size+1) (show E.arN p+1≤12 by have:=h p;omega)
  have e:(p+1)*((E.t.size+1)*12)=p*((E.t.size+1)*12)+(E.t.size+1)*12:=by rw [Nat.add_mul,Nat.one_mul]
  rw [Env.base,e]
  generalize (E.t.size+1)*(E.arN p+1)=u at *
  generalize p*((E.t.size+1)*12)=v at *
  split <;> omega
def Env.slot (E:Env) (p pos l:Nat):Nat:=E.base p+l*(E.t.size+1)+pos
theorem Env.zHf (E:Env) (p pos l:Nat) (hi:E.inn.getD p false=true) (hp:pos≤E.t.size) (hl:l≤E.arN p):E.slot p pos l<E.base (p+1):=by
 rw [E.zIp p hi]
 unfold Env.slot
 have:=Nat.mul_le_mul_right (E.t.size+1) hl
 have e:(E.t.size+1)*(E.arN p+1)=E.arN p*(E.t.size+1)+(E.t.size+1):=by rw [Nat.mul_comm,Nat.add_mul,Nat.one_mul]
 rw [e]
 omega
theorem zHg {m a b c d:Nat} (hb:b<m) (hd:d<m) (h:a*m+b=c*m+d):a=c∧b=d:=by
 have h1:(a*m+b)/m=a:=by rw [Nat.mul_comm,Nat.mul_add_div (by omega),Nat.div_eq_of_lt hb,Nat.add_zero]
 have h2:(c*m+d)/m=c:=by rw [Nat.mul_comm,Nat.mul_add_div (by omega),Nat.div_eq_of_lt hd,Nat.add_zero]
 rw [h,h2] at h1
 subst h1
 exact ⟨rfl,by omega⟩
theorem Env.zPk (E:Env) {p pos l p' pos' l':Nat} (hi:E.inn.getD p false=true) (hp:pos≤E.t.size) (hl:l≤E.arN p) (hi':E.inn.getD p' false=true) (hp':pos'≤E.t.size) (hl':l'≤E.arN p') (h:E.slot p pos l=E.slot p' pos' l'):p=p'∧pos=pos'∧l=l':=by
 have k1:=E.zHf p pos l hi hp hl
 have k2:=E.zHf p' pos' l' hi' hp' hl'
 have e:p=p':=by
  rcases Nat.lt_trichotomy p p' with hlt | he | hgt
  ·exfalso
   have:=E.zCz (p+1) (p'-(p+1))
   rw [show p+1+(p'-(p+1))=p' by omega] at this
   unfold Env.slot at h k1 k2;omega
  ·exact he
  ·exfalso
   have:=E.zCz (p'+1) (p-(p'+1))
   rw [show p'+1+(p-(p'+1))=p by omega] at this
   unfold Env.slot at h k1 k2;omega
 subst e
 unfold Env.slot at h
 have:=zHg (m:=E.t.size+1) (a:=l) (b:=pos) (c:=l') (d:=pos') (by omega) (by omega) (by omega)
 exact ⟨rfl,this.2,this.1⟩
theorem key_inj {T p pos l p' pos' l':Nat} (hp:pos≤T) (hl:l<12) (hp':pos'≤T) (hl':l'<12) (h:(p*(T+1)+pos)*12+l=(p'*(T+1)+pos')*12+l'):p=p'∧pos=pos'∧l=l':=by
 have h1:=zHg hl hl' h
 have h2:=zHg (show pos<T+1 by omega) (show pos'<T+1 by omega) h1.1
 exact ⟨h2.1,h2.2,h1.2⟩
structure Tab (E:Env) (hd kn:List Bool):Prop where
 len:hd.length=E.base E.c.length
 same:∀ p pos l,p<E.c.length→E.inn.getD p false=true→pos≤E.t.size→l≤E.arN p→hd.getD (E.slot p pos l) false=kn.getD ((p*(E.t.size+1)+pos)*12+l) false
theorem zGw (l:List Bool) (i j:Nat) (v:Bool):(l.set i v).getD j false=if i=j∧i<l.length then v else l.getD j false:=by
 simp only [List.getD_eq_getElem?_getD,List.getElem?_set]
 by_cases h:i=j
 ·subst h
  by_cases h2:i<l.length
  ·simp [h2]
  ·simp [h2]
 ·simp [h]
theorem Tab.set {E:Env} {hd kn:List Bool} (h:Tab E hd kn) (hkn:kn.length=E.c.length*(E.t.size+1)*12) (ha:∀ p,E.arN p≤11) (p pos l:Nat) (hp:p<E.c.length) (hi:E.inn.getD p false=true) (hpos:pos≤E.t.size) (hl:l≤E.arN p) :
  Tab E (hd.set (E.slot p pos l) true) (kn.set ((p*(E.t.size+1)+pos)*12+l) true):=by
 have k1:=E.zHf p pos l hi hpos hl
 have k2:=E.zCz (p+1) (E.c.length-(p+1))
 rw [show p+1+(E.c.length-(p+1))=E.c.length by omega] at k2
 have k3:(p*(E.t.size+1)+pos)*12+l<kn.length:=by
  rw [hkn]
  have h5:(p+1)*(E.t.size+1)≤E.c.length*(E.t.size+1):=Nat.mul_le_mul_right _ (by omega)
  have:=ha p
  rw [Nat.add_mul] at h5
  omega
 refine ⟨by rw [List.length_set];exact h.len,fun p' pos' l' hp' hi' hpos' hl'=>?_⟩
 rw [zGw,zGw]
 by_cases e:p=p'∧pos=pos'∧l=l'
 ·obtain ⟨rfl,rfl,rfl⟩:=e
  rw [if_pos ⟨rfl,by rw [h.len];omega⟩,if_pos ⟨rfl,k3⟩]
 ·rw [if_neg (fun x=>e (E.zPk hi hpos hl hi' hpos' hl' x.1)),if_neg (fun x=>e (key_inj hpos (by have:=ha p;omega) hpos' (by have:=ha p';omega) x.1))]
  exact h.same p' pos' l' hp' hi' hpos' hl'
theorem Tab.start (E:Env) (n:Nat):Tab E (List.replicate (E.base E.c.length) false) (List.replicate n false):=by
 refine ⟨by simp,fun p pos l hp hi hpos hl=>?_⟩
 rw [List.getD_eq_getElem?_getD,List.getD_eq_getElem?_getD,List.getElem?_replicate,List.getElem?_replicate]
 split <;> split <;> rfl
theorem zNz (E:Env) (q:Sta) (ha:E.arN (kY q)≤11):E.key q=(kY q*(E.t.size+1)+posOf q)*12+zU q (E.arN (kY q)):=by
 unfold Env.key keyOf lev
 have e:(E.ar.getD (kY q) 0).toNat=E.arN (kY q):=rfl
 rw [e,Nat.min_eq_left (by omega)]
theorem Tab.ask {E:Env} {hd kn:List Bool} (h:Tab E hd kn) (hkn:kn.length=E.c.length*(E.t.size+1)*12) (ha:∀ p,E.arN p≤11) (q:Sta) (room:Int) (hp:kY q<E.c.length) (hpos:posOf q≤E.t.size) (hi:E.isIn q=true) :
  hd.getD (E.slot (kY q) (posOf q) (zU q (E.arN (kY q)))) false=E.dead q kn∧E.slot (kY q) (posOf q) (zU q (E.arN (kY q)))<hd.length
  ∧ (E.dead q kn=true→E.kn' q kn room=kn∧E.room' q kn room=room)
  ∧ (E.dead q kn=false→(0<room→Tab E (hd.set (E.slot (kY q) (posOf q) (zU q (E.arN (kY q)))) true) (E.kn' q kn room)∧E.room' q kn room=room-1)∧(¬ 0<room→E.kn' q kn room=kn∧E.room' q kn room=room)):=by
 have hk:=zNz E q (ha _)
 have hll:=zCG q (E.arN (kY q))
 have hi':E.inn.getD (kY q) false=true:=hi
 have hs:=h.same (kY q) (posOf q) _ hp hi' hpos hll
 have k1:=E.zHf (kY q) (posOf q) _ hi' hpos hll
 have k2:=E.zCz (kY q+1) (E.c.length-(kY q+1))
 rw [show kY q+1+(E.c.length-(kY q+1))=E.c.length by omega] at k2
 have hd':E.dead q kn=kn.getD (E.key q) false:=by unfold Env.dead;rw [if_pos hi]
 refine ⟨by rw [hd',hk];exact hs,by rw [h.len];omega,fun e=>?_,fun e=>⟨fun hr=>?_,fun hr=>?_⟩⟩
 ·rw [hd'] at e
  unfold Env.kn' Env.room' yB kV
  rw [if_pos hi,if_pos hi,if_pos e,if_pos e];exact ⟨rfl,rfl⟩
 ·rw [hd'] at e
  have e':¬ kn.getD (E.key q) false=true:=by rw [e];exact Bool.false_ne_true
  unfold Env.kn' Env.room' yB kV
  rw [if_pos hi,if_pos hi,if_neg e',if_neg e',if_pos hr,if_pos hr]
  refine ⟨?_,rfl⟩
  rw [hk];exact h.set hkn ha _ _ _ hp hi' hpos hll
 ·rw [hd'] at e
  have e':¬ kn.getD (E.key q) false=true:=by rw [e];exact Bool.false_ne_true
  unfold Env.kn' Env.room' yB kV
  rw [if_pos hi,if_pos hi,if_neg e',if_neg e',if_neg hr,if_neg hr];exact ⟨rfl,rfl⟩
theorem Env.zRO (E:Env) (q:Sta) (kn:List Bool) (room:Int) (h:E.isIn q=false):E.dead q kn=false∧E.kn' q kn room=kn∧E.room' q kn room=room:=by
 have h':¬ E.isIn q=true:=by rw [h];exact Bool.false_ne_true
 unfold Env.dead Env.kn' Env.room'
 rw [if_neg h',if_neg h',if_neg h'];exact ⟨rfl,rfl,rfl⟩
def zKr (t:ByteArray) (pos a n:Nat):Bool:=(List.range n).all fun i=>byI t (pos+i)==byI t (a+i)
theorem zIq (t:ByteArray) (pos a n:Nat):zKr t pos a (n+1)=(zKr t pos a n&&(byI t (pos+n)==byI t (a+n))):=by
 unfold zKr;rw [List.range_succ,List.all_append];simp
theorem zIr (t:ByteArray) (pos a:Nat):∀ (n d:Nat),zKr t pos a n=false→zKr t pos a (n+d)=false
 | n,0,h=>h
 | n,d+1,h=>by rw [← Nat.add_assoc,zIq,zIr t pos a n d h];rfl
theorem zLD {a b:UInt8} (h:(a.toNat:Int)=b.toNat):a=b:=UInt8.toNat_inj.1 (by omega)
theorem zGx (t:ByteArray) (k:Nat) (h:k<t.size):byI t k=((t[k]'h).toNat:Int):=by unfold byI;rw [dif_pos h]
theorem toList_data (bs:ByteArray):bs.toList=bs.data.toList:=by first | exact Go.ByteArray.toList_eq bs | exact ByteArray.toList_eq bs
theorem zB7 (t:ByteArray) (a b i:Nat) (h:a+i<b) (hb:b≤t.size):(t.extract a b).toList[i]?=some (t[a+i]'(by omega)):=by
 have hs:(t.extract a b).size=b-a:=by rw [ByteArray.size_extract];omega
 have hi:i<(t.extract a b).size:=by omega
 rw [toList_data,List.getElem?_eq_getElem (by rw [Array.length_toList];exact hi)]
 have:=ByteArray.getElem_extract (b:=t) (start:=a) (stop:=b) (i:=i) hi
 rw [← this];rfl
theorem zFD (t:ByteArray) (a b:Nat) (hb:b≤t.size):(t.extract a b).toList.length=b-a:=by
 have hs:(t.extract a b).size=b-a:=by rw [ByteArray.size_extract];omega
 rw [toList_data,Array.length_toList];exact hs
theorem zIs (t:ByteArray) (pos a n:Nat) (h1:a+n≤t.size) (h2:pos+n≤t.size):zKr t pos a n=((t.extract a (a+n)).toList==(t.extract pos (pos+n)).toList):=by
 rw [Bool.eq_iff_iff,beq_iff_eq]
 unfold zKr
 rw [List.all_eq_true]
 constructor
 ·intro h
  refine List.ext_getElem? (fun i=>?_)
  by_cases hi:i<n
  ·rw [zB7 t a _ i (by omega) h1,zB7 t pos _ i (by omega) h2]
   have:=h i (List.mem_range.2 hi)
   rw [beq_iff_eq,zGx t _ (by omega),zGx t _ (by omega)] at this
   rw [zLD this]
  ·rw [List.getElem?_eq_none (by rw [zFD t a _ h1];omega),List.getElem?_eq_none (by rw [zFD t pos _ h2];omega)]
 ·intro h i hi
  rw [List.mem_range] at hi
  rw [beq_iff_eq,zGx t _ (by omega),zGx t _ (by omega)]
  have e:=congrArg (fun l=>l[i]?) h
  try dsimp only at e
  rw [zB7 t a _ i (by omega) h1,zB7 t pos _ i (by omega) h2] at e
  injection e with e
  rw [e]
end Mt
namespace Go.Proofs.YtebpgfodelggoaaGreat
open Go.RowKit
section
variable {k:Pk} {w:World} {steps:Int} {hd:List Bool} {room:Int} {wo:Option Addr} {wc:Nat} {W:List (List Int)}
theorem zHh (h:zL k w steps hd room wo wc W) (pos a n:Nat) (ht:k.t.size≤60) (hpos:pos≤k.t.size) (ha:a+n≤k.t.size):Calls Tryz.prog 124 #[.pointer (some ⟨k.g,0,none⟩),.int .i64 (pos:Nat),.int .i64 (a:Nat),.int .i64 (n:Nat)] w fun e w'=>e=.returned (.bool (if (k.t.size:Int)<pos+n then false else Mt.zKr k.t pos a n))∧∃ m,w'=w.drewN m:=by
 obtain ⟨c0,c1,c2,c3,c4,c5,c6,c7,c8,c9,hf⟩:=h.cells
 have hg:k.g<w.heap.size:=h.lt.1
 clear h hf c0 c2 c3 c4 c5 c6 c7 c8 c9
 generalize k.g=g at *
 generalize k.t=t at *
 by_cases hlt:(t.size:Int)<pos+n
 ·rw [if_pos hlt]
  have hno:decide ((n:Int)>(t.size:Int)-pos)=true:=by simp;omega
  go_enter Tryz.func124,Tryz.ntmps124
  go_wp2_with fail
  go_ret
  exact ⟨rfl,0,rfl⟩
 ·rw [if_neg hlt]
  have hno:decide ((n:Int)>(t.size:Int)-pos)=false:=by simp;omega
  have hpn:pos+n≤t.size:=by omega
  clear hlt
  go_enter Tryz.func124,Tryz.ntmps124
  go_wp2_with fail
  go_loopw [9] (fun i wr=>∃ j:Nat,j≤n∧i=.int .i64 j∧Mt.zKr t pos a j=true∧∃ m,wr=w.drewN m) (fun i _=>n-(intOf i).toNat)
  case atStart=>exact ⟨0,Nat.zero_le _,rfl,rfl,0,rfl⟩
  case round =>
   obtain ⟨j,hj,rfl,hr,m,hbr⟩:=hrel
   have d1:wr.cell? ⟨g,1,none⟩=some (.string t):=by rw [hbr];exact c1
   have HR:Hid (Mt.zKr t pos a j=true):=hr
   have HBR:Hid (wr=w.drewN m):=hbr
   clear hr hbr
   by_cases hjl:j<n
   ·have p1:pos+j<t.size:=by omega
    have p2:a+j<t.size:=by omega
    have i1:(pos:Int)+j<t.size:=by omega
    have i2:(a:Int)+j<t.size:=by omega
    have i3:(0:Int)≤(a:Int)+j:=by omega
    have i4:(0:Int)≤(pos:Int)+j:=by omega
    have HN:Hid (Mt.zKr t pos a (j+1)=(((t[pos+j]'p1).toNat:Int)==((t[a+j]'p2).toNat:Int))):=by show _=_;rw [Mt.zIq,HR.out,Bool.true_and,Mt.zGx t _ p1,Mt.zGx t _ p2]
    cases hq:(((t[pos+j]'p1).toNat:Int)==((t[a+j]'p2).toNat:Int))
    ·have HE:Hid (Mt.zKr t pos a n=false):=by
      show _=_
      have:=Mt.zIr t pos a (j+1) (n-(j+1)) (by rw [HN.out,hq])
      rw [show j+1+(n-(j+1))=n by omega] at this;exact this
     have hq':(((t[pos+j]'p1).toNat:Int) != ((t[a+j]'p2).toNat:Int))=true:=by simp only [bne,hq];rfl
     go_wp2_with fail
     go_region
     go_wp2_with fail
     go_ret
     exact ⟨kP (by rw [HE.out]),m+1,by rw [HBR.out];rfl⟩
    ·have hq':(((t[pos+j]'p1).toNat:Int) != ((t[a+j]'p2).toNat:Int))=false:=by simp only [bne,hq];rfl
     go_wp2_with fail
     go_region
     go_wp2_with fail
     go_roundw
     case rel=>exact ⟨j+1,by omega,by go_num,by rw [HN.out,hq],m+1,by rw [HBR.out];rfl⟩
     case measure=>simp [intOf];omega
   ·have HE:Hid (Mt.zKr t pos a n=true):=by
     have:=HR.out
     rwa [show j=n by omega] at this
    go_wp2_with fail
    go_ret
    exact ⟨kP (by rw [HE.out]),m,HBR.out⟩
end
theorem zFE (w:World) (b:Nat) (q:List Int) (hq:q.length=43) (hb:w.heap[b]?=some (.cells (stA q) 83 (0,0))) (x:Nat) (hx:x<10):Calls Tryz.prog 98 #[.pointer (some ⟨b,0,none⟩),.int .i64 (x:Nat)] w fun e w'=>e=.returned (.tuple #[])∧w'.heap[b]?=some (.cells (stA ((q.set (2+2*x) (Mt.gt q (22+x))).set (2+(2*x+1)) (Mt.gt q 1))) 83 (0,0))∧(∀ L,L≤b→Below L w w')∧(∀ j,j≠b→w'.heap[j]?=w.heap[j]?)∧w'.heap.size=w.heap.size:=by
 have hcb:=zA hb
 have c1:w.cell? ⟨b,1,none⟩=some (.int .i64 (Mt.gt q 1)):=by rw [hcb.1 1];exact qF q 1 (by omega)
 have cn:w.cell? ⟨b,22+x,none⟩=some (.int .i64 (Mt.gt q (22+x))):=by rw [hcb.1 _];exact qF q _ (by omega)
 have ca:w.cell? ⟨b,2+2*x,none⟩=some (.int .i64 (Mt.gt q (2+2*x))):=by rw [hcb.1 _];exact qF q _ (by omega)
 have cb:w.cell? ⟨b,2+(2*x+1),none⟩=some (.int .i64 (Mt.gt q (2+(2*x+1)))):=by rw [hcb.1 _];exact qF q _ (by omega)
 have fa:=hcb.2 (2+2*x)
 have fb:=hcb.2 (2+(2*x+1))
 have HBk:Hid (w.heap[b]?=some (.cells (stA q) 83 (0,0))):=hb
 clear hcb hb
 go_enter Tryz.func98,Tryz.ntmps98
 go_wp2_with fail
 go_region
 go_wp2_with fail
 have T1:=Go.heap_setCell_same w b (2+2*x) _ _ (.int .i64 (Mt.gt q (22+x))) HBk.out
 rw [zBh q hq] at T1
 have BL:∀ L,L≤b→Below L w (w.setCell ⟨b,2+2*x,none⟩ (.int .i64 (Mt.gt q (22+x)))).drew:=fun L hL=>((Below.refl L w).setCell (p:=⟨b,2+2*x,none⟩) hL _).drew
 have OT:∀ j,j≠b→(w.setCell ⟨b,2+2*x,none⟩ (.int .i64 (Mt.gt q (22+x)))).drew.heap[j]?=w.heap[j]?:=fun j hj=>Below.heap_setCell _ _ _ _ hj
 have SZ:(w.setCell ⟨b,2+2*x,none⟩ (.int .i64 (Mt.gt q (22+x)))).drew.heap.size=w.heap.size:=by simp [World.setCell]
 have T1':(w.setCell ⟨b,2+2*x,none⟩ (.int .i64 (Mt.gt q (22+x)))).drew.heap[b]?=some (.cells (stA (q.set (2+2*x) (Mt.gt q (22+x)))) 83 (0,0)):=T1
 have HBL:Hid (∀ L,L≤b→Below L w (w.setCell ⟨b,2+2*x,none⟩ (.int .i64 (Mt.gt q (22+x)))).drew):=BL
 have HOT:Hid (∀ j,j≠b→(w.setCell ⟨b,2+2*x,none⟩ (.int .i64 (Mt.gt q (22+x)))).drew.heap[j]?=w.heap[j]?):=OT
 have HSZ:Hid ((w.setCell ⟨b,2+2*x,none⟩ (.int .i64 (Mt.gt q (22+x)))).drew.heap.size=w.heap.size):=SZ
 clear T1 BL OT SZ ca cb c1 cn fa fb HBk
 generalize (w.setCell ⟨b,2+2*x,none⟩ (.int .i64 (Mt.gt q (22+x)))).drew=w1 at *
 have e1:Mt.gt (q.set (2+2*x) (Mt.gt q (22+x))) 1=Mt.gt q 1:=Mt.zS _ _ _ _ (by omega)
 have hcb:=zA T1'
 have c1:w1.cell? ⟨b,1,none⟩=some (.int .i64 (Mt.gt q 1)):=by rw [hcb.1 1,← e1];exact qF _ 1 (by omega)
 have cb:w1.cell? ⟨b,2+(2*x+1),none⟩=some (.int .i64 (Mt.gt (q.set (2+2*x) (Mt.gt q (22+x))) (2+(2*x+1)))):=by rw [hcb.1 _];exact qF _ _ (by omega)
 have fb:=hcb.2 (2+(2*x+1))
 have hq1:(q.set (2+2*x) (Mt.gt q (22+x))).length=43:=by simp [hq]
 have HBk:Hid (w1.heap[b]?=some (.cells (stA (q.set (2+2*x) (Mt.gt q (22+x)))) 83 (0,0))):=T1'
 clear T1' hcb e1
 generalize zTy:q.set (2+2*x) (Mt.gt q (22+x))=q1 at *
 generalize Mt.gt q1 (2+(2*x+1))=z at *
 generalize hye:Mt.gt q 1=y at *
 go_region
 go_wp2_with fail
 have T2:=Go.heap_setCell_same w1 b (2+(2*x+1)) _ _ (.int .i64 y) HBk.out
 rw [zBh q1 hq1] at T2
 go_returns
 refine ⟨rfl,by rw [zTy,hye];exact T2,fun L hL=>(HBL.out L hL).trans ((Below.refl L w1).setCell (p:=⟨b,2+(2*x+1),none⟩) hL _).drew,fun j hj=>?_,?_⟩
 ·exact (Below.heap_setCell _ _ _ _ hj).trans (HOT.out j hj)
 ·rw [← HSZ.out];simp [World.setCell]
structure Ctx (k:Pk) (E:Mt.Env) (A:Int→Mt.Att):Prop where
 ec:E.c=k.c
 et:E.t=k.t
 known:Mt.Known k.c A
 ar:∀ p,p<k.c.length→E.ar.getD p 0=Mt.kU k.c p
 arN:∀ p,E.arN p≤11
 lp:∀ p,p<k.c.length→k.lp.getD p 0=(E.arN p:Int)
 sl:∀ p,p<k.c.length→k.sl.getD p 0=if E.inn.getD p false=true then (E.base p:Int) else -1
 t60:k.t.size≤60
 bud:0≤k.budget∧k.budget≤10000
section
variable {k:Pk} {w:World} {steps:Int} {hd:List Bool} {room:Int} {wo:Option Addr} {wc:Nat} {W:List (List Int)}
theorem zL.zTz (h:zL k w steps hd room wo wc W) (p:Nat) (hp:p<k.c.length):w.cell? ⟨k.gl,p,none⟩=some (.int .i64 (k.lp.getD p 0)):=by
 have hl:=h.ll
 rw [World.ownsRow.cellAt h.lps p (by omega),List.getD_eq_getElem?_getD,List.getElem?_map,List.getElem?_eq_getElem (by omega)];rfl
theorem zL.zSx (h:zL k w steps hd room wo wc W) (p:Nat) (hp:p<k.c.length):w.cell? ⟨k.gs,p,none⟩=some (.int .i64 (k.sl.getD p 0)):=by
 have hl:=h.ls
 rw [World.ownsRow.cellAt h.sls p (by omega),List.getD_eq_getElem?_getD,List.getElem?_map,List.getElem?_eq_getElem (by omega)];rfl
theorem zL.zTA (h:zL k w steps hd room wo wc W) (p:Nat) (hp:p<hd.length):w.cell? ⟨k.gh,p,none⟩=some (.bool (hd.getD p false))∧w.frozen? ⟨k.gh,p,none⟩=false:=by
 refine ⟨?_,World.ownsRow.frozenAt h.hds p⟩
 rw [World.ownsRow.cellAt h.hds p (by omega),List.getD_eq_getElem?_getD,List.getElem?_map,List.getElem?_eq_getElem (by omega)];rfl
theorem zJH (h:zL k w steps hd room wo wc W) (q:List Int) (pc pos a B:Nat) (hp0:Mt.gt q 0=pc) (hp1:Mt.gt q 1=pos) (hpc:pc<k.c.length) (hc:k.c.length≤300) (hpos:pos≤k.t.size) (ht:k.t.size≤60) (hlp:k.lp.getD pc 0=(a:Int)) (ha:a≤11) (hsl:k.sl.getD pc 0=(B:Int)) (hB:B≤300000) :
  Calls Tryz.prog 97 #[.pointer (some ⟨k.g,4,none⟩),.agg (stA q)] w fun e w'=>e=.returned (.int .i64 ((B+Mt.zU q a*(k.t.size+1)+pos:Nat):Int))∧Below w.heap.size w w':=by
 obtain ⟨c0,c1,c2,c3,c4,c5,c6,c7,c8,c9,hf⟩:=h.cells
 have hg:k.g<w.heap.size:=h.lt.1
 have hgl:k.gl<w.heap.size:=h.lt.2.2.1
 have hgs:k.gs<w.heap.size:=h.lt.2.2.2.1
 have cl:=h.zTz pc hpc
 have cs:=h.zSx pc hpc
 rw [hlp] at cl
 rw [hsl] at cs
 clear h hf c0 c1 c2 c3 c7 c8 c9 hlp hsl
 have zSy:(pc:Int)<(k.c.length:Int):=by omega
 generalize k.g=g at *
 generalize k.t.size=T at *
 generalize k.c.length=CL at *
 generalize k.gl=gl at *
 generalize k.gs=gs at *
 generalize k.cl=ccl at *
 generalize k.cs=ccs at *
 go_enter Tryz.func97,Tryz.ntmps97
 go_upto_region 1 with fail
 generalize hW1:w.alloc (.cells (stA q) 83)=W1 at *
 have B1:Below w.heap.size w W1:=by rw [← hW1];exact (Below.refl _ _).alloc (Nat.le_refl _) _
 have T1:W1.heap[w.heap.size]?=some (.cells (stA q) 83 (0,0)):=by rw [← hW1];exact heap_alloc_new _ _
 have Z1:W1.heap.size=w.heap.size+1:=by rw [← hW1];simp
 clear hW1
 have HT:Hid (∀ j,j<43→∀ z:World,Below W1.heap.size W1 z→z.cell? ⟨w.heap.size,j,none⟩=some (.int .i64 (Mt.gt q j))):=fun j hj z hz=>by
  rw [World.cell?_of_block (a:=⟨w.heap.size,j,none⟩) (hz.block w.heap.size (by omega)),(zA T1).1 j];exact qF q j hj
 have HCL:Hid (∀ z:World,Below W1.heap.size W1 z→z.cell? ⟨g,5,none⟩=some (.slice (some ⟨gl,0,none⟩) CL ccl)∧z.cell? ⟨g,6,none⟩=some (.slice (some ⟨gs,0,none⟩) CL ccs)∧z.cell? ⟨g,4,none⟩=some (.int .i64 ((T:Int)+1))∧z.cell? ⟨gl,pc,none⟩=some (.int .i64 a)∧z.cell? ⟨gs,pc,none⟩=some (.int .i64 B)):=fun z hz=>by
  have o:∀ b j,b<w.heap.size→z.cell? ⟨b,j,none⟩=w.cell? ⟨b,j,none⟩:=fun b j hb=>World.cell?_of_block (a:=⟨b,j,none⟩) ((hz.block b (by omega)).trans (B1.block b hb))
  exact ⟨(o _ _ hg).trans c5,(o _ _ hg).trans c6,(o _ _ hg).trans c4,(o _ _ hgl).trans cl,(o _ _ hgs).trans cs⟩
 have HB1:Hid (Below w.heap.size w W1):=B1
 have hZ:w.heap.size≤W1.heap.size:=by omega
 clear T1 B1 Z1 c4 c5 c6 cl cs
 generalize hnn:w.heap.size=n at *
 go_wp2_with fail
 go_loopw [5,6] (fun e i wr=>∃ j:Nat,j≤a∧i=.int .i64 j∧e=.int .i64 (Mt.zU q j:Nat)∧Below W1.heap.size W1 wr) (fun _ i _=>a-(intOf i).toNat)
 case atStart=>exact ⟨0,Nat.zero_le _,rfl,rfl,Below.refl _ _⟩
 case round =>
  obtain ⟨j,hj,rfl,rfl,hbr⟩:=hrel
  obtain ⟨d5,d6,d4,dl,ds⟩:=HCL.out wr hbr
  have x0:=HT.out 0 (by omega) wr hbr
  have x1:=HT.out 1 (by omega) wr hbr
  rw [hp0] at x0
  rw [hp1] at x1
  have HBR:Hid (Below W1.heap.size W1 wr):=hbr
  have lv:=Mt.zCG q j
  by_cases hlt:j<a
  ·have xm:=HT.out (32+j) (by omega) wr hbr
   have hlt':decide ((j:Int)<(a:Int))=true:=by simp;omega
   have zUh:(j:Int)<11:=by omega
   have HN:Hid (Mt.zU q (j+1)=Mt.zU q j+if Mt.gt q (32+j)==Mt.gt q 1 then 1 else 0):=Mt.zEh q j
   rw [hp1] at HN
   clear hbr
   cases hq:(Mt.gt q (32+j)==(pos:Int))
   ·have HN':Hid (Mt.zU q (j+1)=Mt.zU q j):=by show _=_;rw [HN.out,hq];rfl
    clear HN
    generalize Mt.zU q j=lj at *
    generalize Mt.gt q (32+j)=mj at *
    go_wp2_with fail
    go_region
    go_wp2_with fail
    go_region
    go_wp2_with fail
    go_roundw
    case rel=>exact ⟨j+1,by omega,by go_num,by rw [HN'.out],HBR.out.drew.drew⟩
    case measure=>simp [intOf];omega
   ·have HN':Hid (Mt.zU q (j+1)=Mt.zU q j+1):=by show _=_;rw [HN.out,hq];rfl
    clear HN
    generalize Mt.zU q j=lj at *
    generalize Mt.gt q (32+j)=mj at *
    go_wp2_with fail
    go_region
    go_wp2_with fail
    go_region
    go_wp2_with fail
    go_roundw
    case rel=>exact ⟨j+1,by omega,by go_num,by rw [HN'.out];go_num,HBR.out.drew.drew⟩
    case measure=>simp [intOf];omega
  ·have e:j=a:=by omega
   subst e
   have hlt':decide ((j:Int)<(j:Int))=false:=by simp
   clear hbr
   generalize zTB:Mt.zU q j=lj at *
   have hmul:((lj*(T+1):Nat):Int)=(lj:Int)*((T:Int)+1):=by push_cast;rfl
   have hb1:lj*(T+1)≤11*61:=Nat.mul_le_mul (by omega) (by omega)
   go_wp2_with fail
   go_region
   go_wp2_with fail
   go_region
   go_wp2_with fail
   go_ret
   refine ⟨?_,by rw [hnn];exact HB1.out.trans ((HBR.out.drew.drew).mono hZ)⟩
   show Ending.returned (.int .i64 ((B:Int)+(lj:Int)*((T:Int)+1)+(pos:Int)))=_
   rw [zTB]
   have:(((B+lj*(T+1)+pos:Nat)):Int)=(B:Int)+(lj:Int)*((T:Int)+1)+(pos:Int):=by push_cast;rfl
   rw [this]
end
end Go.Proofs.YtebpgfodelggoaaGreat
