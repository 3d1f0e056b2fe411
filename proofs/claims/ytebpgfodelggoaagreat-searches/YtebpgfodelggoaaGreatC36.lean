import Derived.Test.YtebpgfodelggoaaGreatC35
import Derived.Test.YtebpgfodelggoaaGreatC16
import Derived.Test.YtebpgfodelggoaaGreatC08
import Derived.Test.YtebpgfodelggoaaGreatC34
set_option linter.unusedVariables false
set_option linter.unusedSimpArgs false
set_option maxRecDepth 100000
set_option maxHeartbeats 4000000
namespace Go.Proofs.YtebpgfodelggoaaGreat
open Go.RowKit
theorem xI {L:Nat} {w:World} {g:Nat} {b:Mt.PB} {so ao:Option Addr} {sc ac:Nat} {co:Option Addr} {cc:Nat} {c:List Mt.Ins} {d:Int} (x:Mt.Ins) (h:LAt L w g b so ao sc ac co cc c d) (hn:c.length≤1000000) :
  Calls Tryz.prog 93 #[.pointer (some ⟨g,0,none⟩),.agg (qG x)] w fun e w'=>e=.returned (.int .i64 c.length)∧∃ q cap,LAt L w' g b so ao sc ac (some ⟨q,0,none⟩) cap (c++[x]) d∧kT g co (some ⟨q,0,none⟩) w w':=by
 obtain ⟨i0,hi,hz0,hz1,hz2⟩:=info_parts Tryz.infoIn
 have HB:Hid (LAt L w g b so ao sc ac co cc c d):=h
 obtain ⟨c0,c1,c2,c3,hf⟩:=h.cells
 have f2:=hf 2
 have hg:g<w.heap.size:=h.lt.1
 have hL:L≤w.heap.size:=by have:=h.lo;omega
 have HO:Hid (w.ownsRow L 112 4 (.slice co c.length cc) c.length (c.flatMap zT)):=h.code
 clear h hf
 go_enter Tryz.func93,Tryz.ntmps93
 go_upto_region 2 with fail
 go_cut [] (fun wx=>∃ q cap,LAt L wx g b so ao sc ac (some ⟨q,0,none⟩) cap (c++[x]) d∧kT g co (some ⟨q,0,none⟩) w wx)
 case first =>
  have hcr:∀ z:World,z.heap[w.heap.size]?=some (.cells (qG x) 112 (0,0))→z.rangeAt w.heap.size 0 (qG x).toList:=fun z hz=>yS hz
  have S0:(w.alloc (.cells (qG x) 112)).heap[w.heap.size]?=some (.cells (qG x) 112 (0,0)):=heap_alloc_new _ _
  have C2:(w.alloc (.cells (qG x) 112)).cell? ⟨g,2,none⟩=some (.slice co c.length cc):=by rw [World.cell?_of_block (a:=⟨g,2,none⟩) (zX w _ g hg)];exact c2
  refine wp_region_held_drew (S:=fun z:World=>z.heap[w.heap.size]?=some (.cells (qG x) 112 (0,0))) (by kernel_rfl) S0 (fun hH=>?_)
  refine kG 0 11 (.pointer (some ⟨g,0,none⟩)) rfl rfl (by kernel_rfl) (by kernel_rfl) (by kernel_rfl) (fun _ _ _ h=>h) (Or.inl ⟨by rfl,fun z hz=>by clear hH hz hcr S0;go_simp⟩) (by assumption) ?_
  simp only [Act.put,List.setIfInBounds_toArray,List.set_cons_zero,List.set_cons_succ]
  refine kG 1 12 (.pointer (some ⟨g,0,none⟩)) rfl rfl (by kernel_rfl) (by kernel_rfl) (by kernel_rfl) (fun _ _ _ h=>h) (Or.inl ⟨by rfl,fun z hz=>by clear hH hz hcr S0;go_simp⟩) (by assumption) ?_
  simp only [Act.put,List.setIfInBounds_toArray,List.set_cons_zero,List.set_cons_succ]
  refine kG 2 13 (.pointer (some ⟨g,0,none⟩)) rfl rfl (by kernel_rfl) (by kernel_rfl) (by kernel_rfl) (fun _ _ _ h=>h) (Or.inl ⟨by rfl,fun z hz=>by clear hH hz hcr S0;go_simp⟩) (by assumption) ?_
  simp only [Act.put,List.setIfInBounds_toArray,List.set_cons_zero,List.set_cons_succ]
  refine kG 3 14 (.pointer (some ⟨g,2,none⟩)) rfl rfl (by kernel_rfl) (by kernel_rfl) (by kernel_rfl) (fun _ _ _ h=>h) (Or.inl ⟨by rfl,fun z hz=>by clear hH hz hcr S0;go_simp⟩) (by assumption) ?_
  simp only [Act.put,List.setIfInBounds_toArray,List.set_cons_zero,List.set_cons_succ]
  refine kG 5 16 (.agg (qG x)) rfl rfl (by kernel_rfl) (by kernel_rfl) (by kernel_rfl) (fun _ _ _ h=>h) (yieldsIf_load_mid (by rfl) _ _ rfl _ _ rfl _ _ hcr Tryz.underlying112 rfl (by rw [Tryz.sizeIn];rfl)) (by assumption) ?_
  simp only [Act.put,List.setIfInBounds_toArray,List.set_cons_zero,List.set_cons_succ]
  have S1:((w.alloc (.cells (qG x) 112)).drew.alloc (.cells (qG x) 112)).heap[w.heap.size]?=some (.cells (qG x) 112 (0,0)) :=
   (zX _ _ _ (by simp)).trans S0
  have hsz:(w.alloc (.cells (qG x) 112)).drew.heap.size=w.heap.size+1:=by simp
  have hnw:((w.alloc (.cells (qG x) 112)).drew.alloc (.cells (qG x) 112)).heap[w.heap.size+1]?=some (.cells (qG x) 112 (0,0)):=by
   rw [← hsz];exact heap_alloc_new _ _
  refine wpAnyH_ready (rs:=[4,6]) (by kernel_rfl) (by simp) ?_
  refine AllReadyH.cons rfl (fun K hK=>?_) (AllReadyH.cons rfl (fun K hK=>?_) AllReadyH.nil)
  all_goals
   first
   | (
     refine zAK rfl 40 112 (.tmp 16) rfl (qG x) i0 _ (.agg (qG x)) Tryz.underlying40 hi hz0 (by rw [hz1];decide) (by rw [hz1];decide) (by rfl) (zKn _ hz1) ?_
     refine hK.out _ _ S1 (fun hH2=>?_)
     clear hK K
     simp only [Act.put,List.setIfInBounds_toArray,List.set_cons_zero,List.set_cons_succ]
     refine wpAnyH_ready (rs:=[4]) (by kernel_rfl) (by simp) ?_
     refine AllReadyH.cons rfl (fun K hK=>?_) AllReadyH.nil
     try clear hH
     try clear hcr
     go_simp
     refine hK.out _ _ S1 (fun hH4=>?_)
     clear hK K
     )
   | (
     try clear hH
     try clear hcr
     go_simp
     refine hK.out _ _ S0 (fun hH4=>?_)
     clear hK K
     refine wpAnyH_ready (rs:=[6]) (by kernel_rfl) (by simp) ?_
     refine AllReadyH.cons rfl (fun K hK=>?_) AllReadyH.nil
     refine zAK rfl 40 112 (.tmp 16) rfl (qG x) i0 _ (.agg (qG x)) Tryz.underlying40 hi hz0 (by rw [hz1];decide) (by rw [hz1];decide) (by rfl) (zKn _ hz1) ?_
     refine hK.out _ _ S1 (fun hH2=>?_)
     clear hK K
     simp only [Act.put,List.setIfInBounds_toArray,List.set_cons_zero,List.set_cons_succ,hsz]
     )
  all_goals
   refine wpAnyH_ready (rs:=[7]) (by kernel_rfl) (by simp) ?_
   refine AllReadyH.cons rfl (fun K hK=>?_) AllReadyH.nil
   refine step_append_lies _ rfl (.tmp 15) (.tmp 17) 40 rfl L 112 i0 _ 4 40 Tryz.underlying40 hi hz0 hz1 hz2 rfl (by decide) (.slice co c.length cc) c.length (c.flatMap zT) (by rfl) (World.ownsRow.alloc (w:=(w.alloc (.cells (qG x) 112)).drew) (HO.out.alloc _) _) ⟨w.heap.size+1,0,none⟩ 1 1 (zT x) (by rfl) (by rfl) (World.news_of_block (cs:=(qG x)) hnw) (by intro u hu;simp [zT] at hu;rcases hu with h | h | h | h <;> subst h <;> rfl) (by decide) (by unfold maxLen;omega) (by omega) (by simp;omega) (w.heap.size+2) (by simp) ?_
   intro q cap w1 hown hgrow hq zM8
   obtain ⟨A1,A2,A3⟩:=zNo HB.out hgrow
   refine hK.out _ _ A1 (fun hH3=>?_)
   clear hK K
   have d1:=(A2 2).trans c2
   have e1:=(A3 2).trans f2
   have HM:Hid (LAt L (w1.setCell ⟨g,2,none⟩ (.slice (some ⟨q,0,none⟩) (c.length+1) cap)) g b so ao sc ac (some ⟨q,0,none⟩) cap (c++[x]) d∧kT g co (some ⟨q,0,none⟩) w (w1.setCell ⟨g,2,none⟩ (.slice (some ⟨q,0,none⟩) (c.length+1) cap))) :=
    put_mem HB.out (w0:=(w.alloc (.cells (qG x) 112)).drew.alloc (.cells (qG x) 112)) ((((Below.refl _ _).alloc (Nat.le_refl _) _).drew).alloc (by simp) _) (by simp;omega) (by rw [zW] at hgrow;exact hgrow) (by rw [zW] at hq;simpa using hq) hown
   have SZ:w.heap.size<w1.heap.size:=(Array.getElem?_eq_some_iff.1 A1).1
   have S4:(w1.setCell ⟨g,2,none⟩ (.slice (some ⟨q,0,none⟩) (c.length+1) cap)).heap[w.heap.size]?=some (.cells (qG x) 112 (0,0)) :=
    (Below.heap_setCell _ _ _ _ (by show w.heap.size≠g;omega)).trans A1
   clear A2 A3 hgrow hown hq S0 S1
   simp only [Act.put,List.setIfInBounds_toArray,List.set_cons_zero,List.set_cons_succ]
   refine kG 8 19 (.pointer (some ⟨g,0,none⟩)) rfl rfl (by kernel_rfl) (by kernel_rfl) (by kernel_rfl) (fun _ _ _ h=>h) (Or.inl ⟨by rfl,fun z hz=>by clear hH3 hz S4;go_simp⟩) (by assumption) ?_
   simp only [Act.put,List.setIfInBounds_toArray,List.set_cons_zero,List.set_cons_succ]
   refine kG 9 20 (.pointer (some ⟨g,2,none⟩)) rfl rfl (by kernel_rfl) (by kernel_rfl) (by kernel_rfl) (fun _ _ _ h=>h) (Or.inl ⟨by rfl,fun z hz=>by clear hH3 hz S4;go_simp⟩) (by assumption) ?_
   simp only [Act.put,List.setIfInBounds_toArray,List.set_cons_zero,List.set_cons_succ]
   refine wpAnyH_ready (rs:=[10]) (by kernel_rfl) (by simp) ?_
   refine AllReadyH.cons rfl (fun K hK=>?_) AllReadyH.nil
   go_simp
   refine hK.out _ _ S4 (fun hH4=>?_)
   clear hK K
   refine wpAnyH_done (by kernel_rfl) ?_ _
   go_wp2_with fail
   go_meet
   case rel=>exact ⟨q,cap,HM.out.1,HM.out.2⟩
 case rest =>
  obtain ⟨q,cap,hP,hSt⟩:=hcut
  have HP:Hid (LAt L wc g b so ao sc ac (some ⟨q,0,none⟩) cap (c++[x]) d):=hP
  have HSt:Hid (kT g co (some ⟨q,0,none⟩) w wc):=hSt
  clear hP hSt
  go_wp2_with fail
  go_ret
  exact ⟨rfl,q,cap,HP.out,HSt.out⟩
end Go.Proofs.YtebpgfodelggoaaGreat
namespace Mt
def yE (i:Ins):Bool:=decide (i.op=4)
def vC (i:Ins):Bool:=decide (i.op=5)
theorem kC (q:Ins→Bool) (n:Nat) (x:Ins) (l:List Ins):((x::l).take n).countP q=(if 0<n∧q x=true then 1 else 0)+(l.take (n-1)).countP q:=by
 cases n with
 | zero=>simp
 | succ n =>
  rw [List.take_succ_cons,List.countP_cons,Nat.add_sub_cancel]
  cases h:q x <;> simp <;> omega
theorem qW (q:Ins→Bool) (n:Nat) (a b:List Ins):((a++b).take n).countP q=(a.take n).countP q+(b.take (n-a.length)).countP q:=by
 rw [List.take_append,List.countP_append]
theorem xJ:∀ (r:Re) (p d t:Int),((r.code p d).take (t-p).toNat).countP yE=(r.code p d).countP (yU t)
 | .eps,p,d,t=>by simp [Re.code]
 | .one s,p,d,t=>by rw [Re.code,kC];simp [yE,yU]
 | .back k,p,d,t=>by rw [Re.code,kC];simp [yE,yU]
 | .head,p,d,t=>by rw [Re.code,kC];simp [yE,yU]
 | .tail,p,d,t=>by rw [Re.code,kC];simp [yE,yU]
 | .cat a b,p,d,t=>by
  rw [Re.code,qW,List.countP_append,xJ a,Re.zH,show (t-p).toNat-a.len=(t-(p+a.len)).toNat by omega,xJ b]
 | .alt a b,p,d,t=>by
  rw [Re.code,kC,qW,kC,Re.zH,List.countP_cons,List.countP_append,List.countP_cons,show (t-p).toNat-1=(t-(p+1)).toNat by omega,xJ a,show (t-(p+1)).toNat-a.len-1=(t-(p+a.len+2)).toNat by omega,xJ b]
  simp [yE,yU]
 | .cap k a,p,d,t=>by
  rw [Re.code,kC,qW,kC,List.countP_cons,List.countP_append,show (t-p).toNat-1=(t-(p+1)).toNat by omega,xJ a]
  simp [yE,yU]
 | .sub s a,p,d,t=>by
  rw [Re.code,kC,qW,kC,List.countP_cons,List.countP_append,show (t-p).toNat-1=(t-(p+1)).toNat by omega,xJ a]
  simp [yE,yU]
 | .opt late a,p,d,t=>by
  rw [Re.code,kC,List.countP_cons,show (t-p).toNat-1=(t-(p+1)).toNat by omega,xJ a]
  cases late <;> simp [yE,yU,spl]
 | .loop late a,p,d,t=>by
  rw [Re.code,kC,kC,qW,kC,List.countP_cons,List.countP_cons,List.countP_append,show (t-p).toNat-1-1=(t-(p+2)).toNat by omega,xJ a]
  have e:(0<(t-p).toNat-1)↔p+1<t:=by omega
  cases late <;> simp [yE,yU,spl,List.countP_cons] <;> split <;> split <;> omega
theorem zAw:∀ (r:Re) (p d t:Int) (x:Ins),x∈(r.code p d).take (t-p).toNat→x.op=5→x.x+1<t
 | .eps,p,d,t,x,h,h5=>by simp [Re.code] at h
 | .one s,p,d,t,x,h,h5=>by have:=List.mem_of_mem_take h;simp [Re.code] at this;subst this;simp at h5
 | .back k,p,d,t,x,h,h5=>by have:=List.mem_of_mem_take h;simp [Re.code] at this;subst this;simp at h5
 | .head,p,d,t,x,h,h5=>by have:=List.mem_of_mem_take h;simp [Re.code] at this;subst this;simp at h5
 | .tail,p,d,t,x,h,h5=>by have:=List.mem_of_mem_take h;simp [Re.code] at this;subst this;simp at h5
 | .cat a b,p,d,t,x,h,h5=>by
  rw [Re.code,List.take_append,List.mem_append,Re.zH,show (t-p).toNat-a.len=(t-(p+a.len)).toNat by omega] at h
  rcases h with h | h
  ·exact zAw a _ _ _ x h h5
  ·exact zAw b _ _ _ x h h5
 | .alt a b,p,d,t,x,h,h5=>by
  rw [Re.code] at h
  rcases zBf h with rfl | h
  ·simp at h5
  rw [List.take_append,List.mem_append,Re.zH,show (t-p).toNat-1=(t-(p+1)).toNat by omega] at h
  rcases h with h | h
  ·exact zAw a _ _ _ x h h5
  rcases zBf h with rfl | h
  ·simp at h5
  rw [show (t-(p+1)).toNat-a.len-1=(t-(p+a.len+2)).toNat by omega] at h
  exact zAw b _ _ _ x h h5
 | .cap k a,p,d,t,x,h,h5=>by
  rw [Re.code] at h
  rcases zBf h with rfl | h
  ·simp at h5
  rw [List.take_append,List.mem_append,show (t-p).toNat-1=(t-(p+1)).toNat by omega] at h
  rcases h with h | h
  ·exact zAw a _ _ _ x h h5
  ·have:=List.mem_of_mem_take h;simp at this;subst this;simp at h5
 | .sub s a,p,d,t,x,h,h5=>by
  rw [Re.code] at h
  rcases zBf h with rfl | h
  ·simp at h5
  rw [List.take_append,List.mem_append,show (t-p).toNat-1=(t-(p+1)).toNat by omega] at h
  rcases h with h | h
  ·exact zAw a _ _ _ x h h5
  ·have:=List.mem_of_mem_take h;simp at this;subst this;simp at h5
 | .opt late a,p,d,t,x,h,h5=>by
  rw [Re.code] at h
  rcases zBf h with rfl | h
  ·cases late <;> simp [spl] at h5
  rw [show (t-p).toNat-1=(t-(p+1)).toNat by omega] at h
  exact zAw a _ _ _ x h h5
 | .loop late a,p,d,t,x,h,h5=>by
  rw [Re.code] at h
  rcases zBf h with rfl | h
  ·cases late <;> simp [spl] at h5
  rcases zBf h with rfl | h
  ·simp at h5
  rw [List.take_append,List.mem_append,Re.zH,show (t-p).toNat-1-1=(t-(p+2)).toNat by omega] at h
  rcases h with h | h
  ·exact zAw a _ _ _ x h h5
  ·have h':=List.mem_of_mem_take h
   simp at h'
   subst h'
   have:0<(t-(p+2)).toNat-a.len:=by
    rcases Nat.eq_zero_or_pos ((t-(p+2)).toNat-a.len) with e | e
    ·rw [e] at h;simp at h
    ·exact e
   show p+1<t
   omega
where
 zBf {x y:Ins} {l:List Ins} {n:Nat} (h:x∈(y::l).take n):x=y∨x∈l.take (n-1):=by
  cases n with
  | zero=>simp at h
  | succ n=>rw [List.take_succ_cons,List.mem_cons] at h;exact h
theorem zGs (r:Re) (c:List Ins) (hc:c=r.code 0 0++[⟨13,0,0,[]⟩]) (k:Nat):(c.take k).countP yE=(c.take k).countP vC+kU c k:=by
 have m:=xJ r 0 0 k
 rw [show ((k:Int)-0).toNat=k by omega] at m
 have m1:(c.take k).countP yE=((r.code 0 0).take k).countP yE:=by
  rw [hc,qW,kC];simp [yE]
 have m2:c.countP (yU k)=(r.code 0 0).countP (yU k):=by
  rw [hc,List.countP_append];simp [yU]
 have m3:(c.take k).countP (yU k)=(c.take k).countP vC:=by
  refine List.countP_congr (fun x hx=>?_)
  unfold yU vC
  simp only [decide_eq_true_eq]
  constructor
  ·exact fun h=>h.1
  ·intro h
   refine ⟨h,?_⟩
   rw [hc,List.take_append,List.mem_append] at hx
   rcases hx with hx | hx
   ·exact zAw r 0 0 k x (by rw [show ((k:Int)-0).toNat=k by omega];exact hx) h
   ·have:=List.mem_of_mem_take hx;simp at this;subst this;simp at h
 have m4:c.countP (yU k)=(c.take k).countP (yU k)+(c.drop k).countP (yU k):=by
  rw [← List.countP_append,List.take_append_drop]
 have m5:kU c k=(c.drop k).countP (yU k):=by
  unfold kU zAE
  rw [List.take_of_length_le (by rw [List.length_drop];exact Nat.le_refl _)]
 omega
theorem zGt (q:Ins→Bool) (c:List Ins) (k:Nat) (h:k<c.length):(c.take (k+1)).countP q=(c.take k).countP q+if q (c.getD k jA)=true then 1 else 0:=by
 rw [List.take_succ_eq_append_getElem h,List.countP_append,List.getD_eq_getElem?_getD,List.getElem?_eq_getElem h]
 simp [List.countP_cons]
structure Att where
 G:List Int
 d:Int
 y:Int
 B:List Int
def zC2 (A:Int→Att):Re→Int→Att→Prop
 | .eps,p,a=>A p=a
 | .one _,p,a=>A p=a∧A (p+1)=a
 | .back _,p,a=>A p=a∧A (p+1)=a
 | .head,p,a=>A p=a∧A (p+1)=a
 | .tail,p,a=>A p=a∧A (p+1)=a
 | .cat x y,p,a=>zC2 A x p a∧zC2 A y (p+x.len) a
 | .alt x y,p,a=>A p=a∧zC2 A x (p+1) a∧zC2 A y (p+x.len+2) a
 | .cap k x,p,a=>A p=a∧zC2 A x (p+1) ⟨k::a.G,a.d,a.y,a.B⟩∧A (p+x.len+2)=a
 | .sub _ x,p,a=>A p=a∧zC2 A x (p+1) ⟨a.G,a.d,p+x.len+2,a.G⟩∧A (p+x.len+2)=a
 | .opt _ x,p,a=>A p=a∧zC2 A x (p+1) a
 | .loop _ x,p,a=>A p=a∧A (p+1)=a∧zC2 A x (p+2) ⟨a.G,a.d+1,a.y,a.B⟩∧A (p+x.len+3)=a
theorem zC2.first {A:Int→Att}:∀ {r:Re} {p:Int} {a:Att},zC2 A r p a→A p=a
 | .eps,p,a,h=>h
 | .one _,p,a,h=>h.1
 | .back _,p,a,h=>h.1
 | .head,p,a,h=>h.1
 | .tail,p,a,h=>h.1
 | .cat x y,p,a,h=>zC2.first h.1
 | .alt x y,p,a,h=>h.1
 | .cap k x,p,a,h=>h.1
 | .sub _ x,p,a,h=>h.1
 | .opt _ x,p,a,h=>h.1
 | .loop _ x,p,a,h=>h.1
theorem zC2.last {A:Int→Att}:∀ {r:Re} {p:Int} {a:Att},zC2 A r p a→A (p+r.len)=a
 | .eps,p,a,h=>by
  have h':A p=a:=h
  rw [← h'];congr 1;simp only [Re.len];omega
 | .one _,p,a,h=>h.2
 | .back _,p,a,h=>h.2
 | .head,p,a,h=>h.2
 | .tail,p,a,h=>h.2
 | .cat x y,p,a,h=>by have:=zC2.last h.2;simp only [Re.len];rw [← this];congr 1;omega
 | .alt x y,p,a,h=>by have:=zC2.last h.2.2;simp only [Re.len];rw [← this];congr 1;omega
 | .cap k x,p,a,h=>by have:=h.2.2;simp only [Re.len];rw [← this];congr 1;omega
 | .sub _ x,p,a,h=>by have:=h.2.2;simp only [Re.len];rw [← this];congr 1;omega
 | .opt _ x,p,a,h=>by have:=zC2.last h.2;simp only [Re.len];rw [← this];congr 1;omega
 | .loop _ x,p,a,h=>by have:=h.2.2.2;simp only [Re.len];rw [← this];congr 1;omega
theorem zC2.congr {A B:Int→Att}:∀ {r:Re} {p:Int} {a:Att},(∀ q,p≤q→q≤p+r.len→A q=B q)→zC2 A r p a→zC2 B r p a
 | .eps,p,a,e,h=>by show B p=a;rw [← e p (by omega) (by omega)];exact h
 | .one _,p,a,e,h=>⟨by rw [← e p (by omega) (by omega)];exact h.1,by rw [← e (p+1) (by omega) (by simp only [Re.len];omega)];exact h.2⟩
 | .back _,p,a,e,h=>⟨by rw [← e p (by omega) (by omega)];exact h.1,by rw [← e (p+1) (by omega) (by simp only [Re.len];omega)];exact h.2⟩
 | .head,p,a,e,h=>⟨by rw [← e p (by omega) (by omega)];exact h.1,by rw [← e (p+1) (by omega) (by simp only [Re.len];omega)];exact h.2⟩
 | .tail,p,a,e,h=>⟨by rw [← e p (by omega) (by omega)];exact h.1,by rw [← e (p+1) (by omega) (by simp only [Re.len];omega)];exact h.2⟩
 | .cat x y,p,a,e,h=>⟨zC2.congr (fun q h1 h2=>e q (by omega) (by simp only [Re.len];omega)) h.1,zC2.congr (fun q h1 h2=>e q (by omega) (by simp only [Re.len];omega)) h.2⟩
 | .alt x y,p,a,e,h=>⟨by rw [← e p (by omega) (by omega)];exact h.1,zC2.congr (fun q h1 h2=>e q (by omega) (by simp only [Re.len];omega)) h.2.1,zC2.congr (fun q h1 h2=>e q (by omega) (by simp only [Re.len];omega)) h.2.2⟩
 | .cap k x,p,a,e,h=>⟨by rw [← e p (by omega) (by omega)];exact h.1,zC2.congr (fun q h1 h2=>e q (by omega) (by simp only [Re.len];omega)) h.2.1,by rw [← e _ (by omega) (by simp only [Re.len];omega)];exact h.2.2⟩
 | .sub _ x,p,a,e,h=>⟨by rw [← e p (by omega) (by omega)];exact h.1,zC2.congr (fun q h1 h2=>e q (by omega) (by simp only [Re.len];omega)) h.2.1,by rw [← e _ (by omega) (by simp only [Re.len];omega)];exact h.2.2⟩
 | .opt _ x,p,a,e,h=>⟨by rw [← e p (by omega) (by omega)];exact h.1,zC2.congr (fun q h1 h2=>e q (by omega) (by simp only [Re.len];omega)) h.2⟩
 | .loop _ x,p,a,e,h=>⟨by rw [← e p (by omega) (by omega)];exact h.1,by rw [← e (p+1) (by omega) (by simp only [Re.len];omega)];exact h.2.1,zC2.congr (fun q h1 h2=>e q (by omega) (by simp only [Re.len];omega)) h.2.2.1,by rw [← e _ (by omega) (by simp only [Re.len];omega)];exact h.2.2.2⟩
theorem zAx:∀ (r:Re) (p:Int) (a:Att),∃ A,zC2 A r p a
 | .eps,p,a=>⟨fun _=>a,rfl⟩
 | .one _,p,a=>⟨fun _=>a,rfl,rfl⟩
 | .back _,p,a=>⟨fun _=>a,rfl,rfl⟩
 | .head,p,a=>⟨fun _=>a,rfl,rfl⟩
 | .tail,p,a=>⟨fun _=>a,rfl,rfl⟩
 | .cat x y,p,a=>by
  obtain ⟨A,hA⟩:=zAx x p a
  obtain ⟨B,hB⟩:=zAx y (p+x.len) a
  refine ⟨fun q=>if q<p+x.len then A q else B q,hA.congr (fun q h1 h2=>?_),hB.congr (fun q h1 h2=>?_)⟩
  ·(try dsimp only);split
   ·rfl
   ·have e:q=p+x.len:=by omega
    subst e;rw [hA.last,hB.first]
  ·(try dsimp only);rw [if_neg (by omega)]
 | .alt x y,p,a=>by
  obtain ⟨A,hA⟩:=zAx x (p+1) a
  obtain ⟨B,hB⟩:=zAx y (p+x.len+2) a
  refine ⟨fun q=>if q≤p then a else if q<p+x.len+2 then A q else B q,?_,hA.congr (fun q h1 h2=>?_),hB.congr (fun q h1 h2=>?_)⟩
  ·(try dsimp only);rw [if_pos (by omega)]
  ·(try dsimp only);rw [if_neg (by omega),if_pos (by omega)]
  ·(try dsimp only);rw [if_neg (by omega),if_neg (by omega)]
 | .cap k x,p,a=>by
  obtain ⟨A,hA⟩:=zAx x (p+1) ⟨k::a.G,a.d,a.y,a.B⟩
  refine ⟨fun q=>if q≤p then a else if q<p+x.len+2 then A q else a,?_,hA.congr (fun q h1 h2=>?_),?_⟩
  ·(try dsimp only);rw [if_pos (by omega)]
  ·(try dsimp only);rw [if_neg (by omega),if_pos (by omega)]
  ·(try dsimp only);rw [if_neg (by omega),if_neg (by omega)]
 | .sub _ x,p,a=>by
  obtain ⟨A,hA⟩:=zAx x (p+1) ⟨a.G,a.d,p+x.len+2,a.G⟩
  refine ⟨fun q=>if q≤p then a else if q<p+x.len+2 then A q else a,?_,hA.congr (fun q h1 h2=>?_),?_⟩
  ·(try dsimp only);rw [if_pos (by omega)]
  ·(try dsimp only);rw [if_neg (by omega),if_pos (by omega)]
  ·(try dsimp only);rw [if_neg (by omega),if_neg (by omega)]
 | .opt _ x,p,a=>by
  obtain ⟨A,hA⟩:=zAx x (p+1) a
  refine ⟨fun q=>if q≤p then a else A q,?_,hA.congr (fun q h1 h2=>?_)⟩
  ·(try dsimp only);rw [if_pos (by omega)]
  ·(try dsimp only);rw [if_neg (by omega)]
 | .loop _ x,p,a=>by
  obtain ⟨A,hA⟩:=zAx x (p+2) ⟨a.G,a.d+1,a.y,a.B⟩
  refine ⟨fun q=>if q≤p+1 then a else if q<p+x.len+3 then A q else a,?_,?_,hA.congr (fun q h1 h2=>?_),?_⟩
  ·(try dsimp only);rw [if_pos (by omega)]
  ·(try dsimp only);rw [if_pos (by omega)]
  ·(try dsimp only);rw [if_neg (by omega),if_pos (by omega)]
  ·(try dsimp only);rw [if_neg (by omega),if_neg (by omega)]
def Re.inc:Re→Int→Prop
 | .cat a b,n=>a.inc n∧b.inc n
 | .alt a b,n=>a.inc n∧b.inc n
 | .cap k a,n=>n<k∧a.inc k
 | .sub _ a,n=>a.inc n
 | .opt _ a,n=>a.inc n
 | .loop _ a,n=>a.inc n
 | _,_=>True
theorem Re.zAy:∀ (r:Re) (m n:Int),m≤n→r.inc n→r.inc m
 | .eps,_,_,_,_=>trivial
 | .one _,_,_,_,_=>trivial
 | .back _,_,_,_,_=>trivial
 | .head,_,_,_,_=>trivial
 | .tail,_,_,_,_=>trivial
 | .cat a b,m,n,h,i=>⟨Re.zAy a m n h i.1,Re.zAy b m n h i.2⟩
 | .alt a b,m,n,h,i=>⟨Re.zAy a m n h i.1,Re.zAy b m n h i.2⟩
 | .cap k a,m,n,h,i=>⟨by have:=i.1;omega,i.2⟩
 | .sub _ a,m,n,h,i=>Re.zAy a m n h i
 | .opt _ a,m,n,h,i=>Re.zAy a m n h i
 | .loop _ a,m,n,h,i=>Re.zAy a m n h i
theorem zGu {x:Re} {m:Int} (h:x.inc m):∀ n,(kH x n).inc m
 | 0=>trivial
 | n+1=>⟨h,zGu h n⟩
theorem zKo {x:Re} {m:Int} (late:Bool) (h:x.inc m):∀ n,(zBD x late n).inc m
 | 0=>trivial
 | n+1=>⟨h,zKo late h n⟩
theorem zPd {x:Re} {m:Int} (h:x.inc m) (r:Tok):(zHt x r).inc m:=by
 unfold zHt
 dsimp only
 have t:=zGu h r.n.toNat
 have o:=zKo (decide (r.how=1)) h (r.m-r.n).toNat
 have c1:(if 0<r.n∨0<r.m then (if r.n<r.m then Re.cat (kH x r.n.toNat) (zBD x (decide (r.how=1)) (r.m-r.n).toNat) else kH x r.n.toNat) else Re.eps).inc m:=by
  split
  ·split
   ·exact ⟨t,o⟩
   ·exact t
  ·trivial
 generalize (if 0<r.n∨0<r.m then (if r.n<r.m then Re.cat (kH x r.n.toNat) (zBD x (decide (r.how=1)) (r.m-r.n).toNat) else kH x r.n.toNat) else Re.eps)=z at *
 have c2:(if r.m<0 then Re.cat z (.loop (decide (r.how=1)) x) else z).inc m:=by
  split
  ·exact ⟨c1,h⟩
  ·exact c1
 split
 ·exact c2
 ·exact c2
theorem zKp {x:Re} {m:Int} (h:x.inc m) (r:Option Tok):(part r x).inc m:=by
 cases r with
 | none=>exact h
 | some q=>exact zPd h q
theorem zD2 {b:Re × Option Re} {m:Int} (h:b.1.inc m∧∀ a,b.2=some a→a.inc m):(zDq b).inc m:=by
 obtain ⟨x,y⟩:=b
 cases y with
 | none=>exact h.1
 | some a=>exact ⟨h.1,h.2 a rfl⟩
theorem zDC:∀ (f:Fs) (n:Int),f.wf→zJt n f.flat→f.both.1.inc n∧∀ a,f.both.2=some a→a.inc n
 | .nil,n,_,_=>⟨trivial,fun a e=>(by cases e)⟩
 | .bar t r,n,h,hn=>by
  have hc:kR t=false:=by have:=h.1;unfold kR;simp;omega
  simp only [Fs.flat,zJt,hc] at hn
  have ih:=zDC r n h.2 (by simpa using hn.2)
  refine ⟨trivial,fun a e=>?_⟩
  simp only [Fs.both,Option.some.injEq] at e;subst e;exact zD2 ih
 | .leaf t r s,n,h,hn=>by
  simp only [Fs.flat,zJt,zG4 h.1,zDw,zDY h.2.1] at hn
  have ih:=zDC s n h.2.2 (by simpa using hn.2.2)
  refine ⟨⟨zKp ?_ r,ih.1⟩,ih.2⟩
  unfold xM
  repeat' split
  all_goals trivial
 | .grp t i c r s,n,h,hn=>by
  have hc7:kR c=false:=by have:=h.2.1;unfold kR;simp;omega
  simp only [Fs.flat,zJt,zDw,hc7,zDY h.2.2.2.1] at hn
  obtain ⟨h1,h2,h3,h4⟩:=hn
  have hcb:=xY i.flat
  have ii:=zDC i _ h.2.2.1 h2
  have is:=zDC s _ h.2.2.2.2 h4.2
  refine ⟨⟨zKp ?_ r,Re.zAy _ n _ ?_ is.1⟩,fun a e=>Re.zAy _ n _ ?_ (is.2 a e)⟩
  ·have j:=zD2 ii
   unfold zBE
   split
   ·exact Re.zAy _ n _ (by split <;> omega) j
   split
   ·rename_i h3' h4'
    have hcap:kR t=true:=by have:=h.1;unfold kR;simp [h4',this]
    rw [hcap] at j h1
    have e:=h1 rfl
    simp only [if_true] at j
    exact ⟨by omega,by rw [e];exact j⟩
   ·exact Re.zAy _ n _ (by split <;> omega) j
  ·simp;split <;> omega
  ·simp;split <;> omega
end Mt
