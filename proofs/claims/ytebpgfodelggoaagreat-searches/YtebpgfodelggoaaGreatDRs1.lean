import Derived.Test.YtebpgfodelggoaaGreatC53
import Derived.Test.YtebpgfodelggoaaGreatC29
import Derived.SizedLaws
set_option linter.unusedVariables false
set_option linter.unusedSimpArgs false
set_option maxRecDepth 100000
set_option maxHeartbeats 4000000
namespace Go.Proofs.YtebpgfodelggoaaGreat
open Go.ChangeShapes Go.WideShapes Go.ChangeAt Go.RowKit
theorem Tryz.infoOp:(Tryz.prog.info? 26).map (fun i=>(i.zero,i.size,i.bytes))=some (some (.agg (opA zKU)),8,80):=by kernel_rfl
def opsL (l:List Stp):List Value:=l.flatMap fun o=>(opA o).toList
theorem opsL_len (l:List Stp):(opsL l).length=l.length*8:=by
 unfold opsL
 induction l with
 | nil=>rfl
 | cons a r ih=>rw [List.flatMap_cons,List.length_append,ih,List.length_cons];simp [opA];omega
theorem opsL_get:∀ (l:List Stp) (k j:Nat),k<l.length→j<8→(opsL l)[k*8+j]?=(opA (l.getD k zKU))[j]?
 | [],k,j,hk,_=>by simp at hk
 | f::r,0,j,hk,hj=>by
  unfold opsL
  rw [List.flatMap_cons,List.getElem?_append_left (by simp [opA];omega)];simp
 | f::r,k+1,j,hk,hj=>by
  unfold opsL
  rw [List.flatMap_cons,List.getElem?_append_right (by simp [opA];omega),show (k+1)*8+j-(opA f).toList.length=k*8+j by simp [opA];omega]
  have:=opsL_get r k j (by simp at hk;omega) hj
  unfold opsL at this
  rw [this];simp
structure Kept (w wr:World) (v:Value) (out:List Stp):Prop where
 row:wr.ownsRow w.heap.size 26 8 v out.length (opsL out)
 below:Below w.heap.size w wr
theorem Kept.script {w wr:World} {v:Value} {out:List Stp} (h:Kept w wr v out):Script wr v out:=by
 by_cases h0:out=[]
 ·subst h0
  rcases h.row.2 with ⟨rfl,_⟩ | ⟨g,cap,cur,rfl,_⟩
  ·exact .inl ⟨rfl,_,_,rfl⟩
  ·exact .inl ⟨rfl,_,_,rfl⟩
 ·have hp:0<out.length:=List.length_pos_iff.2 h0
  have hrow:=h.row
  rcases h.row.2 with ⟨rfl,hn⟩ | ⟨g,cap,cur,rfl,hb,hg,h1,h2,h3,h4⟩
  ·omega
  ·refine .inr ⟨hp,g,0,cap,rfl,h1,(Array.getElem?_eq_some_iff.1 hg).1,fun k hk j hj=>?_⟩
   have hc:=World.ownsRow.cellAt (g:=g) (cap:=cap) hrow (k*8+j) (by omega)
   rw [Nat.zero_add,hc,opsL_get out k j hk hj]
theorem Kept.push {w wr w2:World} {v:Value} {out:List Stp} {o:Stp} {q cap:Nat} (h:Kept w wr v out) (hg:(wr.alloc (.cells (opA o) 26)).grownBy w2 v.ownBlock) (hown:w2.ownsRow w.heap.size 26 8 (.slice (some ⟨q,0,none⟩) (out.length+1) cap) (out.length+1) (opsL out++(opA o).toList)):Kept w w2 (.slice (some ⟨q,0,none⟩) (out.length+1) cap) (out++[o]):=by
 refine ⟨?_,?_⟩
 ·have e:opsL (out++[o])=opsL out++(opA o).toList:=by unfold opsL;simp
  rw [e,List.length_append];exact hown
 ·refine (h.below.alloc h.below.size _).grown hg (Nat.le_trans h.below.size (by simp)) (fun k hk=>?_)
  rcases h.row.2 with ⟨rfl,_⟩ | ⟨g,cap',cur,rfl,hb,_⟩
  ·simp [Value.ownBlock] at hk
  ·simp [Value.ownBlock] at hk;omega
theorem kept_none (w:World):Kept w w (.slice none 0 0) []:=⟨⟨rfl,.inl ⟨rfl,rfl⟩⟩,Below.refl _ _⟩
theorem searches_walk (l:List Stp) (v:Value) (w:World) (h:Script w v l) (hn:l.length≤maxLen) (hb80:l.length*80≤140737488355328) (hs:∀ o∈l,o.p.size≤maxLen∧o.t.size≤maxLen) :
  Calls Tryz.prog 5 #[v] w fun e w'=>e=.returned (.bool true)∧Below w.heap.size w w':=by
 have KU:Hid (∀ (out:List Stp) (u:Value) (z:World),Script z u out→out.length≤l.length→(∀ o∈out,o∈l)→Calls Tryz.prog 9 #[u,.int .i64 5,.int .i64 5] z fun e w'=>e=.returned (.int .i64 (-1))∧Below z.heap.size z w'):=fun out u z hS hle hmem=>zMm 5 5 out u z hS (by unfold maxLen at hn;omega) (fun o ho k1 k2 z=>by
  have e5:o.kind=5:=by omega
  exact zLc zLS o z (hs o (hmem o ho)).1 (hs o (hmem o ho)).2 (by rw [e5];rfl) (by rw [e5];rfl) (by rw [e5];rfl) (by rw [e5];rfl) (by rw [e5];rfl))
 obtain ⟨i0,hi,hz0,hz1,hz2⟩:=info_parts Tryz.infoOp
 rcases h with ⟨rfl,ao,cap,rfl⟩ | ⟨hpos,g,off,cap,rfl,hca,hg,hA⟩
 ·have HC:Hid (Calls Tryz.prog 9 #[.slice none 0 0,.int .i64 5,.int .i64 5] w fun e w'=>e=.returned (.int .i64 (-1))∧Below w.heap.size w w'):=KU.out [] _ w (kept_none w).script (Nat.le_refl _) (fun o ho=>ho)
  clear KU hi hz0 hz1 hz2
  go_enter Tryz.func5,Tryz.ntmps5
  go_wp2_with fail
  refine wp_loop_rounds 1 ?_
  rw [rounds_succ]
  go_wp2_with fail
  refine HC.out.mono ?_
  rintro e w1 ⟨rfl,b1⟩
  have HB:Hid (Below w.heap.size w w1):=b1
  clear b1
  go_wp2_with fail
  go_ret
  exact ⟨rfl,HB.out⟩
 ·have HA:Hid (∀ k,k<l.length→∀ j,j<8→w.cell? ⟨g,off+k*8+j,none⟩=(opA (l.getD k zKU))[j]?):=hA
  have HI:Hid (Tryz.prog.info? 26=some i0∧i0.zero=some (.agg (opA zKU))∧i0.size=8∧i0.bytes=80):=⟨hi,hz0,hz1,hz2⟩
  clear hA hi hz0 hz1 hz2 hs
  unfold maxLen at hn
  go_enter Tryz.func5,Tryz.ntmps5
  go_wp2_with fail
  go_loopw [3,4] (fun u i wr=>∃ (k:Nat) (out:List Stp),k≤l.length∧i=.int .i64 k∧out.length≤k∧(∀ o∈out,o∈l)∧Kept w wr u out) (fun _ i _=>l.length-(intOf i).toNat)
  case atStart=>exact ⟨0,[],Nat.zero_le _,rfl,Nat.le_refl _,fun o ho=>by simp at ho,kept_none w⟩
  case round =>
   obtain ⟨k,out,hk,rfl,hok,hmem,hkt⟩:=hrel
   have HKT:Hid (Kept w wr u3 out):=hkt
   have HME:Hid (∀ o∈out,o∈l):=hmem
   have hsz:=hkt.below.size
   by_cases hlt:k<l.length
   ·have key:=fun j hj=>(hkt.below.cell (p:=⟨g,off+k*8+j,none⟩) hg).trans (HA.out k hlt j hj)
    have a0:wr.cell? ⟨g,off+k*8,none⟩=some (.int .i64 (l.getD k zKU).kind):=key 0 (by omega)
    have a1:wr.cell? ⟨g,off+k*8+1,none⟩=some (.string (l.getD k zKU).p):=key 1 (by omega)
    have a2:wr.cell? ⟨g,off+k*8+2,none⟩=some (.string (l.getD k zKU).t):=key 2 (by omega)
    have a3:wr.cell? ⟨g,off+k*8+3,none⟩=some (.int .i64 (l.getD k zKU).frm):=key 3 (by omega)
    have a4:wr.cell? ⟨g,off+k*8+4,none⟩=some (.int .i64 (l.getD k zKU).policy):=key 4 (by omega)
    have a5:wr.cell? ⟨g,off+k*8+5,none⟩=some (.int .i64 (l.getD k zKU).mask):=key 5 (by omega)
    have a6:wr.cell? ⟨g,off+k*8+6,none⟩=some (.int .i64 (l.getD k zKU).room):=key 6 (by omega)
    have a7:wr.cell? ⟨g,off+k*8+7,none⟩=some (.int .i64 (l.getD k zKU).budget):=key 7 (by omega)
    have hm:l.getD k zKU∈l:=by rw [List.getD_eq_getElem?_getD,List.getElem?_eq_getElem hlt];exact List.getElem_mem hlt
    have HMM:Hid (l.getD k zKU∈l):=hm
    generalize l.getD k zKU=O at *
    have i0':(0:Int)≤(k:Int):=by omega
    have i1:(k:Int)<(l.length:Int):=by omega
    have lg:g<wr.heap.size:=by omega
    clear key hm hkt hmem
    by_cases h1:O.kind=5
    ·have e1:(O.kind==5)=true:=by simpa using h1
     by_cases h2:O.policy=0
     ·have e2:(O.policy==0)=true:=by simpa using h2
      clear h1 h2
      go_wp2_with (at_builtin;refine wpList_append_lies _ rfl _ _ 22 rfl w.heap.size 26 i0 _ 8 80 Tryz.underlying22 HI.out.1 HI.out.2.1 HI.out.2.2.1 HI.out.2.2.2 rfl (by decide) _ out.length _ rfl (World.ownsRow.alloc HKT.out.row _) ⟨wr.heap.size,0,none⟩ 1 1 (opA O).toList rfl rfl (zAC _ _ _) (by simp [opA,Value.oneCell']) (by decide) (by unfold maxLen;omega) (by omega) (by simp;omega) (wr.heap.size+1) (by simp) ?_)
      intro q cap' w2 hown hgrow hqq zM8
      have HKN:Hid (Kept w w2 (.slice (some ⟨q,0,none⟩) (out.length+1) cap') (out++[O])):=HKT.out.push hgrow hown
      have HMN:Hid (∀ o∈out++[O],o∈l):=fun o ho=>by
       rcases List.mem_append.1 ho with ho | ho
       ·exact HME.out o ho
       ·rw [List.mem_singleton.1 ho];exact HMM.out
      clear hown hgrow hqq zM8 a0 a1 a2 a3 a4 a5 a6 a7
      go_wp2_with fail
      go_roundw
      case rel=>exact ⟨k+1,out++[O],by omega,by go_num,by simp;omega,HMN.out,HKN.out⟩
      case measure=>simp [intOf];omega
     ·have e2:(O.policy==0)=false:=by simpa using h2
      clear h1 h2
      go_wp2_with fail
      go_roundw
      case rel=>exact ⟨k+1,out,by omega,by go_num,by omega,HME.out,HKT.out⟩
      case measure=>simp [intOf];omega
    ·have e1:(O.kind==5)=false:=by simpa using h1
     clear h1
     go_wp2_with fail
     go_roundw
     case rel=>exact ⟨k+1,out,by omega,by go_num,by omega,HME.out,HKT.out⟩
     case measure=>simp [intOf];omega
   ·have HC:Hid (Calls Tryz.prog 9 #[u3,.int .i64 5,.int .i64 5] wr fun e w'=>e=.returned (.int .i64 (-1))∧Below wr.heap.size wr w'):=KU.out out _ wr hkt.script (by omega) hmem
    clear hkt hmem
    go_wp2_with fail
    refine HC.out.mono ?_
    rintro e w1 ⟨rfl,b1⟩
    have HB:Hid (Below w.heap.size w w1):=HKT.out.below.trans (b1.mono HKT.out.below.size)
    clear b1
    go_wp2_with fail
    go_ret
    exact ⟨rfl,HB.out⟩
end Go.Proofs.YtebpgfodelggoaaGreat
