import Derived.Test.YtebpgfodelggoabC40
import Derived.Test.YtebpgfodelggoabC41
import Derived.Deep.AppendLies
set_option linter.unusedVariables false
set_option linter.unusedSimpArgs false
set_option maxRecDepth 100000
set_option maxHeartbeats 4000000
namespace Go.Proofs.Ytebpgfodelggoab
open Go.RowKit
structure SpAt (W:World) (base g:Nat) (co:Option Addr) (sp:Option Addr) (scap:Nat) (l:List Nat):Prop where
 row:W.ownsRow base 3 1 (.slice sp l.length scap) l.length (opL l)
 ap:∀ q,blk sp=some q→q≠g∧blk co≠some q
section
variable {W W':World} {base g:Nat} {co co' sp:Option Addr} {scap:Nat} {l:List Nat}
theorem SpAt.lt (h:SpAt W base g co sp scap l) (q:Nat) (hq:blk sp=some q):base≤q∧q<W.heap.size:=World.ownsRow.lt h.row q (by rw [ownBlock_blk];exact hq)
theorem SpAt.step (h:SpAt W base g co sp scap l) (s:LStep g co co' W W'):SpAt W' base g co' sp scap l :=
 ⟨row_keep h.row (fun q hq=>s.block q (h.lt q hq).2 (h.ap q hq).1 (h.ap q hq).2),fun q hq=>⟨(h.ap q hq).1,fun e=>(h.ap q hq).2 (s.sub q (h.lt q hq).2 e)⟩⟩
end
theorem LAt.grown {L:Nat} {w w1:World} {g:Nat} {b:Mt.PB} {so ao:Option Addr} {sc ac:Nat} {co:Option Addr} {cc:Nat} {c:List Mt.Ins} {d:Int} {r:Option Nat} (h:LAt L w g b so ao sc ac co cc c d) (hg:w.grownBy w1 r) (hr:∀ q,r=some q→q≠g∧blk co≠some q∧blk so≠some q∧blk ao≠some q):LAt L w1 g b so ao sc ac co cc c d:=by
 obtain ⟨l1,l2,l3,l4⟩:=h.lt
 exact ⟨by rw [hg.block g l1 (fun e=>(hr g e.symm).1 rfl)];exact h.cell,h.lo,⟨row_keep h.tree.seqs (fun q hq=>hg.block q (l3 q hq) (fun e=>(hr q e.symm).2.2.1 hq)),row_keep h.tree.atoms (fun q hq=>hg.block q (l4 q hq) (fun e=>(hr q e.symm).2.2.2 hq))⟩,row_keep h.code (fun q hq=>hg.block q (l2 q hq).2 (fun e=>(hr q e.symm).2.1 hq)),h.ap⟩
theorem LStep.grown {w w1 w2:World} {g:Nat} {co co1:Option Addr} {r:Option Nat} (h:LStep g co co1 w w1) (hg:w1.grownBy w2 r) (hr:∀ q,r=some q→w.heap.size≤q):LStep g co co1 w w2 :=
 ⟨hg.os.trans h.os,hg.tape.trans h.tape,hg.output.trans h.output,Nat.le_trans h.size hg.size,fun k hk h1 h2=>(hg.block k (Nat.lt_of_lt_of_le hk h.size) (fun e=>by have:=hr k e.symm;omega)).trans (h.block k hk h1 h2),h.sub⟩
theorem splits_mem {L:Nat} {w w1 w2:World} {g:Nat} {b:Mt.PB} {so ao:Option Addr} {sc ac:Nat} {co co1 sp:Option Addr} {cc1 scap:Nat} {c1:List Mt.Ins} {d:Int} {l:List Nat} {n q cap:Nat} {A:Mt.PA}
  (hA:LAt L w1 g b so ao sc ac co1 cc1 c1 d) (hS:LStep g co co1 w w1) (hB:Bx w1 g co1 w.heap.size A) (hP:SpAt w1 (w.heap.size+1) g co1 sp scap l) (ho:∀ q,blk so=some q∨blk ao=some q→q<w.heap.size) {E:Array Value} {te:TypeId}
  (hg:(w1.alloc (.cells E te)).grownBy w2 (blk sp)) (hq:blk sp=some q∨q=w1.heap.size+1) (hown:w2.ownsRow (w.heap.size+1) 3 1 (.slice (some ⟨q,0,none⟩) (l.length+1) cap) (l.length+1) (opL l++[.int .i64 (n:Int)])) :
  LAt L w2 g b so ao sc ac co1 cc1 c1 d∧LStep g co co1 w w2∧Bx w2 g co1 w.heap.size A∧SpAt w2 (w.heap.size+1) g co1 (some ⟨q,0,none⟩) cap (l++[n]):=by
 have h1:=hA.below ((Below.refl w1.heap.size w1).alloc (Nat.le_refl _) (.cells E te))
 have hb1:Below w1.heap.size w1 (w1.alloc (.cells E te)):=(Below.refl w1.heap.size w1).alloc (Nat.le_refl _) (.cells E te)
 have hB1:=hB.step (LStep.below hb1 (co:=co1))
 have hw:=hB.lt
 have hgl:=hA.lt
 refine ⟨h1.grown hg (fun q hq=>?_),((hS.trans (LStep.below hb1)).grown hg (fun q hq=>by have:=(hP.lt q hq).1;omega)),⟨?_,hB.ng,hB.nc⟩,⟨?_,fun k hk=>?_⟩⟩
 ·have:=hP.lt q hq
  exact ⟨(hP.ap q hq).1,(hP.ap q hq).2,fun e=>by have:=ho q (Or.inl e);omega,fun e=>by have:=ho q (Or.inr e);omega⟩
 ·rw [hg.block _ hB1.lt (fun e=>by have:=(hP.lt _ e.symm).1;omega)];exact hB1.bk
 ·have e1:(l++[n]).length=l.length+1:=by simp
  have e2:opL (l++[n])=opL l++[.int .i64 (n:Int)]:=by simp [opL]
  rw [e1,e2];exact hown
 ·simp [blk] at hk
  subst hk
  rcases hq with hq | hq
  ·exact hP.ap _ hq
  ·subst hq
   exact ⟨fun e=>by have:=hgl.1;omega,fun e=>by have:=(hgl.2.1 _ e).2;omega⟩
theorem SpAt.cell {W:World} {base g:Nat} {co sp:Option Addr} {scap:Nat} {l:List Nat} (h:SpAt W base g co sp scap l) (j:Nat) (hj:j<l.length):∃ q,sp=some ⟨q,0,none⟩∧q<W.heap.size∧l.length≤scap∧W.cell? ⟨q,j,none⟩=some (.int .i64 ((l.getD j 0:Nat):Int)):=by
 obtain ⟨gs,cap,hv,_,hlt⟩:=World.ownsRow.form h.row (by omega)
 simp only [Value.slice.injEq] at hv
 obtain ⟨rfl,_,rfl⟩:=hv
 rcases h.row.2 with ⟨e,_⟩ | ⟨g',cap',cur,hv,_,_,hc,_⟩
 ·simp at e
 ·simp only [Value.slice.injEq] at hv
  refine ⟨gs,rfl,hlt,by omega,?_⟩
  rw [World.ownsRow.cellAt h.row j (by omega)]
  simp [opL,List.getD_eq_getElem?_getD,List.getElem?_eq_getElem hj]
def optN (x:Mt.Re) (d:Int) (p k:Nat) (late:Bool) (j:Nat):List Mt.Ins :=
 Mt.optM x d (fun m=>if m<j then Mt.spl (((p+m*(x.len+1):Nat):Int)+1) ((p+k*(x.len+1):Nat):Int) late else ⟨2,0,0,[]⟩) k 0 p
theorem optN_start (x:Mt.Re) (d:Int) (p k:Nat) (late:Bool):optN x d p k late 0=Mt.optM x d (fun _=>⟨2,0,0,[]⟩) k 0 p :=
 Mt.optM_congr _ _ _ _ _ _ _ (fun m h1 h2=>by rw [if_neg (by omega)])
theorem optN_next (x:Mt.Re) (d:Int) (c:List Mt.Ins) (k:Nat) (late:Bool) (j:Nat) (hj:j<k):(c++optN x d c.length k late j).set (c.length+j*(x.len+1)) (Mt.spl (((c.length+j*(x.len+1):Nat):Int)+1) ((c.length+k*(x.len+1):Nat):Int) late)=c++optN x d c.length k late (j+1):=by
 rw [List.set_append_right _ _ (by omega),Nat.add_sub_cancel_left]
 unfold optN
 rw [Mt.optM_set x d _ _ k j 0 _ hj]
 congr 1
 refine Mt.optM_congr _ _ _ _ _ _ _ (fun m h1 h2=>?_)
 rw [Nat.zero_add]
 by_cases e:m=j
 ·subst e;rw [if_pos rfl,if_pos (by omega)]
 ·rw [if_neg e]
  by_cases e2:m<j
  ·rw [if_pos e2,if_pos (by omega)]
  ·rw [if_neg e2,if_neg (by omega)]
theorem optN_end (x:Mt.Re) (d:Int) (p k:Nat) (late:Bool):optN x d p k late k=(Mt.optA x late k).code p d:=by
 unfold optN
 refine Mt.optM_optA _ _ _ _ _ _ _ (fun m hm=>?_)
 rw [Nat.zero_add,if_pos hm]
 push_cast
 rfl
section
variable {L:Nat} {g:Nat} {b:Mt.PB} {so ao:Option Addr} {sc ac:Nat} {d:Int}
theorem layOptional_prog (A:Mt.PA) (x:Mt.Re) (N:Nat) (hN:N≤1000) (hX:Lays L g b so ao sc ac d 102 #[.pointer (some ⟨g,0,none⟩),.agg (paC A).toArray] x) :
  Lays L g b so ao sc ac d 111 #[.pointer (some ⟨g,0,none⟩),.agg (paC A).toArray,.int .i64 (N:Int)] (Mt.optA x (decide (A.rep.mood=2)) N):=by
 intro w co cc c h hn
 obtain ⟨i0,hi,hz0,hz1,hz2⟩:=info_parts Try.infoInt
 rw [Mt.optA_len] at hn
 obtain ⟨hB,hW,hS⟩:=Bx.new h A
 have HX:Hid (Lays L g b so ao sc ac d 102 #[.pointer (some ⟨g,0,none⟩),.agg (paC A).toArray] x):=hX
 have HS:Hid (LStep g co co w (w.alloc (.cells (paC A).toArray 142))∧Bx (w.alloc (.cells (paC A).toArray 142)) g co w.heap.size A∧LAt L (w.alloc (.cells (paC A).toArray 142)) g b so ao sc ac co cc c d):=⟨hS,hB,hW⟩
 have HN:Hid (c.length+N*(x.len+1)≤1000):=hn
 have HO:Hid (∀ q,blk so=some q∨blk ao=some q→q<w.heap.size):=fun q hq=>hq.elim (h.lt.2.2.1 q) (h.lt.2.2.2 q)
 clear hB hW hS h hX hn
 go_enter Try.func111,Try.ntmps111
 go_upto_region 1 with fail
 generalize w.alloc (.cells (paC A).toArray 142)=W at *
 go_wp2_with fail
 go_loopw [6,7] (fun u i wr=>∃ (k:Nat) (cor sp:Option Addr) (ccr scap:Nat),k≤N∧i=.int .i64 k∧u=.slice sp k scap∧LAt L wr g b so ao sc ac cor ccr (c++Mt.optM x d (fun _=>⟨2,0,0,[]⟩) k 0 c.length) d∧LStep g co cor w wr∧Bx wr g cor w.heap.size A∧SpAt wr (w.heap.size+1) g cor sp scap (Mt.splitsL c.length (x.len+1) k)) (fun _ i _=>N-(intOf i).toNat)
 case atStart=>exact ⟨0,co,none,cc,0,Nat.zero_le _,rfl,rfl,by simpa [Mt.optM] using HS.out.2.2,HS.out.1,HS.out.2.1,World.ownsRow_nil _ _ _ _,fun q hq=>by simp [blk] at hq⟩
 case round =>
  obtain ⟨k,cor,sp,ccr,scap,hk,rfl,rfl,hA,hSr,hBr,hPr⟩:=hrel
  by_cases hlt:k<N
  ·have hkN:(k:Int)<(N:Int):=by omega
   have hm:(k+1)*(x.len+1)≤N*(x.len+1):=Nat.mul_le_mul_right _ (by omega)
   have hm':(k+1)*(x.len+1)=k*(x.len+1)+(x.len+1):=by rw [Nat.add_mul,Nat.one_mul]
   have hl:(c++Mt.optM x d (fun _=>⟨2,0,0,[]⟩) k 0 c.length).length=c.length+k*(x.len+1):=by rw [List.length_append,Mt.optM_len]
   have hNo:=HN.out
   have hM1:c.length+k*(x.len+1)+x.len+1≤1000:=by omega
   have H1:=put_prog (x:=⟨2,0,0,[]⟩) hA (by rw [hl];omega)
   rw [hl] at H1
   have H1':Hid (Calls Try.prog 53 #[.pointer (some ⟨g,0,none⟩),.agg (insA ⟨2,0,0,[]⟩)] wr _):=H1
   have HSr:Hid (LStep g co cor w wr∧Bx wr g cor w.heap.size A∧SpAt wr (w.heap.size+1) g cor sp scap (Mt.splitsL c.length (x.len+1) k)):=⟨hSr,hBr,hPr⟩
   have HSN:Hid (c++Mt.optM x d (fun _=>⟨2,0,0,[]⟩) k 0 c.length++[⟨2,0,0,[]⟩]++x.code ((c.length+k*(x.len+1)+1:Nat):Int) d=c++Mt.optM x d (fun _=>⟨2,0,0,[]⟩) (k+1) 0 c.length):=by
    show _=_;rw [Mt.optM_snoc,List.append_assoc,List.append_assoc];simp
   have hl2:(c++Mt.optM x d (fun _=>⟨2,0,0,[]⟩) k 0 c.length++[(⟨2,0,0,[]⟩:Mt.Ins)]).length=c.length+k*(x.len+1)+1:=by rw [List.length_append,hl];rfl
   have HSL:Hid (Mt.splitsL c.length (x.len+1) (k+1)=Mt.splitsL c.length (x.len+1) k++[c.length+k*(x.len+1)]):=Mt.splitsL_next _ _ _
   have hsl:=Mt.splitsL_len c.length (x.len+1) k
   clear hA hSr hBr hPr hl H1
   generalize c.length+k*(x.len+1)=M at *
   unfold insA at H1'
   go_wp2_with fail
   refine H1'.out.mono ?_
   rintro e w1 ⟨rfl,q1,cap1,hA,hS⟩
   have S1:Hid (LAt L w1 g b so ao sc ac (some ⟨q1,0,none⟩) cap1 (c++Mt.optM x d (fun _=>⟨2,0,0,[]⟩) k 0 c.length++[⟨2,0,0,[]⟩]) d∧LStep g co (some ⟨q1,0,none⟩) w w1∧Bx w1 g (some ⟨q1,0,none⟩) w.heap.size A∧SpAt w1 (w.heap.size+1) g (some ⟨q1,0,none⟩) sp scap (Mt.splitsL c.length (x.len+1) k)):=⟨hA,HSr.out.1.trans hS,HSr.out.2.1.step hS,HSr.out.2.2.step hS⟩
   have HR:Hid (w1.ownsRow (w.heap.size+1) 3 1 (.slice sp k scap) k (opL (Mt.splitsL c.length (x.len+1) k))):=by
    have:=S1.out.2.2.2.row;rw [hsl] at this;exact this
   have hsz1:w.heap.size<w1.heap.size:=S1.out.2.2.1.lt
   clear hA hS
   go_wp2_with (at_builtin;refine wpList_append_lies _ rfl _ _ 51 rfl (w.heap.size+1) 3 i0 _ 1 8 Try.underlying51 hi hz0 hz1 hz2 rfl (by decide) _ k _ rfl (World.ownsRow.alloc HR.out _) ⟨w1.heap.size,0,none⟩ 1 1 [.int .i64 (M:Int)] rfl rfl (news_cells _ _ _) (by simp [Value.oneCell']) (by decide) (by unfold maxLen;omega) (by omega) (by simp;omega) (w1.heap.size+1) (by simp) ?_)
   intro q cap w2 hown hgrow hq hqlt
   rw [ownBlock_blk] at hgrow hq
   have hMM:=splits_mem S1.out.1 S1.out.2.1 S1.out.2.2.1 S1.out.2.2.2 HO.out (n:=M) hgrow hq (by rw [hsl];exact hown)
   rw [← HSL.out] at hMM
   have H3:Hid (Calls Try.prog 102 #[.pointer (some ⟨g,0,none⟩),.agg (paC A).toArray] w2 _):=HX.out _ _ _ _ hMM.1 (by rw [hl2];omega)
   have HBK:=hMM.2.2.1.bk
   have S2:Hid (LStep g co (some ⟨q1,0,none⟩) w w2∧Bx w2 g (some ⟨q1,0,none⟩) w.heap.size A∧SpAt w2 (w.heap.size+1) g (some ⟨q1,0,none⟩) (some ⟨q,0,none⟩) cap (Mt.splitsL c.length (x.len+1) (k+1))):=hMM.2
   clear hown hgrow hq hqlt hMM HR S1
   go_wp2_with (refine load_blk 142 20 Try.underlying142 rfl Try.sizeAt (by rfl) (.tmp 4) (by rfl) w.heap.size (by rfl) HBK (by rfl) ?_)
   refine H3.out.mono ?_
   rintro e w3 ⟨rfl,co3,cc3,hA,hS⟩
   rw [hl2,HSN.out] at hA
   have S3:Hid (LAt L w3 g b so ao sc ac co3 cc3 (c++Mt.optM x d (fun _=>⟨2,0,0,[]⟩) (k+1) 0 c.length) d∧LStep g co co3 w w3∧Bx w3 g co3 w.heap.size A∧SpAt w3 (w.heap.size+1) g co3 (some ⟨q,0,none⟩) cap (Mt.splitsL c.length (x.len+1) (k+1))):=⟨hA,S2.out.1.trans hS,S2.out.2.1.step hS,S2.out.2.2.step hS⟩
   clear hA hS HBK
   go_wp2_with fail
   go_roundw
   case measure=>show N-((k:Int)+1).toNat<N-(k:Int).toNat;omega
   case rel=>exact ⟨k+1,co3,some ⟨q,0,none⟩,cc3,cap,by omega,by go_num,rfl,S3.out⟩
  ·have ek:k=N:=by omega
   subst ek
   have HA0:Hid (LAt L wr g b so ao sc ac cor ccr (c++Mt.optM x d (fun _=>⟨2,0,0,[]⟩) k 0 c.length) d∧LStep g co cor w wr∧Bx wr g cor w.heap.size A∧SpAt wr (w.heap.size+1) g cor sp scap (Mt.splitsL c.length (x.len+1) k)):=⟨hA,hSr,hBr,hPr⟩
   clear hA hSr hBr hPr HS HX
   have HCN:=optN_start x d c.length k (decide (A.rep.mood=2))
   rename World=>wz
   go_wp2_with fail
   go_loopw [28] (fun i wr=>∃ (j:Nat),j≤k∧i=.int .i64 j∧LAt L wr g b so ao sc ac cor ccr (c++optN x d c.length k (decide (A.rep.mood=2)) j) d∧LStep g co cor w wr∧Bx wr g cor w.heap.size A∧SpAt wr (w.heap.size+1) g cor sp scap (Mt.splitsL c.length (x.len+1) k)) (fun i _=>k-(intOf i).toNat)
   case atStart=>exact ⟨0,Nat.zero_le _,rfl,by rw [HCN];exact HA0.out.1,HA0.out.2⟩
   case round =>
    obtain ⟨j,hj,rfl,hA,hSr,hBr,hPr⟩:=hrel
    by_cases hlt2:j<k
    ·have hjk:(j:Int)<(k:Int):=by omega
     have hm:(j+1)*(x.len+1)≤k*(x.len+1):=Nat.mul_le_mul_right _ (by omega)
     have hm':(j+1)*(x.len+1)=j*(x.len+1)+(x.len+1):=by rw [Nat.add_mul,Nat.one_mul]
     have hNo:=HN.out
     have hl:(c++optN x d c.length k (decide (A.rep.mood=2)) j).length=c.length+k*(x.len+1):=by rw [List.length_append];unfold optN;rw [Mt.optM_len]
     obtain ⟨qs,hsp,hqs,hsc,hcell⟩:=hPr.cell j (by rw [Mt.splitsL_len];exact hlt2)
     rw [Mt.splitsL_len] at hsc
     subst hsp
     rw [List.getD_eq_getElem?_getD,Mt.splitsL_at _ _ _ _ hlt2,Option.getD_some] at hcell
     have b15:=hBr.cell 15
     change _=some (Value.int .i64 A.rep.mood) at b15
     have H1:=aim_prog (c.length+j*(x.len+1)) A.rep.mood hA (by rw [hl];omega) (by rw [hl];omega)
     rw [hl,optN_next x d c k (decide (A.rep.mood=2)) j hlt2] at H1
     have H1':Hid (Calls Try.prog 113 #[.pointer (some ⟨g,0,none⟩),.int .i64 ((c.length+j*(x.len+1):Nat):Int),.int .i64 A.rep.mood] wr _):=H1
     have HSr:Hid (LStep g co cor w wr∧Bx wr g cor w.heap.size A∧SpAt wr (w.heap.size+1) g cor (some ⟨qs,0,none⟩) scap (Mt.splitsL c.length (x.len+1) k)):=⟨hSr,hBr,hPr⟩
     clear hA hSr hBr hPr H1 HA0
     generalize c.length+j*(x.len+1)=M at *
     go_wp2_with fail
     refine H1'.out.mono ?_
     rintro e w3 ⟨rfl,hA,hS⟩
     have S3:Hid (LAt L w3 g b so ao sc ac cor ccr (c++optN x d c.length k (decide (A.rep.mood=2)) (j+1)) d∧LStep g co cor w w3∧Bx w3 g cor w.heap.size A∧SpAt w3 (w.heap.size+1) g cor (some ⟨qs,0,none⟩) scap (Mt.splitsL c.length (x.len+1) k)):=⟨hA,HSr.out.1.trans hS,HSr.out.2.1.step hS,HSr.out.2.2.step hS⟩
     clear hA hS
     go_wp2_with fail
     go_roundw
     case measure=>show k-((j:Int)+1).toNat<k-(j:Int).toNat;omega
     case rel=>exact ⟨j+1,by omega,by go_num,S3.out⟩
    ·have ek:j=k:=by omega
     subst ek
     rw [optN_end] at hA
     have HD:Hid (LDone L g b so ao sc ac d co w (c++(Mt.optA x (decide (A.rep.mood=2)) j).code c.length d) wr):=⟨_,_,hA,hSr⟩
     clear hA hSr hBr hPr
     go_wp2_with fail
     go_returns
     exact ⟨rfl,HD.out⟩
end
end Go.Proofs.Ytebpgfodelggoab
namespace Mt
def repR (x:Re) (q:Tok):Re:=if q.m=-1 then .cat (timesA x q.n.toNat) (.loop (decide (q.how=1)) x) else .cat (timesA x q.n.toNat) (optA x (decide (q.how=1)) (q.m-q.n).toNat)
theorem repA_code (x:Re) (q:Tok) (h:repOk' q) (p d:Int):(repA x q).code p d=(if q.how=2 then Re.sub 0 (repR x q) else repR x q).code p d∧(repA x q).len=(if q.how=2 then Re.sub 0 (repR x q) else repR x q).len:=by
 obtain ⟨h1,h2,h3,h4,h5,h6,h7⟩:=h
 have key:∀ p d:Int,(let c1:=if 0<q.n∨0<q.m then (if q.n<q.m then Re.cat (timesA x q.n.toNat) (optA x (decide (q.how=1)) (q.m-q.n).toNat) else timesA x q.n.toNat) else Re.eps
   if q.m<0 then Re.cat c1 (.loop (decide (q.how=1)) x) else c1).code p d=(repR x q).code p d:=by
  intro p d
  dsimp only
  unfold repR
  by_cases c:q.m=-1
  ·rw [if_pos (show q.m<0 by omega),if_pos c]
   by_cases a:0<q.n∨0<q.m
   ·rw [if_pos a,if_neg (by omega)]
   ·rw [if_neg a,show q.n.toNat=0 by omega];rfl
  ·rw [if_neg (show ¬ q.m<0 by omega),if_neg c]
   by_cases a:0<q.n∨0<q.m
   ·rw [if_pos a]
    by_cases e:q.n<q.m
    ·rw [if_pos e]
    ·rw [if_neg e,show (q.m-q.n).toNat=0 by omega];simp [optA,Re.code]
   ·rw [if_neg a,show q.n.toNat=0 by omega,show (q.m-q.n).toNat=0 by omega];rfl
 have key2:=key p d
 unfold repA
 dsimp only at key key2 ⊢
 generalize (if q.m<0 then (if 0<q.n∨0<q.m then (if q.n<q.m then Re.cat (timesA x q.n.toNat) (optA x (decide (q.how=1)) (q.m-q.n).toNat) else timesA x q.n.toNat) else Re.eps).cat (Re.loop (decide (q.how=1)) x) else (if 0<q.n∨0<q.m then (if q.n<q.m then Re.cat (timesA x q.n.toNat) (optA x (decide (q.how=1)) (q.m-q.n).toNat) else timesA x q.n.toNat) else Re.eps))=Z at *
 have kl:Z.len=(repR x q).len:=by rw [← Re.code_len Z 0 0,← Re.code_len (repR x q) 0 0,key]
 by_cases e:q.how=2
 ·rw [if_pos e,if_pos e]
  exact ⟨by simp only [Re.code];rw [key,kl],by simp only [Re.len];rw [kl]⟩
 ·rw [if_neg e,if_neg e]
  exact ⟨key2,kl⟩
end Mt
namespace Go.Proofs.Ytebpgfodelggoab
open Go.RowKit
section
variable {L:Nat} {g:Nat} {b:Mt.PB} {so ao:Option Addr} {sc ac:Nat} {d:Int}
theorem Lays.congr {fn:Nat} {args:Array Value} {X Y:Mt.Re} (h:Lays L g b so ao sc ac d fn args X) (hl:X.len=Y.len) (hc:∀ p,X.code p d=Y.code p d):Lays L g b so ao sc ac d fn args Y:=by
 intro w co cc c hA hn
 have:=h w co cc c hA (by omega)
 rw [hc] at this
 exact this
theorem layRepeat_prog (A:Mt.PA) (x:Mt.Re) (q:Mt.Tok) (hq:q.kind=8) (hok:Mt.repOk' q) (hr:A.rep=Mt.ptok q) (hd0:0≤d) (hd:d≤1000) (hX:Lays L g b so ao sc ac d 102 #[.pointer (some ⟨g,0,none⟩),.agg (paC A).toArray] x) (hX1:Lays L g b so ao sc ac (d+1) 102 #[.pointer (some ⟨g,0,none⟩),.agg (paC A).toArray] x) :
  Lays L g b so ao sc ac d 103 #[.pointer (some ⟨g,0,none⟩),.agg (paC A).toArray] (Mt.repR x q):=by
 intro w co cc c h hn
 obtain ⟨o1,o2,o3,o4,o5,o6,o7⟩:=hok
 have e13:A.rep.least=q.n:=by rw [hr];simp [Mt.ptok,hq]
 have e14:A.rep.most=q.m:=by rw [hr];simp [Mt.ptok,hq]
 have e15:decide (A.rep.mood=2)=decide (q.how=1):=by
  have:A.rep.mood=q.how+1:=by rw [hr];simp [Mt.ptok,hq]
  rw [this];congr 1;apply propext;omega
 obtain ⟨N,hN⟩:=Int.eq_ofNat_of_zero_le o1
 have hNt:q.n.toNat=N:=by omega
 have HT:Hid (Lays L g b so ao sc ac d 109 #[.pointer (some ⟨g,0,none⟩),.agg (paC A).toArray,.int .i64 (N:Int)] (Mt.timesA x N)):=layTimes_prog A x N (by omega) hX
 obtain ⟨hB,hW,hS⟩:=Bx.new h A
 have hlt:∀ z:Int,(c++(Mt.timesA x N).code z d).length=c.length+(Mt.timesA x N).len:=fun z=>by rw [List.length_append,Mt.Re.code_len]
 have b13:=hB.cell 13
 change _=some (Value.int .i64 A.rep.least) at b13
 rw [e13,hN] at b13
 have HBK:=hB.bk
 have HS:Hid (LStep g co co w (w.alloc (.cells (paC A).toArray 142))∧Bx (w.alloc (.cells (paC A).toArray 142)) g co w.heap.size A):=⟨hS,hB⟩
 by_cases hm:q.m=-1
 ·have HL:Hid (Lays L g b so ao sc ac d 110 #[.pointer (some ⟨g,0,none⟩),.agg (paC A).toArray] (.loop (decide (q.how=1)) x)):=by
   show Lays _ _ _ _ _ _ _ _ _ _ _;rw [← e15];exact layLoop_prog A x hd0 hd hX1
  have eR:Mt.repR x q=.cat (Mt.timesA x N) (.loop (decide (q.how=1)) x):=by unfold Mt.repR;rw [if_pos hm,hNt]
  rw [eR] at hn ⊢
  have hn2:c.length+(Mt.timesA x N).len+(Mt.Re.loop (decide (q.how=1)) x).len≤1000:=by simp only [Mt.Re.len] at hn ⊢;omega
  have H1:Hid (Calls Try.prog 109 #[.pointer (some ⟨g,0,none⟩),.agg (paC A).toArray,.int .i64 (N:Int)] (w.alloc (.cells (paC A).toArray 142)) _):=HT.out _ _ _ _ hW (by omega)
  have HM:Hid (A.rep.most=-1):=by show _=_;rw [e14,hm]
  have HE:Hid (c++(Mt.Re.cat (Mt.timesA x N) (.loop (decide (q.how=1)) x)).code c.length d=c++(Mt.timesA x N).code c.length d++(Mt.Re.loop (decide (q.how=1)) x).code ((c.length+(Mt.timesA x N).len:Nat):Int) d):=by
   show _=_;rw [Mt.Re.code,List.append_assoc];push_cast;rfl
  rw [HE.out]
  clear hB hW hS h hX hX1 hn e13 e14 e15 eR HE hr hN hNt
  generalize hRL:Mt.Re.loop (decide (q.how=1)) x=RL at *
  generalize hRT:Mt.timesA x N=RT at *
  clear hRL hRT
  go_enter Try.func103,Try.ntmps103
  go_upto_region 1 with fail
  generalize w.alloc (.cells (paC A).toArray 142)=W at *
  go_wp2_with (refine load_blk 142 20 Try.underlying142 rfl Try.sizeAt (by rfl) (.tmp 3) (by rfl) w.heap.size (by rfl) HBK (by rfl) ?_)
  refine H1.out.mono ?_
  rintro e w1 ⟨rfl,co1,cc1,hA,hS⟩
  have H2':=HL.out _ _ _ _ hA (by rw [hlt];omega)
  rw [hlt] at H2'
  have H2:Hid (Calls Try.prog 110 #[.pointer (some ⟨g,0,none⟩),.agg (paC A).toArray] w1 _):=H2'
  have B1:=HS.out.2.step hS
  have b14:=B1.cell 14
  change _=some (Value.int .i64 A.rep.most) at b14
  rw [HM.out] at b14
  have HBK1:=B1.bk
  have S1:Hid (LStep g co co1 w w1):=HS.out.1.trans hS
  clear hA hS B1 H2' HBK HS
  go_wp2_with (refine load_blk 142 20 Try.underlying142 rfl Try.sizeAt (by rfl) (.tmp 3) (by rfl) w.heap.size (by rfl) HBK1 (by rfl) ?_)
  refine H2.out.mono ?_
  rintro e w3 ⟨rfl,hD⟩
  have HD:Hid _:=done_trans S1.out hD
  clear hD
  go_wp2_with fail
  go_returns
  exact ⟨rfl,HD.out⟩
 ·obtain ⟨M,hM⟩:=Int.eq_ofNat_of_zero_le (show 0≤q.m by omega)
  have hMt:(q.m-q.n).toNat=M-N:=by omega
  have hNM:N≤M:=by omega
  have HL:Hid (Lays L g b so ao sc ac d 111 #[.pointer (some ⟨g,0,none⟩),.agg (paC A).toArray,.int .i64 ((M-N:Nat):Int)] (Mt.optA x (decide (q.how=1)) (M-N))):=by
   show Lays _ _ _ _ _ _ _ _ _ _ _;rw [← e15];exact layOptional_prog A x (M-N) (by omega) hX
  have eR:Mt.repR x q=.cat (Mt.timesA x N) (Mt.optA x (decide (q.how=1)) (M-N)):=by unfold Mt.repR;rw [if_neg hm,hNt,hMt]
  rw [eR] at hn ⊢
  have hn2:c.length+(Mt.timesA x N).len+(Mt.optA x (decide (q.how=1)) (M-N)).len≤1000:=by simp only [Mt.Re.len] at hn ⊢;omega
  have H1:Hid (Calls Try.prog 109 #[.pointer (some ⟨g,0,none⟩),.agg (paC A).toArray,.int .i64 (N:Int)] (w.alloc (.cells (paC A).toArray 142)) _):=HT.out _ _ _ _ hW (by omega)
  have HM:Hid (A.rep.most=(M:Int)∧A.rep.least=(N:Int)):=⟨by rw [e14,hM],by rw [e13,hN]⟩
  have HE:Hid (c++(Mt.Re.cat (Mt.timesA x N) (Mt.optA x (decide (q.how=1)) (M-N))).code c.length d=c++(Mt.timesA x N).code c.length d++(Mt.optA x (decide (q.how=1)) (M-N)).code ((c.length+(Mt.timesA x N).len:Nat):Int) d):=by
   show _=_;rw [Mt.Re.code,List.append_assoc];push_cast;rfl
  rw [HE.out]
  have hM20:M≤20:=by omega
  have bt:((M:Int)==-1)=false:=by simp
  have hsub:(M:Int)-(N:Int)=((M-N:Nat):Int):=by omega
  rw [← hsub] at HL
  clear hB hW hS h hX hX1 hn e13 e14 e15 eR HE hr hN hNt hMt hm hM
  generalize hRL:Mt.optA x (decide (q.how=1)) (M-N)=RL at *
  generalize hRT:Mt.timesA x N=RT at *
  clear hRL hRT hsub
  go_enter Try.func103,Try.ntmps103
  go_upto_region 1 with fail
  generalize w.alloc (.cells (paC A).toArray 142)=W at *
  go_wp2_with (refine load_blk 142 20 Try.underlying142 rfl Try.sizeAt (by rfl) (.tmp 3) (by rfl) w.heap.size (by rfl) HBK (by rfl) ?_)
  refine H1.out.mono ?_
  rintro e w1 ⟨rfl,co1,cc1,hA,hS⟩
  have H2':=HL.out _ _ _ _ hA (by rw [hlt];omega)
  rw [hlt] at H2'
  have H2:Hid (Calls Try.prog 111 #[.pointer (some ⟨g,0,none⟩),.agg (paC A).toArray,.int .i64 ((M:Int)-(N:Int))] w1 _):=H2'
  have B1:=HS.out.2.step hS
  have b14:=B1.cell 14
  change _=some (Value.int .i64 A.rep.most) at b14
  rw [HM.out.1] at b14
  have d13:=B1.cell 13
  change _=some (Value.int .i64 A.rep.least) at d13
  rw [HM.out.2] at d13
  have HBK1:=B1.bk
  have S1:Hid (LStep g co co1 w w1):=HS.out.1.trans hS
  clear hA hS B1 H2' HBK HS
  go_wp2_with (refine load_blk 142 20 Try.underlying142 rfl Try.sizeAt (by rfl) (.tmp 3) (by rfl) w.heap.size (by rfl) HBK1 (by rfl) ?_)
  refine H2.out.mono ?_
  rintro e w3 ⟨rfl,hD⟩
  have HD:Hid _:=done_trans S1.out hD
  clear hD
  go_wp2_with fail
  go_returns
  exact ⟨rfl,HD.out⟩
end
section
variable {L:Nat} {g:Nat} {b:Mt.PB} {so ao:Option Addr} {sc ac:Nat} {d:Int}
theorem layPart_one (A:Mt.PA) (x:Mt.Re) (hk:A.rep.kind=0) (hX:Lays L g b so ao sc ac d 102 #[.pointer (some ⟨g,0,none⟩),.agg (paC A).toArray] x) :
  Lays L g b so ao sc ac d 87 #[.pointer (some ⟨g,0,none⟩),.agg (paC A).toArray] x:=by
 intro w co cc c h hn
 obtain ⟨hB,hW,hS⟩:=Bx.new h A
 have HC:Hid (Calls Try.prog 102 #[.pointer (some ⟨g,0,none⟩),.agg (paC A).toArray] (w.alloc (.cells (paC A).toArray 142)) _):=hX _ _ _ _ hW hn
 have a9:=hB.cell 9
 change _=some (Value.int .i64 A.rep.kind) at a9
 rw [hk] at a9
 have HBK:=hB.bk
 have HS:Hid (LStep g co co w (w.alloc (.cells (paC A).toArray 142))):=hS
 clear hB hW hS h hk hX
 go_enter Try.func87,Try.ntmps87
 go_upto_region 1 with fail
 generalize w.alloc (.cells (paC A).toArray 142)=W at *
 go_wp2_with (refine load_blk 142 20 Try.underlying142 rfl Try.sizeAt (by rfl) (.tmp 3) (by rfl) w.heap.size (by rfl) HBK (by rfl) ?_)
 refine HC.out.mono ?_
 rintro e w3 ⟨rfl,hD⟩
 have HD:Hid _:=done_trans HS.out hD
 clear hD
 go_wp2_with fail
 go_returns
 exact ⟨rfl,HD.out⟩
theorem layPart_rep (A:Mt.PA) (X:Mt.Re) (hk:A.rep.kind=4) (hm:(A.rep.mood != 3)=true) (hX:Lays L g b so ao sc ac d 103 #[.pointer (some ⟨g,0,none⟩),.agg (paC A).toArray] X) :
  Lays L g b so ao sc ac d 87 #[.pointer (some ⟨g,0,none⟩),.agg (paC A).toArray] X:=by
 intro w co cc c h hn
 obtain ⟨hB,hW,hS⟩:=Bx.new h A
 have HC:Hid (Calls Try.prog 103 #[.pointer (some ⟨g,0,none⟩),.agg (paC A).toArray] (w.alloc (.cells (paC A).toArray 142)) _):=hX _ _ _ _ hW hn
 have a9:=hB.cell 9
 change _=some (Value.int .i64 A.rep.kind) at a9
 rw [hk] at a9
 have a15:=hB.cell 15
 change _=some (Value.int .i64 A.rep.mood) at a15
 have HBK:=hB.bk
 have HS:Hid (LStep g co co w (w.alloc (.cells (paC A).toArray 142))):=hS
 clear hB hW hS h hk hX
 go_enter Try.func87,Try.ntmps87
 go_upto_region 1 with fail
 generalize w.alloc (.cells (paC A).toArray 142)=W at *
 go_wp2_with (refine load_blk 142 20 Try.underlying142 rfl Try.sizeAt (by rfl) (.tmp 3) (by rfl) w.heap.size (by rfl) HBK (by rfl) ?_)
 refine HC.out.mono ?_
 rintro e w3 ⟨rfl,hD⟩
 have HD:Hid _:=done_trans HS.out hD
 clear hD
 go_wp2_with fail
 go_returns
 exact ⟨rfl,HD.out⟩
theorem layPart_poss (A:Mt.PA) (X:Mt.Re) (hk:A.rep.kind=4) (hm:A.rep.mood=3) (hX:Lays L g b so ao sc ac d 103 #[.pointer (some ⟨g,0,none⟩),.agg (paC A).toArray] X) :
  Lays L g b so ao sc ac d 87 #[.pointer (some ⟨g,0,none⟩),.agg (paC A).toArray] (.sub 0 X):=by
 intro w co cc c h hn
 have hn':c.length+X.len+2≤1000:=by simp only [Mt.Re.len] at hn;omega
 obtain ⟨hB,hW,hS⟩:=Bx.new h A
 have HP:Hid (Calls Try.prog 53 #[.pointer (some ⟨g,0,none⟩),.agg (insA ⟨11,0,0,[]⟩)] (w.alloc (.cells (paC A).toArray 142)) _):=put_prog (x:=⟨11,0,0,[]⟩) hW (by omega)
 have HX:Hid (Lays L g b so ao sc ac d 103 #[.pointer (some ⟨g,0,none⟩),.agg (paC A).toArray] X):=hX
 have HE:Hid (c++(Mt.Re.sub 0 X).code c.length d=(c++[(⟨11,0,0,[]⟩:Mt.Ins)]++X.code ((c.length+1:Nat):Int) d).set c.length ⟨11,0,(c.length+1+X.len:Nat)+1,[]⟩++[⟨12,0,0,[]⟩]):=by
  show _=_;rw [set_mid];simp [Mt.Re.code];omega
 rw [HE.out]
 have hl:(c++[(⟨11,0,0,[]⟩:Mt.Ins)]).length=c.length+1:=by simp
 have hl2:∀ z:Int,(c++[(⟨11,0,0,[]⟩:Mt.Ins)]++X.code z d).length=c.length+1+X.len:=fun z=>by rw [List.length_append,hl,Mt.Re.code_len]
 have a9:=hB.cell 9
 change _=some (Value.int .i64 A.rep.kind) at a9
 rw [hk] at a9
 have a15:=hB.cell 15
 change _=some (Value.int .i64 A.rep.mood) at a15
 rw [hm] at a15
 have HS0:Hid (LStep g co co w (w.alloc (.cells (paC A).toArray 142))∧Bx (w.alloc (.cells (paC A).toArray 142)) g co w.heap.size A):=⟨hS,hB⟩
 clear hB hW hS h hk hX hm hn
 unfold insA at HP
 go_enter Try.func87,Try.ntmps87
 go_upto_region 1 with fail
 generalize w.alloc (.cells (paC A).toArray 142)=W at *
 go_wp2_with fail
 refine HP.out.mono ?_
 rintro e w1 ⟨rfl,q1,cap1,hA,hS⟩
 have H1:Hid (Calls Try.prog 103 #[.pointer (some ⟨g,0,none⟩),.agg (paC A).toArray] w1 _):=HX.out w1 _ _ _ hA (by rw [hl];omega)
 have HS:Hid (LStep g co (some ⟨q1,0,none⟩) w w1):=HS0.out.1.trans hS
 have HBK:=(HS0.out.2.step hS).bk
 clear hA hS HS0
 go_wp2_with (refine load_blk 142 20 Try.underlying142 rfl Try.sizeAt (by rfl) (.tmp 3) (by rfl) w.heap.size (by rfl) HBK (by rfl) ?_)
 refine H1.out.mono ?_
 rintro e w2 ⟨rfl,co2,cc2,hA,hS⟩
 rw [hl] at hA
 have H2:=endSub_prog c.length hA (by rw [hl2];omega) (by rw [hl2];omega)
 rw [get_mid,hl2] at H2
 have H2':Hid (Calls Try.prog 104 #[.pointer (some ⟨g,0,none⟩),.int .i64 ((c.length:Nat):Int)] w2 _):=H2
 have HS2:Hid (LStep g co co2 w w2):=HS.out.trans hS
 clear hA hS H2 HBK
 go_wp2_with fail
 refine H2'.out.mono ?_
 rintro e w3 ⟨rfl,hD⟩
 have HD:Hid _:=done_trans HS2.out hD
 clear hD
 go_wp2_with fail
 go_returns
 exact ⟨rfl,HD.out⟩
theorem layPart_prog (A:Mt.PA) (x:Mt.Re) (r:Option Mt.Tok) (hr:A.rep=Mt.rp r) (hk:Mt.repK r) (hok:Mt.repsOk r) (hd0:0≤d) (hd:d≤1000) (hX:Lays L g b so ao sc ac d 102 #[.pointer (some ⟨g,0,none⟩),.agg (paC A).toArray] x) (hX1:Lays L g b so ao sc ac (d+1) 102 #[.pointer (some ⟨g,0,none⟩),.agg (paC A).toArray] x) :
  Lays L g b so ao sc ac d 87 #[.pointer (some ⟨g,0,none⟩),.agg (paC A).toArray] (Mt.part r x):=by
 cases r with
 | none=>exact layPart_one A x (by rw [hr];rfl) hX
 | some q =>
  have hq:=hk q rfl
  have ho:=hok q rfl
  have hr':A.rep=Mt.ptok q:=hr
  have hR:=layRepeat_prog A x q hq ho hr' hd0 hd hX hX1
  have k4:A.rep.kind=4:=by rw [hr',Mt.ptok_kind,hq];rfl
  have km:A.rep.mood=q.how+1:=by rw [hr'];simp [Mt.ptok,hq]
  show Lays L g b so ao sc ac d _ _ (Mt.repA x q)
  have hc:=fun p=>Mt.repA_code x q ho p d
  by_cases e:q.how=2
  ·simp only [if_pos e] at hc
   exact (layPart_poss A _ k4 (by rw [km,e];rfl) hR).congr (hc 0).2.symm (fun p=>(hc p).1.symm)
  ·simp only [if_neg e] at hc
   exact (layPart_rep A _ k4 (by rw [km];simp;omega) hR).congr (hc 0).2.symm (fun p=>(hc p).1.symm)
end
end Go.Proofs.Ytebpgfodelggoab
