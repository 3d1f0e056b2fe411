import Derived.Test.YtebpgfodelggoaaGreatC45
import Derived.Deep.AppendLies
set_option linter.unusedVariables false
set_option linter.unusedSimpArgs false
set_option maxRecDepth 100000
set_option maxHeartbeats 4000000
namespace Go.Proofs.YtebpgfodelggoaaGreat
open Go.RowKit
structure zHx (W:World) (base g:Nat) (co:Option Addr) (sp:Option Addr) (zF4:Nat) (l:List Nat):Prop where
 row:W.ownsRow base 3 1 (.slice sp l.length zF4) l.length (opL l)
 ap:∀ q,blk sp=some q→q≠g∧blk co≠some q
section
variable {W W':World} {base g:Nat} {co co' sp:Option Addr} {zF4:Nat} {l:List Nat}
theorem zHx.lt (h:zHx W base g co sp zF4 l) (q:Nat) (hq:blk sp=some q):base≤q∧q<W.heap.size:=World.ownsRow.lt h.row q (by rw [zW];exact hq)
theorem zHx.step (h:zHx W base g co sp zF4 l) (s:kT g co co' W W'):zHx W' base g co' sp zF4 l :=
 ⟨zK h.row (fun q hq=>s.block q (h.lt q hq).2 (h.ap q hq).1 (h.ap q hq).2),fun q hq=>⟨(h.ap q hq).1,fun e=>(h.ap q hq).2 (s.sub q (h.lt q hq).2 e)⟩⟩
end
theorem LAt.grown {L:Nat} {w w1:World} {g:Nat} {b:Mt.PB} {so ao:Option Addr} {sc ac:Nat} {co:Option Addr} {cc:Nat} {c:List Mt.Ins} {d:Int} {r:Option Nat} (h:LAt L w g b so ao sc ac co cc c d) (hg:w.grownBy w1 r) (hr:∀ q,r=some q→q≠g∧blk co≠some q∧blk so≠some q∧blk ao≠some q):LAt L w1 g b so ao sc ac co cc c d:=by
 obtain ⟨l1,l2,l3,l4⟩:=h.lt
 exact ⟨by rw [hg.block g l1 (fun e=>(hr g e.symm).1 rfl)];exact h.cell,h.lo,⟨zK h.tree.zR (fun q hq=>hg.block q (l3 q hq) (fun e=>(hr q e.symm).2.2.1 hq)),zK h.tree.atoms (fun q hq=>hg.block q (l4 q hq) (fun e=>(hr q e.symm).2.2.2 hq))⟩,zK h.code (fun q hq=>hg.block q (l2 q hq).2 (fun e=>(hr q e.symm).2.1 hq)),h.ap⟩
theorem kT.grown {w w1 w2:World} {g:Nat} {co co1:Option Addr} {r:Option Nat} (h:kT g co co1 w w1) (hg:w1.grownBy w2 r) (hr:∀ q,r=some q→w.heap.size≤q):kT g co co1 w w2 :=
 ⟨hg.os.trans h.os,hg.tape.trans h.tape,hg.output.trans h.output,Nat.le_trans h.size hg.size,fun k hk h1 h2=>(hg.block k (Nat.lt_of_lt_of_le hk h.size) (fun e=>by have:=hr k e.symm;omega)).trans (h.block k hk h1 h2),h.sub⟩
theorem zLI {L:Nat} {w w1 w2:World} {g:Nat} {b:Mt.PB} {so ao:Option Addr} {sc ac:Nat} {co co1 sp:Option Addr} {cc1 zF4:Nat} {c1:List Mt.Ins} {d:Int} {l:List Nat} {n q cap:Nat} {A:Mt.PA}
  (hA:LAt L w1 g b so ao sc ac co1 cc1 c1 d) (hS:kT g co co1 w w1) (hB:Bx w1 g co1 w.heap.size A) (hP:zHx w1 (w.heap.size+1) g co1 sp zF4 l) (ho:∀ q,blk so=some q∨blk ao=some q→q<w.heap.size) {E:Array Value} {te:TypeId}
  (hg:(w1.alloc (.cells E te)).grownBy w2 (blk sp)) (hq:blk sp=some q∨q=w1.heap.size+1) (hown:w2.ownsRow (w.heap.size+1) 3 1 (.slice (some ⟨q,0,none⟩) (l.length+1) cap) (l.length+1) (opL l++[.int .i64 (n:Int)])) :
  LAt L w2 g b so ao sc ac co1 cc1 c1 d∧kT g co co1 w w2∧Bx w2 g co1 w.heap.size A∧zHx w2 (w.heap.size+1) g co1 (some ⟨q,0,none⟩) cap (l++[n]):=by
 have h1:=hA.below ((Below.refl w1.heap.size w1).alloc (Nat.le_refl _) (.cells E te))
 have hb1:Below w1.heap.size w1 (w1.alloc (.cells E te)):=(Below.refl w1.heap.size w1).alloc (Nat.le_refl _) (.cells E te)
 have hB1:=hB.step (kT.below hb1 (co:=co1))
 have hw:=hB.lt
 have hgl:=hA.lt
 refine ⟨h1.grown hg (fun q hq=>?_),((hS.trans (kT.below hb1)).grown hg (fun q hq=>by have:=(hP.lt q hq).1;omega)),⟨?_,hB.ng,hB.nc⟩,⟨?_,fun k hk=>?_⟩⟩
 ·have:=hP.lt q hq
  exact ⟨(hP.ap q hq).1,(hP.ap q hq).2,fun e=>by have:=ho q (Or.inl e);omega,fun e=>by have:=ho q (Or.inr e);omega⟩
 ·rw [hg.block _ hB1.lt (fun e=>by have:=(hP.lt _ e.symm).1;omega)];exact hB1.bk
 ·have e1:(l++[n]).length=l.length+1:=by simp
  have e2:opL (l++[n])=opL l++[.int .i64 (n:Int)]:=by simp [opL]
  rw [e1,e2];exact hown
 ·simp [blk] at hk
  subst hk
  rcases hq with hq | hq
  ·exact hP.ap _ hq
  ·subst hq
   exact ⟨fun e=>by have:=hgl.1;omega,fun e=>by have:=(hgl.2.1 _ e).2;omega⟩
theorem zHx.cell {W:World} {base g:Nat} {co sp:Option Addr} {zF4:Nat} {l:List Nat} (h:zHx W base g co sp zF4 l) (j:Nat) (hj:j<l.length):∃ q,sp=some ⟨q,0,none⟩∧q<W.heap.size∧l.length≤zF4∧W.cell? ⟨q,j,none⟩=some (.int .i64 ((l.getD j 0:Nat):Int)):=by
 obtain ⟨gs,cap,hv,_,hlt⟩:=World.ownsRow.form h.row (by omega)
 simp only [Value.slice.injEq] at hv
 obtain ⟨rfl,_,rfl⟩:=hv
 rcases h.row.2 with ⟨e,_⟩ | ⟨g',cap',cur,hv,_,_,hc,_⟩
 ·simp at e
 ·simp only [Value.slice.injEq] at hv
  refine ⟨gs,rfl,hlt,by omega,?_⟩
  rw [World.ownsRow.cellAt h.row j (by omega)]
  simp [opL,List.getD_eq_getElem?_getD,List.getElem?_eq_getElem hj]
def zN1 (x:Mt.Re) (d:Int) (p k:Nat) (late:Bool) (j:Nat):List Mt.Ins :=
 Mt.zC3 x d (fun m=>if m<j then Mt.spl (((p+m*(x.len+1):Nat):Int)+1) ((p+k*(x.len+1):Nat):Int) late else ⟨2,0,0,[]⟩) k 0 p
theorem zLJ (x:Mt.Re) (d:Int) (p k:Nat) (late:Bool):zN1 x d p k late 0=Mt.zC3 x d (fun _=>⟨2,0,0,[]⟩) k 0 p :=
 Mt.zCQ _ _ _ _ _ _ _ (fun m h1 h2=>by rw [if_neg (by omega)])
theorem zNJ (x:Mt.Re) (d:Int) (c:List Mt.Ins) (k:Nat) (late:Bool) (j:Nat) (hj:j<k):(c++zN1 x d c.length k late j).set (c.length+j*(x.len+1)) (Mt.spl (((c.length+j*(x.len+1):Nat):Int)+1) ((c.length+k*(x.len+1):Nat):Int) late)=c++zN1 x d c.length k late (j+1):=by
 rw [List.set_append_right _ _ (by omega),Nat.add_sub_cancel_left]
 unfold zN1
 rw [Mt.zKA x d _ _ k j 0 _ hj]
 congr 1
 refine Mt.zCQ _ _ _ _ _ _ _ (fun m h1 h2=>?_)
 rw [Nat.zero_add]
 by_cases e:m=j
 ·subst e;rw [if_pos rfl,if_pos (by omega)]
 ·rw [if_neg e]
  by_cases e2:m<j
  ·rw [if_pos e2,if_pos (by omega)]
  ·rw [if_neg e2,if_neg (by omega)]
theorem zPr (x:Mt.Re) (d:Int) (p k:Nat) (late:Bool):zN1 x d p k late k=(Mt.zBD x late k).code p d:=by
 unfold zN1
 refine Mt.zIC _ _ _ _ _ _ _ (fun m hm=>?_)
 rw [Nat.zero_add,if_pos hm]
 push_cast
 rfl
section
variable {L:Nat} {g:Nat} {b:Mt.PB} {so ao:Option Addr} {sc ac:Nat} {d:Int}
theorem zEB (A:Mt.PA) (x:Mt.Re) (N:Nat) (hN:N≤1000) (hX:Lays L g b so ao sc ac d 161 #[.pointer (some ⟨g,0,none⟩),.agg (paC A).toArray] x) :
  Lays L g b so ao sc ac d 170 #[.pointer (some ⟨g,0,none⟩),.agg (paC A).toArray,.int .i64 (N:Int)] (Mt.zBD x (decide (A.rep.xR=2)) N):=by
 intro w co cc c h hn
 obtain ⟨i0,hi,hz0,hz1,hz2⟩:=info_parts Tryz.infoInt
 rw [Mt.zCI] at hn
 obtain ⟨hB,hW,hS⟩:=Bx.new h A
 have HX:Hid (Lays L g b so ao sc ac d 161 #[.pointer (some ⟨g,0,none⟩),.agg (paC A).toArray] x):=hX
 have HS:Hid (kT g co co w (w.alloc (.cells (paC A).toArray 200))∧Bx (w.alloc (.cells (paC A).toArray 200)) g co w.heap.size A∧LAt L (w.alloc (.cells (paC A).toArray 200)) g b so ao sc ac co cc c d):=⟨hS,hB,hW⟩
 have HN:Hid (c.length+N*(x.len+1)≤1000):=hn
 have HO:Hid (∀ q,blk so=some q∨blk ao=some q→q<w.heap.size):=fun q hq=>hq.elim (h.lt.2.2.1 q) (h.lt.2.2.2 q)
 clear hB hW hS h hX hn
 go_enter Tryz.func170,Tryz.ntmps170
 go_upto_region 1 with fail
 generalize w.alloc (.cells (paC A).toArray 200)=W at *
 go_wp2_with fail
 go_loopw [6,7] (fun u i wr=>∃ (k:Nat) (cor sp:Option Addr) (ccr zF4:Nat),k≤N∧i=.int .i64 k∧u=.slice sp k zF4∧LAt L wr g b so ao sc ac cor ccr (c++Mt.zC3 x d (fun _=>⟨2,0,0,[]⟩) k 0 c.length) d∧kT g co cor w wr∧Bx wr g cor w.heap.size A∧zHx wr (w.heap.size+1) g cor sp zF4 (Mt.vL c.length (x.len+1) k)) (fun _ i _=>N-(intOf i).toNat)
 case atStart=>exact ⟨0,co,none,cc,0,Nat.zero_le _,rfl,rfl,by simpa [Mt.zC3] using HS.out.2.2,HS.out.1,HS.out.2.1,World.ownsRow_nil _ _ _ _,fun q hq=>by simp [blk] at hq⟩
 case round =>
  obtain ⟨k,cor,sp,ccr,zF4,hk,rfl,rfl,hA,hSr,hBr,hPr⟩:=hrel
  by_cases hlt:k<N
  ·have hkN:(k:Int)<(N:Int):=by omega
   have hm:(k+1)*(x.len+1)≤N*(x.len+1):=Nat.mul_le_mul_right _ (by omega)
   have hm':(k+1)*(x.len+1)=k*(x.len+1)+(x.len+1):=by rw [Nat.add_mul,Nat.one_mul]
   have hl:(c++Mt.zC3 x d (fun _=>⟨2,0,0,[]⟩) k 0 c.length).length=c.length+k*(x.len+1):=by rw [List.length_append,Mt.zHn]
   have hNo:=HN.out
   have hM1:c.length+k*(x.len+1)+x.len+1≤1000:=by omega
   have H1:=xI (x:=⟨2,0,0,[]⟩) hA (by rw [hl];omega)
   rw [hl] at H1
   have H1':Hid (Calls Tryz.prog 93 #[.pointer (some ⟨g,0,none⟩),.agg (qG ⟨2,0,0,[]⟩)] wr _):=H1
   have HSr:Hid (kT g co cor w wr∧Bx wr g cor w.heap.size A∧zHx wr (w.heap.size+1) g cor sp zF4 (Mt.vL c.length (x.len+1) k)):=⟨hSr,hBr,hPr⟩
   have HSN:Hid (c++Mt.zC3 x d (fun _=>⟨2,0,0,[]⟩) k 0 c.length++[⟨2,0,0,[]⟩]++x.code ((c.length+k*(x.len+1)+1:Nat):Int) d=c++Mt.zC3 x d (fun _=>⟨2,0,0,[]⟩) (k+1) 0 c.length):=by
    show _=_;rw [Mt.zIB,List.append_assoc,List.append_assoc];simp
   have hl2:(c++Mt.zC3 x d (fun _=>⟨2,0,0,[]⟩) k 0 c.length++[(⟨2,0,0,[]⟩:Mt.Ins)]).length=c.length+k*(x.len+1)+1:=by rw [List.length_append,hl];rfl
   have HSL:Hid (Mt.vL c.length (x.len+1) (k+1)=Mt.vL c.length (x.len+1) k++[c.length+k*(x.len+1)]):=Mt.zID _ _ _
   have hsl:=Mt.zDd c.length (x.len+1) k
   clear hA hSr hBr hPr hl H1
   generalize c.length+k*(x.len+1)=M at *
   unfold qG at H1'
   go_wp2_with fail
   refine H1'.out.mono ?_
   rintro e w1 ⟨rfl,q1,zQV,hA,hS⟩
   have S1:Hid (LAt L w1 g b so ao sc ac (some ⟨q1,0,none⟩) zQV (c++Mt.zC3 x d (fun _=>⟨2,0,0,[]⟩) k 0 c.length++[⟨2,0,0,[]⟩]) d∧kT g co (some ⟨q1,0,none⟩) w w1∧Bx w1 g (some ⟨q1,0,none⟩) w.heap.size A∧zHx w1 (w.heap.size+1) g (some ⟨q1,0,none⟩) sp zF4 (Mt.vL c.length (x.len+1) k)):=⟨hA,HSr.out.1.trans hS,HSr.out.2.1.step hS,HSr.out.2.2.step hS⟩
   have HR:Hid (w1.ownsRow (w.heap.size+1) 3 1 (.slice sp k zF4) k (opL (Mt.vL c.length (x.len+1) k))):=by
    have:=S1.out.2.2.2.row;rw [hsl] at this;exact this
   have hsz1:w.heap.size<w1.heap.size:=S1.out.2.2.1.lt
   clear hA hS
   go_wp2_with (at_builtin;refine wpList_append_lies _ rfl _ _ 41 rfl (w.heap.size+1) 3 i0 _ 1 8 Tryz.underlying41 hi hz0 hz1 hz2 rfl (by decide) _ k _ rfl (World.ownsRow.alloc HR.out _) ⟨w1.heap.size,0,none⟩ 1 1 [.int .i64 (M:Int)] rfl rfl (zAC _ _ _) (by simp [Value.oneCell']) (by decide) (by unfold maxLen;omega) (by omega) (by simp;omega) (w1.heap.size+1) (by simp) ?_)
   intro q cap w2 hown hgrow hq zM8
   rw [zW] at hgrow hq
   have hMM:=zLI S1.out.1 S1.out.2.1 S1.out.2.2.1 S1.out.2.2.2 HO.out (n:=M) hgrow hq (by rw [hsl];exact hown)
   rw [← HSL.out] at hMM
   have H3:Hid (Calls Tryz.prog 161 #[.pointer (some ⟨g,0,none⟩),.agg (paC A).toArray] w2 _):=HX.out _ _ _ _ hMM.1 (by rw [hl2];omega)
   have HBK:=hMM.2.2.1.bk
   have S2:Hid (kT g co (some ⟨q1,0,none⟩) w w2∧Bx w2 g (some ⟨q1,0,none⟩) w.heap.size A∧zHx w2 (w.heap.size+1) g (some ⟨q1,0,none⟩) (some ⟨q,0,none⟩) cap (Mt.vL c.length (x.len+1) (k+1))):=hMM.2
   clear hown hgrow hq zM8 hMM HR S1
   go_wp2_with (refine zZ 200 20 Tryz.underlying200 rfl Tryz.sizeAt (by rfl) (.tmp 4) (by rfl) w.heap.size (by rfl) HBK (by rfl) ?_)
   refine H3.out.mono ?_
   rintro e w3 ⟨rfl,co3,cc3,hA,hS⟩
   rw [hl2,HSN.out] at hA
   have S3:Hid (LAt L w3 g b so ao sc ac co3 cc3 (c++Mt.zC3 x d (fun _=>⟨2,0,0,[]⟩) (k+1) 0 c.length) d∧kT g co co3 w w3∧Bx w3 g co3 w.heap.size A∧zHx w3 (w.heap.size+1) g co3 (some ⟨q,0,none⟩) cap (Mt.vL c.length (x.len+1) (k+1))):=⟨hA,S2.out.1.trans hS,S2.out.2.1.step hS,S2.out.2.2.step hS⟩
   clear hA hS HBK
   go_wp2_with fail
   go_roundw
   case measure=>show N-((k:Int)+1).toNat<N-(k:Int).toNat;omega
   case rel=>exact ⟨k+1,co3,some ⟨q,0,none⟩,cc3,cap,by omega,by go_num,rfl,S3.out⟩
  ·have ek:k=N:=by omega
   subst ek
   have HA0:Hid (LAt L wr g b so ao sc ac cor ccr (c++Mt.zC3 x d (fun _=>⟨2,0,0,[]⟩) k 0 c.length) d∧kT g co cor w wr∧Bx wr g cor w.heap.size A∧zHx wr (w.heap.size+1) g cor sp zF4 (Mt.vL c.length (x.len+1) k)):=⟨hA,hSr,hBr,hPr⟩
   clear hA hSr hBr hPr HS HX
   have HCN:=zLJ x d c.length k (decide (A.rep.xR=2))
   rename World=>wz
   go_wp2_with fail
   go_loopw [28] (fun i wr=>∃ (j:Nat),j≤k∧i=.int .i64 j∧LAt L wr g b so ao sc ac cor ccr (c++zN1 x d c.length k (decide (A.rep.xR=2)) j) d∧kT g co cor w wr∧Bx wr g cor w.heap.size A∧zHx wr (w.heap.size+1) g cor sp zF4 (Mt.vL c.length (x.len+1) k)) (fun i _=>k-(intOf i).toNat)
   case atStart=>exact ⟨0,Nat.zero_le _,rfl,by rw [HCN];exact HA0.out.1,HA0.out.2⟩
   case round =>
    obtain ⟨j,hj,rfl,hA,hSr,hBr,hPr⟩:=hrel
    by_cases hlt2:j<k
    ·have hjk:(j:Int)<(k:Int):=by omega
     have hm:(j+1)*(x.len+1)≤k*(x.len+1):=Nat.mul_le_mul_right _ (by omega)
     have hm':(j+1)*(x.len+1)=j*(x.len+1)+(x.len+1):=by rw [Nat.add_mul,Nat.one_mul]
     have hNo:=HN.out
     have hl:(c++zN1 x d c.length k (decide (A.rep.xR=2)) j).length=c.length+k*(x.len+1):=by rw [List.length_append];unfold zN1;rw [Mt.zHn]
     obtain ⟨qs,hsp,hqs,hsc,hcell⟩:=hPr.cell j (by rw [Mt.zDd];exact hlt2)
     rw [Mt.zDd] at hsc
     subst hsp
     rw [List.getD_eq_getElem?_getD,Mt.zLH _ _ _ _ hlt2,Option.getD_some] at hcell
     have b15:=hBr.cell 15
     change _=some (Value.int .i64 A.rep.xR) at b15
     have H1:=zKz (c.length+j*(x.len+1)) A.rep.xR hA (by rw [hl];omega) (by rw [hl];omega)
     rw [hl,zNJ x d c k (decide (A.rep.xR=2)) j hlt2] at H1
     have H1':Hid (Calls Tryz.prog 172 #[.pointer (some ⟨g,0,none⟩),.int .i64 ((c.length+j*(x.len+1):Nat):Int),.int .i64 A.rep.xR] wr _):=H1
     have HSr:Hid (kT g co cor w wr∧Bx wr g cor w.heap.size A∧zHx wr (w.heap.size+1) g cor (some ⟨qs,0,none⟩) zF4 (Mt.vL c.length (x.len+1) k)):=⟨hSr,hBr,hPr⟩
     clear hA hSr hBr hPr H1 HA0
     generalize c.length+j*(x.len+1)=M at *
     go_wp2_with fail
     refine H1'.out.mono ?_
     rintro e w3 ⟨rfl,hA,hS⟩
     have S3:Hid (LAt L w3 g b so ao sc ac cor ccr (c++zN1 x d c.length k (decide (A.rep.xR=2)) (j+1)) d∧kT g co cor w w3∧Bx w3 g cor w.heap.size A∧zHx w3 (w.heap.size+1) g cor (some ⟨qs,0,none⟩) zF4 (Mt.vL c.length (x.len+1) k)):=⟨hA,HSr.out.1.trans hS,HSr.out.2.1.step hS,HSr.out.2.2.step hS⟩
     clear hA hS
     go_wp2_with fail
     go_roundw
     case measure=>show k-((j:Int)+1).toNat<k-(j:Int).toNat;omega
     case rel=>exact ⟨j+1,by omega,by go_num,S3.out⟩
    ·have ek:j=k:=by omega
     subst ek
     rw [zPr] at hA
     have HD:Hid (zD8 L g b so ao sc ac d co w (c++(Mt.zBD x (decide (A.rep.xR=2)) j).code c.length d) wr):=⟨_,_,hA,hSr⟩
     clear hA hSr hBr hPr
     go_wp2_with fail
     go_returns
     exact ⟨rfl,HD.out⟩
end
end Go.Proofs.YtebpgfodelggoaaGreat
namespace Mt
def zLK (x:Re) (q:Tok):Re:=if q.m=-1 then .cat (kH x q.n.toNat) (.loop (decide (q.how=1)) x) else .cat (kH x q.n.toNat) (zBD x (decide (q.how=1)) (q.m-q.n).toNat)
theorem zNK (x:Re) (q:Tok) (h:zGq q) (p d:Int):(zHt x q).code p d=(if q.how=2 then Re.sub 0 (zLK x q) else zLK x q).code p d∧(zHt x q).len=(if q.how=2 then Re.sub 0 (zLK x q) else zLK x q).len:=by
 obtain ⟨h1,h2,h3,h4,h5,h6,h7⟩:=h
 have key:∀ p d:Int,(let c1:=if 0<q.n∨0<q.m then (if q.n<q.m then Re.cat (kH x q.n.toNat) (zBD x (decide (q.how=1)) (q.m-q.n).toNat) else kH x q.n.toNat) else Re.eps
   if q.m<0 then Re.cat c1 (.loop (decide (q.how=1)) x) else c1).code p d=(zLK x q).code p d:=by
  intro p d
  dsimp only
  unfold zLK
  by_cases c:q.m=-1
  ·rw [if_pos (show q.m<0 by omega),if_pos c]
   by_cases a:0<q.n∨0<q.m
   ·rw [if_pos a,if_neg (by omega)]
   ·rw [if_neg a,show q.n.toNat=0 by omega];rfl
  ·rw [if_neg (show ¬ q.m<0 by omega),if_neg c]
   by_cases a:0<q.n∨0<q.m
   ·rw [if_pos a]
    by_cases e:q.n<q.m
    ·rw [if_pos e]
    ·rw [if_neg e,show (q.m-q.n).toNat=0 by omega];simp [zBD,Re.code]
   ·rw [if_neg a,show q.n.toNat=0 by omega,show (q.m-q.n).toNat=0 by omega];rfl
 have key2:=key p d
 unfold zHt
 dsimp only at key key2 ⊢
 generalize (if q.m<0 then (if 0<q.n∨0<q.m then (if q.n<q.m then Re.cat (kH x q.n.toNat) (zBD x (decide (q.how=1)) (q.m-q.n).toNat) else kH x q.n.toNat) else Re.eps).cat (Re.loop (decide (q.how=1)) x) else (if 0<q.n∨0<q.m then (if q.n<q.m then Re.cat (kH x q.n.toNat) (zBD x (decide (q.how=1)) (q.m-q.n).toNat) else kH x q.n.toNat) else Re.eps))=Z at *
 have kl:Z.len=(zLK x q).len:=by rw [← Re.zH Z 0 0,← Re.zH (zLK x q) 0 0,key]
 by_cases e:q.how=2
 ·rw [if_pos e,if_pos e]
  exact ⟨by simp only [Re.code];rw [key,kl],by simp only [Re.len];rw [kl]⟩
 ·rw [if_neg e,if_neg e]
  exact ⟨key2,kl⟩
end Mt
namespace Go.Proofs.YtebpgfodelggoaaGreat
open Go.RowKit
section
variable {L:Nat} {g:Nat} {b:Mt.PB} {so ao:Option Addr} {sc ac:Nat} {d:Int}
theorem Lays.congr {fn:Nat} {args:Array Value} {X Y:Mt.Re} (h:Lays L g b so ao sc ac d fn args X) (hl:X.len=Y.len) (hc:∀ p,X.code p d=Y.code p d):Lays L g b so ao sc ac d fn args Y:=by
 intro w co cc c hA hn
 have:=h w co cc c hA (by omega)
 rw [hc] at this
 exact this
theorem zF5 (A:Mt.PA) (x:Mt.Re) (q:Mt.Tok) (hq:q.kind=8) (hok:Mt.zGq q) (hr:A.rep=Mt.jT q) (hd0:0≤d) (hd:d≤1000) (hX:Lays L g b so ao sc ac d 161 #[.pointer (some ⟨g,0,none⟩),.agg (paC A).toArray] x) (hX1:Lays L g b so ao sc ac (d+1) 161 #[.pointer (some ⟨g,0,none⟩),.agg (paC A).toArray] x) :
  Lays L g b so ao sc ac d 162 #[.pointer (some ⟨g,0,none⟩),.agg (paC A).toArray] (Mt.zLK x q):=by
 intro w co cc c h hn
 obtain ⟨o1,o2,o3,o4,o5,o6,o7⟩:=hok
 have e13:A.rep.least=q.n:=by rw [hr];simp [Mt.jT,hq]
 have e14:A.rep.most=q.m:=by rw [hr];simp [Mt.jT,hq]
 have e15:decide (A.rep.xR=2)=decide (q.how=1):=by
  have:A.rep.xR=q.how+1:=by rw [hr];simp [Mt.jT,hq]
  rw [this];congr 1;apply propext;omega
 obtain ⟨N,hN⟩:=Int.eq_ofNat_of_zero_le o1
 have hNt:q.n.toNat=N:=by omega
 have HT:Hid (Lays L g b so ao sc ac d 168 #[.pointer (some ⟨g,0,none⟩),.agg (paC A).toArray,.int .i64 (N:Int)] (Mt.kH x N)):=zHm A x N (by omega) hX
 obtain ⟨hB,hW,hS⟩:=Bx.new h A
 have hlt:∀ z:Int,(c++(Mt.kH x N).code z d).length=c.length+(Mt.kH x N).len:=fun z=>by rw [List.length_append,Mt.Re.zH]
 have b13:=hB.cell 13
 change _=some (Value.int .i64 A.rep.least) at b13
 rw [e13,hN] at b13
 have HBK:=hB.bk
 have HS:Hid (kT g co co w (w.alloc (.cells (paC A).toArray 200))∧Bx (w.alloc (.cells (paC A).toArray 200)) g co w.heap.size A):=⟨hS,hB⟩
 by_cases hm:q.m=-1
 ·have HL:Hid (Lays L g b so ao sc ac d 169 #[.pointer (some ⟨g,0,none⟩),.agg (paC A).toArray] (.loop (decide (q.how=1)) x)):=by
   show Lays _ _ _ _ _ _ _ _ _ _ _;rw [← e15];exact zIA A x hd0 hd hX1
  have eR:Mt.zLK x q=.cat (Mt.kH x N) (.loop (decide (q.how=1)) x):=by unfold Mt.zLK;rw [if_pos hm,hNt]
  rw [eR] at hn ⊢
  have hn2:c.length+(Mt.kH x N).len+(Mt.Re.loop (decide (q.how=1)) x).len≤1000:=by simp only [Mt.Re.len] at hn ⊢;omega
  have H1:Hid (Calls Tryz.prog 168 #[.pointer (some ⟨g,0,none⟩),.agg (paC A).toArray,.int .i64 (N:Int)] (w.alloc (.cells (paC A).toArray 200)) _):=HT.out _ _ _ _ hW (by omega)
  have HM:Hid (A.rep.most=-1):=by show _=_;rw [e14,hm]
  have HE:Hid (c++(Mt.Re.cat (Mt.kH x N) (.loop (decide (q.how=1)) x)).code c.length d=c++(Mt.kH x N).code c.length d++(Mt.Re.loop (decide (q.how=1)) x).code ((c.length+(Mt.kH x N).len:Nat):Int) d):=by
   show _=_;rw [Mt.Re.code,List.append_assoc];push_cast;rfl
  rw [HE.out]
  clear hB hW hS h hX hX1 hn e13 e14 e15 eR HE hr hN hNt
  generalize hRL:Mt.Re.loop (decide (q.how=1)) x=RL at *
  generalize hRT:Mt.kH x N=RT at *
  clear hRL hRT
  go_enter Tryz.func162,Tryz.ntmps162
  go_upto_region 1 with fail
  generalize w.alloc (.cells (paC A).toArray 200)=W at *
  go_wp2_with (refine zZ 200 20 Tryz.underlying200 rfl Tryz.sizeAt (by rfl) (.tmp 3) (by rfl) w.heap.size (by rfl) HBK (by rfl) ?_)
  refine H1.out.mono ?_
  rintro e w1 ⟨rfl,co1,cc1,hA,hS⟩
  have H2':=HL.out _ _ _ _ hA (by rw [hlt];omega)
  rw [hlt] at H2'
  have H2:Hid (Calls Tryz.prog 169 #[.pointer (some ⟨g,0,none⟩),.agg (paC A).toArray] w1 _):=H2'
  have B1:=HS.out.2.step hS
  have b14:=B1.cell 14
  change _=some (Value.int .i64 A.rep.most) at b14
  rw [HM.out] at b14
  have zSG:=B1.bk
  have S1:Hid (kT g co co1 w w1):=HS.out.1.trans hS
  clear hA hS B1 H2' HBK HS
  go_wp2_with (refine zZ 200 20 Tryz.underlying200 rfl Tryz.sizeAt (by rfl) (.tmp 3) (by rfl) w.heap.size (by rfl) zSG (by rfl) ?_)
  refine H2.out.mono ?_
  rintro e w3 ⟨rfl,hD⟩
  have HD:Hid _:=xK S1.out hD
  clear hD
  go_wp2_with fail
  go_returns
  exact ⟨rfl,HD.out⟩
 ·obtain ⟨M,hM⟩:=Int.eq_ofNat_of_zero_le (show 0≤q.m by omega)
  have hMt:(q.m-q.n).toNat=M-N:=by omega
  have hNM:N≤M:=by omega
  have HL:Hid (Lays L g b so ao sc ac d 170 #[.pointer (some ⟨g,0,none⟩),.agg (paC A).toArray,.int .i64 ((M-N:Nat):Int)] (Mt.zBD x (decide (q.how=1)) (M-N))):=by
   show Lays _ _ _ _ _ _ _ _ _ _ _;rw [← e15];exact zEB A x (M-N) (by omega) hX
  have eR:Mt.zLK x q=.cat (Mt.kH x N) (Mt.zBD x (decide (q.how=1)) (M-N)):=by unfold Mt.zLK;rw [if_neg hm,hNt,hMt]
  rw [eR] at hn ⊢
  have hn2:c.length+(Mt.kH x N).len+(Mt.zBD x (decide (q.how=1)) (M-N)).len≤1000:=by simp only [Mt.Re.len] at hn ⊢;omega
  have H1:Hid (Calls Tryz.prog 168 #[.pointer (some ⟨g,0,none⟩),.agg (paC A).toArray,.int .i64 (N:Int)] (w.alloc (.cells (paC A).toArray 200)) _):=HT.out _ _ _ _ hW (by omega)
  have HM:Hid (A.rep.most=(M:Int)∧A.rep.least=(N:Int)):=⟨by rw [e14,hM],by rw [e13,hN]⟩
  have HE:Hid (c++(Mt.Re.cat (Mt.kH x N) (Mt.zBD x (decide (q.how=1)) (M-N))).code c.length d=c++(Mt.kH x N).code c.length d++(Mt.zBD x (decide (q.how=1)) (M-N)).code ((c.length+(Mt.kH x N).len:Nat):Int) d):=by
   show _=_;rw [Mt.Re.code,List.append_assoc];push_cast;rfl
  rw [HE.out]
  have zUl:M≤20:=by omega
  have bt:((M:Int)==-1)=false:=by simp
  have hsub:(M:Int)-(N:Int)=((M-N:Nat):Int):=by omega
  rw [← hsub] at HL
  clear hB hW hS h hX hX1 hn e13 e14 e15 eR HE hr hN hNt hMt hm hM
  generalize hRL:Mt.zBD x (decide (q.how=1)) (M-N)=RL at *
  generalize hRT:Mt.kH x N=RT at *
  clear hRL hRT hsub
  go_enter Tryz.func162,Tryz.ntmps162
  go_upto_region 1 with fail
  generalize w.alloc (.cells (paC A).toArray 200)=W at *
  go_wp2_with (refine zZ 200 20 Tryz.underlying200 rfl Tryz.sizeAt (by rfl) (.tmp 3) (by rfl) w.heap.size (by rfl) HBK (by rfl) ?_)
  refine H1.out.mono ?_
  rintro e w1 ⟨rfl,co1,cc1,hA,hS⟩
  have H2':=HL.out _ _ _ _ hA (by rw [hlt];omega)
  rw [hlt] at H2'
  have H2:Hid (Calls Tryz.prog 170 #[.pointer (some ⟨g,0,none⟩),.agg (paC A).toArray,.int .i64 ((M:Int)-(N:Int))] w1 _):=H2'
  have B1:=HS.out.2.step hS
  have b14:=B1.cell 14
  change _=some (Value.int .i64 A.rep.most) at b14
  rw [HM.out.1] at b14
  have d13:=B1.cell 13
  change _=some (Value.int .i64 A.rep.least) at d13
  rw [HM.out.2] at d13
  have zSG:=B1.bk
  have S1:Hid (kT g co co1 w w1):=HS.out.1.trans hS
  clear hA hS B1 H2' HBK HS
  go_wp2_with (refine zZ 200 20 Tryz.underlying200 rfl Tryz.sizeAt (by rfl) (.tmp 3) (by rfl) w.heap.size (by rfl) zSG (by rfl) ?_)
  refine H2.out.mono ?_
  rintro e w3 ⟨rfl,hD⟩
  have HD:Hid _:=xK S1.out hD
  clear hD
  go_wp2_with fail
  go_returns
  exact ⟨rfl,HD.out⟩
end
section
variable {L:Nat} {g:Nat} {b:Mt.PB} {so ao:Option Addr} {sc ac:Nat} {d:Int}
theorem zJP (A:Mt.PA) (x:Mt.Re) (hk:A.rep.kind=0) (hX:Lays L g b so ao sc ac d 161 #[.pointer (some ⟨g,0,none⟩),.agg (paC A).toArray] x) :
  Lays L g b so ao sc ac d 146 #[.pointer (some ⟨g,0,none⟩),.agg (paC A).toArray] x:=by
 intro w co cc c h hn
 obtain ⟨hB,hW,hS⟩:=Bx.new h A
 have HC:Hid (Calls Tryz.prog 161 #[.pointer (some ⟨g,0,none⟩),.agg (paC A).toArray] (w.alloc (.cells (paC A).toArray 200)) _):=hX _ _ _ _ hW hn
 have a9:=hB.cell 9
 change _=some (Value.int .i64 A.rep.kind) at a9
 rw [hk] at a9
 have HBK:=hB.bk
 have HS:Hid (kT g co co w (w.alloc (.cells (paC A).toArray 200))):=hS
 clear hB hW hS h hk hX
 go_enter Tryz.func146,Tryz.ntmps146
 go_upto_region 1 with fail
 generalize w.alloc (.cells (paC A).toArray 200)=W at *
 go_wp2_with (refine zZ 200 20 Tryz.underlying200 rfl Tryz.sizeAt (by rfl) (.tmp 3) (by rfl) w.heap.size (by rfl) HBK (by rfl) ?_)
 refine HC.out.mono ?_
 rintro e w3 ⟨rfl,hD⟩
 have HD:Hid _:=xK HS.out hD
 clear hD
 go_wp2_with fail
 go_returns
 exact ⟨rfl,HD.out⟩
theorem zJQ (A:Mt.PA) (X:Mt.Re) (hk:A.rep.kind=4) (hm:(A.rep.xR != 3)=true) (hX:Lays L g b so ao sc ac d 162 #[.pointer (some ⟨g,0,none⟩),.agg (paC A).toArray] X) :
  Lays L g b so ao sc ac d 146 #[.pointer (some ⟨g,0,none⟩),.agg (paC A).toArray] X:=by
 intro w co cc c h hn
 obtain ⟨hB,hW,hS⟩:=Bx.new h A
 have HC:Hid (Calls Tryz.prog 162 #[.pointer (some ⟨g,0,none⟩),.agg (paC A).toArray] (w.alloc (.cells (paC A).toArray 200)) _):=hX _ _ _ _ hW hn
 have a9:=hB.cell 9
 change _=some (Value.int .i64 A.rep.kind) at a9
 rw [hk] at a9
 have a15:=hB.cell 15
 change _=some (Value.int .i64 A.rep.xR) at a15
 have HBK:=hB.bk
 have HS:Hid (kT g co co w (w.alloc (.cells (paC A).toArray 200))):=hS
 clear hB hW hS h hk hX
 go_enter Tryz.func146,Tryz.ntmps146
 go_upto_region 1 with fail
 generalize w.alloc (.cells (paC A).toArray 200)=W at *
 go_wp2_with (refine zZ 200 20 Tryz.underlying200 rfl Tryz.sizeAt (by rfl) (.tmp 3) (by rfl) w.heap.size (by rfl) HBK (by rfl) ?_)
 refine HC.out.mono ?_
 rintro e w3 ⟨rfl,hD⟩
 have HD:Hid _:=xK HS.out hD
 clear hD
 go_wp2_with fail
 go_returns
 exact ⟨rfl,HD.out⟩
theorem zIE (A:Mt.PA) (X:Mt.Re) (hk:A.rep.kind=4) (hm:A.rep.xR=3) (hX:Lays L g b so ao sc ac d 162 #[.pointer (some ⟨g,0,none⟩),.agg (paC A).toArray] X) :
  Lays L g b so ao sc ac d 146 #[.pointer (some ⟨g,0,none⟩),.agg (paC A).toArray] (.sub 0 X):=by
 intro w co cc c h hn
 have hn':c.length+X.len+2≤1000:=by simp only [Mt.Re.len] at hn;omega
 obtain ⟨hB,hW,hS⟩:=Bx.new h A
 have HP:Hid (Calls Tryz.prog 93 #[.pointer (some ⟨g,0,none⟩),.agg (qG ⟨11,0,0,[]⟩)] (w.alloc (.cells (paC A).toArray 200)) _):=xI (x:=⟨11,0,0,[]⟩) hW (by omega)
 have HX:Hid (Lays L g b so ao sc ac d 162 #[.pointer (some ⟨g,0,none⟩),.agg (paC A).toArray] X):=hX
 have HE:Hid (c++(Mt.Re.sub 0 X).code c.length d=(c++[(⟨11,0,0,[]⟩:Mt.Ins)]++X.code ((c.length+1:Nat):Int) d).set c.length ⟨11,0,(c.length+1+X.len:Nat)+1,[]⟩++[⟨12,0,0,[]⟩]):=by
  show _=_;rw [set_mid];simp [Mt.Re.code];omega
 rw [HE.out]
 have hl:(c++[(⟨11,0,0,[]⟩:Mt.Ins)]).length=c.length+1:=by simp
 have hl2:∀ z:Int,(c++[(⟨11,0,0,[]⟩:Mt.Ins)]++X.code z d).length=c.length+1+X.len:=fun z=>by rw [List.length_append,hl,Mt.Re.zH]
 have a9:=hB.cell 9
 change _=some (Value.int .i64 A.rep.kind) at a9
 rw [hk] at a9
 have a15:=hB.cell 15
 change _=some (Value.int .i64 A.rep.xR) at a15
 rw [hm] at a15
 have HS0:Hid (kT g co co w (w.alloc (.cells (paC A).toArray 200))∧Bx (w.alloc (.cells (paC A).toArray 200)) g co w.heap.size A):=⟨hS,hB⟩
 clear hB hW hS h hk hX hm hn
 unfold qG at HP
 go_enter Tryz.func146,Tryz.ntmps146
 go_upto_region 1 with fail
 generalize w.alloc (.cells (paC A).toArray 200)=W at *
 go_wp2_with fail
 refine HP.out.mono ?_
 rintro e w1 ⟨rfl,q1,zQV,hA,hS⟩
 have H1:Hid (Calls Tryz.prog 162 #[.pointer (some ⟨g,0,none⟩),.agg (paC A).toArray] w1 _):=HX.out w1 _ _ _ hA (by rw [hl];omega)
 have HS:Hid (kT g co (some ⟨q1,0,none⟩) w w1):=HS0.out.1.trans hS
 have HBK:=(HS0.out.2.step hS).bk
 clear hA hS HS0
 go_wp2_with (refine zZ 200 20 Tryz.underlying200 rfl Tryz.sizeAt (by rfl) (.tmp 3) (by rfl) w.heap.size (by rfl) HBK (by rfl) ?_)
 refine H1.out.mono ?_
 rintro e w2 ⟨rfl,co2,cc2,hA,hS⟩
 rw [hl] at hA
 have H2:=zFJ c.length hA (by rw [hl2];omega) (by rw [hl2];omega)
 rw [zJL,hl2] at H2
 have H2':Hid (Calls Tryz.prog 163 #[.pointer (some ⟨g,0,none⟩),.int .i64 ((c.length:Nat):Int)] w2 _):=H2
 have HS2:Hid (kT g co co2 w w2):=HS.out.trans hS
 clear hA hS H2 HBK
 go_wp2_with fail
 refine H2'.out.mono ?_
 rintro e w3 ⟨rfl,hD⟩
 have HD:Hid _:=xK HS2.out hD
 clear hD
 go_wp2_with fail
 go_returns
 exact ⟨rfl,HD.out⟩
theorem zEq (A:Mt.PA) (x:Mt.Re) (r:Option Mt.Tok) (hr:A.rep=Mt.rp r) (hk:Mt.zK5 r) (hok:Mt.zDA r) (hd0:0≤d) (hd:d≤1000) (hX:Lays L g b so ao sc ac d 161 #[.pointer (some ⟨g,0,none⟩),.agg (paC A).toArray] x) (hX1:Lays L g b so ao sc ac (d+1) 161 #[.pointer (some ⟨g,0,none⟩),.agg (paC A).toArray] x) :
  Lays L g b so ao sc ac d 146 #[.pointer (some ⟨g,0,none⟩),.agg (paC A).toArray] (Mt.part r x):=by
 cases r with
 | none=>exact zJP A x (by rw [hr];rfl) hX
 | some q =>
  have hq:=hk q rfl
  have ho:=hok q rfl
  have hr':A.rep=Mt.jT q:=hr
  have hR:=zF5 A x q hq ho hr' hd0 hd hX hX1
  have k4:A.rep.kind=4:=by rw [hr',Mt.kS,hq];rfl
  have km:A.rep.xR=q.how+1:=by rw [hr'];simp [Mt.jT,hq]
  show Lays L g b so ao sc ac d _ _ (Mt.zHt x q)
  have hc:=fun p=>Mt.zNK x q ho p d
  by_cases e:q.how=2
  ·simp only [if_pos e] at hc
   exact (zIE A _ k4 (by rw [km,e];rfl) hR).congr (hc 0).2.symm (fun p=>(hc p).1.symm)
  ·simp only [if_neg e] at hc
   exact (zJQ A _ k4 (by rw [km];simp;omega) hR).congr (hc 0).2.symm (fun p=>(hc p).1.symm)
end
end Go.Proofs.YtebpgfodelggoaaGreat
