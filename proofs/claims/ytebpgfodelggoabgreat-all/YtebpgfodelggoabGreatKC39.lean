import Derived.Test.YtebpgfodelggoabGreatKC37
import Derived.Test.YtebpgfodelggoabGreatKC38
import Derived.Deep.AppendLies
set_option linter.unusedVariables false
set_option linter.unusedSimpArgs false
set_option maxRecDepth 100000
set_option maxHeartbeats 4000000
namespace Go.Proofs.YtebpgfodelggoabGreat
open Go.RowKit
structure zGb (W:World) (base g:Nat) (co:Option Addr) (sp:Option Addr) (zEv:Nat) (l:List Nat):Prop where
 row:W.ownsRow base 3 1 (.slice sp l.length zEv) l.length (opL l)
 ap:∀q,blk sp=some q->q≠g/\blk co≠some q
section
variable {W W':World} {base g:Nat} {co co' sp:Option Addr} {zEv:Nat} {l:List Nat}
theorem zGb.lt(h:zGb W base g co sp zEv l)(q:Nat)(hq:blk sp=some q):base<=q/\q<W.heap.size:=World.ownsRow.lt h.row q (by rw[kU];exact hq)
theorem zGb.step(h:zGb W base g co sp zEv l)(s:jQ g co co' W W'):zGb W' base g co' sp zEv l :=
 ⟨zT h.row (λq hq=>s.block q (h.lt q hq).2 (h.ap q hq).1 (h.ap q hq).2),λq hq=>⟨(h.ap q hq).1,λe=>(h.ap q hq).2 (s.sub q (h.lt q hq).2 e)⟩⟩
end
theorem LAt.grown{L:Nat}{w w1:World}{g:Nat}{b:Mt.PB}{so ao:Option Addr}{sc ac:Nat}{co:Option Addr}{cc:Nat}{c:List Mt.zTG}{d:Int}{r:Option Nat}(h:LAt L w g b so ao sc ac co cc c d)(hg:w.grownBy w1 r)(hr:∀q,r=some q->q≠g/\blk co≠some q/\blk so≠some q/\blk ao≠some q):LAt L w1 g b so ao sc ac co cc c d:=by
 obtain⟨l1,l2,l3,l4⟩:=h.lt;exact⟨by rw[hg.block g l1 (λe=>(hr g e.symm).1 rfl)];exact h.cell,h.lo,⟨zT h.tree.kN (λq hq=>hg.block q (l3 q hq) (λe=>(hr q e.symm).2.2.1 hq)),zT h.tree.zG (λq hq=>hg.block q (l4 q hq) (λe=>(hr q e.symm).2.2.2 hq))⟩,zT h.code (λq hq=>hg.block q (l2 q hq).2 (λe=>(hr q e.symm).2.1 hq)),h.ap⟩
theorem jQ.grown{w w1 w2:World}{g:Nat}{co co1:Option Addr}{r:Option Nat}(h:jQ g co co1 w w1)(hg:w1.grownBy w2 r)(hr:∀q,r=some q->w.heap.size<=q):jQ g co co1 w w2 :=
 ⟨hg.os.trans h.os,hg.tape.trans h.tape,hg.output.trans h.output,Nat.le_trans h.size hg.size,λk hk h1 h2=>(hg.block k (Nat.lt_of_lt_of_le hk h.size) (λe=>by have:=hr k e.symm;omega)).trans (h.block k hk h1 h2),h.sub⟩
theorem zKz{L:Nat}{w w1 w2:World}{g:Nat}{b:Mt.PB}{so ao:Option Addr}{sc ac:Nat}{co co1 sp:Option Addr}{cc1 zEv:Nat}{c1:List Mt.zTG}{d:Int}{l:List Nat}{n q cap:Nat}{A:Mt.PA}
  (hA:LAt L w1 g b so ao sc ac co1 cc1 c1 d) (hS:jQ g co co1 w w1) (hB:Bx w1 g co1 w.heap.size A) (hP:zGb w1 (w.heap.size+1) g co1 sp zEv l) (ho:∀q,blk so=some q\/blk ao=some q->q<w.heap.size) {E:Array Value} {te:TypeId}
  (hg:(w1.alloc (.cells E te)).grownBy w2 (blk sp)) (hq:blk sp=some q\/q=w1.heap.size+1) (jS:w2.ownsRow (w.heap.size+1) 3 1 (.slice (some ⟨q,0,none⟩) (l.length+1) cap) (l.length+1) (opL l++[.int .i64 (n:Int)])) :
  LAt L w2 g b so ao sc ac co1 cc1 c1 d/\jQ g co co1 w w2/\Bx w2 g co1 w.heap.size A/\zGb w2 (w.heap.size+1) g co1 (some ⟨q,0,none⟩) cap (l++[n]):=by
 have h1:=hA.below ((Below.refl w1.heap.size w1).alloc (lG _) (.cells E te));have zTH:Below w1.heap.size w1 (w1.alloc (.cells E te)):=(Below.refl w1.heap.size w1).alloc (lG _) (.cells E te);have hB1:=hB.step (jQ.below zTH (co:=co1));have hw:=hB.lt;have hgl:=hA.lt;refine⟨h1.grown hg (λq hq=>?_),((hS.trans (jQ.below zTH)).grown hg (λq hq=>by have:=(hP.lt q hq).1;omega)),⟨?_,hB.ng,hB.nc⟩,⟨?_,λk hk=>?_⟩⟩
 ·have:=hP.lt q hq;exact⟨(hP.ap q hq).1,(hP.ap q hq).2,λe=>by have:=ho q (Or.inl e);omega,λe=>by have:=ho q (Or.inr e);omega⟩
 ·rw[hg.block _ hB1.lt (λe=>by have:=(hP.lt _ e.symm).1;omega)];exact hB1.bk
 ·have e1:(l++[n]).length=l.length+1:=by simp
  have e2:opL (l++[n])=opL l++[.int .i64 (n:Int)]:=by simp[opL]
  rw[e1,e2];exact jS
 ·simp[blk]at hk;subst hk;rcases hq with hq | hq
  ·exact hP.ap _ hq
  ·subst hq;exact⟨λe=>by have:=hgl.1;omega,λe=>by have:=(hgl.2.1 _ e).2;omega⟩
theorem zGb.cell{W:World}{base g:Nat}{co sp:Option Addr}{zEv:Nat}{l:List Nat}(h:zGb W base g co sp zEv l)(j:Nat)(hj:j<l.length):∃q,sp=some ⟨q,0,none⟩/\q<W.heap.size/\l.length<=zEv/\W.cell? ⟨q,j,none⟩=some (.int .i64 ((l.getD j 0:Nat):Int)):=by
 obtain⟨gs,cap,hv,_,zTI⟩:=World.ownsRow.form h.row (by omega);simp only[Value.slice.injEq]at hv;obtain⟨rfl,_,rfl⟩:=hv;rcases h.row.2 with ⟨e,_⟩ | ⟨g',cap',cur,hv,_,_,hc,_⟩
 ·simp at e
 ·simp only[Value.slice.injEq]at hv;refine⟨gs,rfl,zTI,by omega,?_⟩;rw[World.ownsRow.cellAt h.row j (by omega)];simp[opL,lH,lK hj]
def zM1(x:Mt.Re)(d:Int)(p k:Nat)(late:Bool)(j:Nat):List Mt.zTG :=
 Mt.zBg x d (λm=>if m<j then Mt.spl (((p+m*(x.len+1):Nat):Int)+1) ((p+k*(x.len+1):Nat):Int) late else⟨2,0,0,[]⟩) k 0 p
theorem zKA(x:Mt.Re)(d:Int)(p k:Nat)(late:Bool):zM1 x d p k late 0=Mt.zBg x d (λ_=>⟨2,0,0,[]⟩) k 0 p :=
 Mt.zA3 _ _ _ _ _ _ _ (λm h1 h2=>by rw[if_neg (by omega)])
theorem zMD(x:Mt.Re)(d:Int)(c:List Mt.zTG)(k:Nat)(late:Bool)(j:Nat)(hj:j<k):(c++zM1 x d c.length k late j).set (c.length+j*(x.len+1)) (Mt.spl (((c.length+j*(x.len+1):Nat):Int)+1) ((c.length+k*(x.len+1):Nat):Int) late)=c++zM1 x d c.length k late (j+1):=by
 rw[List.set_append_right _ _ (by omega),Nat.add_sub_cancel_left];unfold zM1;rw[Mt.zJo x d _ _ k j 0 _ hj];congr 1;refine Mt.zA3 _ _ _ _ _ _ _ (λm h1 h2=>?_);rw[Nat.zero_add];by_cases e:m=j
 ·subst e;rw[if_pos rfl,if_pos (by omega)]
 ·rw[if_neg e];by_cases e2:m<j
  ·rw[if_pos e2,if_pos (by omega)]
  ·rw[if_neg e2,if_neg (by omega)]
theorem zOt(x:Mt.Re)(d:Int)(p k:Nat)(late:Bool):zM1 x d p k late k=(Mt.wG x late k).code p d:=by
 unfold zM1;refine Mt.zHk _ _ _ _ _ _ _ (λm hm=>?_);rw[Nat.zero_add,if_pos hm]
 push_cast
 rfl
section
variable {L:Nat} {g:Nat} {b:Mt.PB} {so ao:Option Addr} {sc ac:Nat} {d:Int}
theorem zCX(A:Mt.PA)(x:Mt.Re)(N:Nat)(hN:N<=1000)(hX:Lays L g b so ao sc ac d 147 #[.pointer (some ⟨g,0,none⟩),.agg (zTR A).toArray] x) :
  Lays L g b so ao sc ac d 155 #[.pointer (some ⟨g,0,none⟩),.agg (zTR A).toArray,.int .i64 (N:Int)] (Mt.wG x (decide (A.rep.fF=2)) N):=by
 intro w co cc c h hn;obtain⟨i0,hi,hz0,hz1,hz2⟩:=info_parts Tryz.infoInt;rw[Mt.zAU]at hn;obtain⟨hB,hW,hS⟩:=Bx.new h A;have HX:Hid (Lays L g b so ao sc ac d 147 #[.pointer (some ⟨g,0,none⟩),.agg (zTR A).toArray] x):=hX;have HS:Hid (jQ g co co w (w.alloc (.cells (zTR A).toArray 180))/\Bx (w.alloc (.cells (zTR A).toArray 180)) g co w.heap.size A/\LAt L (w.alloc (.cells (zTR A).toArray 180)) g b so ao sc ac co cc c d):=⟨hS,hB,hW⟩
 have HN:Hid (c.length+N*(x.len+1)<=1000):=hn;have HO:Hid (∀q,blk so=some q\/blk ao=some q->q<w.heap.size):=λq hq=>hq.elim (h.lt.2.2.1 q) (h.lt.2.2.2 q)
 clear hB hW hS h hX hn;go_enter Tryz.func155,Tryz.ntmps155
 go_upto_region 1 with fail
 generalize w.alloc (.cells (zTR A).toArray 180)=W at *;go_wp2_with fail
 go_loopw [6,7] (λu i wr=>∃(k:Nat) (cor sp:Option Addr) (ccr zEv:Nat),k<=N/\i=.int .i64 k/\u=.slice sp k zEv/\LAt L wr g b so ao sc ac cor ccr (c++Mt.zBg x d (λ_=>⟨2,0,0,[]⟩) k 0 c.length) d/\jQ g co cor w wr/\Bx wr g cor w.heap.size A/\zGb wr (w.heap.size+1) g cor sp zEv (Mt.pO c.length (x.len+1) k)) (λ_ i _=>N-(intOf i).toNat)
 case atStart=>exact⟨0,co,none,cc,0,Nat.zero_le _,rfl,rfl,by simpa[Mt.zBg]using HS.out.2.2,HS.out.1,HS.out.2.1,World.ownsRow_nil _ _ _ _,λq hq=>by simp[blk]at hq⟩
 case round =>
  obtain⟨k,cor,sp,ccr,zEv,hk,rfl,rfl,hA,hSr,hBr,hPr⟩:=hrel;by_cases zTI:k<N
  ·have hkN:(k:Int)<(N:Int):=by omega
   have hm:(k+1)*(x.len+1)<=N*(x.len+1):=Nat.mul_le_mul_right _ (by omega);have hm':(k+1)*(x.len+1)=k*(x.len+1)+(x.len+1):=by rw[Nat.add_mul,Nat.one_mul]
   have hl:(c++Mt.zBg x d (λ_=>⟨2,0,0,[]⟩) k 0 c.length).length=c.length+k*(x.len+1):=by rw[lM,Mt.zFY]
   have hNo:=HN.out;have hM1:c.length+k*(x.len+1)+x.len+1<=1000:=by omega
   have H1:=dY (x:=⟨2,0,0,[]⟩) hA (by rw[hl];omega);rw[hl]at H1;have H1':Hid (Calls Tryz.prog 71 #[.pointer (some ⟨g,0,none⟩),.agg (yR ⟨2,0,0,[]⟩)] wr _):=H1;have HSr:Hid (jQ g co cor w wr/\Bx wr g cor w.heap.size A/\zGb wr (w.heap.size+1) g cor sp zEv (Mt.pO c.length (x.len+1) k)):=⟨hSr,hBr,hPr⟩
   have HSN:Hid (c++Mt.zBg x d (λ_=>⟨2,0,0,[]⟩) k 0 c.length++[⟨2,0,0,[]⟩]++x.code ((c.length+k*(x.len+1)+1:Nat):Int) d=c++Mt.zBg x d (λ_=>⟨2,0,0,[]⟩) (k+1) 0 c.length):=by
    show _=_;rw[Mt.zHj,List.append_assoc,List.append_assoc];simp
   have hl2:(c++Mt.zBg x d (λ_=>⟨2,0,0,[]⟩) k 0 c.length++[(⟨2,0,0,[]⟩:Mt.zTG)]).length=c.length+k*(x.len+1)+1:=by rw[lM,hl];rfl
   have HSL:Hid (Mt.pO c.length (x.len+1) (k+1)=Mt.pO c.length (x.len+1) k++[c.length+k*(x.len+1)]):=Mt.zHl _ _ _;have hsl:=Mt.zBu c.length (x.len+1) k;clear hA hSr hBr hPr hl H1;generalize c.length+k*(x.len+1)=M at *;unfold yR at H1';go_wp2_with fail
   refine H1'.out.mono ?_;rintro e w1 ⟨rfl,q1,zPT,hA,hS⟩;have S1:Hid (LAt L w1 g b so ao sc ac (some ⟨q1,0,none⟩) zPT (c++Mt.zBg x d (λ_=>⟨2,0,0,[]⟩) k 0 c.length++[⟨2,0,0,[]⟩]) d/\jQ g co (some ⟨q1,0,none⟩) w w1/\Bx w1 g (some ⟨q1,0,none⟩) w.heap.size A/\zGb w1 (w.heap.size+1) g (some ⟨q1,0,none⟩) sp zEv (Mt.pO c.length (x.len+1) k)):=⟨hA,HSr.out.1.trans hS,HSr.out.2.1.step hS,HSr.out.2.2.step hS⟩
   have HR:Hid (w1.ownsRow (w.heap.size+1) 3 1 (.slice sp k zEv) k (opL (Mt.pO c.length (x.len+1) k))):=by
    have:=S1.out.2.2.2.row;rw[hsl]at this;exact this
   have hsz1:w.heap.size<w1.heap.size:=S1.out.2.2.1.lt;clear hA hS;go_wp2_with (at_builtin;refine wpList_append_lies _ rfl _ _ 51 rfl (w.heap.size+1) 3 i0 _ 1 8 Tryz.underlying51 hi hz0 hz1 hz2 rfl (by decide) _ k _ rfl (World.ownsRow.alloc HR.out _) ⟨w1.heap.size,0,none⟩ 1 1 [.int .i64 (M:Int)] rfl rfl (xU _ _ _) (by simp[Value.oneCell']) (by decide) (by unfold maxLen;omega) (by omega) (by simp;omega) (w1.heap.size+1) (by simp) ?_)
   intro q cap w2 jS jL hq zKh;rw[kU]at jL hq;have hMM:=zKz S1.out.1 S1.out.2.1 S1.out.2.2.1 S1.out.2.2.2 HO.out (n:=M) jL hq (by rw[hsl];exact jS);rw[<-HSL.out]at hMM;have H3:Hid (Calls Tryz.prog 147 #[.pointer (some ⟨g,0,none⟩),.agg (zTR A).toArray] w2 _):=HX.out _ _ _ _ hMM.1 (by rw[hl2];omega);have HBK:=hMM.2.2.1.bk;have S2:Hid (jQ g co (some ⟨q1,0,none⟩) w w2/\Bx w2 g (some ⟨q1,0,none⟩) w.heap.size A/\zGb w2 (w.heap.size+1) g (some ⟨q1,0,none⟩) (some ⟨q,0,none⟩) cap (Mt.pO c.length (x.len+1) (k+1))):=hMM.2;clear jS jL hq zKh hMM HR S1;go_wp2_with (refine kQ 180 20 Tryz.underlying180 rfl Tryz.sizeAt (by rfl) (.tmp 4) (by rfl) w.heap.size (by rfl) HBK (by rfl) ?_)
   refine H3.out.mono ?_;rintro e w3 ⟨rfl,co3,cc3,hA,hS⟩;rw[hl2,HSN.out]at hA;have S3:Hid (LAt L w3 g b so ao sc ac co3 cc3 (c++Mt.zBg x d (λ_=>⟨2,0,0,[]⟩) (k+1) 0 c.length) d/\jQ g co co3 w w3/\Bx w3 g co3 w.heap.size A/\zGb w3 (w.heap.size+1) g co3 (some ⟨q,0,none⟩) cap (Mt.pO c.length (x.len+1) (k+1))):=⟨hA,S2.out.1.trans hS,S2.out.2.1.step hS,S2.out.2.2.step hS⟩
   clear hA hS HBK;go_wp2_with fail
   go_roundw
   case measure=>show N-((k:Int)+1).toNat<N-(k:Int).toNat;omega
   case rel=>exact⟨k+1,co3,some ⟨q,0,none⟩,cc3,cap,by omega,by go_num,rfl,S3.out⟩
  ·have ek:k=N:=by omega
   subst ek;have HA0:Hid (LAt L wr g b so ao sc ac cor ccr (c++Mt.zBg x d (λ_=>⟨2,0,0,[]⟩) k 0 c.length) d/\jQ g co cor w wr/\Bx wr g cor w.heap.size A/\zGb wr (w.heap.size+1) g cor sp zEv (Mt.pO c.length (x.len+1) k)):=⟨hA,hSr,hBr,hPr⟩
   clear hA hSr hBr hPr HS HX;have HCN:=zKA x d c.length k (decide (A.rep.fF=2))
   rename World=>wz
   go_wp2_with fail
   go_loopw [28] (λi wr=>∃(j:Nat),j<=k/\i=.int .i64 j/\LAt L wr g b so ao sc ac cor ccr (c++zM1 x d c.length k (decide (A.rep.fF=2)) j) d/\jQ g co cor w wr/\Bx wr g cor w.heap.size A/\zGb wr (w.heap.size+1) g cor sp zEv (Mt.pO c.length (x.len+1) k)) (λi _=>k-(intOf i).toNat)
   case atStart=>exact⟨0,Nat.zero_le _,rfl,by rw[HCN];exact HA0.out.1,HA0.out.2⟩
   case round =>
    obtain⟨j,hj,rfl,hA,hSr,hBr,hPr⟩:=hrel;by_cases hlt2:j<k
    ·have hjk:(j:Int)<(k:Int):=by omega
     have hm:(j+1)*(x.len+1)<=k*(x.len+1):=Nat.mul_le_mul_right _ (by omega);have hm':(j+1)*(x.len+1)=j*(x.len+1)+(x.len+1):=by rw[Nat.add_mul,Nat.one_mul]
     have hNo:=HN.out;have hl:(c++zM1 x d c.length k (decide (A.rep.fF=2)) j).length=c.length+k*(x.len+1):=by rw[lM];unfold zM1;rw[Mt.zFY]
     obtain⟨qs,hsp,hqs,hsc,hcell⟩:=hPr.cell j (by rw[Mt.zBu];exact hlt2);rw[Mt.zBu]at hsc;subst hsp;rw[lH,Mt.zKy _ _ _ _ hlt2,Option.getD_some]at hcell;have b15:=hBr.cell 15;change _=some (Value.int .i64 A.rep.fF)at b15;have H1:=zJn (c.length+j*(x.len+1)) A.rep.fF hA (by rw[hl];omega) (by rw[hl];omega);rw[hl,zMD x d c k (decide (A.rep.fF=2)) j hlt2]at H1;have H1':Hid (Calls Tryz.prog 157 #[.pointer (some ⟨g,0,none⟩),.int .i64 ((c.length+j*(x.len+1):Nat):Int),.int .i64 A.rep.fF] wr _):=H1;have HSr:Hid (jQ g co cor w wr/\Bx wr g cor w.heap.size A/\zGb wr (w.heap.size+1) g cor (some ⟨qs,0,none⟩) zEv (Mt.pO c.length (x.len+1) k)):=⟨hSr,hBr,hPr⟩
     clear hA hSr hBr hPr H1 HA0;generalize c.length+j*(x.len+1)=M at *;go_wp2_with fail
     refine H1'.out.mono ?_;rintro e w3 ⟨rfl,hA,hS⟩;have S3:Hid (LAt L w3 g b so ao sc ac cor ccr (c++zM1 x d c.length k (decide (A.rep.fF=2)) (j+1)) d/\jQ g co cor w w3/\Bx w3 g cor w.heap.size A/\zGb w3 (w.heap.size+1) g cor (some ⟨qs,0,none⟩) zEv (Mt.pO c.length (x.len+1) k)):=⟨hA,HSr.out.1.trans hS,HSr.out.2.1.step hS,HSr.out.2.2.step hS⟩
     clear hA hS;go_wp2_with fail
     go_roundw
     case measure=>show k-((j:Int)+1).toNat<k-(j:Int).toNat;omega
     case rel=>exact⟨j+1,by omega,by go_num,S3.out⟩
    ·have ek:j=k:=by omega
     subst ek;rw[zOt]at hA;have HD:Hid (zCq L g b so ao sc ac d co w (c++(Mt.wG x (decide (A.rep.fF=2)) j).code c.length d) wr):=⟨_,_,hA,hSr⟩
     clear hA hSr hBr hPr;go_wp2_with fail
     go_returns;exact⟨rfl,HD.out⟩
end
end Go.Proofs.YtebpgfodelggoabGreat
namespace Mt
def zKB(x:Re)(q:zTD):Re:=if q.m=-1 then .cat (jE x q.n.toNat) (.loop (decide (q.zTF=1)) x)else .cat (jE x q.n.toNat) (wG x (decide (q.zTF=1)) (q.m-q.n).toNat)
theorem zME(x:Re)(q:zTD)(h:zER q)(p d:Int):(zF7 x q).code p d=(if q.zTF=2 then Re.sub 0 (zKB x q)else zKB x q).code p d/\(zF7 x q).len=(if q.zTF=2 then Re.sub 0 (zKB x q)else zKB x q).len:=by
 obtain⟨h1,h2,h3,h4,h5,h6,h7⟩:=h
 have key:∀p d:Int,(let c1:=if 0<q.n\/0<q.m then(if q.n<q.m then Re.cat (jE x q.n.toNat) (wG x (decide (q.zTF=1)) (q.m-q.n).toNat)else jE x q.n.toNat)else Re.eps
   if q.m<0 then Re.cat c1 (.loop (decide (q.zTF=1)) x)else c1).code p d=(zKB x q).code p d:=by
  intro p d;dsimp only;unfold zKB;by_cases c:q.m=-1
  ·rw[if_pos (show q.m<0 by omega),if_pos c];by_cases a:0<q.n\/0<q.m
   ·rw[if_pos a,if_neg (by omega)]
   ·rw[if_neg a,show q.n.toNat=0 by omega];rfl
  ·rw[if_neg (show ¬q.m<0 by omega),if_neg c];by_cases a:0<q.n\/0<q.m
   ·rw[if_pos a];by_cases e:q.n<q.m
    ·rw[if_pos e]
    ·rw[if_neg e,show(q.m-q.n).toNat=0 by omega];simp[wG,Re.code]
   ·rw[if_neg a,show q.n.toNat=0 by omega,show(q.m-q.n).toNat=0 by omega];rfl
 have key2:=key p d;unfold zF7;dsimp only at key key2 |-;generalize (if q.m<0 then(if 0<q.n\/0<q.m then(if q.n<q.m then Re.cat (jE x q.n.toNat) (wG x (decide (q.zTF=1)) (q.m-q.n).toNat)else jE x q.n.toNat)else Re.eps).cat (Re.loop (decide (q.zTF=1)) x)else(if 0<q.n\/0<q.m then(if q.n<q.m then Re.cat (jE x q.n.toNat) (wG x (decide (q.zTF=1)) (q.m-q.n).toNat)else jE x q.n.toNat)else Re.eps))=Z at *;have kl:Z.len=(zKB x q).len:=by rw[<-Re.zQ Z 0 0,<-Re.zQ (zKB x q) 0 0,key]
 by_cases e:q.zTF=2
 ·rw[if_pos e,if_pos e];exact⟨by simp only[Re.code];rw[key,kl],by simp only[Re.len];rw[kl]⟩
 ·rw[if_neg e,if_neg e];exact⟨key2,kl⟩
end Mt
namespace Go.Proofs.YtebpgfodelggoabGreat
open Go.RowKit
section
variable {L:Nat} {g:Nat} {b:Mt.PB} {so ao:Option Addr} {sc ac:Nat} {d:Int}
theorem Lays.congr{fn:Nat}{args:Array Value}{X Y:Mt.Re}(h:Lays L g b so ao sc ac d fn args X)(hl:X.len=Y.len)(hc:∀p,X.code p d=Y.code p d):Lays L g b so ao sc ac d fn args Y:=by
 intro w co cc c hA hn;have:=h w co cc c hA (by omega);rw[hc]at this;exact this
theorem zEw(A:Mt.PA)(x:Mt.Re)(q:Mt.zTD)(hq:q.kind=8)(hok:Mt.zER q)(hr:A.rep=Mt.yC q)(hd0:0<=d)(hd:d<=1000)(hX:Lays L g b so ao sc ac d 147 #[.pointer (some ⟨g,0,none⟩),.agg (zTR A).toArray] x)(hX1:Lays L g b so ao sc ac (d+1) 147 #[.pointer (some ⟨g,0,none⟩),.agg (zTR A).toArray] x) :
  Lays L g b so ao sc ac d 148 #[.pointer (some ⟨g,0,none⟩),.agg (zTR A).toArray] (Mt.zKB x q):=by
 intro w co cc c h hn;obtain⟨o1,o2,o3,o4,o5,o6,o7⟩:=hok;have e13:A.rep.least=q.n:=by rw[hr];simp[Mt.yC,hq]
 have e14:A.rep.most=q.m:=by rw[hr];simp[Mt.yC,hq]
 have e15:decide (A.rep.fF=2)=decide (q.zTF=1):=by
  have:A.rep.fF=q.zTF+1:=by rw[hr];simp[Mt.yC,hq]
  rw[this];congr 1;apply propext;omega
 obtain⟨N,hN⟩:=Int.eq_ofNat_of_zero_le o1;have hNt:q.n.toNat=N:=by omega
 have HT:Hid (Lays L g b so ao sc ac d 153 #[.pointer (some ⟨g,0,none⟩),.agg (zTR A).toArray,.int .i64 (N:Int)] (Mt.jE x N)):=zFX A x N (by omega) hX;obtain⟨hB,hW,hS⟩:=Bx.new h A;have zTI:∀z:Int,(c++(Mt.jE x N).code z d).length=c.length+(Mt.jE x N).len:=λz=>by rw[lM,Mt.Re.zQ]
 have b13:=hB.cell 13;change _=some (Value.int .i64 A.rep.least)at b13;rw[e13,hN]at b13;have HBK:=hB.bk;have HS:Hid (jQ g co co w (w.alloc (.cells (zTR A).toArray 180))/\Bx (w.alloc (.cells (zTR A).toArray 180)) g co w.heap.size A):=⟨hS,hB⟩
 by_cases hm:q.m=-1
 ·have HL:Hid (Lays L g b so ao sc ac d 154 #[.pointer (some ⟨g,0,none⟩),.agg (zTR A).toArray] (.loop (decide (q.zTF=1)) x)):=by
   show Lays _ _ _ _ _ _ _ _ _ _ _;rw[<-e15];exact zHi A x hd0 hd hX1
  have eR:Mt.zKB x q=.cat (Mt.jE x N) (.loop (decide (q.zTF=1)) x):=by unfold Mt.zKB;rw[if_pos hm,hNt]
  rw[eR]at hn |-;have hn2:c.length+(Mt.jE x N).len+(Mt.Re.loop (decide (q.zTF=1)) x).len<=1000:=by simp only[Mt.Re.len]at hn |-;omega
  have H1:Hid (Calls Tryz.prog 153 #[.pointer (some ⟨g,0,none⟩),.agg (zTR A).toArray,.int .i64 (N:Int)] (w.alloc (.cells (zTR A).toArray 180)) _):=HT.out _ _ _ _ hW (by omega);have HM:Hid (A.rep.most=-1):=by show _=_;rw[e14,hm]
  have HE:Hid (c++(Mt.Re.cat (Mt.jE x N) (.loop (decide (q.zTF=1)) x)).code c.length d=c++(Mt.jE x N).code c.length d++(Mt.Re.loop (decide (q.zTF=1)) x).code ((c.length+(Mt.jE x N).len:Nat):Int) d):=by
   show _=_;rw[Mt.Re.code,List.append_assoc];push_cast;rfl
  rw[HE.out];clear hB hW hS h hX hX1 hn e13 e14 e15 eR HE hr hN hNt;generalize hRL:Mt.Re.loop (decide (q.zTF=1)) x=RL at *;generalize hRT:Mt.jE x N=RT at *;clear hRL hRT;go_enter Tryz.func148,Tryz.ntmps148
  go_upto_region 1 with fail
  generalize w.alloc (.cells (zTR A).toArray 180)=W at *;go_wp2_with (refine kQ 180 20 Tryz.underlying180 rfl Tryz.sizeAt (by rfl) (.tmp 3) (by rfl) w.heap.size (by rfl) HBK (by rfl) ?_)
  refine H1.out.mono ?_;rintro e w1 ⟨rfl,co1,cc1,hA,hS⟩;have H2':=HL.out _ _ _ _ hA (by rw[zTI];omega);rw[zTI]at H2';have H2:Hid (Calls Tryz.prog 154 #[.pointer (some ⟨g,0,none⟩),.agg (zTR A).toArray] w1 _):=H2';have B1:=HS.out.2.step hS;have b14:=B1.cell 14;change _=some (Value.int .i64 A.rep.most)at b14;rw[HM.out]at b14;have zRJ:=B1.bk;have S1:Hid (jQ g co co1 w w1):=HS.out.1.trans hS;clear hA hS B1 H2' HBK HS;go_wp2_with (refine kQ 180 20 Tryz.underlying180 rfl Tryz.sizeAt (by rfl) (.tmp 3) (by rfl) w.heap.size (by rfl) zRJ (by rfl) ?_)
  refine H2.out.mono ?_;rintro e w3 ⟨rfl,hD⟩;have HD:Hid _:=dZ S1.out hD;clear hD;go_wp2_with fail
  go_returns;exact⟨rfl,HD.out⟩
 ·obtain⟨M,hM⟩:=Int.eq_ofNat_of_zero_le (show 0<=q.m by omega);have hMt:(q.m-q.n).toNat=M-N:=by omega
  have hNM:N<=M:=by omega
  have HL:Hid (Lays L g b so ao sc ac d 155 #[.pointer (some ⟨g,0,none⟩),.agg (zTR A).toArray,.int .i64 ((M-N:Nat):Int)] (Mt.wG x (decide (q.zTF=1)) (M-N))):=by
   show Lays _ _ _ _ _ _ _ _ _ _ _;rw[<-e15];exact zCX A x (M-N) (by omega) hX
  have eR:Mt.zKB x q=.cat (Mt.jE x N) (Mt.wG x (decide (q.zTF=1)) (M-N)):=by unfold Mt.zKB;rw[if_neg hm,hNt,hMt]
  rw[eR]at hn |-;have hn2:c.length+(Mt.jE x N).len+(Mt.wG x (decide (q.zTF=1)) (M-N)).len<=1000:=by simp only[Mt.Re.len]at hn |-;omega
  have H1:Hid (Calls Tryz.prog 153 #[.pointer (some ⟨g,0,none⟩),.agg (zTR A).toArray,.int .i64 (N:Int)] (w.alloc (.cells (zTR A).toArray 180)) _):=HT.out _ _ _ _ hW (by omega);have HM:Hid (A.rep.most=(M:Int)/\A.rep.least=(N:Int)):=⟨by rw[e14,hM],by rw[e13,hN]⟩
  have HE:Hid (c++(Mt.Re.cat (Mt.jE x N) (Mt.wG x (decide (q.zTF=1)) (M-N))).code c.length d=c++(Mt.jE x N).code c.length d++(Mt.wG x (decide (q.zTF=1)) (M-N)).code ((c.length+(Mt.jE x N).len:Nat):Int) d):=by
   show _=_;rw[Mt.Re.code,List.append_assoc];push_cast;rfl
  rw[HE.out];have zTo:M<=20:=by omega
  have bt:((M:Int)==-1)=false:=by simp
  have hsub:(M:Int)-(N:Int)=((M-N:Nat):Int):=by omega
  rw[<-hsub]at HL;clear hB hW hS h hX hX1 hn e13 e14 e15 eR HE hr hN hNt hMt hm hM;generalize hRL:Mt.wG x (decide (q.zTF=1)) (M-N)=RL at *;generalize hRT:Mt.jE x N=RT at *;clear hRL hRT hsub;go_enter Tryz.func148,Tryz.ntmps148
  go_upto_region 1 with fail
  generalize w.alloc (.cells (zTR A).toArray 180)=W at *;go_wp2_with (refine kQ 180 20 Tryz.underlying180 rfl Tryz.sizeAt (by rfl) (.tmp 3) (by rfl) w.heap.size (by rfl) HBK (by rfl) ?_)
  refine H1.out.mono ?_;rintro e w1 ⟨rfl,co1,cc1,hA,hS⟩;have H2':=HL.out _ _ _ _ hA (by rw[zTI];omega);rw[zTI]at H2';have H2:Hid (Calls Tryz.prog 155 #[.pointer (some ⟨g,0,none⟩),.agg (zTR A).toArray,.int .i64 ((M:Int)-(N:Int))] w1 _):=H2';have B1:=HS.out.2.step hS;have b14:=B1.cell 14;change _=some (Value.int .i64 A.rep.most)at b14;rw[HM.out.1]at b14;have d13:=B1.cell 13;change _=some (Value.int .i64 A.rep.least)at d13;rw[HM.out.2]at d13;have zRJ:=B1.bk;have S1:Hid (jQ g co co1 w w1):=HS.out.1.trans hS;clear hA hS B1 H2' HBK HS;go_wp2_with (refine kQ 180 20 Tryz.underlying180 rfl Tryz.sizeAt (by rfl) (.tmp 3) (by rfl) w.heap.size (by rfl) zRJ (by rfl) ?_)
  refine H2.out.mono ?_;rintro e w3 ⟨rfl,hD⟩;have HD:Hid _:=dZ S1.out hD;clear hD;go_wp2_with fail
  go_returns;exact⟨rfl,HD.out⟩
end
section
variable {L:Nat} {g:Nat} {b:Mt.PB} {so ao:Option Addr} {sc ac:Nat} {d:Int}
theorem zIy(A:Mt.PA)(x:Mt.Re)(hk:A.rep.kind=0)(hX:Lays L g b so ao sc ac d 147 #[.pointer (some ⟨g,0,none⟩),.agg (zTR A).toArray] x) :
  Lays L g b so ao sc ac d 136 #[.pointer (some ⟨g,0,none⟩),.agg (zTR A).toArray] x:=by
 intro w co cc c h hn;obtain⟨hB,hW,hS⟩:=Bx.new h A;have HC:Hid (Calls Tryz.prog 147 #[.pointer (some ⟨g,0,none⟩),.agg (zTR A).toArray] (w.alloc (.cells (zTR A).toArray 180)) _):=hX _ _ _ _ hW hn;have a9:=hB.cell 9;change _=some (Value.int .i64 A.rep.kind)at a9;rw[hk]at a9;have HBK:=hB.bk;have HS:Hid (jQ g co co w (w.alloc (.cells (zTR A).toArray 180))):=hS;clear hB hW hS h hk hX;go_enter Tryz.func136,Tryz.ntmps136
 go_upto_region 1 with fail
 generalize w.alloc (.cells (zTR A).toArray 180)=W at *;go_wp2_with (refine kQ 180 20 Tryz.underlying180 rfl Tryz.sizeAt (by rfl) (.tmp 3) (by rfl) w.heap.size (by rfl) HBK (by rfl) ?_)
 refine HC.out.mono ?_;rintro e w3 ⟨rfl,hD⟩;have HD:Hid _:=dZ HS.out hD;clear hD;go_wp2_with fail
 go_returns;exact⟨rfl,HD.out⟩
theorem zIz(A:Mt.PA)(X:Mt.Re)(hk:A.rep.kind=4)(hm:(A.rep.fF != 3)=true)(hX:Lays L g b so ao sc ac d 148 #[.pointer (some ⟨g,0,none⟩),.agg (zTR A).toArray] X) :
  Lays L g b so ao sc ac d 136 #[.pointer (some ⟨g,0,none⟩),.agg (zTR A).toArray] X:=by
 intro w co cc c h hn;obtain⟨hB,hW,hS⟩:=Bx.new h A;have HC:Hid (Calls Tryz.prog 148 #[.pointer (some ⟨g,0,none⟩),.agg (zTR A).toArray] (w.alloc (.cells (zTR A).toArray 180)) _):=hX _ _ _ _ hW hn;have a9:=hB.cell 9;change _=some (Value.int .i64 A.rep.kind)at a9;rw[hk]at a9;have a15:=hB.cell 15;change _=some (Value.int .i64 A.rep.fF)at a15;have HBK:=hB.bk;have HS:Hid (jQ g co co w (w.alloc (.cells (zTR A).toArray 180))):=hS;clear hB hW hS h hk hX;go_enter Tryz.func136,Tryz.ntmps136
 go_upto_region 1 with fail
 generalize w.alloc (.cells (zTR A).toArray 180)=W at *;go_wp2_with (refine kQ 180 20 Tryz.underlying180 rfl Tryz.sizeAt (by rfl) (.tmp 3) (by rfl) w.heap.size (by rfl) HBK (by rfl) ?_)
 refine HC.out.mono ?_;rintro e w3 ⟨rfl,hD⟩;have HD:Hid _:=dZ HS.out hD;clear hD;go_wp2_with fail
 go_returns;exact⟨rfl,HD.out⟩
theorem zHm(A:Mt.PA)(X:Mt.Re)(hk:A.rep.kind=4)(hm:A.rep.fF=3)(hX:Lays L g b so ao sc ac d 148 #[.pointer (some ⟨g,0,none⟩),.agg (zTR A).toArray] X) :
  Lays L g b so ao sc ac d 136 #[.pointer (some ⟨g,0,none⟩),.agg (zTR A).toArray] (.sub 0 X):=by
 intro w co cc c h hn;have hn':c.length+X.len+2<=1000:=by simp only[Mt.Re.len]at hn;omega
 obtain⟨hB,hW,hS⟩:=Bx.new h A;have HP:Hid (Calls Tryz.prog 71 #[.pointer (some ⟨g,0,none⟩),.agg (yR ⟨11,0,0,[]⟩)] (w.alloc (.cells (zTR A).toArray 180)) _):=dY (x:=⟨11,0,0,[]⟩) hW (by omega);have HX:Hid (Lays L g b so ao sc ac d 148 #[.pointer (some ⟨g,0,none⟩),.agg (zTR A).toArray] X):=hX
 have HE:Hid (c++(Mt.Re.sub 0 X).code c.length d=(c++[(⟨11,0,0,[]⟩:Mt.zTG)]++X.code ((c.length+1:Nat):Int) d).set c.length ⟨11,0,(c.length+1+X.len:Nat)+1,[]⟩++[⟨12,0,0,[]⟩]):=by
  show _=_;rw[set_mid];simp[Mt.Re.code];omega
 rw[HE.out];have hl:(c++[(⟨11,0,0,[]⟩:Mt.zTG)]).length=c.length+1:=by simp
 have hl2:∀z:Int,(c++[(⟨11,0,0,[]⟩:Mt.zTG)]++X.code z d).length=c.length+1+X.len:=λz=>by rw[lM,hl,Mt.Re.zQ]
 have a9:=hB.cell 9;change _=some (Value.int .i64 A.rep.kind)at a9;rw[hk]at a9;have a15:=hB.cell 15;change _=some (Value.int .i64 A.rep.fF)at a15;rw[hm]at a15;have HS0:Hid (jQ g co co w (w.alloc (.cells (zTR A).toArray 180))/\Bx (w.alloc (.cells (zTR A).toArray 180)) g co w.heap.size A):=⟨hS,hB⟩
 clear hB hW hS h hk hX hm hn;unfold yR at HP;go_enter Tryz.func136,Tryz.ntmps136
 go_upto_region 1 with fail
 generalize w.alloc (.cells (zTR A).toArray 180)=W at *;go_wp2_with fail
 refine HP.out.mono ?_;rintro e w1 ⟨rfl,q1,zPT,hA,hS⟩;have H1:Hid (Calls Tryz.prog 148 #[.pointer (some ⟨g,0,none⟩),.agg (zTR A).toArray] w1 _):=HX.out w1 _ _ _ hA (by rw[hl];omega);have HS:Hid (jQ g co (some ⟨q1,0,none⟩) w w1):=HS0.out.1.trans hS;have HBK:=(HS0.out.2.step hS).bk;clear hA hS HS0;go_wp2_with (refine kQ 180 20 Tryz.underlying180 rfl Tryz.sizeAt (by rfl) (.tmp 3) (by rfl) w.heap.size (by rfl) HBK (by rfl) ?_)
 refine H1.out.mono ?_;rintro e w2 ⟨rfl,co2,cc2,hA,hS⟩;rw[hl]at hA;have H2:=zD9 c.length hA (by rw[hl2];omega) (by rw[hl2];omega);rw[zIu,hl2]at H2;have H2':Hid (Calls Tryz.prog 149 #[.pointer (some ⟨g,0,none⟩),.int .i64 ((c.length:Nat):Int)] w2 _):=H2;have HS2:Hid (jQ g co co2 w w2):=HS.out.trans hS;clear hA hS H2 HBK;go_wp2_with fail
 refine H2'.out.mono ?_;rintro e w3 ⟨rfl,hD⟩;have HD:Hid _:=dZ HS2.out hD;clear hD;go_wp2_with fail
 go_returns;exact⟨rfl,HD.out⟩
theorem zCK(A:Mt.PA)(x:Mt.Re)(r:Option Mt.zTD)(hr:A.rep=Mt.rp r)(hk:Mt.zJW r)(hok:Mt.zBT r)(hd0:0<=d)(hd:d<=1000)(hX:Lays L g b so ao sc ac d 147 #[.pointer (some ⟨g,0,none⟩),.agg (zTR A).toArray] x)(hX1:Lays L g b so ao sc ac (d+1) 147 #[.pointer (some ⟨g,0,none⟩),.agg (zTR A).toArray] x) :
  Lays L g b so ao sc ac d 136 #[.pointer (some ⟨g,0,none⟩),.agg (zTR A).toArray] (Mt.part r x):=by
 cases r with
 | none=>exact zIy A x (by rw[hr];rfl) hX
 | some q =>
  have hq:=hk q rfl;have ho:=hok q rfl;have hr':A.rep=Mt.yC q:=hr;have hR:=zEw A x q hq ho hr' hd0 hd hX hX1;have k4:A.rep.kind=4:=by rw[hr',Mt.jP,hq];rfl
  have km:A.rep.fF=q.zTF+1:=by rw[hr'];simp[Mt.yC,hq]
  show Lays L g b so ao sc ac d _ _ (Mt.zF7 x q);have hc:=λp=>Mt.zME x q ho p d
  by_cases e:q.zTF=2
  ·simp only[if_pos e]at hc;exact(zHm A _ k4 (by rw[km,e];rfl) hR).congr (hc 0).2.symm (λp=>(hc p).1.symm)
  ·simp only[if_neg e]at hc;exact(zIz A _ k4 (by rw[km];simp;omega) hR).congr (hc 0).2.symm (λp=>(hc p).1.symm)
end
def zQ9(L g:Nat)(b:Mt.PB)(so ao:Option Addr)(sc ac:Nat)(N:Nat):Prop :=
 ∀(f:Mt.Fs),f.wf->f.ok->f.kL.length<N->∀(s:Nat),s<b.kN.length->Mt.qG b 0 0 f (b.zTO s).first (b.zTO s).next->∀d:Int,0<=d->d+f.kL.length<=1000 ->
  Lays L g b so ao sc ac d 70 #[.pointer (some ⟨g,0,none⟩),.int .i64 (s:Int)] f.re
theorem zOu{b:Mt.PB}{f:Mt.Fs}{a n:Int}(h:Mt.qG b 0 0 f a n)(hw:f.wf)(hok:f.ok) :
  (a=-1/\f.both.1=.eps) \/
  ∃(k:Nat) (s:Mt.Fs) (r:Option Mt.zTD) (x:Mt.Re),a=k/\k<b.zG.length/\(b.zTP k).rep=Mt.rp r/\Mt.zJW r/\Mt.zBT r/\f.both.1=.cat (Mt.part r x) s.both.1/\Mt.qG b 0 0 s (b.zTP k).next n/\s.wf/\s.ok/\s.kL.length<f.kL.length /\
   ((∃t,Mt.wY t/\(b.zTP k).tok=Mt.yC t/\x=Mt.fA t)\/∃(t:Mt.zTD) (i:Mt.Fs) (q:Nat),x=Mt.wH t i.re/\t.kind=6/\(0<=t.zTF/\t.zTF<=4)/\i.wf/\i.ok/\i.kL.length+2<=f.kL.length/\(b.zTP k).tok=Mt.yC t/\(b.zTP k).num=(if Mt.jO t then t.n else 0)/\(b.zTP k).body=q/\q<b.kN.length/\Mt.qG b 0 0 i (b.zTO q).first (b.zTO q).next):=by
 cases f with
 | nil=>exact Or.inl ⟨h.1,rfl⟩
 | bar t r=>exact Or.inl ⟨h.1,rfl⟩
 | leaf t r s =>
  obtain⟨k,h1,_,h2,h3,h4,h5,h6⟩:=h;exact Or.inr ⟨k,s,r,Mt.fA t,h1,h2,h4,hw.2.1,hok.1,rfl,h6,hw.2.2,hok.2,by simp[Mt.Fs.kL];omega,Or.inl ⟨t,hw.1,h3,rfl⟩⟩
 | grp t i c r s =>
  obtain⟨k,h1,_,h2,h3,h4,h5,⟨q,g1,_,g2,g3⟩,h6⟩:=h;obtain⟨w1,w2,w3,w4,w5⟩:=hw;obtain⟨o1,o2,o3,o4⟩:=hok;exact Or.inr ⟨k,s,r,Mt.wH t i.re,h1,h2,h4,w4,o1,rfl,h6,w5,o4,by simp[Mt.Fs.kL];omega,Or.inr ⟨t,i,q,rfl,w1,o2,w3,o3,by simp[Mt.Fs.kL],h3,h5,g1,g2,g3⟩⟩
section
variable {L:Nat} {g:Nat} {b:Mt.PB} {so ao:Option Addr} {sc ac N:Nat}
theorem zCL(hA:zQ9 L g b so ao sc ac N)(A:Mt.PA)(t:Mt.zTD)(i:Mt.Fs)(q:Nat)(ht:t.kind=6)(hh:0<=t.zTF/\t.zTF<=4)(hw:i.wf)(ho:i.ok)(hl:i.kL.length<N)(htk:A.tok=Mt.yC t)(zKO:A.num=(if Mt.jO t then t.n else 0))(hb:A.body=q)(hql:q<b.kN.length)(hs:Mt.qG b 0 0 i (b.zTO q).first (b.zTO q).next)(d:Int)(hd0:0<=d)(hd:d+i.kL.length<=1000) :
  Lays L g b so ao sc ac d 147 #[.pointer (some ⟨g,0,none⟩),.agg (zTR A).toArray] (Mt.wH t i.re):=by
 have hX:=hA i hw ho hl q hql hs d hd0 hd;have hk:A.tok.kind=2:=by rw[htk,Mt.jP,ht];rfl
 have hg:A.tok.group=Mt.zNJ t.zTF:=by rw[htk];simp[Mt.yC,ht]
 refine zIw A _ hk ?_;unfold Mt.wH;by_cases h3:t.zTF=3
 ·rw[if_pos h3];exact zEu A q _ (by rw[hg,h3];rfl) hb hX
 ·rw[if_neg h3];by_cases h4:t.zTF=4
  ·rw[if_pos h4];have hc:Mt.jO t=true:=by simp[Mt.jO,ht,h4]
   exact zHh A q t.n _ (by rw[hg,h4];rfl) hb (by rw[zKO,if_pos hc]) hX
  ·rw[if_neg h4];exact zHg A q t.zTF (by omega) _ (by rw[hg];unfold Mt.zNJ;rw[if_neg h4,if_neg h3]) hb hX
theorem zKC{w:World}{ga:Nat}(h:yM 0 w b so (some ⟨ga,0,none⟩) sc ac)(k:Nat)(hk:k<b.zG.length):w.rangeAt ga (k*20) (zTR (b.zTP k)):=by
 obtain⟨ga',e,_,_,hc⟩:=h.zBt k hk;simp only[Option.some.injEq,Addr.mk.injEq,and_true,true_and]at e;subst e;intro j v hv;by_cases hj:j<20
 ·rw[hc j hj];exact hv
 ·rw[List.getElem?_eq_none (by rw[zCi];omega)]at hv;simp at hv
theorem zEb(hA:zQ9 L g b so ao sc ac N)(hna:b.zG.length<=1000)(hns:b.kN.length<=1000)(f:Mt.Fs)(hw:f.wf)(hok:f.ok)(hl:f.kL.length<=N)(s:Nat)(hs:s<b.kN.length)(zTJ:Mt.qG b 0 0 f (b.zTO s).first (b.zTO s).next)(d:Int)(hd0:0<=d)(hd:d+f.kL.length<=1000) :
  Lays L g b so ao sc ac d 108 #[.pointer (some ⟨g,0,none⟩),.int .i64 (s:Int)] f.both.1:=by
 intro w co cc c h hn
 have HPT:Hid (∀(k:Nat) (hh:Mt.Fs) (r:Option Mt.zTD) (x:Mt.Re),hh.kL.length<=f.kL.length->(b.zTP k).rep=Mt.rp r->Mt.zJW r->Mt.zBT r->((∃t,Mt.wY t/\(b.zTP k).tok=Mt.yC t/\x=Mt.fA t)\/∃(t:Mt.zTD) (i:Mt.Fs) (q:Nat),x=Mt.wH t i.re/\t.kind=6/\(0<=t.zTF/\t.zTF<=4)/\i.wf/\i.ok/\i.kL.length+2<=hh.kL.length/\(b.zTP k).tok=Mt.yC t/\(b.zTP k).num=(if Mt.jO t then t.n else 0)/\(b.zTP k).body=q/\q<b.kN.length/\Mt.qG b 0 0 i (b.zTO q).first (b.zTO q).next) ->
   Lays L g b so ao sc ac d 136 #[.pointer (some ⟨g,0,none⟩),.agg (zTR (b.zTP k)).toArray] (Mt.part r x)):=by
  intro k hh r x h1 h2 h3 h4 h5;rcases h5 with ⟨t,h6,h7,rfl⟩ | ⟨t,i,q,rfl,g1,g2,g3,g4,g5,g6,g7,g8,g9,g10⟩
  ·exact zCK _ _ r h2 h3 h4 hd0 (by omega) (zCJ _ t h6 h7) (zCJ _ t h6 h7)
  ·exact zCK _ _ r h2 h3 h4 hd0 (by omega) (zCL hA _ t i q g1 g2 g3 g4 (by omega) g6 g7 g8 g9 g10 d hd0 (by omega)) (zCL hA _ t i q g1 g2 g3 g4 (by omega) g6 g7 g8 g9 g10 (d+1) (by omega) (by omega))
 obtain⟨gs,rfl,hgs,hsc,cs0,cs1⟩:=h.tree.zAg s hs;obtain⟨c0,_,_,_,_⟩:=h.cells;have HL0:Hid (LAt L w g b (some ⟨gs,0,none⟩) ao sc ac co cc c d):=h;have HST:Hid (Mt.qG b 0 0 f (b.zTO s).first (b.zTO s).next/\f.wf/\f.ok):=⟨zTJ,hw,hok⟩
 have hs':(s:Int)<(b.kN.length:Int):=by omega
 have HN:Hid (c.length+f.both.1.len<=1000):=hn;generalize hnx:(b.zTO s).next=n at *
 generalize hfi:(b.zTO s).first=a0 at *
 clear h hA zTJ hw hok hnx hfi hn;go_enter Tryz.func108,Tryz.ntmps108
 go_wp2_with fail
 go_loopg [4] f.kL.length (λgn at' wr=>∃(h:Mt.Fs) (a:Int) (cor:Option Addr) (ccr:Nat) (cx:List Mt.zTG),at'=.int .i64 a/\h.kL.length=gn/\gn<=f.kL.length/\Mt.qG b 0 0 h a n/\h.wf/\h.ok/\LAt L wr g b (some ⟨gs,0,none⟩) ao sc ac cor ccr cx d/\jQ g co cor w wr/\cx++h.both.1.code cx.length d=c++f.both.1.code c.length d/\cx.length+h.both.1.len<=1000)
 case atStart=>exact⟨f,a0,co,cc,c,rfl,rfl,lG _,HST.out.1,HST.out.2.1,HST.out.2.2,HL0.out,jQ.refl _ _ _,rfl,HN.out⟩
 case round =>
  obtain⟨hf,a,cor,ccr,cx,rfl,hgn,hgf,zTJ,hfw,hfo,hA,hSr,hcx,hln⟩:=hrel;have hc:=zOu zTJ hfw hfo;rcases hc with ⟨ha,h0⟩ | ⟨k,sr,r,x,ha,hk,hrep,hrk,hro,hbo,hst',hsw,hso,hsl,hx⟩
  ·subst ha;have HD:Hid (zCq L g b (some ⟨gs,0,none⟩) ao sc ac d co w (c++f.both.1.code c.length d) wr):=⟨cor,ccr,by rw[<-hcx,h0];simpa[Mt.Re.code]using hA,hSr⟩
   clear hA hSr hcx zTJ h0;go_wp2_with fail
   go_returns;exact⟨rfl,HD.out⟩
  ·subst ha;obtain⟨ga,hao,hga,hac,hcell⟩:=hA.tree.zBt k hk;subst hao;have hrg:=zKC hA.tree k hk;obtain⟨_,d1,_,_,_⟩:=hA.cells;have hP:=HPT.out k hf r x (by omega) hrep hrk hro hx;have hlen:hf.both.1.len=(Mt.part r x).len+sr.both.1.len:=by rw[hbo];rfl
   have H1:Hid (Calls Tryz.prog 136 #[.pointer (some ⟨g,0,none⟩),.agg (zTR (b.zTP k)).toArray] wr _):=hP wr cor ccr cx hA (by omega);have HSr:Hid (jQ g co cor w wr):=hSr;have HSR:Hid (Mt.qG b 0 0 sr (b.zTP k).next n/\sr.wf/\sr.ok):=⟨hst',hsw,hso⟩
   have hk':(k:Int)<(b.zG.length:Int):=by omega
   have hkb:((k:Int) != -1)=true:=by simp
   have HCX:Hid (cx++(Mt.part r x).code cx.length d++sr.both.1.code ((cx++(Mt.part r x).code cx.length d).length:Int) d=c++f.both.1.code c.length d):=by
    show _=_;rw[<-hcx,hbo,Mt.Re.code,List.append_assoc,lM,Mt.Re.zQ];push_cast;rfl
   have HLN:Hid ((cx++(Mt.part r x).code cx.length d).length+sr.both.1.len<=1000):=by
    show _<=_;rw[lM,Mt.Re.zQ];omega
   have HAT:Hid (∀(W:World) (c1:Option Addr) (n1:Nat) (l1:List Mt.zTG),LAt L W g b (some ⟨gs,0,none⟩) (some ⟨ga,0,none⟩) sc ac c1 n1 l1 d->W.cell? ⟨ga,k*20+19,none⟩=some (.int .i64 (b.zTP k).next)/\W.cell? ⟨g,1,none⟩=some (.slice (some ⟨ga,0,none⟩) b.zG.length ac)):=by
    intro W c1 n1 l1 hW;obtain⟨ga',e,_,_,hc⟩:=hW.tree.zBt k hk;simp only[Option.some.injEq,Addr.mk.injEq,and_true,true_and]at e;subst e;exact⟨hc 19 (by decide),hW.cells.2.1⟩
   clear hA hSr hcx zTJ hcell hP hx hrep hrk hro hst' hsw hso hbo hfw hfo HPT;generalize hNx:(b.zTP k).next=nx at *
   generalize hAA:b.zTP k=A at *;clear hNx hAA;go_wp2_with (refine wpList_load_mid (by rfl) 180 (.tmp 32) (by rfl) ga (k*20) (by rfl) (zTR A) _ hrg Tryz.underlying180 rfl (by rw[Tryz.sizeAt];rfl) ?_)
   refine H1.out.mono ?_;rintro e w2 ⟨rfl,co2,cc2,hA,hS⟩;obtain⟨e19,e1⟩:=HAT.out _ _ _ _ hA;have HA2:Hid (LAt L w2 g b (some ⟨gs,0,none⟩) (some ⟨ga,0,none⟩) sc ac co2 cc2 (cx++(Mt.part r x).code cx.length d) d/\jQ g co co2 w w2):=⟨hA,HSr.out.trans hS⟩
   clear hA hS HAT hrg;go_wp2_with fail
   go_roundg sr.kL.length
   case measure=>omega
   case rel=>exact⟨sr,nx,co2,cc2,_,rfl,rfl,by omega,HSR.out.1,HSR.out.2.1,HSR.out.2.2,HA2.out.1,HA2.out.2,HCX.out,HLN.out⟩
end
theorem zQX{f:Mt.Fs}(h:f.rs=none):f.re=f.both.1:=by
 have h2:=f.zJX;unfold Mt.Fs.re;generalize f.both=xy at *;obtain⟨x,y⟩:=xy;rw[h]at h2;simp at h2;subst h2;rfl
theorem zPU{f r:Mt.Fs}(h:f.rs=some r):f.re=.alt f.both.1 r.re:=by
 have h2:=f.zJX;unfold Mt.Fs.re;generalize f.both=xy at *;obtain⟨x,y⟩:=xy;rw[h]at h2;simp at h2;subst h2;rfl
theorem zIA(x y:Int)(z:World):(Instr.build 48 #[(0,.int .i64 2),(1,.int .i64 x),(2,.int .i64 y)]).run Tryz.prog z=.ok (.agg (yR ⟨2,x,y,[]⟩)) z:=by
 unfold yR;kernel_rfl
section
variable {L:Nat} {g:Nat} {b:Mt.PB} {so ao:Option Addr} {sc ac N:Nat}
theorem zBv(f:Mt.Fs)(s:Nat)(hs:s<b.kN.length)(hns:b.kN.length<=1000)(hn1:(b.zTO s).next=-1)(X:Mt.Re)(d:Int)(hX:Lays L g b so ao sc ac d 108 #[.pointer (some ⟨g,0,none⟩),.int .i64 (s:Int)] X) :
  Lays L g b so ao sc ac d 70 #[.pointer (some ⟨g,0,none⟩),.int .i64 (s:Int)] X:=by
 intro w co cc c h hn;have HC:Hid (Calls Tryz.prog 108 #[.pointer (some ⟨g,0,none⟩),.int .i64 (s:Int)] w _):=hX _ _ _ _ h hn;obtain⟨gs,rfl,hgs,hsc,cs0,cs1⟩:=h.tree.zAg s hs;rw[hn1]at cs1;obtain⟨c0,_,_,_,_⟩:=h.cells;have hs':(s:Int)<(b.kN.length:Int):=by omega
 clear h hX;go_enter Tryz.func70,Tryz.ntmps70
 go_wp2_with fail
 refine HC.out.mono ?_;rintro e w3 ⟨rfl,hD⟩;have HD:Hid _:=hD;clear hD;go_wp2_with fail
 go_returns;exact⟨rfl,HD.out⟩
theorem zA9(s k:Nat)(hs:s<b.kN.length)(hns:b.kN.length<=1000)(hk:(b.zTO s).next=k)(X Y:Mt.Re)(d:Int)(hX:Lays L g b so ao sc ac d 108 #[.pointer (some ⟨g,0,none⟩),.int .i64 (s:Int)] X)(hY:Lays L g b so ao sc ac d 70 #[.pointer (some ⟨g,0,none⟩),.int .i64 (k:Int)] Y) :
  Lays L g b so ao sc ac d 70 #[.pointer (some ⟨g,0,none⟩),.int .i64 (s:Int)] (.alt X Y):=by
 intro w co cc c h hn;have hn':c.length+X.len+Y.len+2<=1000:=by simp only[Mt.Re.len]at hn;omega
 have HP:Hid (Calls Tryz.prog 71 #[.pointer (some ⟨g,0,none⟩),.agg (yR ⟨2,0,0,[]⟩)] w _):=dY (x:=⟨2,0,0,[]⟩) h (by omega);have HX:Hid (Lays L g b so ao sc ac d 108 #[.pointer (some ⟨g,0,none⟩),.int .i64 (s:Int)] X):=hX;have HY:Hid (Lays L g b so ao sc ac d 70 #[.pointer (some ⟨g,0,none⟩),.int .i64 (k:Int)] Y):=hY;obtain⟨gs,rfl,hgs,hsc,cs0,cs1⟩:=h.tree.zAg s hs;rw[hk]at cs1;obtain⟨c0,_,_,_,_⟩:=h.cells;have hs':(s:Int)<(b.kN.length:Int):=by omega
 have hkb:((k:Int)==-1)=false:=by simp
 have l1:(c++[(⟨2,0,0,[]⟩:Mt.zTG)]).length=c.length+1:=by simp
 have l2:∀z:Int,(c++[(⟨2,0,0,[]⟩:Mt.zTG)]++X.code z d).length=c.length+1+X.len:=λz=>by rw[lM,l1,Mt.Re.zQ]
 have l3:∀z:Int,(c++[(⟨2,0,0,[]⟩:Mt.zTG)]++X.code z d++[(⟨3,0,0,[]⟩:Mt.zTG)]).length=c.length+2+X.len:=λz=>by rw[lM,l2];simp;omega
 have ES:Hid (∀(z:Int) (v:Mt.zTG),(c++[(⟨2,0,0,[]⟩:Mt.zTG)]++X.code z d++[(⟨3,0,0,[]⟩:Mt.zTG)]).set c.length v=c++v::X.code z d++[(⟨3,0,0,[]⟩:Mt.zTG)]):=λz v=>by
  rw[show c++[(⟨2,0,0,[]⟩:Mt.zTG)]++X.code z d++[(⟨3,0,0,[]⟩:Mt.zTG)]=c++[(⟨2,0,0,[]⟩:Mt.zTG)]++(X.code z d++[(⟨3,0,0,[]⟩:Mt.zTG)]) by simp,set_mid];simp
 clear h hX hY hn hk;unfold yR at HP;go_enter Tryz.func70,Tryz.ntmps70
 go_wp2_with fail
 refine HP.out.mono ?_;rintro e w1 ⟨rfl,q1,zPT,hA,hS⟩;have H1':=HX.out w1 _ _ _ hA (by rw[l1];omega);rw[l1]at H1';have H1:Hid (Calls Tryz.prog 108 #[.pointer (some ⟨g,0,none⟩),.int .i64 (s:Int)] w1 _):=H1';have HS:Hid (jQ g co (some ⟨q1,0,none⟩) w w1):=hS;clear hA hS H1' cs0 cs1 c0;go_wp2_with fail
 refine H1.out.mono ?_;rintro e w2 ⟨rfl,co2,cc2,hA,hS⟩;have H2':=dY (x:=⟨3,0,0,[]⟩) hA (by rw[l2];omega);rw[l2]at H2';have H2:Hid (Calls Tryz.prog 71 #[.pointer (some ⟨g,0,none⟩),.agg (yR ⟨3,0,0,[]⟩)] w2 _):=H2';have HS2:Hid (jQ g co co2 w w2):=HS.out.trans hS;clear hA hS H2';unfold yR at H2;generalize hJ:c.length+1+X.len=J at *;go_wp2_with fail
 refine H2.out.mono ?_;rintro e w3 ⟨rfl,q,cap,hA,hS⟩;have c2:=hA.cells.2.2.1;rw[l3]at c2;obtain⟨q',eq,hqg,hqs,hcap⟩:=hA.form (by rw[l3];omega);simp only[Option.some.injEq,Addr.mk.injEq,and_true,true_and]at eq;subst eq;rw[l3]at hcap;have HTH:Hid (w3.there q (c.length*4) 4):=zE2 hA c.length (by rw[l3];omega);have HA3:Hid (LAt L w3 g b (some ⟨gs,0,none⟩) ao sc ac (some ⟨q,0,none⟩) cap (c++[(⟨2,0,0,[]⟩:Mt.zTG)]++X.code ((c.length+1:Nat):Int) d++[(⟨3,0,0,[]⟩:Mt.zTG)]) d):=hA;have HS3:Hid (jQ g co (some ⟨q,0,none⟩) w w3):=HS2.out.trans hS;have hgl:g<w3.heap.size:=hA.lt.1;clear hA hS;have hT:c.length+2+X.len<=1000:=by omega
 go_upto_region 6 with fail
 go_cut [] (λwx=>LAt L wx g b (some ⟨gs,0,none⟩) ao sc ac (some ⟨q,0,none⟩) cap (c++(⟨2,(c.length:Int)+1,((c.length+2+X.len:Nat):Int),[]⟩:Mt.zTG)::X.code ((c.length+1:Nat):Int) d++[(⟨3,0,0,[]⟩:Mt.zTG)]) d/\jQ g co (some ⟨q,0,none⟩) w wx)
 case first =>
  generalize hTT:c.length+2+X.len=T at *;have hc1:∀z:World,z.cell? ⟨g,2,none⟩=some (.slice (some ⟨q,0,none⟩) T cap)->z.cell? ⟨g,2,none⟩=some (.slice (some ⟨q,0,none⟩) T cap):=λz hz=>hz
  have hcl:(c.length:Int)<(T:Int):=by omega
  refine wp_region_held_drew (S:=λz:World=>z.cell? ⟨g,2,none⟩=some (.slice (some ⟨q,0,none⟩) T cap)) (by kernel_rfl) c2 (λhH=>?_);refine kD 0 30 (.pointer (some ⟨g,0,none⟩)) rfl rfl (by kernel_rfl) (by kernel_rfl) (by kernel_rfl) (λ_ _ _ h=>h) (Or.inl ⟨by rfl,λz hz=>by clear hH hz hc1 c2;go_simp⟩) (by assumption) ?_;simp only[Act.put,lC,lD,lF];refine kD 1 31 (.pointer (some ⟨g,0,none⟩)) rfl rfl (by kernel_rfl) (by kernel_rfl) (by kernel_rfl) (λ_ _ _ h=>h) (Or.inl ⟨by rfl,λz hz=>by clear hH hz hc1 c2;go_simp⟩) (by assumption) ?_;simp only[Act.put,lC,lD,lF];refine kD 2 32 (.pointer (some ⟨g,2,none⟩)) rfl rfl (by kernel_rfl) (by kernel_rfl) (by kernel_rfl) (λ_ _ _ h=>h) (Or.inl ⟨by rfl,λz hz=>by clear hH hz hc1 c2;go_simp⟩) (by assumption) ?_;simp only[Act.put,lC,lD,lF];refine kD 3 33 (.slice (some ⟨q,0,none⟩) T cap) rfl rfl (by kernel_rfl) (by kernel_rfl) (by kernel_rfl) (λ_ _ _ h=>h) (Or.inl ⟨by rfl,λz hz=>by have hz1:=hc1 z hz;clear hH hz hc1 c2;go_simp⟩) (by assumption) ?_;simp only[Act.put,lC,lD,lF];refine kD 4 34 (.int .i64 (c.length:Int)) rfl rfl (by kernel_rfl) (by kernel_rfl) (by kernel_rfl) (λ_ _ _ h=>h) (Or.inl ⟨by rfl,λz hz=>by clear hH hz hc1 c2;go_simp⟩) (by assumption) ?_;simp only[Act.put,lC,lD,lF];refine kD 5 35 (.int .i64 (c.length:Int)) rfl rfl (by kernel_rfl) (by kernel_rfl) (by kernel_rfl) (λ_ _ _ h=>h) (Or.inl ⟨by rfl,λz hz=>by clear hH hz hc1 c2;go_simp⟩) (by assumption) ?_;simp only[Act.put,lC,lD,lF];refine kD 6 36 (.int .i64 ((c.length:Int)+1)) rfl rfl (by kernel_rfl) (by kernel_rfl) (by kernel_rfl) (λ_ _ _ h=>h) (Or.inl ⟨by rfl,λz hz=>by clear hH hz hc1 c2;go_simp;rw[IntKind.wrap_i64];omega⟩) (by assumption) ?_;simp only[Act.put,lC,lD,lF];refine kD 7 37 (.pointer (some ⟨g,0,none⟩)) rfl rfl (by kernel_rfl) (by kernel_rfl) (by kernel_rfl) (λ_ _ _ h=>h) (Or.inl ⟨by rfl,λz hz=>by clear hH hz hc1 c2;go_simp⟩) (by assumption) ?_;simp only[Act.put,lC,lD,lF];refine kD 8 38 (.pointer (some ⟨g,0,none⟩)) rfl rfl (by kernel_rfl) (by kernel_rfl) (by kernel_rfl) (λ_ _ _ h=>h) (Or.inl ⟨by rfl,λz hz=>by clear hH hz hc1 c2;go_simp⟩) (by assumption) ?_;simp only[Act.put,lC,lD,lF];refine kD 9 39 (.pointer (some ⟨g,2,none⟩)) rfl rfl (by kernel_rfl) (by kernel_rfl) (by kernel_rfl) (λ_ _ _ h=>h) (Or.inl ⟨by rfl,λz hz=>by clear hH hz hc1 c2;go_simp⟩) (by assumption) ?_;simp only[Act.put,lC,lD,lF];refine kD 10 40 (.slice (some ⟨q,0,none⟩) T cap) rfl rfl (by kernel_rfl) (by kernel_rfl) (by kernel_rfl) (λ_ _ _ h=>h) (Or.inl ⟨by rfl,λz hz=>by have hz1:=hc1 z hz;clear hH hz hc1 c2;go_simp⟩) (by assumption) ?_;simp only[Act.put,lC,lD,lF];refine kD 11 41 (.int .i64 (T:Int)) rfl rfl (by kernel_rfl) (by kernel_rfl) (by kernel_rfl) (λ_ _ _ h=>h) (Or.inl ⟨by rfl,λz hz=>by clear hH hz hc1 c2;go_simp⟩) (by assumption) ?_;simp only[Act.put,lC,lD,lF];refine kD 12 42 (.agg (yR ⟨2,(c.length:Int)+1,(T:Int),[]⟩)) rfl rfl (by kernel_rfl) (by kernel_rfl) (by kernel_rfl) (λ_ _ _ h=>h) (Or.inl ⟨by rfl,λz hz=>by refine zC7 (t:=48) (parts:=#[(0,.const (.int .i64 2)),(1,.tmp 36),(2,.tmp 41)]) rfl ?_;simp only[List.map_toArray,List.map_cons,List.map_nil];exact zIA _ _ z⟩) (by assumption) ?_;simp only[Act.put,lC,lD,lF];refine kD 13 43 (.pointer (some ⟨q,c.length*4,none⟩)) rfl rfl (by kernel_rfl) (by kernel_rfl) (by kernel_rfl) (λ_ _ _ h=>h) (Or.inl ⟨by rfl,λz hz=>by clear hH hz hc1 c2;go_simp⟩) (by assumption) ?_;simp only[Act.put,lC,lD,lF];refine zAG 14 _ rfl rfl (by kernel_rfl) (by kernel_rfl) _ _ _ rfl q (c.length*4) (yR ⟨2,(c.length:Int)+1,(T:Int),[]⟩) (by kernel_rfl) (by kernel_rfl) HTH.out (by rw[Tryz.sizeIn];rfl) (tN _) rfl ?_;refine⟨(World.cell?_of_block (a:=⟨g,2,none⟩) (qZ q _ _ _ _ (Ne.symm hqg))).trans c2,?_⟩;clear hH hc1 c2;go_wp2_with fail
  go_meet
  case rel =>
   have M:=HA3.out.drew.zFO c.length 0 (yR ⟨2,(c.length:Int)+1,(T:Int),[]⟩).toList ⟨2,(c.length:Int)+1,(T:Int),[]⟩ (by rw[l3];omega) (by show 0+4<=4;omega) rfl;rw[ES.out]at M;exact⟨M,HS3.out.drew.setMany q _ _ (Or.inr rfl)⟩
 case rest =>
  obtain⟨hA,hS⟩:=hcut
  have l4:(c++(⟨2,(c.length:Int)+1,((c.length+2+X.len:Nat):Int),[]⟩:Mt.zTG)::X.code ((c.length+1:Nat):Int) d++[(⟨3,0,0,[]⟩:Mt.zTG)]).length=c.length+2+X.len:=by
   simp[Mt.Re.zQ];omega
  have H5':=HY.out wc _ _ _ hA (by rw[l4];omega);rw[l4]at H5';have H5:Hid (Calls Tryz.prog 70 #[.pointer (some ⟨g,0,none⟩),.int .i64 (k:Int)] wc _):=H5';have HSc:Hid (jQ g co (some ⟨q,0,none⟩) w wc):=hS;clear hA hS H5' HTH HA3 HS3 HX HY c2;go_wp2_with fail
  refine H5.out.mono ?_;rintro e w5 ⟨rfl,co5,cc5,hA,hS⟩
  have l5:(c++(⟨2,(c.length:Int)+1,((c.length+2+X.len:Nat):Int),[]⟩:Mt.zTG)::X.code ((c.length+1:Nat):Int) d++[(⟨3,0,0,[]⟩:Mt.zTG)]++Y.code ((c.length+2+X.len:Nat):Int) d).length=c.length+2+X.len+Y.len:=by
   rw[lM,l4,Mt.Re.zQ]
  have c2:=hA.cells.2.2.1;rw[l5]at c2;obtain⟨q5,eq,zTp,zTq,hcap5⟩:=hA.form (by rw[l5];omega);subst eq;rw[l5]at hcap5
  have eJ:(c++(⟨2,(c.length:Int)+1,((c.length+2+X.len:Nat):Int),[]⟩:Mt.zTG)::X.code ((c.length+1:Nat):Int) d).length=J:=by
   simp[Mt.Re.zQ];omega
  have gJ:(c++(⟨2,(c.length:Int)+1,((c.length+2+X.len:Nat):Int),[]⟩:Mt.zTG)::X.code ((c.length+1:Nat):Int) d++[(⟨3,0,0,[]⟩:Mt.zTG)]++Y.code ((c.length+2+X.len:Nat):Int) d).getD J Mt.jY=⟨3,0,0,[]⟩:=by
   rw[<-eJ];exact zIu _ _ _
  have sJ:∀v,(c++(⟨2,(c.length:Int)+1,((c.length+2+X.len:Nat):Int),[]⟩:Mt.zTG)::X.code ((c.length+1:Nat):Int) d++[(⟨3,0,0,[]⟩:Mt.zTG)]++Y.code ((c.length+2+X.len:Nat):Int) d).set J v=c++(⟨2,(c.length:Int)+1,((c.length+2+X.len:Nat):Int),[]⟩:Mt.zTG)::X.code ((c.length+1:Nat):Int) d++v::Y.code ((c.length+2+X.len:Nat):Int) d:=λv=>by
   rw[<-eJ];exact set_mid _ _ _ _
  have cy:w5.cell? ⟨q5,J*4+1,none⟩=some (.int .i64 0):=by
   rw[World.ownsRow.cellAt hA.code _ (by rw[l5];omega),bX _ J 1 (by rw[l5];omega) (by omega),gJ];rfl
  have fy:w5.frozen? ⟨q5,J*4+1,none⟩=false:=World.ownsRow.frozenAt hA.code _;have M:=hA.zFO J 1 [.int .i64 ((c.length+2+X.len+Y.len:Nat):Int)] ⟨3,((c.length+2+X.len+Y.len:Nat):Int),0,[]⟩ (by rw[l5];omega) (by simp) (by rw[gJ];rfl);rw[sJ]at M
  have HE:Hid (c++(Mt.Re.alt X Y).code c.length d=c++(⟨2,(c.length:Int)+1,((c.length+2+X.len:Nat):Int),[]⟩:Mt.zTG)::X.code ((c.length+1:Nat):Int) d++(⟨3,((c.length+2+X.len+Y.len:Nat):Int),0,[]⟩:Mt.zTG)::Y.code ((c.length+2+X.len:Nat):Int) d):=by
   show _=_;have e1:((c.length+2+X.len:Nat):Int)=(c.length:Int)+X.len+2:=by push_cast;omega
   have e2:((c.length+2+X.len+Y.len:Nat):Int)=(c.length:Int)+X.len+2+Y.len:=by push_cast;omega
   rw[e1,e2];simp[Mt.Re.code]
  have HM:Hid (zCq L g b (some ⟨gs,0,none⟩) ao sc ac d co w (c++(Mt.Re.alt X Y).code c.length d) (w5.setCell ⟨q5,J*4+1,none⟩ (.int .i64 ((c.length+2+X.len+Y.len:Nat):Int))).drew):=by
   show zCq _ _ _ _ _ _ _ _ _ _ _ _;rw[HE.out];exact⟨_,_,M.drew,((HSc.out.trans hS).set (p:=⟨q5,J*4+1,none⟩) (Or.inr rfl) _).drew⟩
  have hg5:g<w5.heap.size:=hA.lt.1;have hJl:(J:Int)<((c.length+2+X.len+Y.len:Nat):Int):=by omega
  clear hA hS M sJ gJ eJ l5 HE;generalize c.length+2+X.len+Y.len=T5 at *;go_wp2_with fail
  go_region
  go_wp2_with fail
  go_returns;exact⟨rfl,HM.out⟩
theorem zBw(hA:zQ9 L g b so ao sc ac N)(hna:b.zG.length<=1000)(hns:b.kN.length<=1000)(f:Mt.Fs)(hw:f.wf)(hok:f.ok)(hl:f.kL.length<=N)(s:Nat)(hs:s<b.kN.length)(zTJ:Mt.qG b 0 0 f (b.zTO s).first (b.zTO s).next)(d:Int)(hd0:0<=d)(hd:d+f.kL.length<=1000) :
  Lays L g b so ao sc ac d 70 #[.pointer (some ⟨g,0,none⟩),.int .i64 (s:Int)] f.re:=by
 have hX:=zEb hA hna hns f hw hok hl s hs zTJ d hd0 hd;rcases Mt.zBU f _ _ zTJ with ⟨e,h1⟩ | ⟨r,k,e,h1,h2,h3⟩
 ·rw[zQX e];exact zBv f s hs hns h1 _ d hX
 ·have hr:=Mt.zFB f r e;rw[zPU e];exact zA9 s k hs hns h1 _ _ d hX (hA r (hr.2.1 hw) (hr.2.2 hok) (by omega) k h2 h3 d hd0 (by omega))
theorem zJp(hna:b.zG.length<=1000)(hns:b.kN.length<=1000):∀N,zQ9 L g b so ao sc ac N
 | 0=>λf _ _ h=>by omega
 | N+1=>λf hw hok h s hs zTJ d hd0 hd=>zBw (zJp hna hns N) hna hns f hw hok (by omega) s hs zTJ d hd0 hd
end
