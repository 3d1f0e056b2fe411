import Derived.Test.YtebpgfodelggoabGreatKC36
import Derived.Test.YtebpgfodelggoabGreatKC30
set_option linter.unusedVariables false
set_option linter.unusedSimpArgs false
set_option maxRecDepth 100000
set_option maxHeartbeats 8000000
namespace Go.Proofs.YtebpgfodelggoabGreat
open Go.RowKit
section
variable {k:Pk} {E:Mt.Env} {A:Int->Mt.Att}
theorem zKx(w:World)(q:List Int):∃W1,W1=(w.alloc (.cells (zTS q) 130)).alloc (.cells (zTS []) 130)/\Below w.heap.size w W1/\W1.heap[w.heap.size]?=some (.cells (zTS q) 130 (0,0))/\W1.heap[w.heap.size+1]?=some (.cells (zTS []) 130 (0,0))/\W1.heap.size=w.heap.size+2 :=
 ⟨_,rfl,((Below.refl _ _).alloc (lG _) _).alloc (by simp) _,mX _ _ _,mF _ _ _,by simp⟩
theorem zV.zHf{w:World}{steps:Int}{hd:List Bool}{zD:Int}{wo:Option Addr}{wc:Nat}{V:List (List Int)}{q:List Int}(h:zV k w steps hd zD wo wc (V++[q])):∃gw,wo=some ⟨gw,0,none⟩/\w.rangeAt gw (V.length*43) (stC q)/\V.length+1<=wc:=by
 have hl:(V++[q]).length=V.length+1:=by simp
 obtain⟨gw,cap,hv,_,zTI⟩:=World.ownsRow.form h.wt (by omega);simp only[Value.slice.injEq]at hv;obtain⟨rfl,_,rfl⟩:=hv;refine⟨gw,rfl,λj v hj=>?_,?_⟩
 ·have zR3:j<43:=by
   rcases Nat.lt_or_ge j 43 with h | h
   ·exact h
   ·rw[List.getElem?_eq_none (by rw[zAk];omega)]at hj;cases hj
  rw[World.ownsRow.cellAt h.wt _ (by rw[hl];omega),zG6 _ V.length j (by omega) zR3];have:(V++[q]).getD V.length []=q:=by rw[lH,List.getElem?_append_right (lG _)];simp
  rw[this];simp[stC,zR3]at hj;rw[<-hj]
 ·rcases h.wt.2 with ⟨e,_⟩ | ⟨g',cap',cur,hv,_,_,hc,_⟩
  ·simp at e
  ·simp only[Value.slice.injEq]at hv;omega
def zB0:List Int:=List.replicate 43 0
theorem zE1:zB0.length=43:=by simp[zB0]
theorem zFW:zTS zB0=zTS []:=zMw λt ht=>by
 unfold Mt.gt zB0;rw[lH,List.getElem?_replicate,if_pos ht];rfl
theorem zOq(hx:Ctx k E A)(m:Nat)(ih:∀n,n<m->zQR k E A n):zQR k E A m:=by
 intro w hd kn zD wo wc W s q h ht hk hr hf hl hmb;obtain⟨p0,p1,p2,p3⟩:=hf.pc;obtain⟨W1,hW1,B1,T1,U1,Z1⟩:=zKx w q;have HP1:zV k W1 (k.zA+1-m) hd zD wo wc W:=h.below B1;have c9:=HP1.cells.2.2.2.2.2.2.2.2.2.1;have x0:W1.cell? ⟨w.heap.size,0,none⟩=some (.int .i64 (Mt.jX s:Nat)):=by rw[(zC T1).1 0,<-p0];exact yN q 0 (by omega)
 have HWT:=mP q (Mt.jX s:Nat) hf.lq HP1 (by omega);rw[set_self q 0 _ p0]at HWT;have zR4:Hid (Calls Tryz.prog 113 #[.pointer (some ⟨k.g,0,none⟩),.agg (zTS q),.int .i64 (Mt.jX s:Nat)] W1 λe w'=>e=.returned (.tuple #[])/\∃wo' wc',zV k w' (k.zA+1-m) hd zD wo' wc' (W++[q])/\jV k wo wo' W1 w'):=HWT;have HB1:Hid (Below w.heap.size w W1):=B1;have HU1:Hid (W1.heap[w.heap.size+1]?=some (.cells (zTS []) 130 (0,0))):=U1;have HZ1:Hid (W1.heap.size=w.heap.size+2):=Z1;have HF:Hid (zF9 k A s q):=hf;have HX:Hid (Ctx k E A):=hx;have HIH:Hid (∀n,n<m->zQR k E A n):=ih;have HT:Hid (Mt.Tab E hd kn/\kn.length=E.c.length*(E.t.size+1)*12/\(0<=zD/\zD<=5000)/\W.length+3*m+1<=50000/\(m:Int)<=k.zA+1/\0<=k.zA/\k.zA<=10000):=⟨ht,hk,hr,hl,hmb,hx.bud.1,hx.bud.2⟩
 have HP0:Hid (zV k w (k.zA+1-m) hd zD wo wc W):=h;have HR:Hid (∃R,R=Mt.fD E (m-1) [s] kn zD):=⟨_,rfl⟩
 obtain⟨R,hR⟩:=HR.out
 have zMB:Hid (∀q' b w',zCo k E A (Mt.qO E (m-1) s kn zD) (W.length+3*m+1) wo w W q' b w'↔(q'.length=43/\((R.qI=true/\zMv k wo w w' (W.length+3*m+1))\/(R.qI=false/\b=R.ok/\(R.ok=true->Mt.Sim A R.st q')/\Left k E wo w w' R W)))):=λq' b w'=>by
  obtain⟨l1,l2,l3,l4,l5,l6⟩:=Mt.zMn E (m-1) s kn zD;rw[<-hR]at l1 l2 l3 l4 l5 l6;unfold zCo Left;rw[l1,l2,l3,l4,l5];constructor
  ·rintro⟨a,b | b⟩
   ·exact⟨a,Or.inl b⟩
   ·exact⟨a,Or.inr ⟨b.1,b.2.1,λho=>by rw[l6 ho];exact b.2.2.1 ho,b.2.2.2⟩⟩
  ·rintro⟨a,b | b⟩
   ·exact⟨a,Or.inl b⟩
   ·exact⟨a,Or.inr ⟨b.1,b.2.1,λho=>by rw[<-l6 ho];exact b.2.2.1 ho,b.2.2.2⟩⟩
 have HRR:Hid (R=Mt.fD E (m-1) [s] kn zD):=hR;clear HR hR ht hk hr hl hmb hf hx ih HP1 HWT B1 U1 Z1 p1 p2 p3 h;generalize hgg:k.g=g at *;generalize Mt.jX s=pc at *;go_enter Tryz.func78,Tryz.ntmps78
 go_upto_region 1 with fail
 show Code.wp _ _ _ _ ((w.alloc (.cells (zTS q) 130)).alloc (.cells (zTS []) 130));rw[<-hW1];clear hW1;generalize hnn:w.heap.size=n at *;go_wp2_with (refine kQ 130 43 Tryz.underlying130 rfl Tryz.sizeSt (by rfl) (.tmp 3) (by rfl) n (by rfl) T1 (kK _) ?_)
 refine zR4.out.mono ?_;rintro e w2 ⟨rfl,wo1,wc1,hP2,hS2⟩
 have HU2:Hid (w2.heap[n+1]?=some (.cells (zTS []) 130 (0,0))/\n+1<w2.heap.size/\n+1≠k.g/\n+1≠k.gh/\blk wo1≠some (n+1)):=by
  have zTI:=HP0.out.lt;have hz:=HZ1.out;have:=hS2.size;rw[hnn]at zTI;refine⟨(hS2.block (n+1) (by omega) (by omega) (by omega) (λe=>by have:=(zTI.2.2.2.2.2 _ e).2;omega)).trans HU1.out,by omega,by omega,by omega,λe=>?_⟩;have:=hS2.sub (n+1) (by omega) e;have:=(zTI.2.2.2.2.2 _ this).2;omega
 have HS2:Hid (jV k wo wo1 w w2):=(jV.below (by rw[hnn];exact HB1.out)).trans hS2
 have HST:Hid (zD8 k E A R m W wo1 w2 m w2):=by
  obtain⟨t1,t2,t3,t4,t5,_⟩:=HT.out;have hn0:m-1+1=m\/m=0:=by omega
  rcases hn0 with hm | hm
  ·exact Or.inl ⟨by omega,lG _,hd,kn,zD,wo1,wc1,[s],[q],hP2,jV.refl _ _ _,t1,t2,t3,Pairs.cons (qs:=[]) HF.out Pairs.nil,HRR.out.symm,by simp only[List.length_cons,List.length_nil];omega⟩
  ·refine Or.inr ⟨hm,?_,hd,zD,wo1,wc1,W++[q],by rw[hm]at hP2;simpa using hP2,jV.refl _ _ _,by simp only[lM,List.length_cons,List.length_nil];omega⟩;rw[HRR.out,hm];rfl
 clear hP2 hS2 zR4 x0 T1 c9;go_wp2_with fail
 go_loopg [7] m (λgn u7 wr=>zD8 k E A R m W wo1 w2 gn wr)
 case atStart=>exact HST.out
 case round =>
  have zGa:Hid (zD8 k E A R m W wo1 w2 gk wr):=hrel;clear hrel HST;rcases zGa.out with ⟨g1,g2,hd1,kn1,yG,wo2,wc2,ss,qs,hP,hS,zQ8,hKn,hRm,zJm,zOr,hLen⟩ | ⟨g0,hov,hd1,yG,wo2,wc2,V,hP,hS,hVl⟩
  ·by_cases hq0:qs.length=0
   ·
    have hss:ss=[]:=List.length_eq_zero_iff.1 (by rw[zJm.len];exact hq0);have hqs:qs=[]:=List.length_eq_zero_iff.1 hq0;subst hss;subst hqs;rw[List.append_nil]at hP;have c9:=hP.cells.2.2.2.2.2.2.2.2.2.1;rw[hgg]at c9
    have U3:wr.heap[n+1]?=some (.cells (zTS []) 130 (0,0)):=by
     obtain⟨u1,u2,u3,u4,u5⟩:=HU2.out;exact(hS.block (n+1) u2 u3 u4 u5).trans u1
    have hgt:decide ((W.length:Int)>(W.length:Int))=false:=by simp
    have zMC:Hid (∀w4:World,(∀i,i≠n+1->w4.heap[i]?=wr.heap[i]?)->w4.heap.size=wr.heap.size->Below n wr w4->zCo k E A (Mt.qO E (m-1) s kn zD) (W.length+3*m+1) wo w W zB0 false w4):=λw4 o4 z4 b4=>by
     refine(zMB.out _ _ _).2 ⟨zE1,Or.inr ?_⟩;have eR:R=⟨[],false,gk-1,kn1,yG,false⟩:=zOr.symm;rw[eR];obtain⟨u1,u2,u3,u4,u5⟩:=HU2.out;have zTI:=hP.lt;have h0:=HP0.out.lt;rw[hnn]at h0;have zTK:blk wo2≠some (n+1):=λe=>u5 (hS.sub (n+1) u2 e)
     have hP4:zV k w4 (k.zA-((gk-1:Nat):Int)) hd1 yG wo2 wc2 W:=by
      have:=hP.same (o4 _ (by omega)) (o4 _ (by omega)) (o4 _ (by omega)) (o4 _ (by omega)) (o4 _ (by omega)) (λi hi=>o4 i (λe=>zTK (by rw[<-e];exact hi)));rw[show k.zA+1-(gk:Int)=k.zA-((gk-1:Nat):Int) by omega]at this;exact this
     have hS4:jV k wo wo2 w w4:=by
      have hSr:=HS2.out.trans hS;exact⟨b4.os.trans hSr.os,b4.tape.trans hSr.tape,b4.output.trans hSr.output,Nat.le_trans hSr.size b4.size,λi hi h1 h2 h3=>(o4 i (by omega)).trans (hSr.block i hi h1 h2 h3),hSr.sub⟩
     exact⟨rfl,rfl,λe=>(by cases e),hd1,wo2,wc2,hP4,hS4,zQ8⟩
    clear hP hS zQ8 hKn hRm zJm zOr hLen zGa zMB;go_wp2_with (refine zM 130 43 Tryz.sizeSt (by rfl) (.tmp 4) (.tmp 82) (by rfl) (n+1) (zTS []) (by rfl) (by rfl) U3 (kK _) (kK _) (mH _) ?_;intro w4 r1 r2 r3 r4)
    refine bodyPost_ret (jK 130 43 Tryz.underlying130 rfl Tryz.sizeSt rfl (by rfl) r1 (kK _)) rfl ⟨zB0,false,?_,zMC.out w4 r2 r3 (r4 n (by omega))⟩;rw[zFW];rfl
   ·
    obtain⟨s1,q1,ss',qs',rfl,rfl,hf1,hp'⟩:=zJm.out (by omega);rw[<-List.append_assoc]at hP;obtain⟨gw,rfl,hrg,hcap⟩:=hP.zHf
    have hVl:(W++qs').length+3*gk<=W.length+3*m:=by
     simp only[lM,List.length_cons,List.length_nil]at hLen |-;omega
    have zR5:qs'.length+1+3*gk<=3*m+1:=by
     simp only[lM,List.length_cons,List.length_nil]at hLen;omega
    obtain⟨t1,t2,t3,t4,t5,t6,t7⟩:=HT.out;have hcells:=hP.cells;have c9:=hcells.2.2.2.2.2.2.2.2.2.1;have c3:=hcells.2.2.2.1;have f9:=hcells.2.2.2.2.2.2.2.2.2.2 9;have f3:=hcells.2.2.2.2.2.2.2.2.2.2 3;rw[show((W++qs')++[q1]).length=(W++qs').length+1 by rw[lM];rfl]at c9;have zTl:W.length<=(W++qs').length:=by simp
    generalize hVe:W++qs'=V at *;rw[hgg]at c9 c3 f9 f3
    have HSP:Hid (Calls Tryz.prog 79 #[.pointer (some ⟨g,0,none⟩)] wr λe w'=>e=.returned (.bool false)/\Below wr.heap.size wr w'):=by
     have:=zCn hP;rw[hgg]at this;refine this.mono ?_;rintro e w' ⟨rfl,hb⟩;exact⟨by rw[show decide (k.zA+1-(gk:Int)>k.zA)=false by rw[lJ];omega],hb⟩
    have hgt:decide (W.length<V.length+1)=true:=by rw[decide_eq_true_eq];omega
    have hgt2:decide ((W.length:Int)<(V.length:Int)+1)=true:=by rw[decide_eq_true_eq];omega
    have HPH:Hid (zV k wr (k.zA+1-(gk:Int)) hd1 yG (some ⟨gw,0,none⟩) wc2 (V++[q1])):=hP;have HSH:Hid (jV k wo1 (some ⟨gw,0,none⟩) w2 wr):=hS;have HTH:Hid (Mt.Tab E hd1 kn1/\kn1.length=E.c.length*(E.t.size+1)*12/\(0<=yG/\yG<=5000)/\Pairs k A ss' qs'/\zF9 k A s1 q1/\Mt.fD E (gk-1) (s1::ss') kn1 yG=R/\V.length+3*gk<=W.length+3*m/\qs'.length+1+3*gk<=3*m+1/\W++qs'=V):=⟨zQ8,hKn,hRm,hp',hf1,zOr,hVl,zR5,hVe⟩
    have zTm:(gk:Int)<=10001:=by omega
    have zSL:(0:Int)<=k.zA+1-(gk:Int)/\k.zA+1-(gk:Int)<=10001:=by omega
    have zR6:Hid (∃ST,ST=k.zA+1-(gk:Int)):=⟨_,rfl⟩
    obtain⟨ST,zRF⟩:=zR6.out;have zR7:Hid (ST=k.zA+1-(gk:Int)):=zRF;rw[<-zRF]at zSL HPH c3;clear zR6 zRF;have zSM:V.length<=60000:=by omega
    have zSN:g<wr.heap.size:=by rw[<-hgg];exact hP.lt.1
    clear hP hS zQ8 hKn hRm hp' hf1 zOr hVl zR5 hVe hcells hLen zJm hq0 t1 t2 t3 t4 t5 t6 t7 zGa;go_wp2_with fail
    refine HSP.out.mono ?_;rintro e w3 ⟨rfl,zTL⟩;have HB3:Hid (Below wr.heap.size wr w3):=zTL;have HP3:Hid (zV k w3 ST hd1 yG (some ⟨gw,0,none⟩) wc2 (V++[q1])):=HPH.out.below zTL
    have R3:w3.rangeAt gw (V.length*43) (stC q1):=by
     obtain⟨gw',e1,e2,e3⟩:=HP3.out.zHf;cases e1;exact e2
    have d9:w3.cell? ⟨g,9,none⟩=some (.slice (some ⟨gw,0,none⟩) (V.length+1) wc2):=(World.cell?_of_block (a:=⟨g,9,none⟩) (zTL.block g zSN)).trans c9;clear zTL c9 c3 f9 f3 hrg HSP HPH;have zSO:V.length*43+43<=60000*43+43:=by omega
    go_upto_region 6 with (first|(refine wpList_load_mid (by rfl) 130 (.tmp 44) (by rfl) gw (V.length*43) (by rfl) (stC q1) _ R3 Tryz.underlying130 rfl (by rw[Tryz.sizeSt];rfl) ?_)|(refine zM 130 43 Tryz.sizeSt (by rfl) (.tmp 8) (.tmp 45) (by rfl) w3.heap.size (zTS q1) (by rfl) (by rfl) (by exact jR _ _) (by rfl) (kK _) (mH _) ?_;intro w4 r1 r2 r3 r4))
    have B4:Below w3.heap.size w3 w4:=((Below.refl _ _).alloc (lG _) _).trans (r4 _ (lG _));have HP4:zV k w4 ST hd1 yG (some ⟨gw,0,none⟩) wc2 (V++[q1]):=HP3.out.below B4;have hcells:=HP4.cells;have c9:=hcells.2.2.2.2.2.2.2.2.2.1;have c3:=hcells.2.2.2.1;have f9:=hcells.2.2.2.2.2.2.2.2.2.2 9;have f3:=hcells.2.2.2.2.2.2.2.2.2.2 3;rw[show(V++[q1]).length=V.length+1 by rw[lM];rfl]at c9;rw[hgg]at c9 c3 f9 f3
    have HP5:Hid (zV k ((w4.setCell ⟨g,9,none⟩ (.slice (some ⟨gw,0,none⟩) V.length wc2)).setCell ⟨g,3,none⟩ (.int .i64 (ST+1))) (ST+1) hd1 yG (some ⟨gw,0,none⟩) wc2 V):=by
     have:=(HP4.cut V.length (by simp)).zOj (ST+1);rw[hgg,List.take_left]at this;exact this
    have T5:((w4.setCell ⟨g,9,none⟩ (.slice (some ⟨gw,0,none⟩) V.length wc2)).setCell ⟨g,3,none⟩ (.int .i64 (ST+1))).heap[w3.heap.size]?=some (.cells (zTS q1) 130 (0,0)):=by
     have hne:w3.heap.size≠g:=by have:=HB3.out.size;omega
     rw[Below.heap_setCell _ _ _ _ hne,Below.heap_setCell _ _ _ _ hne];exact r1
    have HS5:Hid (jV k wo1 (some ⟨gw,0,none⟩) w2 ((w4.setCell ⟨g,9,none⟩ (.slice (some ⟨gw,0,none⟩) V.length wc2)).setCell ⟨g,3,none⟩ (.int .i64 (ST+1)))) :=
     ((((HSH.out.trans (jV.below HB3.out)).trans (jV.below B4)).set (p:=⟨g,9,none⟩) (Or.inl hgg.symm) _).set (p:=⟨g,3,none⟩) (Or.inl hgg.symm) _)
    have HM8:Hid (w3.heap.size≠g/\w3.heap.size≠k.gh/\gw≠w3.heap.size):=by
     have hh:=HP3.out.lt;have h1:=hh.1;have h2:=hh.2.2.2.2.1;have h3:=(hh.2.2.2.2.2 gw rfl).2;rw[hgg]at h1;exact⟨by omega,by omega,by omega⟩
    clear r1 r2 r3 r4 B4 HP4 hcells R3 d9 HP3 HSH HB3 zSO;go_upto_region 8 with fail
    generalize (w4.setCell ⟨g,9,none⟩ (.slice (some ⟨gw,0,none⟩) V.length wc2)).setCell ⟨g,3,none⟩ (.int .i64 (ST+1))=w5 at *;clear c9 c3 f9 f3;generalize hnb:w3.heap.size=nb at *
    have zR8:Hid (Calls Tryz.prog 114 #[.pointer (some ⟨g,4,none⟩),.agg (zTS q1)] w5.drew λe w'=>e=.returned (.bool (E.dead s1 kn1))/\jV k (some ⟨gw,0,none⟩) (some ⟨gw,0,none⟩) w5.drew w'/\∃hd',zV k w' (ST+1) hd' (E.zX s1 kn1 yG) (some ⟨gw,0,none⟩) wc2 V/\Mt.Tab E hd' (E.zTN s1 kn1 yG)):=by
     obtain⟨u1,u2,u3,u4,u5,u6,u7,u8,u9⟩:=HTH.out;obtain⟨v0,v1,v2,v3⟩:=u5.pc;have:=zMu HX.out HP5.out.drew u1 u2 q1 (by omega) (by omega) u3;obtain⟨d1,d2,d3⟩:=zMz HX.out u5 kn1 yG;rw[d1,d2,d3,hgg]at this;exact this
    have hcr:∀z:World,z.heap[nb]?=some (.cells (zTS q1) 130 (0,0))->z.rangeAt nb 0 (zTS q1).toList:=λz hz=>xP hz
    refine wp_region_held_drew (S:=λz:World=>z.heap[nb]?=some (.cells (zTS q1) 130 (0,0))) (by kernel_rfl) T5 (λhH=>?_);refine kD 0 62 (.pointer (some ⟨g,0,none⟩)) rfl rfl (by kernel_rfl) (by kernel_rfl) (by kernel_rfl) (λ_ _ _ h=>h) (Or.inl ⟨by rfl,λz hz=>by clear hH hz hcr T5;go_simp⟩) (by assumption) ?_;simp only[Act.put,lC,lD,lF];refine kD 1 63 (.pointer (some ⟨g,0,none⟩)) rfl rfl (by kernel_rfl) (by kernel_rfl) (by kernel_rfl) (λ_ _ _ h=>h) (Or.inl ⟨by rfl,λz hz=>by clear hH hz hcr T5;go_simp⟩) (by assumption) ?_;simp only[Act.put,lC,lD,lF];refine kD 2 64 (.pointer (some ⟨g,4,none⟩)) rfl rfl (by kernel_rfl) (by kernel_rfl) (by kernel_rfl) (λ_ _ _ h=>h) (Or.inl ⟨by rfl,λz hz=>by clear hH hz hcr T5;go_simp⟩) (by assumption) ?_;simp only[Act.put,lC,lD,lF];refine kD 3 65 (.agg (zTS q1)) rfl rfl (by kernel_rfl) (by kernel_rfl) (by kernel_rfl) (λ_ _ _ h=>h) (yieldsIf_load_mid (by rfl) _ _ rfl _ _ rfl _ _ hcr Tryz.underlying130 rfl (by rw[Tryz.sizeSt];rfl)) (by assumption) ?_;simp only[Act.put,lC,lD,lF];refine wpAnyH_ready (rs:=[4]) (by kernel_rfl) (by simp) ?_;refine AllReadyH.cons rfl (λK hK=>?_) AllReadyH.nil;clear hcr hH
    go_simp
    refine zR8.out.mono ?_;rintro e w6 ⟨rfl,hS6,hd6,hP6,zQW⟩
    have T6:w6.heap[nb]?=some (.cells (zTS q1) 130 (0,0)):=by
     obtain⟨m1,m2,m3⟩:=HM8.out;refine(hS6.block nb ?_ (by rw[hgg];exact m1) m2 (λe=>m3 (by simpa[blk]using e))).trans T5;exact(lI.1 T5).1
    have HS6:Hid (jV k wo1 (some ⟨gw,0,none⟩) w2 w6):=HS5.out.drew.trans hS6;have HP6:Hid (zV k w6 (ST+1) hd6 (E.zX s1 kn1 yG) (some ⟨gw,0,none⟩) wc2 V/\Mt.Tab E hd6 (E.zTN s1 kn1 yG)):=⟨hP6,zQW⟩
    clear hS6 hP6 zQW T5 zR8 HS5 HP5
    go_simp
    refine hK.out _ _ T6 (λhH2=>?_);clear hK K;generalize hdd:E.dead s1 kn1=dd at *;refine kD 5 9 (.bool dd) rfl rfl (by kernel_rfl) (by kernel_rfl) (by kernel_rfl) (λ_ _ _ h=>h) (Or.inl ⟨by rfl,λz hz=>by clear hH2 hz T6;go_simp⟩) (by assumption) ?_;simp only[Act.put,lC,lD,lF];refine wpAnyH_done (by kernel_rfl) ?_ _;clear hH2;cases dd
    ·have HLK:Hid (Calls Tryz.prog 115 #[.pointer (some ⟨g,0,none⟩),.agg (zTS q1)] w6 λe w'=>∃b,e=.returned (.bool b)/\((b=true/\zJj k E A R m W qs' wo1 w2 q1 w')\/(b=false/\∃gn',gn'<gk/\zD8 k E A R m W wo1 w2 gn' w'))/\w'.heap[nb]?=some (.cells (zTS q1) 130 (0,0))):=by
      obtain⟨u1,u2,u3,u4,u5,u6,u7,u8,u9⟩:=HTH.out;obtain⟨t1,t2,t3,t4,t5,t6,t7⟩:=HT.out;have zRG:ST+1=k.zA+1-((gk-1:Nat):Int):=by rw[zR7.out];omega
      have hP6:=HP6.out.1;rw[zRG]at hP6;have hlk:=zMA HX.out u5 (HIH.out (gk-1) (by omega)) hP6 HP6.out.2 (by rw[E.zDx];exact u2) (E.tH s1 kn1 yG u3) (by omega) (by omega);rw[hgg]at hlk;refine hlk.mono ?_;rintro e w7 ⟨b,rfl,hL⟩;refine⟨b,rfl,?_,?_⟩
      ·subst u9;have:=zKv (m:=m) HX.out u5 u4 (n:=gk-1) (by omega) HP6.out.2 u2 u3 hdd u6 (by omega) HS6.out hL;rw[show gk-1+1=gk by omega]at this;exact this
      ·obtain⟨wo',hSl⟩:=zKw hL;obtain⟨m1,m2,m3⟩:=HM8.out;exact(hSl.block nb (lI.1 T6).1 (by rw[hgg];exact m1) m2 (λe=>m3 (by simpa[blk]using e))).trans T6
     clear HP6;go_wp2_with (refine kQ 130 43 Tryz.underlying130 rfl Tryz.sizeSt (by rfl) (.tmp 8) (by rfl) nb (by rfl) T6 (kK _) ?_)
     refine HLK.out.mono ?_;rintro e w7 ⟨b,rfl,hA,T7⟩;have HA:Hid ((b=true/\zJj k E A R m W qs' wo1 w2 q1 w7)\/(b=false/\∃gn',gn'<gk/\zD8 k E A R m W wo1 w2 gn' w7)):=hA;clear hA HLK T6;cases b
     ·obtain⟨gn',hgn,zR9⟩:∃gn',gn'<gk/\zD8 k E A R m W wo1 w2 gn' w7:=by
       rcases HA.out with ⟨e,_⟩ | ⟨_,h⟩
       ·cases e
       ·exact h
      have zSP:Hid (zD8 k E A R m W wo1 w2 gn' w7):=zR9;have HGN:Hid (gn'<gk):=hgn;clear zR9 hgn;go_wp2_with fail
      go_roundg gn'
      case measure=>exact HGN.out
      case rel=>exact zSP.out
     ·obtain⟨st9,hd9,zRH,wo9,wc9,hP9,hS9,hl9,hR9⟩:zJj k E A R m W qs' wo1 w2 q1 w7:=by
       rcases HA.out with ⟨_,h⟩ | ⟨e,_⟩
       ·exact h
       ·cases e
      have hcells:=hP9.cells;have c9:=hcells.2.2.2.2.2.2.2.2.2.1;have f9:=hcells.2.2.2.2.2.2.2.2.2.2 9;rw[hgg]at c9 f9
      have U9:w7.heap[n+1]?=some (.cells (zTS []) 130 (0,0)):=by
       obtain⟨u1,u2,u3,u4,u5⟩:=HU2.out;exact(hS9.block (n+1) u2 u3 u4 u5).trans u1
      have hg7:g<w7.heap.size:=by rw[<-hgg];exact hP9.lt.1
      have hWl:W.length<=(W++qs').length:=by simp
      have hcut:=hP9.cut W.length hWl;rw[hgg,List.take_left]at hcut;have T8:(w7.setCell ⟨g,9,none⟩ (.slice wo9 W.length wc9)).heap[nb]?=some (.cells (zTS q1) 130 (0,0)):=(Below.heap_setCell _ _ _ _ HM8.out.1).trans T7;have U8:(w7.setCell ⟨g,9,none⟩ (.slice wo9 W.length wc9)).heap[n+1]?=some (.cells (zTS []) 130 (0,0)):=(Below.heap_setCell _ _ _ _ (by show n+1≠g;rw[<-hgg];exact HU2.out.2.2.1)).trans U9
      have zMC:Hid (∀w9:World,(∀i,i≠n+1->w9.heap[i]?=(w7.setCell ⟨g,9,none⟩ (.slice wo9 W.length wc9)).heap[i]?)->Below n (w7.setCell ⟨g,9,none⟩ (.slice wo9 W.length wc9)) w9->zCo k E A (Mt.qO E (m-1) s kn zD) (W.length+3*m+1) wo w W q1 true w9):=λw9 o9 b9=>by
       obtain⟨u1,u2,u3,u4,u5⟩:=HU2.out;have h0:=HP0.out.lt;rw[hnn]at h0;have hb9:blk wo9≠some (n+1):=λe=>u5 (hS9.sub (n+1) u2 e)
       have zSa:=hcut.same (o9 _ (by omega)) (o9 _ (by omega)) (o9 _ (by omega)) (o9 _ (by omega)) (o9 _ (by omega)) (λi hi=>o9 i (λe=>hb9 (by rw[<-e];exact hi)))
       have zSb:jV k wo wo9 w w9:=by
        have hSr:=(HS2.out.trans hS9).set (p:=⟨g,9,none⟩) (Or.inl hgg.symm) (.slice wo9 W.length wc9);exact⟨b9.os.trans hSr.os,b9.tape.trans hSr.tape,b9.output.trans hSr.output,Nat.le_trans hSr.size b9.size,λi hi h1 h2 h3=>(o9 i (by omega)).trans (hSr.block i hi h1 h2 h3),hSr.sub⟩
       refine(zMB.out _ _ _).2 ⟨HTH.out.2.2.2.2.1.lq,?_⟩;rcases hR9 with ⟨a1,rfl⟩ | ⟨a1,a2,a3,rfl,rfl,a6⟩
       ·exact Or.inl ⟨a1,hd9,zRH,wo9,wc9,W,zSa,zSb,by omega⟩
       ·exact Or.inr ⟨a1,a2.symm,λ_=>a3,hd9,wo9,wc9,zSa,zSb,a6⟩
      have HWO:Hid ((wo9=none/\wc9=0/\(W++qs').length=0)\/∃gw9,wo9=some ⟨gw9,0,none⟩/\W.length<=wc9):=by
       rcases hP9.wt.2 with ⟨e,e2⟩ | ⟨g',cap',cur,hv,_,_,hc,_⟩
       ·simp only[Value.slice.injEq]at e;exact Or.inl ⟨e.1,e.2.2,e2⟩
       ·simp only[Value.slice.injEq]at hv;exact Or.inr ⟨g',hv.1,by omega⟩
      clear hP9 hS9 hl9 hR9 hcells hcut U9 T7 HA;rcases HWO.out with ⟨rfl,rfl,hz⟩ | ⟨gw9,rfl,zSQ⟩
      ·have hW0:W.length=0:=by omega
       rw[hz]at c9;rw[hW0]at T8 U8 zMC;have HW0:Hid (W=[]):=List.length_eq_zero_iff.1 hW0;clear hWl hz;generalize W.length=WL at *;subst hW0;go_wp2_with (first|(refine kQ 130 43 Tryz.underlying130 rfl Tryz.sizeSt (by rfl) (.tmp 8) (by rfl) nb (by rfl) T8 (kK _) ?_)|(refine zM 130 43 Tryz.sizeSt (by rfl) (.tmp 4) (.tmp 81) (by rfl) (n+1) (zTS q1) (by rfl) (by rfl) U8 (kK _) (kK _) (mH _) ?_;intro w9 r1 r2 r3 r4))
       refine bodyPost_ret (jK 130 43 Tryz.underlying130 rfl Tryz.sizeSt rfl (by rfl) r1 (kK _)) rfl ⟨q1,true,rfl,?_⟩;have hfin:=zMC.out w9 r2 (r4 n (by omega));rw[show(0:Nat)+3*m+1=W.length+3*m+1 by rw[HW0.out];rfl]at hfin;exact hfin
      ·have zSc:(W.length:Int)<=(wc9:Int):=by omega
       generalize (W++qs').length=LL at *;go_wp2_with (first|(refine kQ 130 43 Tryz.underlying130 rfl Tryz.sizeSt (by rfl) (.tmp 8) (by rfl) nb (by rfl) T8 (kK _) ?_)|(refine zM 130 43 Tryz.sizeSt (by rfl) (.tmp 4) (.tmp 81) (by rfl) (n+1) (zTS q1) (by rfl) (by rfl) U8 (kK _) (kK _) (mH _) ?_;intro w9 r1 r2 r3 r4))
       refine bodyPost_ret (jK 130 43 Tryz.underlying130 rfl Tryz.sizeSt rfl (by rfl) r1 (kK _)) rfl ⟨q1,true,rfl,zMC.out w9 r2 (r4 n (by omega))⟩
    ·have zRI:Hid (zD8 k E A R m W wo1 w2 (gk-1) w6):=by
      obtain⟨u1,u2,u3,u4,u5,u6,u7,u8,u9⟩:=HTH.out;have zRG:ST+1=k.zA+1-((gk-1:Nat):Int):=by rw[zR7.out];omega
      have hP6:=HP6.out.1;rw[zRG,<-u9]at hP6;refine zJl (by omega) hP6 HS6.out HP6.out.2 (by rw[E.zDx];exact u2) (E.tH s1 kn1 yG u3) u4 u6 ?_ (by omega);intro j hj;rw[hj];exact Mt.zKr E j s1 ss' kn1 yG hdd
     clear HP6;go_wp2_with fail
     go_roundg (gk-1)
     case measure=>omega
     case rel=>exact zRI.out
  ·have c9:=hP.cells.2.2.2.2.2.2.2.2.2.1;rw[hgg]at c9
   have HSP:Hid (Calls Tryz.prog 79 #[.pointer (some ⟨g,0,none⟩)] wr λe w'=>e=.returned (.bool true)/\Below wr.heap.size wr w'):=by
    have:=zCn hP;rw[hgg]at this;refine this.mono ?_;rintro e w' ⟨rfl,hb⟩;exact⟨by rw[show decide (k.zA+1>k.zA)=true by rw[decide_eq_true_eq];omega],hb⟩
   have U3:wr.heap[n+1]?=some (.cells (zTS []) 130 (0,0)):=by
    obtain⟨u1,u2,u3,u4,u5⟩:=HU2.out;exact(hS.block (n+1) u2 u3 u4 u5).trans u1
   have zMC:Hid (∀w3 w4:World,Below wr.heap.size wr w3->(∀i,i≠n+1->w4.heap[i]?=w3.heap[i]?)->Below n w3 w4->zCo k E A (Mt.qO E (m-1) s kn zD) (W.length+3*m+1) wo w W zB0 false w4):=λw3 w4 b3 o4 b4=>by
    refine(zMB.out _ _ _).2 ⟨zE1,Or.inl ⟨hov,?_⟩⟩;obtain⟨u1,u2,u3,u4,u5⟩:=HU2.out;have h0:=HP0.out.lt;rw[hnn]at h0;have zTK:blk wo2≠some (n+1):=λe=>u5 (hS.sub (n+1) u2 e)
    have hP4:=(hP.below b3).same (o4 _ (by omega)) (o4 _ (by omega)) (o4 _ (by omega)) (o4 _ (by omega)) (o4 _ (by omega)) (λi hi=>o4 i (λe=>zTK (by rw[<-e];exact hi)))
    have hS4:jV k wo wo2 w w4:=by
     have hSr:=(HS2.out.trans hS).trans (jV.below b3);exact⟨b4.os.trans hSr.os,b4.tape.trans hSr.tape,b4.output.trans hSr.output,Nat.le_trans hSr.size b4.size,λi hi h1 h2 h3=>(o4 i (by omega)).trans (hSr.block i hi h1 h2 h3),hSr.sub⟩
    exact⟨hd1,yG,wo2,wc2,V,hP4,hS4,hVl⟩
   have hz:n+1<wr.heap.size:=(lI.1 U3).1;clear hP hS hov hVl zGa zMB;cases hgt:decide (W.length<V.length)
   ·go_wp2_with (refine zM 130 43 Tryz.sizeSt (by rfl) (.tmp 4) (.tmp 82) (by rfl) (n+1) (zTS []) (by rfl) (by rfl) U3 (kK _) (kK _) (mH _) ?_;intro w4 r1 r2 r3 r4)
    refine bodyPost_ret (jK 130 43 Tryz.underlying130 rfl Tryz.sizeSt rfl (by rfl) r1 (kK _)) rfl ⟨zB0,false,?_,zMC.out wr w4 (Below.refl _ _) r2 (r4 n (by omega))⟩;rw[zFW];rfl
   ·go_wp2_with fail
    refine HSP.out.mono ?_;rintro e w3 ⟨rfl,zTL⟩;have U4:w3.heap[n+1]?=some (.cells (zTS []) 130 (0,0)):=(zTL.block _ hz).trans U3;have HB3:Hid (Below wr.heap.size wr w3):=zTL;clear zTL U3 c9;go_wp2_with (refine zM 130 43 Tryz.sizeSt (by rfl) (.tmp 4) (.tmp 82) (by rfl) (n+1) (zTS []) (by rfl) (by rfl) U4 (kK _) (kK _) (mH _) ?_;intro w4 r1 r2 r3 r4)
    refine bodyPost_ret (jK 130 43 Tryz.underlying130 rfl Tryz.sizeSt rfl (by rfl) r1 (kK _)) rfl ⟨zB0,false,?_,zMC.out w3 w4 HB3.out r2 (r4 n (by omega))⟩;rw[zFW];rfl
theorem zPS(hx:Ctx k E A):∀m,zQR k E A m:=λm=>Nat.strongRecOn m λm ih=>zOq hx m ih
end
def zCq(L:Nat)(g:Nat)(b:Mt.PB)(so ao:Option Addr)(sc ac:Nat)(d:Int)(co:Option Addr)(w:World)(c':List Mt.zTG)(w':World):Prop :=
 ∃co' cc',LAt L w' g b so ao sc ac co' cc' c' d/\jQ g co co' w w'
theorem zD9{L:Nat}{w:World}{g:Nat}{b:Mt.PB}{so ao:Option Addr}{sc ac:Nat}{co:Option Addr}{cc:Nat}{c:List Mt.zTG}{d:Int}(k:Nat)(h:LAt L w g b so ao sc ac co cc c d)(hn:c.length<=1000000)(hk:k<c.length) :
  Calls Tryz.prog 149 #[.pointer (some ⟨g,0,none⟩),.int .i64 (k:Int)] w λe w'=>e=.returned (.tuple #[])/\zCq L g b so ao sc ac d co w (c.set k { c.getD k Mt.jY with y:=c.length+1 }++[⟨12,0,0,[]⟩]) w':=by
 have HP:Hid (Calls Tryz.prog 71 #[.pointer (some ⟨g,0,none⟩),.agg (yR ⟨12,0,0,[]⟩)] w _):=dY (x:=⟨12,0,0,[]⟩) h hn;clear h;unfold yR at HP;go_enter Tryz.func149,Tryz.ntmps149
 go_wp2_with fail
 refine HP.out.mono ?_;rintro e w1 ⟨rfl,q,cap,hA,hS⟩;obtain⟨c0,c1,c2,c3,hf⟩:=hA.cells;obtain⟨q',eq,hqg,hqs,hcap⟩:=hA.form (by simp);simp only[Option.some.injEq,Addr.mk.injEq,and_true,true_and]at eq;subst eq;have hl:(c++[(⟨12,0,0,[]⟩:Mt.zTG)]).length=c.length+1:=by simp
 rw[hl]at c2 hcap
 have cy:w1.cell? ⟨q,k*4+2,none⟩=some (.int .i64 (c.getD k Mt.jY).y):=by
  rw[World.ownsRow.cellAt hA.code _ (by rw[hl];omega),bX _ k 2 (by rw[hl];omega) (by omega),lH,List.getElem?_append_left hk,<-lH];rfl
 have fy:w1.frozen? ⟨q,k*4+2,none⟩=false:=World.ownsRow.frozenAt hA.code _;have HA:Hid (LAt L w1 g b so ao sc ac (some ⟨q,0,none⟩) cap (c++[⟨12,0,0,[]⟩]) d):=hA;have HS:Hid (jQ g co (some ⟨q,0,none⟩) w w1):=hS;have hg1:g<w1.heap.size:=hA.lt.1;clear hA hS hf HP c0 c1 c3;have hk':(k:Int)<(c.length:Int)+1:=by omega
 have HE:Hid ((c++[(⟨12,0,0,[]⟩:Mt.zTG)]).set k { c.getD k Mt.jY with y:=c.length+1 }=c.set k { c.getD k Mt.jY with y:=c.length+1 }++[⟨12,0,0,[]⟩]):=by
  show _=_;rw[List.set_append_left _ _ hk]
 have HD:Hid ((c++[(⟨12,0,0,[]⟩:Mt.zTG)]).getD k Mt.jY=c.getD k Mt.jY):=by
  show _=_;rw[lH,List.getElem?_append_left hk,<-lH]
 go_wp2_with fail
 go_region
 go_wp2_with fail
 go_returns;have M:=HA.out.zFO (gc:=q) k 2 [.int .i64 (c.length+1)] { c.getD k Mt.jY with y:=c.length+1 } (by rw[hl];omega) (by simp) (by rw[HD.out];rfl);rw[HE.out]at M;exact⟨rfl,_,_,M.drew,(HS.out.set (p:=⟨q,k*4+2,none⟩) (Or.inr rfl) _).drew⟩
theorem zE2{L:Nat}{w:World}{g:Nat}{b:Mt.PB}{so ao:Option Addr}{sc ac:Nat}{q:Nat}{cc:Nat}{c:List Mt.zTG}{d:Int}(h:LAt L w g b so ao sc ac (some ⟨q,0,none⟩) cc c d)(k:Nat)(hk:k<c.length):w.there q (k*4) 4:=zG1 h.code _ _ (by omega)
theorem zJn{L:Nat}{w:World}{g:Nat}{b:Mt.PB}{so ao:Option Addr}{sc ac:Nat}{co:Option Addr}{cc:Nat}{c:List Mt.zTG}{d:Int}(k:Nat)(m:Int)(h:LAt L w g b so ao sc ac co cc c d)(hn:c.length<=1000000)(hk:k<c.length) :
  Calls Tryz.prog 157 #[.pointer (some ⟨g,0,none⟩),.int .i64 (k:Int),.int .i64 m] w λe w'=>e=.returned (.tuple #[])/\LAt L w' g b so ao sc ac co cc (c.set k (Mt.spl (k+1) c.length (decide (m=2)))) d/\jQ g co co w w':=by
 obtain⟨q,eq,hqg,hqs,hcap⟩:=h.form (by omega);subst eq;obtain⟨c0,c1,c2,c3,hf⟩:=h.cells;have HA:Hid (LAt L w g b so ao sc ac (some ⟨q,0,none⟩) cc c d):=h;have HT:=zE2 h k hk;have hk':(k:Int)<(c.length:Int):=by omega
 clear h hf c0 c1 c3
 have HS:Hid (∀vs a',kM a'=setMany (kM (c.getD k Mt.jY)) 0 vs->vs.length=4->LAt L (w.setCells q (k*4) vs) g b so ao sc ac (some ⟨q,0,none⟩) cc (c.set k a') d/\jQ g (some ⟨q,0,none⟩) (some ⟨q,0,none⟩) w (w.setCells q (k*4) vs)):=λvs a' h1 h2 =>
  ⟨HA.out.zFO k 0 vs a' hk (by omega) h1,(jQ.refl _ _ _).setMany _ _ _ (Or.inr rfl)⟩
 cases hm:(m==2)
 ·have e:decide (m=2)=false:=by simpa using hm
  rw[e];go_enter Tryz.func157,Tryz.ntmps157
  go_wp2_with (refine wpList_store_mid (by rfl) 48 (.tmp 34) (.tmp 33) (by rfl) q (k*4) (yR ⟨2,k+1,c.length,[]⟩) (by rfl) (by rfl) HT (by rw[Tryz.sizeIn];rfl) (tN _) ?_)
  go_returns;exact⟨rfl,HS.out (yR ⟨2,k+1,c.length,[]⟩).toList (Mt.spl (k+1) c.length false) rfl rfl⟩
 ·have e:decide (m=2)=true:=by simpa using hm
  rw[e];go_enter Tryz.func157,Tryz.ntmps157
  go_wp2_with (refine wpList_store_mid (by rfl) 48 (.tmp 25) (.tmp 24) (by rfl) q (k*4) (yR ⟨2,c.length,k+1,[]⟩) (by rfl) (by rfl) HT (by rw[Tryz.sizeIn];rfl) (tN _) ?_)
  go_returns;exact⟨rfl,HS.out (yR ⟨2,c.length,k+1,[]⟩).toList (Mt.spl (k+1) c.length true) rfl rfl⟩
def Lays(L:Nat)(g:Nat)(b:Mt.PB)(so ao:Option Addr)(sc ac:Nat)(d:Int)(fn:Nat)(args:Array Value)(X:Mt.Re):Prop :=
 ∀(w:World) (co:Option Addr) (cc:Nat) (c:List Mt.zTG),LAt L w g b so ao sc ac co cc c d->c.length+X.len<=1000 ->
  Calls Tryz.prog fn args w λe w'=>e=.returned (.tuple #[])/\zCq L g b so ao sc ac d co w (c++X.code c.length d) w'
structure Bx (W:World) (g:Nat) (co:Option Addr) (n:Nat) (A:Mt.PA):Prop where
 bk:W.heap[n]?=some (.cells (zTR A).toArray 180 (0,0))
 ng:n≠g
 nc:blk co≠some n
section
variable {L:Nat} {w w':World} {g:Nat} {b:Mt.PB} {so ao:Option Addr} {sc ac:Nat} {co co':Option Addr} {cc:Nat} {c:List Mt.zTG} {d:Int} {A:Mt.PA} {n:Nat}
theorem Bx.lt(h:Bx w g co n A):n<w.heap.size:=(lI.1 h.bk).1
theorem Bx.step(h:Bx w g co n A)(s:jQ g co co' w w'):Bx w' g co' n A:=⟨(s.block n h.lt h.ng h.nc).trans h.bk,h.ng,λe=>h.nc (s.sub n h.lt e)⟩
theorem Bx.new(h:LAt L w g b so ao sc ac co cc c d)(A:Mt.PA):Bx (w.alloc (.cells (zTR A).toArray 180)) g co w.heap.size A/\LAt L (w.alloc (.cells (zTR A).toArray 180)) g b so ao sc ac co cc c d/\jQ g co co w (w.alloc (.cells (zTR A).toArray 180)) :=
 have hb:Below w.heap.size w (w.alloc (.cells (zTR A).toArray 180)):=(Below.refl _ _).alloc (lG _) _
 ⟨⟨heap_alloc_new _ _,λe=>by have:=h.lt.1;omega,λe=>by have:=(h.lt.2.1 _ e).2;omega⟩,h.below hb,jQ.below hb⟩
theorem Bx.cell(h:Bx w g co n A)(k:Nat):w.cell? ⟨n,k,none⟩=(zTR A)[k]?:=by
 have:=(zC h.bk).1 k;rw[this];simp
end
theorem dZ{L g:Nat}{b:Mt.PB}{so ao:Option Addr}{sc ac:Nat}{d:Int}{co co1:Option Addr}{w w1 w2:World}{c:List Mt.zTG}(s:jQ g co co1 w w1)(h:zCq L g b so ao sc ac d co1 w1 c w2):zCq L g b so ao sc ac d co w c w2:=by
 obtain⟨co',cc',h1,h2⟩:=h;exact⟨co',cc',h1,s.trans h2⟩
theorem set_mid(c:List Mt.zTG)(x z:Mt.zTG)(Y:List Mt.zTG):(c++[x]++Y).set c.length z=c++z::Y:=by
 rw[List.append_assoc,List.set_append_right _ _ (lG _)];simp
theorem zIu(c:List Mt.zTG)(x:Mt.zTG)(Y:List Mt.zTG):(c++[x]++Y).getD c.length Mt.jY=x:=by
 rw[List.append_assoc,lH,List.getElem?_append_right (lG _)];simp
section
variable {L:Nat} {g:Nat} {b:Mt.PB} {so ao:Option Addr} {sc ac:Nat} {d:Int}
theorem zIv(s q:Int)(X:Mt.Re)(hX:Lays L g b so ao sc ac d 70 #[.pointer (some ⟨g,0,none⟩),.int .i64 q] X) :
  Lays L g b so ao sc ac d 156 #[.pointer (some ⟨g,0,none⟩),.int .i64 s,.int .i64 q] (.sub s X):=by
 intro w co cc c h hn;have hn':c.length+X.len+2<=1000:=by simp only[Mt.Re.len]at hn;omega
 have HP:Hid (Calls Tryz.prog 71 #[.pointer (some ⟨g,0,none⟩),.agg (yR ⟨11,s,0,[]⟩)] w _):=dY (x:=⟨11,s,0,[]⟩) h (by omega);have HX:Hid (Lays L g b so ao sc ac d 70 #[.pointer (some ⟨g,0,none⟩),.int .i64 q] X):=hX
 have HE:Hid (c++(Mt.Re.sub s X).code c.length d=(c++[(⟨11,s,0,[]⟩:Mt.zTG)]++X.code ((c.length+1:Nat):Int) d).set c.length ⟨11,s,(c.length+1+X.len:Nat)+1,[]⟩++[⟨12,0,0,[]⟩]):=by
  show _=_;rw[set_mid];simp[Mt.Re.code];omega
 rw[HE.out];have hl:(c++[(⟨11,s,0,[]⟩:Mt.zTG)]).length=c.length+1:=by simp
 have hl2:∀z:Int,(c++[(⟨11,s,0,[]⟩:Mt.zTG)]++X.code z d).length=c.length+1+X.len:=λz=>by rw[lM,hl,Mt.Re.zQ]
 clear h hX hn;unfold yR at HP;go_enter Tryz.func156,Tryz.ntmps156
 go_wp2_with fail
 refine HP.out.mono ?_;rintro e w1 ⟨rfl,q1,zPT,hA,hS⟩;have H1:Hid (Calls Tryz.prog 70 #[.pointer (some ⟨g,0,none⟩),.int .i64 q] w1 _):=HX.out w1 _ _ _ hA (by rw[hl];omega);have HS:Hid (jQ g co (some ⟨q1,0,none⟩) w w1):=hS;clear hA hS;go_wp2_with fail
 refine H1.out.mono ?_;rintro e w2 ⟨rfl,co2,cc2,hA,hS⟩;rw[hl]at hA;have H2:=zD9 c.length hA (by rw[hl2];omega) (by rw[hl2];omega);rw[zIu,hl2]at H2;have H2':Hid (Calls Tryz.prog 149 #[.pointer (some ⟨g,0,none⟩),.int .i64 ((c.length:Nat):Int)] w2 _):=H2;have HS2:Hid (jQ g co co2 w w2):=HS.out.trans hS;clear hA hS H2;go_wp2_with fail
 refine H2'.out.mono ?_;rintro e w3 ⟨rfl,hD⟩;have HD:Hid _:=dZ HS2.out hD;clear hD;go_wp2_with fail
 go_returns;exact⟨rfl,HD.out⟩
theorem zEu(A:Mt.PA)(q:Int)(X:Mt.Re)(hg:A.tok.group=2)(hb:A.body=q)(hX:Lays L g b so ao sc ac d 70 #[.pointer (some ⟨g,0,none⟩),.int .i64 q] X) :
  Lays L g b so ao sc ac d 152 #[.pointer (some ⟨g,0,none⟩),.agg (zTR A).toArray] X:=by
 intro w co cc c h hn;obtain⟨hB,hW,hS⟩:=Bx.new h A;have HC:Hid (Calls Tryz.prog 70 #[.pointer (some ⟨g,0,none⟩),.int .i64 q] (w.alloc (.cells (zTR A).toArray 180)) _):=hX _ _ _ _ hW hn;have a2:=hB.cell 2;change _=some (Value.int .i64 A.tok.group)at a2;have a17:=hB.cell 17;change _=some (Value.int .i64 A.body)at a17;rw[hg]at a2;rw[hb]at a17;have HS:Hid (jQ g co co w (w.alloc (.cells (zTR A).toArray 180))):=hS;clear hB hW hS h hg hb;go_enter Tryz.func152,Tryz.ntmps152
 go_upto_region 1 with fail
 generalize w.alloc (.cells (zTR A).toArray 180)=W at *;go_wp2_with fail
 refine HC.out.mono ?_;rintro e w3 ⟨rfl,hD⟩;have HD:Hid _:=dZ HS.out hD;clear hD;go_wp2_with fail
 go_returns;exact⟨rfl,HD.out⟩
theorem zHg(A:Mt.PA)(q:Int)(s:Int)(hs:s=0\/s=1\/s=2)(X:Mt.Re)(hg:A.tok.group=s+3)(hb:A.body=q)(hX:Lays L g b so ao sc ac d 70 #[.pointer (some ⟨g,0,none⟩),.int .i64 q] X) :
  Lays L g b so ao sc ac d 152 #[.pointer (some ⟨g,0,none⟩),.agg (zTR A).toArray] (.sub s X):=by
 have hX':=zIv s q X hX;intro w co cc c h hn;obtain⟨hB,hW,hS⟩:=Bx.new h A;have HC:Hid (Calls Tryz.prog 156 #[.pointer (some ⟨g,0,none⟩),.int .i64 s,.int .i64 q] (w.alloc (.cells (zTR A).toArray 180)) _):=hX' _ _ _ _ hW hn;have a2:=hB.cell 2;change _=some (Value.int .i64 A.tok.group)at a2;have a17:=hB.cell 17;change _=some (Value.int .i64 A.body)at a17;rw[hg]at a2;rw[hb]at a17;have HS:Hid (jQ g co co w (w.alloc (.cells (zTR A).toArray 180))):=hS;clear hB hW hS h hg hb hX hX';rcases hs with rfl | rfl | rfl
 all_goals
  go_enter Tryz.func152,Tryz.ntmps152
  go_upto_region 1 with fail
  generalize w.alloc (.cells (zTR A).toArray 180)=W at *;go_wp2_with fail
  refine HC.out.mono ?_;rintro e w3 ⟨rfl,hD⟩;have HD:Hid _:=dZ HS.out hD;clear hD;go_wp2_with fail
  go_returns;exact⟨rfl,HD.out⟩
theorem zHh(A:Mt.PA)(q:Int)(k:Int)(X:Mt.Re)(hg:A.tok.group=1)(hb:A.body=q)(hk:A.num=k)(hX:Lays L g b so ao sc ac d 70 #[.pointer (some ⟨g,0,none⟩),.int .i64 q] X) :
  Lays L g b so ao sc ac d 152 #[.pointer (some ⟨g,0,none⟩),.agg (zTR A).toArray] (.cap k X):=by
 intro w co cc c h hn;have hn':c.length+X.len+2<=1000:=by simp only[Mt.Re.len]at hn;omega
 obtain⟨hB,hW,hS⟩:=Bx.new h A;have HP:Hid (Calls Tryz.prog 71 #[.pointer (some ⟨g,0,none⟩),.agg (yR ⟨6,k,0,[]⟩)] (w.alloc (.cells (zTR A).toArray 180)) _):=dY (x:=⟨6,k,0,[]⟩) hW (by omega);have HX:Hid (Lays L g b so ao sc ac d 70 #[.pointer (some ⟨g,0,none⟩),.int .i64 q] X):=hX;have a2:=hB.cell 2;change _=some (Value.int .i64 A.tok.group)at a2;have a8:=hB.cell 8;change _=some (Value.int .i64 A.num)at a8;rw[hg]at a2;rw[hk]at a8;have HQ:Hid (A.body=q/\A.num=k):=⟨hb,hk⟩
 have HS:Hid (jQ g co co w (w.alloc (.cells (zTR A).toArray 180))/\Bx (w.alloc (.cells (zTR A).toArray 180)) g co w.heap.size A):=⟨hS,hB⟩
 have hl:(c++[(⟨6,k,0,[]⟩:Mt.zTG)]).length=c.length+1:=by simp
 have hl2:∀z:Int,(c++[(⟨6,k,0,[]⟩:Mt.zTG)]++X.code z d).length=c.length+1+X.len:=λz=>by rw[lM,hl,Mt.Re.zQ]
 have HE:Hid (c++(Mt.Re.cap k X).code c.length d=c++[(⟨6,k,0,[]⟩:Mt.zTG)]++X.code ((c.length+1:Nat):Int) d++[⟨7,k,0,[]⟩]):=by
  show _=_;simp[Mt.Re.code]
 rw[HE.out];clear hB hW hS h hg hb hX hk hn;unfold yR at HP;go_enter Tryz.func152,Tryz.ntmps152
 go_upto_region 1 with fail
 generalize w.alloc (.cells (zTR A).toArray 180)=W at *;go_wp2_with fail
 refine HP.out.mono ?_;rintro e w1 ⟨rfl,q1,zPT,hA,hS⟩;have H1:Hid (Calls Tryz.prog 70 #[.pointer (some ⟨g,0,none⟩),.int .i64 q] w1 _):=HX.out w1 _ _ _ hA (by rw[hl];omega);have hB1:=HS.out.2.step hS;have b17:=hB1.cell 17;change _=some (Value.int .i64 A.body)at b17;rw[HQ.out.1]at b17;have HS1:Hid (jQ g co (some ⟨q1,0,none⟩) w w1/\Bx w1 g (some ⟨q1,0,none⟩) w.heap.size A):=⟨HS.out.1.trans hS,hB1⟩
 clear hA hS hB1;go_wp2_with fail
 refine H1.out.mono ?_;rintro e w2 ⟨rfl,co2,cc2,hA,hS⟩;rw[hl]at hA;have H2:Hid (Calls Tryz.prog 71 #[.pointer (some ⟨g,0,none⟩),.agg (yR ⟨7,k,0,[]⟩)] w2 _):=dY (x:=⟨7,k,0,[]⟩) hA (by rw[hl2];omega);have hB2:=HS1.out.2.step hS;have b8:=hB2.cell 8;change _=some (Value.int .i64 A.num)at b8;rw[HQ.out.2]at b8;have HS2:Hid (jQ g co co2 w w2):=HS1.out.1.trans hS;clear hA hS hB2;unfold yR at H2;go_wp2_with fail
 refine H2.out.mono ?_;rintro e w3 ⟨rfl,q3,zTn,hA,hS⟩;have HD:Hid (zCq L g b so ao sc ac d co w (c++[(⟨6,k,0,[]⟩:Mt.zTG)]++X.code ((c.length+1:Nat):Int) d++[⟨7,k,0,[]⟩]) w3):=⟨_,_,hA,HS2.out.trans hS⟩
 clear hA hS;go_wp2_with fail
 go_returns;exact⟨rfl,HD.out⟩
end
section
variable {L:Nat} {g:Nat} {b:Mt.PB} {so ao:Option Addr} {sc ac:Nat} {d:Int}
theorem zIw(A:Mt.PA)(X:Mt.Re)(hk:A.tok.kind=2)(hX:Lays L g b so ao sc ac d 152 #[.pointer (some ⟨g,0,none⟩),.agg (zTR A).toArray] X) :
  Lays L g b so ao sc ac d 147 #[.pointer (some ⟨g,0,none⟩),.agg (zTR A).toArray] X:=by
 intro w co cc c h hn;obtain⟨hB,hW,hS⟩:=Bx.new h A;have HC:Hid (Calls Tryz.prog 152 #[.pointer (some ⟨g,0,none⟩),.agg (zTR A).toArray] (w.alloc (.cells (zTR A).toArray 180)) _):=hX _ _ _ _ hW hn;have a0:=hB.cell 0;change _=some (Value.int .i64 A.tok.kind)at a0;rw[hk]at a0;have HBK:=hB.bk;have HS:Hid (jQ g co co w (w.alloc (.cells (zTR A).toArray 180))):=hS;clear hB hW hS h hk hX;go_enter Tryz.func147,Tryz.ntmps147
 go_upto_region 1 with fail
 generalize w.alloc (.cells (zTR A).toArray 180)=W at *;go_wp2_with (refine kQ 180 20 Tryz.underlying180 rfl Tryz.sizeAt (by rfl) (.tmp 3) (by rfl) w.heap.size (by rfl) HBK (by rfl) ?_)
 refine HC.out.mono ?_;rintro e w3 ⟨rfl,hD⟩;have HD:Hid _:=dZ HS.out hD;clear hD;go_wp2_with fail
 go_returns;exact⟨rfl,HD.out⟩
theorem zOs{w W:World}{co:Option Addr}{cc:Nat}{c:List Mt.zTG}(hW:LAt L W g b so ao sc ac co cc c d)(hS:jQ g co co w W)(x:Mt.zTG)(hn:c.length<=1000000) :
  Calls Tryz.prog 71 #[.pointer (some ⟨g,0,none⟩),.agg (yR x)] W λe w'=>e=.returned (.int .i64 c.length)/\zCq L g b so ao sc ac d co w (c++[x]) w':=by
 refine(dY x hW hn).mono ?_;rintro e w1 ⟨rfl,q1,zPT,hA,hS1⟩;exact⟨rfl,_,_,hA,hS.trans hS1⟩
theorem zCJ(A:Mt.PA)(t:Mt.zTD)(hk:Mt.wY t)(ht:A.tok=Mt.yC t) :
  Lays L g b so ao sc ac d 147 #[.pointer (some ⟨g,0,none⟩),.agg (zTR A).toArray] (Mt.fA t):=by
 intro w co cc c h hn;have hn':c.length<=1000000:=by omega
 obtain⟨hB,hW,hS⟩:=Bx.new h A;have HC:Hid (∀x,Calls Tryz.prog 71 #[.pointer (some ⟨g,0,none⟩),.agg (yR x)] (w.alloc (.cells (zTR A).toArray 180)) λe w'=>e=.returned (.int .i64 c.length)/\zCq L g b so ao sc ac d co w (c++[x]) w'):=λx=>zOs hW hS x hn'
 have a0:=hB.cell 0;change _=some (Value.int .i64 A.tok.kind)at a0;have a3:=hB.cell 3;change _=some (Value.int .i64 A.tok.number)at a3;have a7:=hB.cell 7;change _=some (Value.string ⟨A.tok.set.toArray⟩)at a7;rw[ht]at a0 a3 a7;clear hB hW hS h hn;rcases hk with hk | hk | hk | hk
 ·have e0:(Mt.yC t).kind=5:=by rw[Mt.jP,hk];rfl
  have e1:(Mt.yC t).set=t.set:=rfl;have e2:Mt.fA t=.one t.set:=by unfold Mt.fA;rw[if_pos hk]
  rw[e0]at a0;rw[e1]at a7;rw[e2];have HC':=HC.out ⟨1,0,0,t.set⟩;unfold yR at HC';have H:Hid _:=HC';clear HC HC' e0 e1 e2 a3;go_enter Tryz.func147,Tryz.ntmps147
  go_upto_region 1 with fail
  generalize w.alloc (.cells (zTR A).toArray 180)=W at *;go_wp2_with fail
  refine Calls.mono H.out ?_;rintro e w3 ⟨rfl,hD⟩;have HD:Hid _:=hD;clear hD;go_wp2_with fail
  go_returns;exact⟨rfl,HD.out⟩
 ·have e0:(Mt.yC t).kind=6:=by rw[Mt.jP,hk];rfl
  have e1:(Mt.yC t).number=t.n:=by simp[Mt.yC,hk]
  have e2:Mt.fA t=.back t.n:=by unfold Mt.fA;rw[if_neg (by omega),if_pos hk]
  rw[e0]at a0;rw[e1]at a3;rw[e2];have HC':=HC.out ⟨8,t.n,0,[]⟩;unfold yR at HC';have H:Hid _:=HC';clear HC HC' e0 e1 e2 a7;go_enter Tryz.func147,Tryz.ntmps147
  go_upto_region 1 with fail
  generalize w.alloc (.cells (zTR A).toArray 180)=W at *;go_wp2_with fail
  refine Calls.mono H.out ?_;rintro e w3 ⟨rfl,hD⟩;have HD:Hid _:=hD;clear hD;go_wp2_with fail
  go_returns;exact⟨rfl,HD.out⟩
 ·have e0:(Mt.yC t).kind=7:=by rw[Mt.jP,hk];rfl
  have e2:Mt.fA t=.head:=by unfold Mt.fA;rw[if_neg (by omega),if_neg (by omega),if_pos hk]
  rw[e0]at a0;rw[e2];have HC':=HC.out ⟨9,0,0,[]⟩;unfold yR at HC';have H:Hid _:=HC';clear HC HC' e0 e2 a7 a3;go_enter Tryz.func147,Tryz.ntmps147
  go_upto_region 1 with fail
  generalize w.alloc (.cells (zTR A).toArray 180)=W at *;go_wp2_with fail
  refine Calls.mono H.out ?_;rintro e w3 ⟨rfl,hD⟩;have HD:Hid _:=hD;clear hD;go_wp2_with fail
  go_returns;exact⟨rfl,HD.out⟩
 ·have e0:(Mt.yC t).kind=8:=by rw[Mt.jP,hk];rfl
  have e2:Mt.fA t=.tail:=by unfold Mt.fA;rw[if_neg (by omega),if_neg (by omega),if_neg (by omega)]
  rw[e0]at a0;rw[e2];have HC':=HC.out ⟨10,0,0,[]⟩;unfold yR at HC';have H:Hid _:=HC';clear HC HC' e0 e2 a7 a3;go_enter Tryz.func147,Tryz.ntmps147
  go_upto_region 1 with fail
  generalize w.alloc (.cells (zTR A).toArray 180)=W at *;go_wp2_with fail
  refine Calls.mono H.out ?_;rintro e w3 ⟨rfl,hD⟩;have HD:Hid _:=hD;clear hD;go_wp2_with fail
  go_returns;exact⟨rfl,HD.out⟩
end
end Go.Proofs.YtebpgfodelggoabGreat
namespace Mt
theorem zEa(x:Re)(d:Int):∀(k:Nat) (p:Int),(jE x (k+1)).code p d=(jE x k).code p d++x.code (p+(k*x.len:Nat)) d
 | 0,p=>by simp[jE,Re.code]
 | k+1,p=>by
  have ih:=zEa x d k (p+x.len);have e1:(jE x (k+1+1)).code p d=x.code p d++(jE x (k+1)).code (p+x.len) d:=rfl;have e2:(jE x (k+1)).code p d=x.code p d++(jE x k).code (p+x.len) d:=rfl;rw[e1,e2,ih,List.append_assoc,Nat.add_mul];congr 3
  push_cast;omega
theorem zIx(x:Re)(h:x.len=0)(k:Nat)(p d:Int):(jE x k).code p d=[]:=by
 rw[<-List.length_eq_zero_iff,Re.zQ,mE,h,Nat.mul_zero]
end Mt
namespace Go.Proofs.YtebpgfodelggoabGreat
open Go.RowKit
section
variable {L:Nat} {g:Nat} {b:Mt.PB} {so ao:Option Addr} {sc ac:Nat} {d:Int}
theorem zHi(A:Mt.PA)(x:Mt.Re)(hd0:0<=d)(hd:d<=1000)(hX:Lays L g b so ao sc ac (d+1) 147 #[.pointer (some ⟨g,0,none⟩),.agg (zTR A).toArray] x) :
  Lays L g b so ao sc ac d 154 #[.pointer (some ⟨g,0,none⟩),.agg (zTR A).toArray] (.loop (decide (A.rep.fF=2)) x):=by
 intro w co cc c h hn;have hn':c.length+x.len+3<=1000:=by simp only[Mt.Re.len]at hn;omega
 obtain⟨hB,hW,hS⟩:=Bx.new h A;have HP:Hid (Calls Tryz.prog 71 #[.pointer (some ⟨g,0,none⟩),.agg (yR ⟨2,0,0,[]⟩)] (w.alloc (.cells (zTR A).toArray 180)) _):=dY (x:=⟨2,0,0,[]⟩) hW (by omega);have HX:Hid (Lays L g b so ao sc ac (d+1) 147 #[.pointer (some ⟨g,0,none⟩),.agg (zTR A).toArray] x):=hX;have HS:Hid (jQ g co co w (w.alloc (.cells (zTR A).toArray 180))/\Bx (w.alloc (.cells (zTR A).toArray 180)) g co w.heap.size A):=⟨hS,hB⟩
 have l1:(c++[(⟨2,0,0,[]⟩:Mt.zTG)]).length=c.length+1:=by simp
 have l2:(c++[(⟨2,0,0,[]⟩:Mt.zTG)]++[(⟨4,d,0,[]⟩:Mt.zTG)]).length=c.length+2:=by simp
 have l3:∀z:Int,(c++[(⟨2,0,0,[]⟩:Mt.zTG)]++[(⟨4,d,0,[]⟩:Mt.zTG)]++x.code z (d+1)).length=c.length+2+x.len:=λz=>by rw[lM,l2,Mt.Re.zQ]
 have l4:∀z:Int,(c++[(⟨2,0,0,[]⟩:Mt.zTG)]++[(⟨4,d,0,[]⟩:Mt.zTG)]++x.code z (d+1)++[(⟨5,c.length,d,[]⟩:Mt.zTG)]).length=c.length+3+x.len:=λz=>by rw[lM,l3];simp;omega
 have HE:Hid (c++(Mt.Re.loop (decide (A.rep.fF=2)) x).code c.length d=(c++[(⟨2,0,0,[]⟩:Mt.zTG)]++[(⟨4,d,0,[]⟩:Mt.zTG)]++x.code ((c.length+2:Nat):Int) (d+1)++[(⟨5,c.length,d,[]⟩:Mt.zTG)]).set c.length (Mt.spl ((c.length:Int)+1) ((c.length+3+x.len:Nat):Int) (decide (A.rep.fF=2)))):=by
  show _=_;rw[show c++[(⟨2,0,0,[]⟩:Mt.zTG)]++[(⟨4,d,0,[]⟩:Mt.zTG)]++x.code ((c.length+2:Nat):Int) (d+1)++[(⟨5,c.length,d,[]⟩:Mt.zTG)]=c++[(⟨2,0,0,[]⟩:Mt.zTG)]++([(⟨4,d,0,[]⟩:Mt.zTG)]++x.code ((c.length+2:Nat):Int) (d+1)++[(⟨5,c.length,d,[]⟩:Mt.zTG)]) by simp,set_mid];simp[Mt.Re.code];congr 1;omega
 rw[HE.out];clear hB hW hS h hX hn HE;unfold yR at HP;go_enter Tryz.func154,Tryz.ntmps154
 go_upto_region 1 with fail
 generalize w.alloc (.cells (zTR A).toArray 180)=W at *;go_wp2_with fail
 refine HP.out.mono ?_;rintro e w1 ⟨rfl,q1,zPT,hA,hS⟩;have H2:Hid (Calls Tryz.prog 71 #[.pointer (some ⟨g,0,none⟩),.agg (yR ⟨4,d,0,[]⟩)] w1 _):=dY (x:=⟨4,d,0,[]⟩) hA (by rw[l1];omega);have c3:=hA.cells.2.2.2.1;have HS1:Hid (jQ g co (some ⟨q1,0,none⟩) w w1/\Bx w1 g (some ⟨q1,0,none⟩) w.heap.size A):=⟨HS.out.1.trans hS,HS.out.2.step hS⟩
 clear hA hS;unfold yR at H2;go_wp2_with fail
 refine H2.out.mono ?_;rintro e w2 ⟨rfl,q2,cap2,hA,hS⟩;have M2:=hA.zJc (d+1);have S2:=hS.set (p:=⟨g,3,none⟩) (Or.inl rfl) (.int .i64 (d+1));have B2:=HS1.out.2.step S2;have H3:Hid (Calls Tryz.prog 147 #[.pointer (some ⟨g,0,none⟩),.agg (zTR A).toArray] (w2.setCell ⟨g,3,none⟩ (.int .i64 (d+1))) _):=HX.out _ _ _ _ M2 (by rw[l2];omega);have HS2:Hid (jQ g co (some ⟨q2,0,none⟩) w (w2.setCell ⟨g,3,none⟩ (.int .i64 (d+1)))/\Bx (w2.setCell ⟨g,3,none⟩ (.int .i64 (d+1))) g (some ⟨q2,0,none⟩) w.heap.size A):=⟨HS1.out.1.trans S2,B2⟩
 have d3:=hA.cells.2.2.2.1;have f3:=hA.cells.2.2.2.2 3;have HBK:=B2.bk;clear hA hS M2 S2 B2;go_wp2_with (refine kQ 180 20 Tryz.underlying180 rfl Tryz.sizeAt (by rfl) (.tmp 3) (by rfl) w.heap.size (by rfl) HBK (by rfl) ?_)
 refine H3.out.mono ?_;rintro e w3 ⟨rfl,co3,cc3,hA,hS⟩;rw[l2]at hA;have H4:Hid (Calls Tryz.prog 71 #[.pointer (some ⟨g,0,none⟩),.agg (yR ⟨5,c.length,d,[]⟩)] w3 _):=dY (x:=⟨5,c.length,d,[]⟩) hA (by rw[l3];omega);have HS3:Hid (jQ g co co3 w w3/\Bx w3 g co3 w.heap.size A):=⟨HS2.out.1.trans hS,HS2.out.2.step hS⟩
 clear hA hS HBK;unfold yR at H4;go_wp2_with fail
 refine H4.out.mono ?_;rintro e w4 ⟨rfl,q4,cap4,hA,hS⟩;have M4:=hA.zJc d;have S4:=hS.set (p:=⟨g,3,none⟩) (Or.inl rfl) (.int .i64 d);have B4:=HS3.out.2.step S4;have H5':=zJn c.length A.rep.fF M4 (by rw[l4];omega) (by rw[l4];omega);rw[l4]at H5';have H5:Hid (Calls Tryz.prog 157 #[.pointer (some ⟨g,0,none⟩),.int .i64 ((c.length:Nat):Int),.int .i64 A.rep.fF] (w4.setCell ⟨g,3,none⟩ (.int .i64 d)) _):=H5';have HS4:Hid (jQ g co (some ⟨q4,0,none⟩) w (w4.setCell ⟨g,3,none⟩ (.int .i64 d))):=HS3.out.1.trans S4;have e3:=hA.cells.2.2.2.1;have g3:=hA.cells.2.2.2.2 3;have b15:=(HS3.out.2.step hS).cell 15;change _=some (Value.int .i64 A.rep.fF)at b15;have ngw:w.heap.size≠g:=B4.ng;clear hA hS M4 S4 B4 H5';go_wp2_with fail
 refine H5.out.mono ?_;rintro e w5 ⟨rfl,hA,hS⟩;have HD:Hid (zCq L g b so ao sc ac d co w ((c++[(⟨2,0,0,[]⟩:Mt.zTG)]++[(⟨4,d,0,[]⟩:Mt.zTG)]++x.code ((c.length+2:Nat):Int) (d+1)++[(⟨5,c.length,d,[]⟩:Mt.zTG)]).set c.length (Mt.spl ((c.length:Int)+1) ((c.length+3+x.len:Nat):Int) (decide (A.rep.fF=2)))) w5):=⟨_,_,hA,HS4.out.trans hS⟩
 clear hA hS;go_wp2_with fail
 go_returns;exact⟨rfl,HD.out⟩
theorem zFX(A:Mt.PA)(x:Mt.Re)(N:Nat)(hN:N<=1000)(hX:Lays L g b so ao sc ac d 147 #[.pointer (some ⟨g,0,none⟩),.agg (zTR A).toArray] x) :
  Lays L g b so ao sc ac d 153 #[.pointer (some ⟨g,0,none⟩),.agg (zTR A).toArray,.int .i64 (N:Int)] (Mt.jE x N):=by
 intro w co cc c h hn;rw[Mt.mE]at hn;obtain⟨hB,hW,hS⟩:=Bx.new h A;have HX:Hid (Lays L g b so ao sc ac d 147 #[.pointer (some ⟨g,0,none⟩),.agg (zTR A).toArray] x):=hX;have HS:Hid (jQ g co co w (w.alloc (.cells (zTR A).toArray 180))/\Bx (w.alloc (.cells (zTR A).toArray 180)) g co w.heap.size A/\LAt L (w.alloc (.cells (zTR A).toArray 180)) g b so ao sc ac co cc c d):=⟨hS,hB,hW⟩
 have HN:Hid (c.length+N*x.len<=1000):=hn;clear hB hW hS h hX hn;go_enter Tryz.func153,Tryz.ntmps153
 go_upto_region 1 with fail
 generalize w.alloc (.cells (zTR A).toArray 180)=W at *;go_wp2_with fail
 go_loopw [6] (λi wr=>∃(k:Nat) (cor:Option Addr) (ccr:Nat),k<=N/\i=.int .i64 k/\LAt L wr g b so ao sc ac cor ccr (c++(Mt.jE x k).code c.length d) d/\jQ g co cor w wr/\Bx wr g cor w.heap.size A) (λi _=>N-(intOf i).toNat)
 case atStart=>exact⟨0,co,cc,Nat.zero_le _,rfl,by simpa[Mt.jE,Mt.Re.code]using HS.out.2.2,HS.out.1,HS.out.2.1⟩
 case round =>
  obtain⟨k,cor,ccr,hk,rfl,hA,hSr,hBr⟩:=hrel;by_cases zTI:k<N
  ·have hkN:(k:Int)<(N:Int):=by omega
   have hm:(k+1)*x.len<=N*x.len:=Nat.mul_le_mul_right _ (by omega);have hm':(k+1)*x.len=k*x.len+x.len:=by rw[Nat.add_mul,Nat.one_mul]
   have hl:(c++(Mt.jE x k).code c.length d).length=c.length+k*x.len:=by rw[lM,Mt.Re.zQ,Mt.mE]
   have hNo:=HN.out;have H1:Hid (Calls Tryz.prog 147 #[.pointer (some ⟨g,0,none⟩),.agg (zTR A).toArray] wr _):=HX.out _ _ _ _ hA (by rw[hl];omega);have c2:=hA.cells.2.2.1;rw[hl]at c2;have HBK:=hBr.bk;have HSr:Hid (jQ g co cor w wr/\Bx wr g cor w.heap.size A):=⟨hSr,hBr⟩
   have HSN:Hid (c++(Mt.jE x k).code c.length d++x.code ((c.length+k*x.len:Nat):Int) d=c++(Mt.jE x (k+1)).code c.length d):=by
    show _=_;rw[Mt.zEa,List.append_assoc];simp
   clear hA hSr hBr;generalize hM:c.length+k*x.len=M at *;go_wp2_with (refine kQ 180 20 Tryz.underlying180 rfl Tryz.sizeAt (by rfl) (.tmp 4) (by rfl) w.heap.size (by rfl) HBK (by rfl) ?_)
   refine H1.out.mono ?_;rintro e w1 ⟨rfl,co1,cc1,hA,hS⟩;rw[hl,HSN.out]at hA;have d2:=hA.cells.2.2.1;have hl1:(c++(Mt.jE x (k+1)).code c.length d).length=M+x.len:=by rw[lM,Mt.Re.zQ,Mt.mE];omega
   rw[hl1]at d2;have HA1:Hid (LAt L w1 g b so ao sc ac co1 cc1 (c++(Mt.jE x (k+1)).code c.length d) d/\jQ g co co1 w w1/\Bx w1 g co1 w.heap.size A):=⟨hA,HSr.out.1.trans hS,HSr.out.2.step hS⟩
   clear hA hS HBK;by_cases hz:x.len=0
   ·rw[hz]at d2;go_wp2_with fail
    go_returns;refine⟨rfl,co1,cc1,?_,HA1.out.2.1⟩;have:=HA1.out.1;rw[Mt.zIx x hz]at this |-;exact this
   ·have bt:(((M+x.len:Nat):Int)==(M:Int))=false:=by simp;omega
    go_wp2_with fail
    go_roundw
    case measure=>show N-((k:Int)+1).toNat<N-(k:Int).toNat;omega
    case rel=>exact⟨k+1,co1,cc1,by omega,by go_num,HA1.out.1,HA1.out.2.1,HA1.out.2.2⟩
  ·have ek:k=N:=by omega
   subst ek;have HD:Hid (zCq L g b so ao sc ac d co w (c++(Mt.jE x k).code c.length d) wr):=⟨_,_,hA,hSr⟩
   clear hA hSr hBr;go_wp2_with fail
   go_returns;exact⟨rfl,HD.out⟩
end
