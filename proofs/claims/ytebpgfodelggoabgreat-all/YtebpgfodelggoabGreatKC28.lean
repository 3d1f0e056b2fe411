import Derived.Test.YtebpgfodelggoabGreatKC27
set_option linter.unusedVariables false
set_option linter.unusedSimpArgs false
set_option maxRecDepth 100000
set_option maxHeartbeats 4000000
namespace Go.Proofs.YtebpgfodelggoabGreat
open Go.RowKit
theorem zG0{L:Nat}{w:World}{g:Nat}{b:Mt.PB}{so ao oo:Option Addr}{sc ac oc:Nat}(h:BAt L w g b so ao oo sc ac oc)(hn:b.kN.length<=1000)(hs:b.seq<b.kN.length) :
  Calls Tryz.prog 91 #[.pointer (some ⟨g,0,none⟩)] w λe w'=>e=.returned (.tuple #[])/\∃so' sc',BAt L w' g b.bar so' ao oo sc' ac oc/\yD g so ao oo so' ao oo w w':=by
 have HC:Hid (Calls Tryz.prog _ _ _ _):=bU h hn;clear h;go_enter Tryz.func91,Tryz.ntmps91
 go_wp2_with fail
 refine HC.out.mono ?_;rintro e w1 ⟨rfl,so1,sc1,hP,hSt⟩;have len1:b.newSeq.kN.length=b.kN.length+1:=by simp[Mt.PB.newSeq]
 obtain⟨gs,hso,gs1,gs2,gs3⟩:=hP.zL8 (by omega);subst hso;obtain⟨x0,x1,x2,x3,_,_,_,hxf⟩:=hP.cells;have y2:=hxf 2;have y3:=hxf 3;have hgw:g<w1.heap.size:=(hP.lt g (Or.inl rfl)).2;have q0:=hP.zAg b.seq 1 (by omega) (by decide);have q1:=q0.1;have q2:=q0.2
 have ea:b.newSeq.zTO b.seq=b.zTO b.seq:=by
  unfold Mt.PB.zTO Mt.PB.newSeq;dsimp only;rw[Mt.qM,if_neg (by omega)]
 rw[ea]at q1;rw[len1]at x0 gs3;change w1.cell? ⟨gs,b.seq*2+1,none⟩=some (.int .i64 (b.zTO b.seq).next)at q1;change w1.cell? ⟨g,2,none⟩=some (.int .i64 b.seq)at x2;change w1.cell? ⟨g,3,none⟩=some (.int .i64 b.last)at x3;have HP:Hid (BAt L w1 g b.newSeq (some ⟨gs,0,none⟩) ao oo sc1 ac oc):=hP;have HSt:Hid (yD g so ao oo (some ⟨gs,0,none⟩) ao oo w w1):=hSt;have HE:Hid (b.newSeq.zTO b.seq=b.zTO b.seq):=ea;clear hP hSt hxf q0 ea;go_wp2_with fail
 go_region
 go_wp2_with fail
 go_returns;have M1:=HP.out.zOR b.seq 1 (.int .i64 b.kN.length) ⟨(b.zTO b.seq).first,b.kN.length⟩ (by omega) (by decide) (by rw[HE.out];rfl);have M2:=M1.drew;have M3:=M2.field (k:=2) (v:=.int .i64 b.kN.length) (b':={ b.bar with last:=b.last }) (so':=some ⟨gs,0,none⟩) (ao':=ao) (oo':=oo) (sc':=sc1) (ac':=ac) (oc':=oc) (by unfold bA Mt.PB.bar Mt.PB.newSeq;simp) M2.kN M2.zG M2.opn M2.ap M2.cl;have M4:=M3.field (k:=3) (v:=.int .i64 (-1)) (b':=b.bar) (so':=some ⟨gs,0,none⟩) (ao':=ao) (oo':=oo) (sc':=sc1) (ac':=ac) (oc':=oc) (by unfold bA Mt.PB.bar;simp) M3.kN M3.zG M3.opn M3.ap M3.cl;refine⟨rfl,some ⟨gs,0,none⟩,sc1,M4,?_⟩;exact(((HSt.out.set (p:=⟨gs,b.seq*2+1,none⟩) (Or.inr (Or.inl rfl)) _).drew).set (p:=⟨g,2,none⟩) (Or.inl rfl) _).set (p:=⟨g,3,none⟩) (Or.inl rfl) _
theorem zFJ{L:Nat}{w:World}{g:Nat}{b:Mt.PB}{so ao oo:Option Addr}{sc ac oc:Nat}(t:Mt.PT)(h:BAt L w g b so ao oo sc ac oc)(hn:b.zG.length<=1000)(hs:b.seq<b.kN.length)(hla:b.last=-1\/∃k:Nat,b.last=k/\k<b.zG.length)
  (n:Nat) (zKO:t.number=n) (hn9:n<=9) (E:Int) (hE:E=if(b.kR:Int)<t.number\/b.clo.getD t.number.toNat false=false then 6 else 0) :
  Calls Tryz.prog 95 #[.pointer (some ⟨g,0,none⟩),ptV t] w λe w'=>e=.returned (.int .i64 E)/\(E=0->∃ao' ac',BAt L w' g (b.zS t) so ao' oo sc ac' oc/\yD g so ao oo so ao' oo w w')/\Below L w w':=by
 have HB:Hid (BAt L w g b so ao oo sc ac oc):=h;obtain⟨_,_,_,_,_,c5,ck,_⟩:=h.cells;have ckn:=ck n (by omega);have zSw:(n:Int)<10:=by omega
 have hg:g<w.heap.size:=(h.lt g (Or.inl rfl)).2;have hL:L<=w.heap.size:=by have:=h.lo;omega
 have HT:Hid (∀W:World,Below w.heap.size w W->Calls Tryz.prog 96 #[.pointer (some ⟨g,0,none⟩),ptV t] W λe w'=>e=.returned (.tuple #[])/\∃ao' ac',BAt L w' g (b.zS t) so ao' oo sc ac' oc/\yD g so ao oo so ao' oo W w'):=λW hW=>tL t (h.below hW) hn hs hla
 have hto:t.number.toNat=n:=by rw[zKO];simp
 rw[hto]at hE;generalize hcl:b.clo.getD n false=cb at *;clear h ck hto;rw[zKO]at hE;have HN:Hid (t.number=n):=zKO;cases hgr:decide (b.kR<n)
 ·have hng:¬b.kR<n:=by simpa using hgr
  cases cb
  ·have HE:Hid (E=6):=by show _=_;rw[hE,if_pos (Or.inr rfl)]
   clear hE hng;unfold ptV zTQ;rw[zKO];go_enter Tryz.func95,Tryz.ntmps95
   go_wp2_with fail
   go_quiet (fail)
   go_wp2_with fail
   go_returns;exact⟨by rw[HE.out];rfl,λe=>by have:=HE.out;omega,(below_drewN ((Below.refl _ _).alloc (lG _) _) _).mono hL⟩
  ·have HE:Hid (E=0):=by show _=_;rw[hE,if_neg (by simp;omega)]
   have HV:Hid (ptV t=.agg #[.int .i64 t.kind,.int .i64 t.en,.int .i64 t.group,.int .i64 n,.int .i64 t.least,.int .i64 t.most,.int .i64 t.fF,.string ⟨t.set.toArray⟩]):=by show _=_;unfold ptV zTQ;rw[zKO]
   have HT2:=HT.out;simp only[HV.out]at HT2;have HT3:Hid (∀W:World,Below w.heap.size w W->Calls Tryz.prog 96 _ W _):=HT2;clear hE hng HT2;rw[HV.out];go_enter Tryz.func95,Tryz.ntmps95
   go_wp2_with fail
   go_quiet (fail)
   go_wp2_with fail
   refine(HT3.out _ (by exact below_drewN ((Below.refl _ _).alloc (lG _) _) _)).mono ?_;rintro e w1 ⟨rfl,ao1,ac1,hP,hSt⟩;have R:Hid (BAt L w1 g (b.zS t) so ao1 oo sc ac1 oc/\yD g so ao oo so ao1 oo w w1):=⟨hP,(yD.below (below_drewN ((Below.refl _ _).alloc (lG _) _) _)).trans hSt⟩
   clear hP hSt;go_wp2_with fail
   go_returns;exact⟨by rw[HE.out];rfl,λ_=>⟨ao1,ac1,R.out.1,R.out.2⟩,R.out.2.low HB.out hL⟩
 ·have hng:b.kR<n:=by simpa using hgr
  have HE:Hid (E=6):=by show _=_;rw[hE,if_pos (Or.inl (by omega))]
  clear hE hng;unfold ptV zTQ;rw[zKO];go_enter Tryz.func95,Tryz.ntmps95
  go_wp2_with fail
  go_quiet (fail)
  go_wp2_with fail
  go_returns;exact⟨by rw[HE.out];rfl,λe=>by have:=HE.out;omega,(below_drewN ((Below.refl _ _).alloc (lG _) _) _).mono hL⟩
theorem zG1{L:Nat}{w:World}{e:TypeId}{sz g n cap:Nat}{xs:List Value}(h:w.ownsRow L e sz (.slice (some ⟨g,0,none⟩) n cap) n xs)(o m:Nat)(hm:o+m<=n*sz):w.there g o m:=by
 intro j hj;rw[World.ownsRow.cellAt h (o+j) (by omega)];refine⟨?_,World.ownsRow.frozenAt h _⟩;have:=h.1;rw[lK (by omega)];rfl
theorem yD.setMany{g:Nat}{so ao oo so' ao' oo':Option Addr}{a w:World}(h:yD g so ao oo so' ao' oo' a w)(q o:Nat)(vs:List Value)(hp:own g so' ao' oo' q):yD g so ao oo so' ao' oo' a (w.setCells q o vs) :=
 h.trans ⟨(below_setCells q vs o w 0 (Nat.zero_le _)).1.os,(below_setCells q vs o w 0 (Nat.zero_le _)).1.tape,(below_setCells q vs o w 0 (Nat.zero_le _)).1.output,Nat.le_of_eq (below_setCells q vs o w 0 (Nat.zero_le _)).2.symm,λi hi hn=>qZ q vs o w i (λe=>hn (by rw[e];exact hp)),λ_ _ h=>h⟩
theorem zDX{L:Nat}{w:World}{g:Nat}{b:Mt.PB}{so ao oo:Option Addr}{sc ac oc:Nat}(t:Mt.PT)(h:BAt L w g b so ao oo sc ac oc)(hn:b.zG.length<=1000)(hla:b.last=-1\/∃k:Nat,b.last=k/\k<b.zG.length)
  (E:Int) (hE:E=if b.last=-1\/(b.zTP b.last.toNat).rep.kind≠0 then 7 else 0) :
  Calls Tryz.prog 94 #[.pointer (some ⟨g,0,none⟩),ptV t] w λe w'=>e=.returned (.int .i64 E)/\(E=0->BAt L w' g (b.repeated t) so ao oo sc ac oc/\yD g so ao oo so ao oo w w')/\Below L w w':=by
 have HB:Hid (BAt L w g b so ao oo sc ac oc):=h;obtain⟨_,c1,_,c3,_,_,_,hf⟩:=h.cells;have hg:g<w.heap.size:=(h.lt g (Or.inl rfl)).2;have hL:L<=w.heap.size:=by have:=h.lo;omega
 rcases hla with hl | ⟨k,hl,hk⟩
 ·have HE:Hid (E=7):=by show _=_;rw[hE,if_pos (Or.inl hl)]
  rw[hl]at c3;clear h hE hf hl;unfold ptV zTQ;go_enter Tryz.func94,Tryz.ntmps94
  go_wp2_with fail
  go_quiet (fail)
  go_wp2_with fail
  go_returns;exact⟨by rw[HE.out];rfl,λe=>by have:=HE.out;omega,(below_drewN ((Below.refl _ _).alloc (lG _) _) _).mono hL⟩
 ·obtain⟨ga,hao,ga1,ga2,ga3⟩:=h.zA0 (by omega);subst hao;have hto:b.last.toNat=k:=by rw[hl];simp
  have bt:((k:Int)==-1)=false:=by simp
  have q9:=(h.zAh k 9 (by omega) (by decide)).1;change w.cell? ⟨ga,k*20+9,none⟩=some (.int .i64 (b.zTP k).rep.kind)at q9;rw[hl]at c3;have hk':(k:Int)<(b.zG.length:Int):=by omega
  cases hr:((b.zTP k).rep.kind != 0)
  ·have HE:Hid (E=0):=by show _=_;rw[hE,hto,if_neg (by rintro(x | x);omega;exact x (by simpa using hr))]
   have HR:Hid (b.repeated t={ b with zG:=b.zG.set k { b.zTP k with rep:=t } }):=by show _=_;unfold Mt.PB.repeated;rw[hto]
   have HTH:Hid (∀W:World,Below w.heap.size w W->W.there ga (k*20+9) (zTQ t).size):=λW hW=>zG1 (h.below hW).zG _ _ (by rw[zI7];omega)
   clear h hE hf hl;unfold ptV;go_enter Tryz.func94,Tryz.ntmps94
   go_wp2_with fail
   go_quiet (fail)
   go_upto_region 3 with fail
   have hW:Below w.heap.size w ((w.alloc (.cells (zTQ t) 100)).drewN nq):=below_drewN ((Below.refl _ _).alloc (lG _) _) _;have HNW:((w.alloc (.cells (zTQ t) 100)).drewN nq).heap[w.heap.size]?=some (.cells (zTQ t) 100 (0,0)):=by rw[World.heap_drewN];exact heap_alloc_new _ _
   have HHW:Hid (Below w.heap.size w ((w.alloc (.cells (zTQ t) 100)).drewN nq)):=hW;generalize hWW:(w.alloc (.cells (zTQ t) 100)).drewN nq=W at *;have d1:=(hW.cell (p:=⟨g,1,none⟩) hg).trans c1;have d3:=(hW.cell (p:=⟨g,3,none⟩) hg).trans c3;have hc1:∀z:World,(z.heap[w.heap.size]?=some (.cells (zTQ t) 100 (0,0))/\z.cell? ⟨g,1,none⟩=some (.slice (some ⟨ga,0,none⟩) b.zG.length ac)/\z.cell? ⟨g,3,none⟩=some (.int .i64 k))->z.cell? ⟨g,1,none⟩=some (.slice (some ⟨ga,0,none⟩) b.zG.length ac):=λz hz=>hz.2.1
   have hc3:∀z:World,(z.heap[w.heap.size]?=some (.cells (zTQ t) 100 (0,0))/\z.cell? ⟨g,1,none⟩=some (.slice (some ⟨ga,0,none⟩) b.zG.length ac)/\z.cell? ⟨g,3,none⟩=some (.int .i64 k))->z.cell? ⟨g,3,none⟩=some (.int .i64 k):=λz hz=>hz.2.2
   have hcr:∀z:World,(z.heap[w.heap.size]?=some (.cells (zTQ t) 100 (0,0))/\z.cell? ⟨g,1,none⟩=some (.slice (some ⟨ga,0,none⟩) b.zG.length ac)/\z.cell? ⟨g,3,none⟩=some (.int .i64 k))->z.rangeAt w.heap.size 0 (zTQ t).toList:=λz hz=>xP hz.1
   have S0:W.drew.heap[w.heap.size]?=some (.cells (zTQ t) 100 (0,0))/\W.drew.cell? ⟨g,1,none⟩=some (.slice (some ⟨ga,0,none⟩) b.zG.length ac)/\W.drew.cell? ⟨g,3,none⟩=some (.int .i64 k):=⟨HNW,d1,d3⟩
   refine wp_region_held_drew (S:=λz:World=>z.heap[w.heap.size]?=some (.cells (zTQ t) 100 (0,0))/\z.cell? ⟨g,1,none⟩=some (.slice (some ⟨ga,0,none⟩) b.zG.length ac)/\z.cell? ⟨g,3,none⟩=some (.int .i64 k)) (by kernel_rfl) S0 (λhH=>?_);refine kD 0 26 (.pointer (some ⟨g,0,none⟩)) rfl rfl (by kernel_rfl) (by kernel_rfl) (by kernel_rfl) (λ_ _ _ h=>h) (Or.inl ⟨by rfl,λz hz=>by clear hH hz hc1 hc3 hcr S0 HNW hW;go_simp⟩) (by assumption) ?_;simp only[Act.put,lC,lD,lF];refine kD 1 27 (.pointer (some ⟨g,0,none⟩)) rfl rfl (by kernel_rfl) (by kernel_rfl) (by kernel_rfl) (λ_ _ _ h=>h) (Or.inl ⟨by rfl,λz hz=>by clear hH hz hc1 hc3 hcr S0 HNW hW;go_simp⟩) (by assumption) ?_;simp only[Act.put,lC,lD,lF];refine kD 2 28 (.pointer (some ⟨g,0,none⟩)) rfl rfl (by kernel_rfl) (by kernel_rfl) (by kernel_rfl) (λ_ _ _ h=>h) (Or.inl ⟨by rfl,λz hz=>by clear hH hz hc1 hc3 hcr S0 HNW hW;go_simp⟩) (by assumption) ?_;simp only[Act.put,lC,lD,lF];refine kD 3 29 (.pointer (some ⟨g,1,none⟩)) rfl rfl (by kernel_rfl) (by kernel_rfl) (by kernel_rfl) (λ_ _ _ h=>h) (Or.inl ⟨by rfl,λz hz=>by clear hH hz hc1 hc3 hcr S0 HNW hW;go_simp⟩) (by assumption) ?_;simp only[Act.put,lC,lD,lF];refine kD 4 30 (.slice (some ⟨ga,0,none⟩) b.zG.length ac) rfl rfl (by kernel_rfl) (by kernel_rfl) (by kernel_rfl) (λ_ _ _ h=>h) (Or.inl ⟨by rfl,λz hz=>by have hz1:=hc1 z hz;clear hH hz hc1 hc3 hcr S0 HNW hW;go_simp⟩) (by assumption) ?_;simp only[Act.put,lC,lD,lF];refine kD 5 31 (.pointer (some ⟨g,0,none⟩)) rfl rfl (by kernel_rfl) (by kernel_rfl) (by kernel_rfl) (λ_ _ _ h=>h) (Or.inl ⟨by rfl,λz hz=>by clear hH hz hc1 hc3 hcr S0 HNW hW;go_simp⟩) (by assumption) ?_;simp only[Act.put,lC,lD,lF];refine kD 6 32 (.pointer (some ⟨g,0,none⟩)) rfl rfl (by kernel_rfl) (by kernel_rfl) (by kernel_rfl) (λ_ _ _ h=>h) (Or.inl ⟨by rfl,λz hz=>by clear hH hz hc1 hc3 hcr S0 HNW hW;go_simp⟩) (by assumption) ?_;simp only[Act.put,lC,lD,lF];refine kD 7 33 (.pointer (some ⟨g,3,none⟩)) rfl rfl (by kernel_rfl) (by kernel_rfl) (by kernel_rfl) (λ_ _ _ h=>h) (Or.inl ⟨by rfl,λz hz=>by clear hH hz hc1 hc3 hcr S0 HNW hW;go_simp⟩) (by assumption) ?_;simp only[Act.put,lC,lD,lF];refine kD 8 34 (.int .i64 k) rfl rfl (by kernel_rfl) (by kernel_rfl) (by kernel_rfl) (λ_ _ _ h=>h) (Or.inl ⟨by rfl,λz hz=>by have hz1:=hc3 z hz;clear hH hz hc1 hc3 hcr S0 HNW hW;go_simp⟩) (by assumption) ?_;simp only[Act.put,lC,lD,lF];refine kD 9 35 (.agg (zTQ t)) rfl rfl (by kernel_rfl) (by kernel_rfl) (by kernel_rfl) (λ_ _ _ h=>h) (yieldsIf_load_mid (by rfl) _ _ rfl _ _ rfl _ _ hcr Tryz.underlying100 rfl (by rw[Tryz.sizePT];rfl)) (by assumption) ?_;simp only[Act.put,lC,lD,lF];refine kD 10 36 (.pointer (some ⟨ga,k*20,none⟩)) rfl rfl (by kernel_rfl) (by kernel_rfl) (by kernel_rfl) (λ_ _ _ h=>h) (Or.inl ⟨by rfl,λz hz=>by clear hH hz hc1 hc3 hcr S0 HNW hW;go_simp⟩) (by assumption) ?_;simp only[Act.put,lC,lD,lF];refine kD 11 37 (.pointer (some ⟨ga,k*20+9,none⟩)) rfl rfl (by kernel_rfl) (by kernel_rfl) (by kernel_rfl) (λ_ _ _ h=>h) (Or.inl ⟨by rfl,λz hz=>by clear hH hz hc1 hc3 hcr S0 HNW hW;go_simp⟩) (by assumption) ?_;simp only[Act.put,lC,lD,lF];refine zAG 12 _ rfl rfl (by kernel_rfl) (by kernel_rfl) _ _ _ rfl ga (k*20+9) (zTQ t) (by kernel_rfl) (by kernel_rfl) (HTH.out _ HHW.out.drew) (by rw[Tryz.sizePT];rfl) (xQ _) rfl ?_;have hne:w.heap.size≠ga:=by omega
   refine⟨⟨(qZ ga _ _ _ _ hne).trans S0.1,(World.cell?_of_block (a:=⟨g,1,none⟩) (qZ ga _ _ _ _ (Ne.symm ga1))).trans S0.2.1,(World.cell?_of_block (a:=⟨g,3,none⟩) (qZ ga _ _ _ _ (Ne.symm ga1))).trans S0.2.2⟩,?_⟩;clear hH hc1 hc3 hcr S0 HNW hW;go_wp2_with fail
   go_returns;have hWd:Below w.heap.size w W.drew:=HHW.out.drew;refine⟨by rw[HE.out];rfl,λ_=>?_,?_⟩
   ·rw[HR.out];exact⟨(HB.out.below hWd).zDW k 9 (zTQ t).toList { b.zTP k with rep:=t } hk (by show 9+(zTQ t).size<=20;rw[zI7];decide) rfl,(yD.below hWd).setMany ga _ _ (Or.inr (Or.inr (Or.inl rfl)))⟩
   ·exact(((yD.below hWd).setMany ga (k*20+9) (zTQ t).toList (Or.inr (Or.inr (Or.inl rfl))))).low HB.out hL
  ·have HE:Hid (E=7):=by show _=_;rw[hE,hto,if_pos (Or.inr (by simpa using hr))]
   clear h hE hf hl;unfold ptV zTQ;go_enter Tryz.func94,Tryz.ntmps94
   go_wp2_with fail
   go_quiet (fail)
   go_wp2_with fail
   go_returns;exact⟨by rw[HE.out];rfl,λe=>by have:=HE.out;omega,(below_drewN ((Below.refl _ _).alloc (lG _) _) _).mono hL⟩
theorem zPG{L:Nat}{w:World}{e:TypeId}{n m cap g:Nat}{xs:List Value}(h:w.ownsRow L e 1 (.slice (some ⟨g,0,none⟩) n cap) n xs)(hm:m<=n):w.ownsRow L e 1 (.slice (some ⟨g,0,none⟩) m cap) m (xs.take m):=by
 have h1:=h.1;refine⟨by rw[List.length_take];omega,?_⟩;rcases h.2 with ⟨e,_⟩ | ⟨g',cap',cur,hv,hb,hg,h2,h3,h4,h5⟩
 ·simp at e
 ·simp only[Value.slice.injEq,Option.some.injEq,Addr.mk.injEq,and_true,true_and]at hv;obtain⟨rfl,rfl⟩:=hv;refine .inr ⟨g,cap,cur,rfl,hb,hg,by omega,h3,h4,?_⟩;rw[<-h5,List.take_take,Nat.min_eq_left (by omega),Nat.mul_one]
theorem zG2(l:List Nat)(m:Nat)(h:l.length=m+1):(opL l).take m=opL l.dropLast:=by
 unfold opL;rw[List.dropLast_eq_take,h,List.map_take];rfl
theorem zQL(b:Mt.PB)(so ao oo:Option Addr)(sc ac oc nu:Nat)(v:Bool):(bA b so ao oo sc ac oc).setIfInBounds (6+nu) (.bool v)=bA { b with clo:=b.clo.set nu v } so ao oo sc ac oc:=by
 unfold bA;rw[lC,show 6+nu=nu+1+1+1+1+1+1 by omega];simp only[lF,List.map_set]
theorem zEt{L:Nat}{w:World}{g:Nat}{b:Mt.PB}{so ao oo:Option Addr}{sc ac oc:Nat}(h:BAt L w g b so ao oo sc ac oc)(hn:b.zG.length<=1000)(ho:b.opn.length<=1000)
  (hT:0<b.opn.length->b.top<b.zG.length/\∃nu hm:Nat,(b.zTP b.top).num=nu/\nu<=9/\(b.zTP b.top).home=hm)
  (E:Int) (hE:E=if b.opn.length=0 then 10 else 0) :
  Calls Tryz.prog 93 #[.pointer (some ⟨g,0,none⟩)] w λe w'=>e=.returned (.int .i64 E)/\(E=0->BAt L w' g b.close so ao oo sc ac oc/\yD g so ao oo so ao oo w w')/\Below L w w':=by
 have HB:Hid (BAt L w g b so ao oo sc ac oc):=h;obtain⟨_,c1,c2,c3,c4,_,ck,hf⟩:=h.cells;have hg:g<w.heap.size:=(h.lt g (Or.inl rfl)).2;have hL:L<=w.heap.size:=by have:=h.lo;omega
 by_cases h0:b.opn.length=0
 ·have HE:Hid (E=10):=by show _=_;rw[hE,if_pos h0]
  rw[h0]at c4;clear h hE hf hT ck h0;go_enter Tryz.func93,Tryz.ntmps93
  go_wp2_with fail
  go_returns;exact⟨by rw[HE.out];rfl,λe=>by have:=HE.out;omega,Below.refl _ _⟩
 ·have HE:Hid (E=0):=by show _=_;rw[hE,if_neg h0]
  obtain⟨m,hm⟩:∃m,b.opn.length=m+1:=⟨b.opn.length-1,by omega⟩
  obtain⟨hT1,nu,hmm,hnu,zTg,hho⟩:=hT (by omega);obtain⟨go,hoo,go1,go2,go3⟩:=h.zPE (by omega);subst hoo;obtain⟨ga,hao,ga1,ga2,ga3⟩:=h.zA0 (by omega);subst hao;have o0:=h.zPF m (by omega)
  have htop:b.opn.getD m 0=b.top:=by
   unfold Mt.PB.top;rw[Mt.zBs _ _ (by omega),hm];rfl
  rw[htop]at o0;have a8:=(h.zAh b.top 8 hT1 (by decide)).1;have a18:=(h.zAh b.top 18 hT1 (by decide)).1;change w.cell? ⟨ga,b.top*20+8,none⟩=some (.int .i64 (b.zTP b.top).num)at a8;change w.cell? ⟨ga,b.top*20+18,none⟩=some (.int .i64 (b.zTP b.top).home)at a18;rw[hnu]at a8;rw[hho]at a18;have kn:=ck nu (by omega);have f2:=hf 2;have f3:=hf 3;have f4:=hf 4;have f6:=hf (6+nu);have ne1:(6+nu==4)=false:=by simp;omega
  have zSw:(nu:Int)<10:=by omega
  rw[hm]at c4 go3;have HN:Hid ((b.zTP b.top).num.toNat=nu/\(b.zTP b.top).home.toNat=hmm):=⟨by rw[hnu];simp,by rw[hho];simp⟩
  have HM:Hid (b.opn.length=m+1):=hm;have hm1:m<=1000:=by omega
  generalize hTT:b.top=T at *;have HTT:Hid (b.top=T):=hTT;clear h hE hf hT ck h0 htop hTT hm ho hnu hho;generalize b.clo.getD nu false=cb at *;generalize b.zG.length=N at *;go_enter Tryz.func93,Tryz.ntmps93
  go_wp2_with fail
  go_region
  go_wp2_with fail
  go_returns
  have M1:=HB.out.field (k:=4) (v:=.slice (some ⟨go,0,none⟩) m oc) (b':={ b with opn:=b.opn.dropLast }) (so':=so) (ao':=some ⟨ga,0,none⟩) (oo':=some ⟨go,0,none⟩) (sc':=sc) (ac':=ac) (oc':=oc) (by unfold bA;simp[List.length_dropLast,HM.out]) HB.out.kN HB.out.zG (by
   have r:=zPG HB.out.opn (m:=m) (by rw[HM.out];omega);rw[zG2 _ _ HM.out]at r;simpa[List.length_dropLast,HM.out]using r) HB.out.ap HB.out.cl
  have M2:=M1.field (k:=6+nu) (v:=.bool true) (b':={ b with opn:=b.opn.dropLast,clo:=b.clo.set nu true }) (so':=so) (ao':=some ⟨ga,0,none⟩) (oo':=some ⟨go,0,none⟩) (sc':=sc) (ac':=ac) (oc':=oc) (by rw[zQL]) M1.kN M1.zG M1.opn M1.ap (by simp[HB.out.cl]);have M3:=M2.field (k:=2) (v:=.int .i64 hmm) (b':={ b with opn:=b.opn.dropLast,clo:=b.clo.set nu true,seq:=hmm }) (so':=so) (ao':=some ⟨ga,0,none⟩) (oo':=some ⟨go,0,none⟩) (sc':=sc) (ac':=ac) (oc':=oc) (by unfold bA;simp) M2.kN M2.zG M2.opn M2.ap M2.cl
  have ec:b.close={ b with opn:=b.opn.dropLast,clo:=b.clo.set nu true,seq:=hmm,last:=(T:Int) }:=by
   unfold Mt.PB.close;rw[HTT.out,HN.out.1,HN.out.2]
  have M4:=M3.field (k:=3) (v:=.int .i64 T) (b':=b.close) (so':=so) (ao':=some ⟨ga,0,none⟩) (oo':=some ⟨go,0,none⟩) (sc':=sc) (ac':=ac) (oc':=oc) (by rw[ec];unfold bA;simp) (by rw[ec];exact M3.kN) (by rw[ec];exact M3.zG) (by rw[ec];exact M3.opn) M3.ap (by rw[ec];exact M3.cl);have ST:yD g so (some ⟨ga,0,none⟩) (some ⟨go,0,none⟩) so (some ⟨ga,0,none⟩) (some ⟨go,0,none⟩) w _:=(((((yD.refl g so (some ⟨ga,0,none⟩) (some ⟨go,0,none⟩) w).set (p:=⟨g,4,none⟩) (Or.inl rfl) (.slice (some ⟨go,0,none⟩) m oc)).set (p:=⟨g,6+nu,none⟩) (Or.inl rfl) (.bool true)).set (p:=⟨g,2,none⟩) (Or.inl rfl) (.int .i64 hmm)).set (p:=⟨g,3,none⟩) (Or.inl rfl) (.int .i64 T)).drew;exact⟨by rw[HE.out];rfl,λ_=>⟨M4.drew,ST⟩,ST.low HB.out hL⟩
end Go.Proofs.YtebpgfodelggoabGreat
namespace Mt
def PB.push(b:PB)(k:Nat):PB:={ b with opn:=b.opn++[k] }
theorem zL9(b:PB)(g:Nat):b.into g={ (b.push g).newSeq with zG:=b.zG.set g { b.zTP g with body:=b.kN.length },seq:=b.kN.length,last:=-1 }:=rfl
end Mt
namespace Go.Proofs.YtebpgfodelggoabGreat
open Go.RowKit
theorem Tryz.infoInt:(Tryz.prog.info? 3).map (λi=>(i.zero,i.size,i.bytes))=some (some (.int .i64 0),1,8):=by kernel_rfl
theorem zI9{L:Nat}{w w0 w1:World}{g:Nat}{b:Mt.PB}{so ao oo:Option Addr}{sc ac oc q cap k:Nat}(h:BAt L w g b so ao oo sc ac oc)(h0:Below w.heap.size w w0)(hs0:w.heap.size<w0.heap.size)(hg:w0.grownBy w1 (blk oo))(hq:blk oo=some q\/q=w0.heap.size)
  (jS:w1.ownsRow L 3 1 (.slice (some ⟨q,0,none⟩) (b.opn.length+1) cap) (b.opn.length+1) (opL b.opn++[.int .i64 (k:Int)])) :
  BAt L (w1.setCell ⟨g,4,none⟩ (.slice (some ⟨q,0,none⟩) (b.opn.length+1) cap)) g (b.push k) so ao (some ⟨q,0,none⟩) sc ac cap/\yD g so ao oo so ao (some ⟨q,0,none⟩) w (w1.setCell ⟨g,4,none⟩ (.slice (some ⟨q,0,none⟩) (b.opn.length+1) cap)):=by
 have zTI:∀k,own g so ao oo k->k<w0.heap.size:=λk hk=>by have:=(h.lt k hk).2;omega
 have n:q≠g/\blk so≠some q/\blk ao≠some q:=by
  rcases hq with e | e
  ·exact⟨λx=>h.ap.2.2.1 (by rw[e,x]),λx=>(h.ap.2.2.2.1 q x).2 e,λx=>h.ap.2.2.2.2 q x e⟩
  ·subst e;exact⟨λe=>by have:=zTI g (Or.inl rfl);omega,λe=>by have:=zTI _ (Or.inr (Or.inl e));omega,λe=>by have:=zTI _ (Or.inr (Or.inr (Or.inl e)));omega⟩
 obtain⟨n1,n2,n3⟩:=n;have kg:w1.heap[g]?=w.heap[g]?:=h.grown h0 hg g (Or.inl rfl) (λe=>h.ap.2.2.1 e.symm);have ks:∀k,blk so=some k->w1.heap[k]?=w.heap[k]?:=λk hk=>h.grown h0 hg k (Or.inr (Or.inl hk)) (λe=>(h.ap.2.2.2.1 k hk).2 e.symm)
 have ka:∀k,blk ao=some k->w1.heap[k]?=w.heap[k]?:=λk hk=>h.grown h0 hg k (Or.inr (Or.inr (Or.inl hk))) (λe=>h.ap.2.2.2.2 k hk e.symm)
 have hap:blk so≠some g/\blk ao≠some g/\blk (some ⟨q,0,none⟩)≠some g/\(∀k,blk so=some k->blk ao≠some k/\blk (some ⟨q,0,none⟩)≠some k)/\(∀k,blk ao=some k->blk (some ⟨q,0,none⟩)≠some k) :=
  ⟨h.ap.1,h.ap.2.1,λe=>n1 (by simpa[blk]using e),λk hk=>⟨(h.ap.2.2.2.1 k hk).1,λe=>n2 (by simp[blk]at e;rw[hk,e])⟩,λk hk=>λe=>n3 (by simp[blk]at e;rw[hk,e])⟩
 have o:∀k',k'≠g->(w1.setCell ⟨g,4,none⟩ (.slice (some ⟨q,0,none⟩) (b.opn.length+1) cap)).heap[k']?=w1.heap[k']?:=λk' hk=>Below.heap_setCell _ _ _ _ hk
 refine⟨⟨?_,h.lo,?_,?_,?_,hap,h.cl⟩,?_⟩
 ·have hc:=Go.heap_setCell_same w1 g 4 _ _ (.slice (some ⟨q,0,none⟩) (b.opn.length+1) cap) (by rw[kg];exact h.cell);rw[hc];unfold bA Mt.PB.push;simp
 ·exact zT h.kN (λk hk=>by rw[o k (λe=>h.ap.1 (by rw[<-e];exact hk)),ks k hk])
 ·exact zT h.zG (λk hk=>by rw[o k (λe=>h.ap.2.1 (by rw[<-e];exact hk)),ka k hk])
 ·have e1:(b.push k).opn.length=b.opn.length+1:=by simp[Mt.PB.push]
  have e2:opL (b.push k).opn=opL b.opn++[.int .i64 (k:Int)]:=by simp[Mt.PB.push,opL]
  rw[e1,e2];exact zT jS (λk hk=>o k (by simp[blk]at hk;omega))
 ·refine⟨hg.os.trans h0.os,hg.tape.trans h0.tape,hg.output.trans h0.output,?_,λk hk hn=>?_,λk hk ho=>?_⟩
  ·have:=hg.size;have:=h0.size;simp[World.setCell];omega
  ·rw[o k (λe=>hn (Or.inl e)),hg.block k (by have:=h0.size;omega) (λe=>hn (Or.inr (Or.inr (Or.inr e.symm)))),h0.block k hk]
  ·rcases ho with e | e | e | e
   ·exact Or.inl e
   ·exact Or.inr (Or.inl e)
   ·exact Or.inr (Or.inr (Or.inl e))
   ·simp[blk]at e;subst e;rcases hq with hq | hq
    ·exact Or.inr (Or.inr (Or.inr hq))
    ·omega
theorem zAH{L:Nat}{w:World}{g:Nat}{b:Mt.PB}{so ao oo:Option Addr}{sc ac oc:Nat}(t:Mt.PT)(h:BAt L w g b so ao oo sc ac oc)(E:Int)
  (hE:(10<=b.opn.length/\E=8)\/(¬10<=b.opn.length/\t.group=1/\9<=b.kR/\E=9)) :
  Calls Tryz.prog 92 #[.pointer (some ⟨g,0,none⟩),ptV t] w λe w'=>e=.returned (.int .i64 E)/\Below L w w':=by
 obtain⟨_,_,_,_,c4,c5,_,_⟩:=h.cells;have hg:g<w.heap.size:=(h.lt g (Or.inl rfl)).2;have hL:L<=w.heap.size:=by have:=h.lo;omega
 clear h;generalize b.opn.length=on at *;generalize b.kR=gr at *;unfold ptV zTQ;rcases hE with ⟨h1,rfl⟩ | ⟨h1,h2,h3,rfl⟩
 ·have b1:decide (10<=(on:Int))=true:=by simp;omega
  have b2:decide (10<=on)=true:=by simp;omega
  go_enter Tryz.func92,Tryz.ntmps92
  go_wp2_with fail
  go_returns;exact⟨rfl,((Below.refl _ _).alloc (lG _) _).mono hL⟩
 ·have b1:decide (10<=(on:Int))=false:=by simp;omega
  have b2:decide (10<=on)=false:=by simp;omega
  have b3:decide (9<=(gr:Int))=true:=by simp;omega
  have b4:decide (9<=gr)=true:=by simp;omega
  rw[h2];clear h2;go_enter Tryz.func92,Tryz.ntmps92
  go_wp2_with fail
  go_returns;exact⟨rfl,((Below.refl _ _).alloc (lG _) _).mono hL⟩
theorem zCj{L:Nat}{w:World}{g:Nat}{b:Mt.PB}{so ao oo:Option Addr}{sc ac oc:Nat}(t:Mt.PT)(h:BAt L w g b so ao oo sc ac oc)(hn:b.zG.length<=900)(hns:b.kN.length<=900)(hs:b.seq<b.kN.length)(hla:b.last=-1\/∃k:Nat,b.last=k/\k<b.zG.length)(ho:b.opn.length<10)(hgr:t.group≠1) :
  Calls Tryz.prog 92 #[.pointer (some ⟨g,0,none⟩),ptV t] w λe w'=>e=.returned (.int .i64 0)/\∃so' ao' oo' sc' ac' oc',BAt L w' g (b.kW t) so' ao' oo' sc' ac' oc'/\yD g so ao oo so' ao' oo' w w':=by
 obtain⟨i0,hi,hz0,hz1,hz2⟩:=info_parts Tryz.infoInt;have HB:Hid (BAt L w g b so ao oo sc ac oc):=h;obtain⟨_,_,_,_,c4,c5,_,_⟩:=h.cells;have hg:g<w.heap.size:=(h.lt g (Or.inl rfl)).2;have hL:L<=w.heap.size:=by have:=h.lo;omega
 have W1:Below w.heap.size w (w.alloc (.cells (zTQ t) 100)):=(Below.refl _ _).alloc (lG _) _;have HT:Hid (Calls Tryz.prog 96 #[.pointer (some ⟨g,0,none⟩),.agg (zTQ t)] (w.alloc (.cells (zTQ t) 100)) _):=tL t (h.below W1) (by omega) hs hla;have HW1:Hid (Below w.heap.size w (w.alloc (.cells (zTQ t) 100))):=W1;obtain⟨k1,k2,k3,k4,k5,k6,k7,k8,k9⟩:=Mt.zAX t hs hla;have b1:decide (10<=(b.opn.length:Int))=false:=by simp;omega
 have b2:decide (10<=b.opn.length)=false:=by simp;omega
 have b3:(t.group==1)=false:=by simpa using hgr
 have HEO:Hid (b.kW t=Mt.PB.into (b.zS t) b.zG.length):=by
  show _=_;unfold Mt.PB.kW Mt.PB.number;rw[if_neg (by simpa using hgr)]
 obtain⟨e,hee⟩:∃e:Mt.PB,e=b.zS t:=⟨_,rfl⟩
 rw[<-hee]at HEO;have he1:e.kN.length=b.kN.length:=by rw[hee];exact k2
 have he2:e.zG.length=b.zG.length+1:=by rw[hee];exact k1
 have he4:e.opn=b.opn:=by rw[hee];exact k5
 have HEE:Hid (e=b.zS t):=hee;have HK:Hid (((b.zS t).last=b.zG.length/\(b.zS t).kR=b.kR)/\(b.zS t).zG.length=b.zG.length+1):=⟨⟨k3,k6⟩,k1⟩
 clear h W1 hee k1 k2 k3 k4 k5 k6 k7 k8 k9;unfold ptV;unfold zTQ at HT HW1 |-;go_enter Tryz.func92,Tryz.ntmps92
 go_wp2_with fail
 refine HT.out.mono ?_;rintro e0 w1 ⟨rfl,ao1,ac1,hP,hSt⟩;have St1:yD g so ao oo so ao1 oo w w1:=(yD.below HW1.out).trans hSt;obtain⟨x0,x1,x2,x3,_,x5,_,xf⟩:=hP.cells;rw[HK.out.1.1]at x3;rw[HK.out.1.2]at x5;have hblk:w1.heap[w.heap.size]?=_:=(hSt.block w.heap.size (by simp) (λho=>by have:=(HB.out.lt _ ho).2;omega)).trans (heap_alloc_new _ _);have t2:=(zC hblk).1 2;simp only[List.getElem?_toArray,List.getElem?_cons_succ,List.getElem?_cons_zero]at t2;have hg1:g<w1.heap.size:=(hP.lt g (Or.inl rfl)).2;have HP:Hid (BAt L w1 g (b.zS t) so ao1 oo sc ac1 oc/\yD g so ao oo so ao1 oo w w1):=⟨hP,St1⟩
 clear hP hSt St1 xf hblk HT;go_upto_region 10 with fail
 obtain⟨w3,hw3⟩:∃w3:World,w3=w1:=⟨_,rfl⟩
 have B3:BAt L w3 g e so ao1 oo sc ac1 oc:=by rw[hw3,HEE.out];exact HP.out.1
 have St3:yD g so ao oo so ao1 oo w w3:=by rw[hw3];exact HP.out.2
 rw[<-hw3];clear hw3 x0 x1 x2 x3 x5 t2 HP HK HEE
 ·skip
  have hW3:Hid (BAt L w3 g e so ao1 oo sc ac1 oc/\yD g so ao oo so ao1 oo w w3):=⟨B3,St3⟩
  obtain⟨y0,y1,y2,y3,y4,y5,_,yf⟩:=B3.cells;have yf4:=yf 4;have y4':w3.cell? ⟨g,4,none⟩=some (.slice oo b.opn.length oc):=by rw[y4,he4]
  have HO3:Hid (w3.ownsRow L 3 1 (.slice oo b.opn.length oc) b.opn.length (opL b.opn)):=by show World.ownsRow _ _ _ _ _ _ _;have:=B3.opn;rw[he4]at this;exact this
  have hg3:g<w3.heap.size:=(B3.lt g (Or.inl rfl)).2;have hL3:L<=w3.heap.size:=by have:=B3.lo;omega
  clear B3 St3 y0 y1 y2 y3 y4 y5 yf;go_wp2_with (at_builtin;refine wpList_append_lies _ rfl (.tmp 56) (.tmp 58) 51 rfl L 3 i0 _ 1 8 Tryz.underlying51 hi hz0 hz1 hz2 rfl (by decide) _ _ _ rfl (HO3.out.alloc _) ⟨w3.heap.size,0,none⟩ 1 1 [.int .i64 (b.zG.length:Int)] rfl rfl ?c1 ?c2 (by decide) ?c3 ?c4 ?c5 (w3.heap.size+1) ?c6 ?_)
  case c1=>exact World.news_of_block (cs:=#[.int .i64 (b.zG.length:Int)]) (heap_alloc_new _ _)
  case c2=>intro u hu;simp at hu;subst hu;rfl
  case c3=>unfold maxLen;omega
  case c4=>omega
  case c5=>simp;omega
  case c6=>simp
  intro q cap w4 jS jL hq zKh;rw[kU]at jL hq;have hb0:Below w3.heap.size w3 (w3.alloc (.cells #[.int .i64 (b.zG.length:Int)] 3)):=(Below.refl _ _).alloc (lG _) _;have HM:=zI9 (k:=b.zG.length) hW3.out.1 hb0 (by simp) jL (by simpa using hq) (by rw[he4];exact jS);rw[he4]at HM;have kg:w4.heap[g]?=w3.heap[g]?:=hW3.out.1.grown hb0 jL g (Or.inl rfl) (λe=>hW3.out.1.ap.2.2.1 e.symm);have d4:w4.cell? ⟨g,4,none⟩=some (.slice oo b.opn.length oc):=(World.cell?_of_block (a:=⟨g,4,none⟩) kg).trans y4';have e4:w4.frozen? ⟨g,4,none⟩=false:=(World.frozen?_of_block (a:=⟨g,4,none⟩) kg).trans yf4;have HM':Hid (BAt L (w4.setCell ⟨g,4,none⟩ (.slice (some ⟨q,0,none⟩) (b.opn.length+1) cap)) g (e.push b.zG.length) so ao1 (some ⟨q,0,none⟩) sc ac1 cap/\yD g so ao oo so ao1 (some ⟨q,0,none⟩) w (w4.setCell ⟨g,4,none⟩ (.slice (some ⟨q,0,none⟩) (b.opn.length+1) cap))):=⟨HM.1,hW3.out.2.trans HM.2⟩
  have hls:(e.push b.zG.length).kN.length<=1000:=by show e.kN.length<=1000;rw[he1];omega
  have CN:=bU HM'.out.1 hls;have ls:(e.push b.zG.length).kN.length=b.kN.length:=he1;rw[ls]at CN;have HCN:Hid (Calls Tryz.prog _ _ _ _):=CN;clear HM jS jL hq kg hb0 CN yf4 y4';go_wp2_with fail
  refine HCN.out.mono ?_;rintro e' w5 ⟨rfl,so5,sc5,hP,hSt⟩;obtain⟨x0,x1,x2,x3,_,_,_,xf⟩:=hP.cells;have xf2:=xf 2;have xf3:=xf 3;obtain⟨ga,hao,ga1,ga2,ga3⟩:=hP.zA0 (by show 0<e.zG.length;omega);subst hao;have zPH:=hP.zAh b.zG.length 17 (by show _<e.zG.length;omega) (by decide);have a17:=zPH.1;have f17:=zPH.2;change w5.cell? ⟨ga,b.zG.length*20+17,none⟩=some (.int .i64 (e.zTP b.zG.length).body)at a17;change w5.cell? ⟨g,1,none⟩=some (.slice (some ⟨ga,0,none⟩) e.zG.length ac1)at x1;rw[he2]at x1;change w5.cell? ⟨g,2,none⟩=some (.int .i64 e.seq)at x2;change w5.cell? ⟨g,3,none⟩=some (.int .i64 e.last)at x3;have ga4:b.zG.length+1<=ac1:=by change e.zG.length<=ac1 at ga3;omega
  have hg5:g<w5.heap.size:=(hP.lt g (Or.inl rfl)).2;have R:Hid (BAt L w5 g (e.push b.zG.length).newSeq so5 (some ⟨ga,0,none⟩) (some ⟨q,0,none⟩) sc5 ac1 cap/\yD g so ao oo so5 (some ⟨ga,0,none⟩) (some ⟨q,0,none⟩) w w5):=⟨hP,HM'.out.2.trans hSt⟩
  clear hP hSt xf zPH HCN HM' x0 ga3;go_wp2_with fail
  go_returns;have hi3:b.zG.length<(e.push b.zG.length).newSeq.zG.length:=by show _<e.zG.length;omega
  have M1:=R.out.1.zDW b.zG.length 17 [.int .i64 b.kN.length] { e.zTP b.zG.length with body:=b.kN.length } hi3 (by simp) rfl;have M2:=M1.field (k:=2) (v:=.int .i64 b.kN.length) (b':={ (e.push b.zG.length).newSeq with zG:=e.zG.set b.zG.length { e.zTP b.zG.length with body:=b.kN.length },seq:=b.kN.length }) (so':=so5) (ao':=some ⟨ga,0,none⟩) (oo':=some ⟨q,0,none⟩) (sc':=sc5) (ac':=ac1) (oc':=cap) (by unfold bA;simp;rfl) M1.kN M1.zG M1.opn M1.ap M1.cl
  have eo:b.kW t={ (e.push b.zG.length).newSeq with zG:=e.zG.set b.zG.length { e.zTP b.zG.length with body:=b.kN.length },seq:=b.kN.length,last:=-1 }:=by
   rw[HEO.out,Mt.zL9,he1]
  have M3:=M2.field (k:=3) (v:=.int .i64 (-1)) (b':=b.kW t) (so':=so5) (ao':=some ⟨ga,0,none⟩) (oo':=some ⟨q,0,none⟩) (sc':=sc5) (ac':=ac1) (oc':=cap) (by rw[eo];unfold bA;simp) (by rw[eo];exact M2.kN) (by rw[eo];exact M2.zG) (by rw[eo];exact M2.opn) M2.ap (by rw[eo];exact M2.cl);refine⟨rfl,so5,some ⟨ga,0,none⟩,some ⟨q,0,none⟩,sc5,ac1,cap,M3,?_⟩;exact(((R.out.2.set (p:=⟨ga,b.zG.length*20+17,none⟩) (Or.inr (Or.inr (Or.inl rfl))) _).set (p:=⟨g,2,none⟩) (Or.inl rfl) _).set (p:=⟨g,3,none⟩) (Or.inl rfl) _)
theorem zDY{L:Nat}{w:World}{g:Nat}{b:Mt.PB}{so ao oo:Option Addr}{sc ac oc:Nat}(t:Mt.PT)(h:BAt L w g b so ao oo sc ac oc)(hn:b.zG.length<=900)(hns:b.kN.length<=900)(hs:b.seq<b.kN.length)(hla:b.last=-1\/∃k:Nat,b.last=k/\k<b.zG.length)(ho:b.opn.length<10)(hgr:t.group=1)(hg9:b.kR<9) :
  Calls Tryz.prog 92 #[.pointer (some ⟨g,0,none⟩),ptV t] w λe w'=>e=.returned (.int .i64 0)/\∃so' ao' oo' sc' ac' oc',BAt L w' g (b.kW t) so' ao' oo' sc' ac' oc'/\yD g so ao oo so' ao' oo' w w':=by
 obtain⟨i0,hi,hz0,hz1,hz2⟩:=info_parts Tryz.infoInt;have HB:Hid (BAt L w g b so ao oo sc ac oc):=h;obtain⟨_,_,_,_,c4,c5,_,_⟩:=h.cells;have hg:g<w.heap.size:=(h.lt g (Or.inl rfl)).2;have hL:L<=w.heap.size:=by have:=h.lo;omega
 have W1:Below w.heap.size w (w.alloc (.cells (zTQ t) 100)):=(Below.refl _ _).alloc (lG _) _;have HT:Hid (Calls Tryz.prog 96 #[.pointer (some ⟨g,0,none⟩),.agg (zTQ t)] (w.alloc (.cells (zTQ t) 100)) _):=tL t (h.below W1) (by omega) hs hla;have HW1:Hid (Below w.heap.size w (w.alloc (.cells (zTQ t) 100))):=W1;obtain⟨k1,k2,k3,k4,k5,k6,k7,k8,k9⟩:=Mt.zAX t hs hla;have b1:decide (10<=(b.opn.length:Int))=false:=by simp;omega
 have b2:decide (10<=b.opn.length)=false:=by simp;omega
 have b3:decide (9<=(b.kR:Int))=false:=by simp;omega
 have b4:decide (9<=b.kR)=false:=by simp;omega
 have HEO:Hid (b.kW t=Mt.PB.into { b.zS t with kR:=b.kR+1,zG:=(b.zS t).zG.set b.zG.length { (b.zS t).zTP b.zG.length with num:=(b.kR:Int)+1 } } b.zG.length):=by
  show _=_;unfold Mt.PB.kW Mt.PB.number;rw[hgr];simp[k6]
 obtain⟨e,hee⟩:∃e:Mt.PB,e={ b.zS t with kR:=b.kR+1,zG:=(b.zS t).zG.set b.zG.length { (b.zS t).zTP b.zG.length with num:=(b.kR:Int)+1 } }:=⟨_,rfl⟩
 rw[<-hee]at HEO;have he1:e.kN.length=b.kN.length:=by rw[hee];exact k2
 have he2:e.zG.length=b.zG.length+1:=by rw[hee];simp[k1]
 have he4:e.opn=b.opn:=by rw[hee];exact k5
 have HEE:Hid (e={ b.zS t with kR:=b.kR+1,zG:=(b.zS t).zG.set b.zG.length { (b.zS t).zTP b.zG.length with num:=(b.kR:Int)+1 } }):=hee;have HK:Hid (((b.zS t).last=b.zG.length/\(b.zS t).kR=b.kR)/\(b.zS t).zG.length=b.zG.length+1):=⟨⟨k3,k6⟩,k1⟩
 clear h W1 hee k1 k2 k3 k4 k5 k6 k7 k8 k9;unfold ptV;unfold zTQ at HT HW1 |-;rw[hgr]at HT HW1 |-;go_enter Tryz.func92,Tryz.ntmps92
 go_wp2_with fail
 refine HT.out.mono ?_;rintro e0 w1 ⟨rfl,ao1,ac1,hP,hSt⟩;have St1:yD g so ao oo so ao1 oo w w1:=(yD.below HW1.out).trans hSt;obtain⟨x0,x1,x2,x3,_,x5,_,xf⟩:=hP.cells;rw[HK.out.1.1]at x3;rw[HK.out.1.2]at x5;have hblk:w1.heap[w.heap.size]?=_:=(hSt.block w.heap.size (by simp) (λho=>by have:=(HB.out.lt _ ho).2;omega)).trans (heap_alloc_new _ _);have t2:=(zC hblk).1 2;simp only[List.getElem?_toArray,List.getElem?_cons_succ,List.getElem?_cons_zero]at t2;have hg1:g<w1.heap.size:=(hP.lt g (Or.inl rfl)).2;have HP:Hid (BAt L w1 g (b.zS t) so ao1 oo sc ac1 oc/\yD g so ao oo so ao1 oo w w1):=⟨hP,St1⟩
 obtain⟨ga0,zSx,zSy,zSz,zRT⟩:=hP.zA0 (by rw[HK.out.2];omega);subst zSx;have q8:=hP.zAh b.zG.length 8 (by rw[HK.out.2];omega) (by decide);have q81:=q8.1;have q82:=q8.2;change w1.cell? ⟨ga0,b.zG.length*20+8,none⟩=some (.int .i64 ((b.zS t).zTP b.zG.length).num)at q81;rw[HK.out.2]at x1 zRT;have f5:=xf 5;clear hP hSt St1 xf hblk q8 HT;go_wp2_with fail
 go_region
 go_upto_region 10 with fail
 obtain⟨w3,hw3⟩:∃w3:World,w3=((w1.setCell ⟨g,5,none⟩ (.int .i64 ((b.kR:Int)+1))).setCell ⟨ga0,b.zG.length*20+8,none⟩ (.int .i64 ((b.kR:Int)+1))).drew:=⟨_,rfl⟩
 have B3:BAt L w3 g e so (some ⟨ga0,0,none⟩) oo sc ac1 oc:=by
  rw[hw3,HEE.out];have M1:=HP.out.1.field (k:=5) (v:=.int .i64 ((b.kR:Int)+1)) (b':={ b.zS t with kR:=b.kR+1 }) (so':=so) (ao':=some ⟨ga0,0,none⟩) (oo':=oo) (sc':=sc) (ac':=ac1) (oc':=oc) (by unfold bA;simp) HP.out.1.kN HP.out.1.zG HP.out.1.opn HP.out.1.ap HP.out.1.cl;exact(M1.zDW b.zG.length 8 [.int .i64 ((b.kR:Int)+1)] { (b.zS t).zTP b.zG.length with num:=(b.kR:Int)+1 } (by show _<(b.zS t).zG.length;rw[HK.out.2];omega) (by simp) rfl).drew
 have St3:yD g so ao oo so (some ⟨ga0,0,none⟩) oo w w3:=by
  rw[hw3];exact((HP.out.2.set (p:=⟨g,5,none⟩) (Or.inl rfl) _).set (p:=⟨ga0,b.zG.length*20+8,none⟩) (Or.inr (Or.inr (Or.inl rfl))) _).drew
 rw[<-hw3];clear hw3 x0 x1 x2 x3 x5 t2 q81 q82 f5 HP HK HEE
 ·clear zSy zSz zRT;have hW3:Hid (BAt L w3 g e so (some ⟨ga0,0,none⟩) oo sc ac1 oc/\yD g so ao oo so (some ⟨ga0,0,none⟩) oo w w3):=⟨B3,St3⟩
  obtain⟨y0,y1,y2,y3,y4,y5,_,yf⟩:=B3.cells;have yf4:=yf 4;have y4':w3.cell? ⟨g,4,none⟩=some (.slice oo b.opn.length oc):=by rw[y4,he4]
  have HO3:Hid (w3.ownsRow L 3 1 (.slice oo b.opn.length oc) b.opn.length (opL b.opn)):=by show World.ownsRow _ _ _ _ _ _ _;have:=B3.opn;rw[he4]at this;exact this
  have hg3:g<w3.heap.size:=(B3.lt g (Or.inl rfl)).2;have hL3:L<=w3.heap.size:=by have:=B3.lo;omega
  clear B3 St3 y0 y1 y2 y3 y4 y5 yf;go_wp2_with (at_builtin;refine wpList_append_lies _ rfl (.tmp 56) (.tmp 58) 51 rfl L 3 i0 _ 1 8 Tryz.underlying51 hi hz0 hz1 hz2 rfl (by decide) _ _ _ rfl (HO3.out.alloc _) ⟨w3.heap.size,0,none⟩ 1 1 [.int .i64 (b.zG.length:Int)] rfl rfl ?c1 ?c2 (by decide) ?c3 ?c4 ?c5 (w3.heap.size+1) ?c6 ?_)
  case c1=>exact World.news_of_block (cs:=#[.int .i64 (b.zG.length:Int)]) (heap_alloc_new _ _)
  case c2=>intro u hu;simp at hu;subst hu;rfl
  case c3=>unfold maxLen;omega
  case c4=>omega
  case c5=>simp;omega
  case c6=>simp
  intro q cap w4 jS jL hq zKh;rw[kU]at jL hq;have hb0:Below w3.heap.size w3 (w3.alloc (.cells #[.int .i64 (b.zG.length:Int)] 3)):=(Below.refl _ _).alloc (lG _) _;have HM:=zI9 (k:=b.zG.length) hW3.out.1 hb0 (by simp) jL (by simpa using hq) (by rw[he4];exact jS);rw[he4]at HM;have kg:w4.heap[g]?=w3.heap[g]?:=hW3.out.1.grown hb0 jL g (Or.inl rfl) (λe=>hW3.out.1.ap.2.2.1 e.symm);have d4:w4.cell? ⟨g,4,none⟩=some (.slice oo b.opn.length oc):=(World.cell?_of_block (a:=⟨g,4,none⟩) kg).trans y4';have e4:w4.frozen? ⟨g,4,none⟩=false:=(World.frozen?_of_block (a:=⟨g,4,none⟩) kg).trans yf4;have HM':Hid (BAt L (w4.setCell ⟨g,4,none⟩ (.slice (some ⟨q,0,none⟩) (b.opn.length+1) cap)) g (e.push b.zG.length) so (some ⟨ga0,0,none⟩) (some ⟨q,0,none⟩) sc ac1 cap/\yD g so ao oo so (some ⟨ga0,0,none⟩) (some ⟨q,0,none⟩) w (w4.setCell ⟨g,4,none⟩ (.slice (some ⟨q,0,none⟩) (b.opn.length+1) cap))):=⟨HM.1,hW3.out.2.trans HM.2⟩
  have hls:(e.push b.zG.length).kN.length<=1000:=by show e.kN.length<=1000;rw[he1];omega
  have CN:=bU HM'.out.1 hls;have ls:(e.push b.zG.length).kN.length=b.kN.length:=he1;rw[ls]at CN;have HCN:Hid (Calls Tryz.prog _ _ _ _):=CN;clear HM jS jL hq kg hb0 CN yf4 y4';go_wp2_with fail
  refine HCN.out.mono ?_;rintro e' w5 ⟨rfl,so5,sc5,hP,hSt⟩;obtain⟨x0,x1,x2,x3,_,_,_,xf⟩:=hP.cells;have xf2:=xf 2;have xf3:=xf 3;obtain⟨ga,hao,ga1,ga2,ga3⟩:=hP.zA0 (by show 0<e.zG.length;omega);simp only[Option.some.injEq,Addr.mk.injEq,and_true,true_and]at hao;subst hao;have zPH:=hP.zAh b.zG.length 17 (by show _<e.zG.length;omega) (by decide);have a17:=zPH.1;have f17:=zPH.2;change w5.cell? ⟨ga0,b.zG.length*20+17,none⟩=some (.int .i64 (e.zTP b.zG.length).body)at a17;change w5.cell? ⟨g,1,none⟩=some (.slice (some ⟨ga0,0,none⟩) e.zG.length ac1)at x1;rw[he2]at x1;change w5.cell? ⟨g,2,none⟩=some (.int .i64 e.seq)at x2;change w5.cell? ⟨g,3,none⟩=some (.int .i64 e.last)at x3;have ga4:b.zG.length+1<=ac1:=by change e.zG.length<=ac1 at ga3;omega
  have hg5:g<w5.heap.size:=(hP.lt g (Or.inl rfl)).2;have R:Hid (BAt L w5 g (e.push b.zG.length).newSeq so5 (some ⟨ga0,0,none⟩) (some ⟨q,0,none⟩) sc5 ac1 cap/\yD g so ao oo so5 (some ⟨ga0,0,none⟩) (some ⟨q,0,none⟩) w w5):=⟨hP,HM'.out.2.trans hSt⟩
  clear hP hSt xf zPH HCN HM' x0 ga3;go_wp2_with fail
  go_returns;have hi3:b.zG.length<(e.push b.zG.length).newSeq.zG.length:=by show _<e.zG.length;omega
  have M1:=R.out.1.zDW b.zG.length 17 [.int .i64 b.kN.length] { e.zTP b.zG.length with body:=b.kN.length } hi3 (by simp) rfl;have M2:=M1.field (k:=2) (v:=.int .i64 b.kN.length) (b':={ (e.push b.zG.length).newSeq with zG:=e.zG.set b.zG.length { e.zTP b.zG.length with body:=b.kN.length },seq:=b.kN.length }) (so':=so5) (ao':=some ⟨ga0,0,none⟩) (oo':=some ⟨q,0,none⟩) (sc':=sc5) (ac':=ac1) (oc':=cap) (by unfold bA;simp;rfl) M1.kN M1.zG M1.opn M1.ap M1.cl
  have eo:b.kW t={ (e.push b.zG.length).newSeq with zG:=e.zG.set b.zG.length { e.zTP b.zG.length with body:=b.kN.length },seq:=b.kN.length,last:=-1 }:=by
   rw[HEO.out,Mt.zL9,he1]
  have M3:=M2.field (k:=3) (v:=.int .i64 (-1)) (b':=b.kW t) (so':=so5) (ao':=some ⟨ga0,0,none⟩) (oo':=some ⟨q,0,none⟩) (sc':=sc5) (ac':=ac1) (oc':=cap) (by rw[eo];unfold bA;simp) (by rw[eo];exact M2.kN) (by rw[eo];exact M2.zG) (by rw[eo];exact M2.opn) M2.ap (by rw[eo];exact M2.cl);refine⟨rfl,so5,some ⟨ga0,0,none⟩,some ⟨q,0,none⟩,sc5,ac1,cap,M3,?_⟩;exact(((R.out.2.set (p:=⟨ga0,b.zG.length*20+17,none⟩) (Or.inr (Or.inr (Or.inl rfl))) _).set (p:=⟨g,2,none⟩) (Or.inl rfl) _).set (p:=⟨g,3,none⟩) (Or.inl rfl) _)
def Takes(L:Nat)(w:World)(g:Nat)(so ao oo:Option Addr)(E:Int)(b':Mt.PB)(e:Ending)(w':World):Prop :=
 e=.returned (.int .i64 E)/\(E=0->∃so' ao' oo' sc' ac' oc',BAt L w' g b' so' ao' oo' sc' ac' oc'/\yD g so ao oo so' ao' oo' w w')/\Below L w w'
theorem zCT{L:Nat}{w:World}{g:Nat}{b:Mt.PB}{so ao oo:Option Addr}{sc ac oc:Nat}(t:Mt.PT)(h:BAt L w g b so ao oo sc ac oc)(hn:b.zG.length<=900)(hns:b.kN.length<=900)(hs:b.seq<b.kN.length)(hla:b.last=-1\/∃k:Nat,b.last=k/\k<b.zG.length) :
  Calls Tryz.prog 92 #[.pointer (some ⟨g,0,none⟩),ptV t] w (Takes L w g so ao oo (if 10<=b.opn.length then 8 else if t.group=1/\9<=b.kR then 9 else 0) (b.kW t)):=by
 have hL:L<=w.heap.size:=by have:=h.lo;have:=(h.lt g (Or.inl rfl)).2;omega
 by_cases h1:10<=b.opn.length
 ·rw[if_pos h1];exact(zAH t h 8 (Or.inl ⟨h1,rfl⟩)).mono (λe w' hh=>⟨hh.1,λe=>by omega,hh.2⟩)
 ·rw[if_neg h1];by_cases h2:t.group=1
  ·by_cases h3:9<=b.kR
   ·rw[if_pos ⟨h2,h3⟩];exact(zAH t h 9 (Or.inr ⟨h1,h2,h3,rfl⟩)).mono (λe w' hh=>⟨hh.1,λe=>by omega,hh.2⟩)
   ·rw[if_neg (λx=>h3 x.2)];exact(zDY t h hn hns hs hla (by omega) h2 (by omega)).mono (λe w' ⟨h4,so',ao',oo',sc',ac',oc',h5,h6⟩=>⟨h4,λ_=>⟨so',ao',oo',sc',ac',oc',h5,h6⟩,h6.low h hL⟩)
  ·rw[if_neg (λx=>h2 x.1)];exact(zCj t h hn hns hs hla (by omega) h2).mono (λe w' ⟨h4,so',ao',oo',sc',ac',oc',h5,h6⟩=>⟨h4,λ_=>⟨so',ao',oo',sc',ac',oc',h5,h6⟩,h6.low h hL⟩)
structure BOk (b:Mt.PB):Prop where
 na:b.zG.length<=900
 ns:b.kN.length<=900
 no:b.opn.length<=900
 sq:b.seq<b.kN.length
 la:b.last=-1\/∃k:Nat,b.last=k/\k<b.zG.length
 tp:0<b.opn.length->b.top<b.zG.length/\∃nu hm:Nat,(b.zTP b.top).num=nu/\nu<=9/\(b.zTP b.top).home=hm
theorem Takes.of{L:Nat}{w W w':World}{g:Nat}{b b':Mt.PB}{so ao oo so' ao' oo':Option Addr}{sc ac oc sc' ac' oc':Nat}{e:Ending}(h:BAt L w g b so ao oo sc ac oc)(hW:Below w.heap.size w W)(he:e=.returned (.int .i64 0))(hb:BAt L w' g b' so' ao' oo' sc' ac' oc')(hs:yD g so ao oo so' ao' oo' W w'):Takes L w g so ao oo 0 b' e w':=by
 have hL:L<=w.heap.size:=by have:=h.lo;have:=(h.lt g (Or.inl rfl)).2;omega
 have:=(yD.below (g:=g) (so:=so) (ao:=ao) (oo:=oo) hW).trans hs;exact⟨he,λ_=>⟨so',ao',oo',sc',ac',oc',hb,this⟩,this.low h hL⟩
theorem Takes.up{L:Nat}{w W w':World}{g:Nat}{b b':Mt.PB}{so ao oo:Option Addr}{sc ac oc:Nat}{E:Int}{e:Ending}(h:BAt L w g b so ao oo sc ac oc)(hW:Below w.heap.size w W)(ht:Takes L W g so ao oo E b' e w'):Takes L w g so ao oo E b' e w':=by
 have hL:L<=w.heap.size:=by have:=h.lo;have:=(h.lt g (Or.inl rfl)).2;omega
 refine⟨ht.1,λh0=>?_,(hW.mono hL).trans ht.2.2⟩;obtain⟨so',ao',oo',sc',ac',oc',h1,h2⟩:=ht.2.1 h0;exact⟨so',ao',oo',sc',ac',oc',h1,(yD.below hW).trans h2⟩
theorem zOa{L:Nat}{w:World}{g:Nat}{b:Mt.PB}{so ao oo:Option Addr}{sc ac oc:Nat}(t:Mt.PT)(h:BAt L w g b so ao oo sc ac oc)(hO:BOk b)(hk:t.kind=1) :
  Calls Tryz.prog 56 #[.pointer (some ⟨g,0,none⟩),ptV t] w (Takes L w g so ao oo (b.err t) (b.next t)):=by
 have HB:Hid (BAt L w g b so ao oo sc ac oc):=h;have W1:Below w.heap.size w (w.alloc (.cells (zTQ t) 100)):=(Below.refl _ _).alloc (lG _) _;have hw:=h.below W1;have e1:b.err t=0:=by unfold Mt.PB.err;rw[if_pos hk]
 have e2:b.next t=b.bar:=by unfold Mt.PB.next;rw[if_pos hk]
 rw[e1,e2];clear e1 e2;have HT:Hid (Calls Tryz.prog 91 _ (w.alloc (.cells (zTQ t) 100)) _):=zG0 hw (by have:=hO.ns;omega) hO.sq;have HW1:Hid (Below w.heap.size w (w.alloc (.cells (zTQ t) 100))):=W1;clear h W1 hw hO;unfold ptV;unfold zTQ at HT;unfold zTQ at HW1 |-;rw[hk]at HT HW1 |-;clear hk;go_enter Tryz.func56,Tryz.ntmps56
 go_wp2_with fail
 refine HT.out.mono ?_;rintro e w1 ⟨rfl,so1,sc1,hP,hSt⟩;have R:Hid (BAt L w1 g b.bar so1 ao oo sc1 ac oc/\yD g so ao oo so1 ao oo _ w1):=⟨hP,hSt⟩
 clear hP hSt;go_wp2_with fail
 go_returns;exact Takes.of HB.out HW1.out rfl R.out.1 R.out.2
theorem zMa{L:Nat}{w:World}{g:Nat}{b:Mt.PB}{so ao oo:Option Addr}{sc ac oc:Nat}(t:Mt.PT)(h:BAt L w g b so ao oo sc ac oc)(hO:BOk b)(hk:t.kind=2) :
  Calls Tryz.prog 56 #[.pointer (some ⟨g,0,none⟩),ptV t] w (Takes L w g so ao oo (b.err t) (b.next t)):=by
 have HB:Hid (BAt L w g b so ao oo sc ac oc):=h;have W1:Below w.heap.size w (w.alloc (.cells (zTQ t) 100)):=(Below.refl _ _).alloc (lG _) _;have hw:=h.below W1;have e1:b.err t=if 10<=b.opn.length then 8 else if t.group=1/\9<=b.kR then 9 else 0:=by unfold Mt.PB.err;rw[if_neg (by omega),if_pos hk]
 have e2:b.next t=b.kW t:=by unfold Mt.PB.next;rw[if_neg (by omega),if_pos hk]
 rw[e1,e2];clear e1 e2;have HT0:=zCT t hw hO.na hO.ns hO.sq hO.la;generalize (if 10<=b.opn.length then(8:Int)else if t.group=1/\9<=b.kR then 9 else 0)=E at *;have HT:Hid (Calls Tryz.prog 92 _ (w.alloc (.cells (zTQ t) 100)) _):=HT0;have HW1:Hid (Below w.heap.size w (w.alloc (.cells (zTQ t) 100))):=W1;clear HT0 h W1 hw hO;unfold ptV;unfold ptV zTQ at HT;unfold zTQ at HW1 |-;rw[hk]at HT HW1 |-;clear hk;go_enter Tryz.func56,Tryz.ntmps56
 go_wp2_with fail
 refine HT.out.mono ?_;rintro e w1 hT;obtain⟨rfl,hR⟩:=(show e=.returned (.int .i64 E)/\Takes L (w.alloc _) g so ao oo E (b.kW t) e w1 from ⟨hT.1,hT⟩)
 have R:Hid (Takes L _ g so ao oo E (b.kW t) (.returned (.int .i64 E)) w1):=hR;clear hT hR;go_wp2_with fail
 go_returns;exact Takes.up HB.out HW1.out R.out
theorem zKl{L:Nat}{w:World}{g:Nat}{b:Mt.PB}{so ao oo:Option Addr}{sc ac oc:Nat}(t:Mt.PT)(h:BAt L w g b so ao oo sc ac oc)(hO:BOk b)(hk:t.kind=3) :
  Calls Tryz.prog 56 #[.pointer (some ⟨g,0,none⟩),ptV t] w (Takes L w g so ao oo (b.err t) (b.next t)):=by
 have HB:Hid (BAt L w g b so ao oo sc ac oc):=h;have W1:Below w.heap.size w (w.alloc (.cells (zTQ t) 100)):=(Below.refl _ _).alloc (lG _) _;have hw:=h.below W1;have e1:b.err t=if b.opn.length=0 then 10 else 0:=by unfold Mt.PB.err;rw[if_neg (by omega),if_neg (by omega),if_pos hk]
 have e2:b.next t=b.close:=by unfold Mt.PB.next;rw[if_neg (by omega),if_neg (by omega),if_pos hk]
 rw[e1,e2];clear e1 e2;have HT0:=zEt hw (by have:=hO.na;omega) (by have:=hO.no;omega) hO.tp _ rfl;generalize (if b.opn.length=0 then(10:Int)else 0)=E at *;have HT:Hid (Calls Tryz.prog 93 _ (w.alloc (.cells (zTQ t) 100)) _):=HT0;have HW1:Hid (Below w.heap.size w (w.alloc (.cells (zTQ t) 100))):=W1;clear HT0 h W1 hw hO;unfold ptV;unfold zTQ at HT;unfold zTQ at HW1 |-;rw[hk]at HT HW1 |-;clear hk;go_enter Tryz.func56,Tryz.ntmps56
 go_wp2_with fail
 refine HT.out.mono ?_;rintro e w1 ⟨rfl,hT1,hT2⟩;have R:Hid (Takes L _ g so ao oo E b.close (.returned (.int .i64 E)) w1):=⟨rfl,λh0=>⟨so,ao,oo,sc,ac,oc,(hT1 h0).1,(hT1 h0).2⟩,hT2⟩
 clear hT1 hT2;go_wp2_with fail
 go_returns;exact Takes.up HB.out HW1.out R.out
theorem zOb{L:Nat}{w:World}{g:Nat}{b:Mt.PB}{so ao oo:Option Addr}{sc ac oc:Nat}(t:Mt.PT)(h:BAt L w g b so ao oo sc ac oc)(hO:BOk b)(hk:t.kind=4) :
  Calls Tryz.prog 56 #[.pointer (some ⟨g,0,none⟩),ptV t] w (Takes L w g so ao oo (b.err t) (b.next t)):=by
 have HB:Hid (BAt L w g b so ao oo sc ac oc):=h;have W1:Below w.heap.size w (w.alloc (.cells (zTQ t) 100)):=(Below.refl _ _).alloc (lG _) _;have hw:=h.below W1;have e1:b.err t=if b.last=-1\/(b.zTP b.last.toNat).rep.kind≠0 then 7 else 0:=by unfold Mt.PB.err;rw[if_neg (by omega),if_neg (by omega),if_neg (by omega),if_pos hk]
 have e2:b.next t=b.repeated t:=by unfold Mt.PB.next;rw[if_neg (by omega),if_neg (by omega),if_neg (by omega),if_pos hk]
 rw[e1,e2];clear e1 e2;have HT0:=zDX t hw (by have:=hO.na;omega) hO.la _ rfl;generalize (if b.last=-1\/(b.zTP b.last.toNat).rep.kind≠0 then(7:Int)else 0)=E at *;have HT:Hid (Calls Tryz.prog 94 _ (w.alloc (.cells (zTQ t) 100)) _):=HT0;have HW1:Hid (Below w.heap.size w (w.alloc (.cells (zTQ t) 100))):=W1;clear HT0 h W1 hw hO;unfold ptV;unfold ptV zTQ at HT;unfold zTQ at HW1 |-;rw[hk]at HT HW1 |-;clear hk;go_enter Tryz.func56,Tryz.ntmps56
 go_wp2_with fail
 refine HT.out.mono ?_;rintro e w1 ⟨rfl,hT1,hT2⟩;have R:Hid (Takes L _ g so ao oo E (b.repeated t) (.returned (.int .i64 E)) w1):=⟨rfl,λh0=>⟨so,ao,oo,sc,ac,oc,(hT1 h0).1,(hT1 h0).2⟩,hT2⟩
 clear hT1 hT2;go_wp2_with fail
 go_returns;exact Takes.up HB.out HW1.out R.out
theorem zMb{L:Nat}{w:World}{g:Nat}{b:Mt.PB}{so ao oo:Option Addr}{sc ac oc:Nat}(t:Mt.PT)(h:BAt L w g b so ao oo sc ac oc)(hO:BOk b)(hk:t.kind=6)(n:Nat)(zKO:t.number=n)(hn9:n<=9) :
  Calls Tryz.prog 56 #[.pointer (some ⟨g,0,none⟩),ptV t] w (Takes L w g so ao oo (b.err t) (b.next t)):=by
 have HB:Hid (BAt L w g b so ao oo sc ac oc):=h;have W1:Below w.heap.size w (w.alloc (.cells (zTQ t) 100)):=(Below.refl _ _).alloc (lG _) _;have hw:=h.below W1;have e1:b.err t=if(b.kR:Int)<t.number\/b.clo.getD t.number.toNat false=false then 6 else 0:=by unfold Mt.PB.err;rw[if_neg (by omega),if_neg (by omega),if_neg (by omega),if_neg (by omega),if_pos hk]
 have e2:b.next t=b.zS t:=by unfold Mt.PB.next;rw[if_neg (by omega),if_neg (by omega),if_neg (by omega),if_neg (by omega)]
 rw[e1,e2];clear e1 e2;have HT0:=zFJ t hw (by have:=hO.na;omega) hO.sq hO.la n zKO hn9 _ rfl;generalize (if(b.kR:Int)<t.number\/b.clo.getD t.number.toNat false=false then(6:Int)else 0)=E at *;have HT:Hid (Calls Tryz.prog 95 _ (w.alloc (.cells (zTQ t) 100)) _):=HT0;have HW1:Hid (Below w.heap.size w (w.alloc (.cells (zTQ t) 100))):=W1;clear HT0 zKO h W1 hw hO;unfold ptV;unfold ptV zTQ at HT;unfold zTQ at HW1 |-;rw[hk]at HT HW1 |-;clear hk;go_enter Tryz.func56,Tryz.ntmps56
 go_wp2_with fail
 refine HT.out.mono ?_;rintro e w1 ⟨rfl,hT1,hT2⟩;have R:Hid (Takes L _ g so ao oo E (b.zS t) (.returned (.int .i64 E)) w1):=⟨rfl,λh0=>by obtain⟨ao',ac',x1,x2⟩:=hT1 h0;exact⟨so,ao',oo,sc,ac',oc,x1,x2⟩,hT2⟩
 clear hT1 hT2;go_wp2_with fail
 go_returns;exact Takes.up HB.out HW1.out R.out
theorem zDZ{L:Nat}{w:World}{g:Nat}{b:Mt.PB}{so ao oo:Option Addr}{sc ac oc:Nat}(t:Mt.PT)(h:BAt L w g b so ao oo sc ac oc)(hO:BOk b)(hk:t.kind=5\/t.kind=7\/t.kind=8) :
  Calls Tryz.prog 56 #[.pointer (some ⟨g,0,none⟩),ptV t] w (Takes L w g so ao oo (b.err t) (b.next t)):=by
 have HB:Hid (BAt L w g b so ao oo sc ac oc):=h;have W1:Below w.heap.size w (w.alloc (.cells (zTQ t) 100)):=(Below.refl _ _).alloc (lG _) _;have hw:=h.below W1;have e1:b.err t=0:=by unfold Mt.PB.err;rw[if_neg (by omega),if_neg (by omega),if_neg (by omega),if_neg (by omega),if_neg (by omega)]
 have e2:b.next t=b.zS t:=by unfold Mt.PB.next;rw[if_neg (by omega),if_neg (by omega),if_neg (by omega),if_neg (by omega)]
 rw[e1,e2];clear e1 e2;have HT:Hid (Calls Tryz.prog 96 _ (w.alloc (.cells (zTQ t) 100)) _):=tL t hw (by have:=hO.na;omega) hO.sq hO.la;have HW1:Hid (Below w.heap.size w (w.alloc (.cells (zTQ t) 100))):=W1;clear h W1 hw hO;rcases hk with hk | hk | hk
 all_goals
  unfold ptV;unfold ptV zTQ at HT;unfold zTQ at HW1 |-;rw[hk]at HT HW1 |-;clear hk;go_enter Tryz.func56,Tryz.ntmps56
  go_wp2_with fail
  refine HT.out.mono ?_;rintro e w1 ⟨rfl,ao1,ac1,hP,hSt⟩;have R:Hid (BAt L w1 g (b.zS t) so ao1 oo sc ac1 oc/\yD g so ao oo so ao1 oo _ w1):=⟨hP,hSt⟩
  clear hP hSt;go_wp2_with fail
  go_returns;exact Takes.of HB.out HW1.out rfl R.out.1 R.out.2
end Go.Proofs.YtebpgfodelggoabGreat
namespace Mt
def PB.zMc:PB:=⟨[],[],0,-1,[],0,List.replicate 10 false⟩
theorem zQM:PB.zMc.newSeq=PB.start:=rfl
theorem zOS{b:PB}{l:List zTD}{stk:List Nat}(h:b.Rel l stk)(hl:l.length<=64):b.zG.length<=64/\b.kN.length<=65/\b.opn.length<=64/\(0<b.opn.length->b.top<b.zG.length/\∃nu hm:Nat,(b.zTP b.top).num=nu/\nu<=9/\(b.zTP b.top).home=hm):=by
 have h1:=h.al;have h2:=h.sl;have h3:=h.len;have h4:=h.op;have h5:=zBA l;refine⟨by omega,by omega,by omega,λhp=>?_⟩;have ht:b.top=b.opn.getD (stk.length-1) 0:=by unfold PB.top;rw[zBs _ _ hp,h3]
 have T:=h.zNN (stk.length-1) (by omega);rw[<-ht]at T;obtain⟨hm,e1,e2⟩:=h.homes b.top T.1;have n:=h.nums b.top T.1;exact⟨T.1,(b.zTP b.top).num.toNat,hm,by omega,by omega,e1⟩
theorem zKm(p:ByteArray)(l:List zTD)(k:Int)(h0:0<=k)(h:k=p.size):yL p l k=(l,0,k):=by
 rw[pF p l k h0 (by omega),if_pos (by omega)]
theorem zIi(p:ByteArray)(l:List zTD)(k:Int)(h0:0<=k)(h:k<p.size)(h2:(jJ p k).2≠0):yL p l k=([],(jJ p k).2,k):=by
 rw[pF p l k h0 (by omega),if_neg (by omega),if_pos h2]
theorem zIj(p:ByteArray)(l:List zTD)(k:Int)(h0:0<=k)(h:k<p.size)(h2:(jJ p k).2=0)(h3:may l (jJ p k).1≠0):yL p l k=([],may l (jJ p k).1,k):=by
 rw[pF p l k h0 (by omega),if_neg (by omega),if_neg (by omega),if_pos h3]
theorem zMd(p:ByteArray)(l:List zTD)(k:Int)(h0:0<=k)(h:k<p.size)(h2:(jJ p k).2=0)(h3:may l (jJ p k).1=0):yL p l k=yL p (l++[yQ l (jJ p k).1]) (jJ p k).1.to:=by
 rw[pF p l k h0 (by omega),if_neg (by omega),if_neg (by omega),if_neg (by omega)]
structure Read (p:ByteArray) (k:Nat) (b:PB) (l:List zTD):Prop where
 le:k<=p.size
 len:l.length<=k
 run:b=PB.start.run l
 rel:∃stk,b.Rel l stk
 val:Valid l
 on:yL p l k=yL p [] 0
theorem zKn(p:ByteArray):Read p 0 PB.start []:=⟨by omega,by simp,rfl,⟨[],zLJ⟩,by intro k hk;simp at hk,rfl⟩
theorem zMe{p:ByteArray}{k:Nat}{b:PB}{l:List zTD}(h:Read p k b l)(hk:k<p.size)(h2:(jJ p k).2=0)(h3:may l (jJ p k).1=0):∃m:Nat,(jJ p k).1.to=m/\k<m/\Read p m (b.next (yC (jJ p k).1)) (l++[yQ l (jJ p k).1]):=by
 have ht:=wP p k (by omega) (by omega) h2;obtain⟨m,hm⟩:=Int.eq_ofNat_of_zero_le (show 0<=(jJ p k).1.to by omega);have hg:=zH3 p k h2;obtain⟨stk,hr⟩:=h.rel;refine⟨m,hm,by omega,by omega,by simp;have:=h.len;omega,?_,zNQ hr h.val hg h3,zCd h.val hg h3,?_⟩
 ·rw[PB.zFy,<-h.run];show _=b.next (yC (yQ l (jJ p k).1));rw[zDN]
 ·rw[<-h.on,zMd p l k (by omega) (by omega) h2 h3,hm]
end Mt
namespace Go.Proofs.YtebpgfodelggoabGreat
open Go.RowKit
theorem zOc{p:ByteArray}{k:Nat}{b:Mt.PB}{l:List Mt.zTD}(h:Mt.Read p k b l)(hp:p.size<=64):BOk b:=by
 obtain⟨stk,hr⟩:=h.rel;have hl:=h.len;have hk:=h.le;obtain⟨a1,a2,a3,a4⟩:=Mt.zOS hr (by omega);exact⟨by omega,by omega,by omega,hr.sq,hr.la,a4⟩
theorem zOd{L:Nat}{w:World}{g:Nat}{b:Mt.PB}{so ao oo:Option Addr}{sc ac oc:Nat}{p:ByteArray}{k:Nat}{l:List Mt.zTD}(h:BAt L w g b so ao oo sc ac oc)(hR:Mt.Read p k b l)(hp:p.size<=64)(t:Mt.zTD)(hg:Mt.zCD t) :
  Calls Tryz.prog 56 #[.pointer (some ⟨g,0,none⟩),ptV (Mt.yC t)] w (Takes L w g so ao oo (Mt.may l t) (b.next (Mt.yC t))):=by
 have hO:=zOc hR hp;obtain⟨stk,hr⟩:=hR.rel;rw[<-Mt.zI0 hr (Mt.zAY hR.val) hg];obtain⟨⟨k1,k2⟩,g2,g3,g4,g5⟩:=hg;have hk:t.kind=1\/t.kind=2\/t.kind=3\/t.kind=4\/t.kind=5\/t.kind=6\/t.kind=7\/t.kind=8:=by omega
 rcases hk with e | e | e | e | e | e | e | e
 ·exact zDZ _ h hO (by rw[Mt.jP,e];decide)
 ·obtain⟨n1,n2⟩:=g3 e;exact zMb _ h hO (by rw[Mt.jP,e];decide) t.n.toNat (by simp[Mt.yC,e];omega) (by omega)
 ·exact zDZ _ h hO (by rw[Mt.jP,e];decide)
 ·exact zDZ _ h hO (by rw[Mt.jP,e];decide)
 ·exact zOa _ h hO (by rw[Mt.jP,e];decide)
 ·exact zMa _ h hO (by rw[Mt.jP,e];decide)
 ·exact zKl _ h hO (by rw[Mt.jP,e];decide)
 ·exact zOb _ h hO (by rw[Mt.jP,e];decide)
theorem Tryz.sizeB:(Tryz.prog.info? 97).map (·.size)=some 16:=by kernel_rfl
theorem Tryz.sizeT:(Tryz.prog.info? 36).map (·.size)=some 2:=by kernel_rfl
theorem zKo(p:ByteArray)(w:World)(hp:64<p.size)(hm:p.size<=maxLen) :
  Calls Tryz.prog 33 #[.string p] w λe w'=>e=.returned (.tuple #[.agg #[.slice none 0 0,.slice none 0 0],.int .i64 1,.int .i64 0])/\Below w.heap.size w w':=by
 have b1:decide (64<(p.size:Int))=true:=by simp;omega
 have b2:decide (64<p.size)=true:=by simp;omega
 have hm':p.size<=9223372036854775807:=by unfold maxLen at hm;omega
 go_enter Tryz.func33,Tryz.ntmps33
 go_wp2_with fail
 go_returns;exact⟨rfl,by go_grown⟩
