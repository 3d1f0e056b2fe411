import Derived.Test.YtebpgfodelggoabGreatKC40
import Derived.Test.YtebpgfodelggoabGreatKC37
set_option linter.unusedVariables false
set_option linter.unusedSimpArgs false
set_option maxRecDepth 100000
set_option maxHeartbeats 8000000
namespace Go.Proofs.YtebpgfodelggoabGreat
open Go.RowKit
theorem zMN{P:Program}{ops:Array Oper}{o:Oper}{a:Act}{w:World}{K:Act->World->Prop}{Q:Exit->Act->World->Prop}{X:Prop}(hg:o.guard=none)(d:Nat)(hd:o.dst=some d)(l c:Operand)(t:TypeId)(hop:o.op=Op.makeSlice t l c)
  (base:Nat) (e:TypeId) (i:TypeInfo) (z:Value) (size:Nat) (h1:P.underlying t=some (.slice e)) (h2:P.info? e=some i) (h3:i.zero=some z) (h4:i.size=size)
  (n:Nat) (hl:a.eval l=.int .i64 (n:Int)) (hc:a.eval c=.int .i64 (n:Int)) (b2:i.bytes*n<=281474976710656) (b3:n<=maxLen) (b4:base<=w.heap.size)
  (hK:∀w',w'.ownsRow base e size (.slice (some ⟨w.heap.size,0,none⟩) n n) n (madeCells z.cells (n*size)).toList->w.grownBy w' none->K (a.put (some d) (.slice (some ⟨w.heap.size,0,none⟩) n n)) w') :
  if Region.wanted o (yielded ops a.tmps)=true then Oper.wp P o a w K Q else X:=by
 obtain⟨w',hrun,r1,r2⟩:=run_make_full (P:=P) w base t e i z size h1 h2 h3 h4 .i64 .i64 n b2 b3 b4;rw[if_pos (by simp[Region.wanted,hg])];unfold Oper.wp;rw[<-hd]at hK;simp[execOp,hop,hl,hc,hrun,Result.andThen];exact hK w' r1 r2
structure zE4 (E:Mt.Env):Prop where
 loops:∀k,(E.c.take k).countP Mt.vK=(E.c.take k).countP Mt.vX+Mt.jI E.c k
 len:E.c.length<=300
 arN:∀p,p<E.c.length->E.arN p=Mt.jI E.c p
 zRa:∀p,E.arN p<=11
 t60:E.t.size<=60
structure TabIs (E:Mt.Env) (n0 gl gs gh:Nat) (w:World):Prop where
 l:qK w n0 (.slice (some ⟨gl,0,none⟩) E.c.length E.c.length) (dH E.c)
 s:qK w n0 (.slice (some ⟨gs,0,none⟩) E.c.length E.c.length) (vP E E.c.length)
 h:qQ w n0 (.slice (some ⟨gh,0,none⟩) (E.base E.c.length) (E.base E.c.length)) (List.replicate (E.base E.c.length) false)
 ne:gl≠gs/\gl≠gh/\gs≠gh
theorem zHt(E:Mt.Env)(hE:zE4 E)(g cap q nq cq:Nat)(zD:Int)(w:World)(h:zF w 0 (.slice (some ⟨g,0,none⟩) E.c.length cap) E.c)(hq:qK w 0 (.slice (some ⟨q,0,none⟩) nq cq) (Mt.kY E.zTM E.c.length))(hnq:nq=(Mt.kY E.zTM E.c.length).length) :
  Calls Tryz.prog 76 #[.agg #[.slice (some ⟨g,0,none⟩) E.c.length cap,.slice (some ⟨q,0,none⟩) nq cq,.string E.t,.int .i64 zD]] w λe w'=>∃gl gs gh,e=.returned (.agg #[.int .i64 ((E.t.size:Int)+1),.slice (some ⟨gl,0,none⟩) E.c.length E.c.length,.slice (some ⟨gs,0,none⟩) E.c.length E.c.length,.slice (some ⟨gh,0,none⟩) (E.base E.c.length) (E.base E.c.length),.int .i64 zD])/\TabIs E w.heap.size gl gs gh w'/\Below w.heap.size w w':=by
 obtain⟨i0,hi,hz0,hz1,hz2⟩:=info_parts Tryz.infoI;obtain⟨j0,hj,hy0,hy1,hy2⟩:=info_parts Tryz.infoB;obtain⟨W1,hW1⟩:∃W1,W1=(w.alloc (.cells #[.slice (some ⟨g,0,none⟩) E.c.length cap,.slice (some ⟨q,0,none⟩) nq cq,.string E.t,.int .i64 zD] 84)).alloc (.cells #[.int .i64 0,.slice none 0 0,.slice none 0 0,.slice none 0 0,.int .i64 0] 122):=⟨_,rfl⟩
 have B1:Below w.heap.size w W1:=by rw[hW1];exact((Below.refl _ _).alloc (lG _) _).alloc (by simp) _
 have T1:W1.heap[w.heap.size]?=some (.cells #[.slice (some ⟨g,0,none⟩) E.c.length cap,.slice (some ⟨q,0,none⟩) nq cq,.string E.t,.int .i64 zD] 84 (0,0)):=by rw[hW1];exact mX _ _ _
 have U1:W1.heap[w.heap.size+1]?=some (.cells #[.int .i64 0,.slice none 0 0,.slice none 0 0,.slice none 0 0,.int .i64 0] 122 (0,0)):=by rw[hW1];exact mF _ _ _
 have HZ1:Hid (W1.heap.size=w.heap.size+2):=by rw[hW1];show _=_;simp
 have HLO:Hid (Calls Tryz.prog 42 #[.slice (some ⟨g,0,none⟩) E.c.length cap] W1 _):=zHn E.c hE.loops hE.len g cap W1 (h.below B1);have HQ:Hid (qK w 0 (.slice (some ⟨q,0,none⟩) nq cq) (Mt.kY E.zTM E.c.length)):=hq;have HE:Hid (zE4 E):=hE;have HNQ:Hid (nq=(Mt.kY E.zTM E.c.length).length):=hnq;have hql:q<w.heap.size:=(World.ownsRow.lt hq q rfl).2;have hcl:=hE.len;have hnl:nq<=300:=by rw[hnq];have:=Mt.zAP E.zTM E.c.length;omega
 have zOT:=hE.t60;have HTC:Hid (∀z:World,z.heap[w.heap.size]?=some (.cells #[.slice (some ⟨g,0,none⟩) E.c.length cap,.slice (some ⟨q,0,none⟩) nq cq,.string E.t,.int .i64 zD] 84 (0,0))->z.cell? ⟨w.heap.size,0,none⟩=some (.slice (some ⟨g,0,none⟩) E.c.length cap)/\z.cell? ⟨w.heap.size,1,none⟩=some (.slice (some ⟨q,0,none⟩) nq cq)/\z.cell? ⟨w.heap.size,2,none⟩=some (.string E.t)/\z.cell? ⟨w.heap.size,3,none⟩=some (.int .i64 zD)):=λz hz=>⟨(zC hz).1 0,(zC hz).1 1,(zC hz).1 2,(zC hz).1 3⟩
 obtain⟨k0,k1,k2,k3⟩:=HTC.out W1 T1;have HB1:Hid (Below w.heap.size w W1):=B1;have HT1:Hid (W1.heap[w.heap.size]?=some (.cells #[.slice (some ⟨g,0,none⟩) E.c.length cap,.slice (some ⟨q,0,none⟩) nq cq,.string E.t,.int .i64 zD] 84 (0,0))/\W1.heap[w.heap.size+1]?=some (.cells #[.int .i64 0,.slice none 0 0,.slice none 0 0,.slice none 0 0,.int .i64 0] 122 (0,0))):=⟨T1,U1⟩
 clear h hq hE hnq B1 T1 U1;go_enter Tryz.func76,Tryz.ntmps76
 go_upto_region 1 with fail
 rw[<-hW1];clear hW1;generalize hnn:w.heap.size=n at *;go_wp2_with fail
 refine HLO.out.mono ?_;rintro e w2 ⟨rfl,hlo,zTK⟩;have hs2:=zTK.size;have HT2:Hid (w2.heap[n]?=some (.cells #[.slice (some ⟨g,0,none⟩) E.c.length cap,.slice (some ⟨q,0,none⟩) nq cq,.string E.t,.int .i64 zD] 84 (0,0))/\w2.heap[n+1]?=some (.cells #[.int .i64 0,.slice none 0 0,.slice none 0 0,.slice none 0 0,.int .i64 0] 122 (0,0))):=⟨(zTK.block n (by have:=HZ1.out;omega)).trans HT1.out.1,(zTK.block (n+1) (by have:=HZ1.out;omega)).trans HT1.out.2⟩
 have HB2:Hid (Below n w w2):=HB1.out.trans (zTK.mono (by have:=HZ1.out;omega));have HLR:Hid (qK w2 n (.slice (some ⟨W1.heap.size,0,none⟩) E.c.length E.c.length) (dH E.c)):=jG hlo (by have:=HZ1.out;omega);obtain⟨k0',k1',k2',k3'⟩:=HTC.out w2 HT2.out.1;have HG:Hid (n+2<=W1.heap.size/\W1.heap.size<w2.heap.size):=⟨by have:=HZ1.out;omega,(World.ownsRow.lt hlo W1.heap.size rfl).2⟩
 clear hlo zTK HLO HT1 HB1 k0 k1 k2 k3 hs2 HZ1;generalize W1.heap.size=gl at *;go_wp2_with (first|(at_make;refine wpList_make_full _ rfl (.tmp 19) (.tmp 19) 51 rfl n 3 i0 (.int .i64 0) 1 Tryz.underlying51 hi hz0 hz1 .i64 .i64 _ _ E.c.length rfl rfl rfl rfl (by rw[hz2];omega) (by unfold maxLen;omega) (by have:=HG.out;omega) ?_;intro w3 hmk hgr))
 have zTL:Below w2.heap.size w2 w3:=(Below.refl _ _).grown hgr (lG _) (λq hq=>by simp at hq)
 have HS:Hid (∀(wr:World),Below w2.heap.size w2 wr->wr.heap[n]?=some (.cells #[.slice (some ⟨g,0,none⟩) E.c.length cap,.slice (some ⟨q,0,none⟩) nq cq,.string E.t,.int .i64 zD] 84 (0,0))/\wr.heap[n+1]?=some (.cells #[.int .i64 0,.slice none 0 0,.slice none 0 0,.slice none 0 0,.int .i64 0] 122 (0,0))/\qK wr n (.slice (some ⟨gl,0,none⟩) E.c.length E.c.length) (dH E.c)/\Below n w wr/\qK wr 0 (.slice (some ⟨q,0,none⟩) nq cq) (Mt.kY E.zTM E.c.length)):=λwr hb=>by
  have hg:=HG.out;refine⟨(hb.block n (by omega)).trans HT2.out.1,(hb.block (n+1) (by omega)).trans HT2.out.2,HLR.out.below hb,HB2.out.trans (hb.mono (by omega)),?_⟩;exact HQ.out.below (by rw[hnn];exact HB2.out.trans (hb.mono (by omega)))
 have HM:Hid (qK w3 n (.slice (some ⟨w2.heap.size,0,none⟩) E.c.length E.c.length) (fill (λ_=>(-1:Int)) 0 0 E.c.length)/\Below w2.heap.size w2 w3):=⟨by rw[zB1];exact qK.made hmk,zTL⟩
 clear hmk hgr zTL HT2 HB2 HLR k0' k1' k2' k3' HQ;generalize hgs:w2.heap.size=gs at *
 go_loopw [23] (λi wr=>∃k:Nat,k<=E.c.length/\i=.int .i64 k/\qK wr n (.slice (some ⟨gs,0,none⟩) E.c.length E.c.length) (fill (λ_=>(-1:Int)) 0 k E.c.length)/\Below gs w2 wr) (λi _=>E.c.length-(intOf i).toNat)
 case atStart=>exact⟨0,Nat.zero_le _,rfl,HM.out⟩
 case round =>
  obtain⟨k,hk,rfl,jS,hbr⟩:=hrel;by_cases zTI:k<E.c.length
  ·obtain⟨x1,x2⟩:=jS.at k (by rw[fK];exact zTI) (by rw[fK]);have hk':(k:Int)<(E.c.length:Int):=by omega
   have O4:=jS.set (by rw[fK]) k (-1);rw[zDb (λ_=>(-1:Int)) 0 k E.c.length]at O4;have HO4:Hid (qK (wr.setCell ⟨gs,k,none⟩ (.int .i64 (-1))) n (.slice (some ⟨gs,0,none⟩) E.c.length E.c.length) (fill (λ_=>(-1:Int)) 0 (k+1) E.c.length)/\Below gs w2 (wr.setCell ⟨gs,k,none⟩ (.int .i64 (-1)))):=⟨O4,hbr.setCell (p:=⟨gs,k,none⟩) (lG _) _⟩
   clear jS hbr O4;generalize (fill (λ_=>(-1:Int)) 0 k E.c.length).getD k 0=zz at *;go_wp2_with fail
   go_roundw
   case rel=>exact⟨k+1,by omega,by go_num,HO4.out⟩
   case measure=>simp[intOf];omega
  ·have hk2:k=E.c.length:=by omega
   subst hk2
   have e0:fill (λ_=>(-1:Int)) 0 E.c.length E.c.length=vP E 0:=by
    rw[zDa,zHr];apply List.ext_getElem
    ·simp
    ·intro i h1 h2;simp
   rw[e0]at jS;have HW0:Hid (qK wr n (.slice (some ⟨gs,0,none⟩) E.c.length E.c.length) (vP E 0)/\Below gs w2 wr):=⟨jS,hbr⟩
   obtain⟨s1,s2,s3,s4,s5⟩:=HS.out wr hbr;obtain⟨k0',k1',k2',k3'⟩:=HTC.out wr s1;clear jS hbr s1 s2 s3 s4 s5 HM
   rename World=>wz
   go_wp2_with fail
   go_loopw [7,33] (λsz i wr=>∃a j:Nat,a<=E.c.length/\j=(Mt.kY E.zTM a).length/\i=.int .i64 j/\sz=.int .i64 (E.base a:Nat)/\qK wr n (.slice (some ⟨gs,0,none⟩) E.c.length E.c.length) (vP E a)/\Below gs w2 wr) (λ_ i _=>nq-(intOf i).toNat)
   case atStart=>exact⟨0,0,Nat.zero_le _,rfl,rfl,rfl,HW0.out⟩
   case round =>
    obtain⟨a,j,ha,hj,rfl,rfl,jS,hbr⟩:=hrel;obtain⟨s1,s2,s3,s4,s5⟩:=HS.out wr hbr;by_cases zTI:j<nq
    ·obtain⟨p,hp1,hp2,hp3,hp4⟩:=zMM E j (by rw[<-HNQ.out];exact zTI)
     have hap:a<=p:=by
      rcases Nat.lt_or_ge p a with hh | hh
      ·exfalso
       have key:∀d,(Mt.kY E.zTM (p+1)).length<=(Mt.kY E.zTM (p+1+d)).length:=by
        intro d;induction d with
        | zero=>exact lG _
        | succ d ih=>rw[<-Nat.add_assoc,Mt.xK E.zTM (p+1+d),lM];omega
       have:=key (a-(p+1));rw[show p+1+(a-(p+1))=a by omega,Mt.xK,hp3,lM]at this;simp at this;omega
      ·exact hh
     have zMO:=zCr E a (p-a) (zEd E a (p-a) (by rw[show a+(p-a)=p by omega];exact hp4.trans hj));rw[show a+(p-a)=p by omega]at zMO;obtain⟨u1,u2,u3⟩:=zMO;obtain⟨x1,x2⟩:=s5.at j (by rw[<-HNQ.out];exact zTI) HNQ.out;rw[hp2]at x1;obtain⟨y1,y2⟩:=jS.at p (by rw[dQ];exact hp1) (by rw[dQ]);have O4:=jS.set (by rw[dQ]) p (E.base a:Int);rw[<-u2,<-u1,<-zID E p hp1 hp3]at O4;have BS:=hbr.setCell (p:=⟨gs,p,none⟩) (lG _) (.int .i64 (E.base p:Int));obtain⟨t1,t2,t3,t4,t5⟩:=HS.out _ BS;obtain⟨z1,z2⟩:=t3.at p (by rw[xI];exact hp1) (by rw[xI]);rw[zBx E.c p hp1,<-HE.out.arN p hp1]at z1;have hbn:=E.zG7 p hp3;have hbl:=E.zFP HE.out.zRa p;have zTK:p*((E.t.size+1)*12)<=300*(61*12):=Nat.mul_le_mul (by omega) (Nat.mul_le_mul_right 12 (by omega));have har:=HE.out.zRa p;have hmul:((E.t.size+1)*(E.arN p+1):Nat)<=61*12:=Nat.mul_le_mul (by omega) (by omega);have zOv:(((E.t.size+1)*(E.arN p+1):Nat):Int)=((E.t.size:Int)+1)*((E.arN p:Int)+1):=by push_cast;rfl
     have HO4:Hid (qK (wr.setCell ⟨gs,p,none⟩ (.int .i64 (E.base p:Int))) n (.slice (some ⟨gs,0,none⟩) E.c.length E.c.length) (vP E (p+1))/\Below gs w2 (wr.setCell ⟨gs,p,none⟩ (.int .i64 (E.base p:Int)))):=⟨O4,BS⟩
     have HNX:Hid ((Mt.kY E.zTM (p+1)).length=j+1):=by show _=_;rw[Mt.xK,hp3,lM];simp;omega
     have HBN:Hid (((E.base (p+1):Nat):Int)=(E.base p:Int)+((E.t.size:Int)+1)*((E.arN p:Int)+1)):=by show _=_;rw[hbn,<-zOv];push_cast;rfl
     rw[<-zOv]at HBN;have hjq:(j:Int)<(nq:Int):=by omega
     have hpl:(p:Int)<(E.c.length:Int):=by omega
     rw[<-u2];clear jS hbr s1 s2 s3 s4 s5 O4 BS t1 t2 t3 t4 t5 hp2 hp4 u1 u2 u3 z2 hj;have HMC:Hid ((((E.t.size+1)*(E.arN p+1):Nat):Int)=((E.t.size:Int)+1)*((E.arN p:Int)+1)):=zOv;generalize (vP E a).getD p 0=zz at *;generalize hbp:E.base p=bp at *;generalize zTs:E.arN p=ap at *;generalize hMM:(E.t.size+1)*(ap+1)=MM at *;clear zOv hbn;have hm2:((E.t.size:Int)+1)*((ap:Int)+1)=(MM:Int):=HMC.out.symm;go_wp2_with fail
     go_roundw
     case rel=>exact⟨p+1,j+1,by omega,HNX.out.symm,by go_num,by rw[HBN.out],HO4.out⟩
     case measure=>simp[intOf];omega
    ·have hmono:∀d,(Mt.kY E.zTM a).length<=(Mt.kY E.zTM (a+d)).length:=by
      intro d;induction d with
      | zero=>exact lG _
      | succ d ih=>rw[<-Nat.add_assoc,Mt.xK E.zTM (a+d),lM];omega
     have hm1:=hmono (E.c.length-a);rw[show a+(E.c.length-a)=E.c.length by omega,<-HNQ.out]at hm1;have zMO:=zCr E a (E.c.length-a) (zEd E a (E.c.length-a) (by rw[show a+(E.c.length-a)=E.c.length by omega,<-HNQ.out];omega));rw[show a+(E.c.length-a)=E.c.length by omega]at zMO;obtain⟨u1,u2,u3⟩:=zMO;rw[<-u1]at jS;rw[<-u2];have hbl:=E.zFP HE.out.zRa E.c.length;have zTK:E.c.length*((E.t.size+1)*12)<=300*(61*12):=Nat.mul_le_mul (by omega) (Nat.mul_le_mul_right 12 (by omega));have HOW:Hid (qK wr n (.slice (some ⟨gs,0,none⟩) E.c.length E.c.length) (vP E E.c.length)/\Below gs w2 wr):=⟨jS,hbr⟩
     have hgw:gs<wr.heap.size:=(World.ownsRow.lt jS gs rfl).2;have zTt:=(World.ownsRow.lt s3 gl rfl)
     have hjq:¬(j:Int)<(nq:Int):=by omega
     have hjn:decide ((j:Int)<(nq:Int))=false:=by rw[lJ];exact hjq
     have zTu:decide (j<nq)=false:=by rw[lJ];omega
     clear jS hbr s3 s4 s5 u1 u2 u3 hm1 hmono hj;generalize hBB:E.base E.c.length=BB at *;go_wp2_with fail
     have hcr:∀z:World,z.heap[n]?=some (.cells #[.slice (some ⟨g,0,none⟩) E.c.length cap,.slice (some ⟨q,0,none⟩) nq cq,.string E.t,.int .i64 zD] 84 (0,0))->z.cell? ⟨n,3,none⟩=some (.int .i64 zD):=λz hz=>(zC hz).1 3
     refine wp_region_held_drew (S:=λz:World=>z.heap[n]?=some (.cells #[.slice (some ⟨g,0,none⟩) E.c.length cap,.slice (some ⟨q,0,none⟩) nq cq,.string E.t,.int .i64 zD] 84 (0,0))) (by kernel_rfl) s1 (λhH=>?_);refine kD 0 51 (.int .i64 ((E.t.size:Int)+1)) rfl rfl (by kernel_rfl) (by kernel_rfl) (by kernel_rfl) (λ_ _ _ h=>h) (Or.inl ⟨by rfl,λz hz=>by clear hH hz hcr s1 s2;go_simp⟩) (by assumption) ?_;simp only[Act.put,lC,lD,lF];refine kD 1 52 (.slice (some ⟨gl,0,none⟩) E.c.length E.c.length) rfl rfl (by kernel_rfl) (by kernel_rfl) (by kernel_rfl) (λ_ _ _ h=>h) (Or.inl ⟨by rfl,λz hz=>by clear hH hz hcr s1 s2;go_simp⟩) (by assumption) ?_;simp only[Act.put,lC,lD,lF];refine kD 2 53 (.slice (some ⟨gs,0,none⟩) E.c.length E.c.length) rfl rfl (by kernel_rfl) (by kernel_rfl) (by kernel_rfl) (λ_ _ _ h=>h) (Or.inl ⟨by rfl,λz hz=>by clear hH hz hcr s1 s2;go_simp⟩) (by assumption) ?_;simp only[Act.put,lC,lD,lF];refine kD 3 54 (.int .i64 (BB:Int)) rfl rfl (by kernel_rfl) (by kernel_rfl) (by kernel_rfl) (λ_ _ _ h=>h) (Or.inl ⟨by rfl,λz hz=>by clear hH hz hcr s1 s2;go_simp⟩) (by assumption) ?_;simp only[Act.put,lC,lD,lF];refine kD 5 56 (.pointer (some ⟨n,3,none⟩)) rfl rfl (by kernel_rfl) (by kernel_rfl) (by kernel_rfl) (λ_ _ _ h=>h) (Or.inl ⟨by rfl,λz hz=>by clear hH hz hcr s1 s2;go_simp⟩) (by assumption) ?_;simp only[Act.put,lC,lD,lF];refine kD 6 57 (.int .i64 zD) rfl rfl (by kernel_rfl) (by kernel_rfl) (by kernel_rfl) (λ_ _ _ h=>h) (Or.inl ⟨by rfl,λz hz=>by have hz3:=hcr z hz;clear hH hz hcr s1 s2;go_simp⟩) (by assumption) ?_;simp only[Act.put,lC,lD,lF];refine wpAnyH_ready (rs:=[4]) (by kernel_rfl) (by simp) ?_;refine AllReadyH.cons rfl (λK hK=>?_) AllReadyH.nil;refine zMN rfl 55 rfl (.tmp 54) (.tmp 54) 81 rfl n 4 j0 (.bool false) 1 Tryz.underlying81 hj hy0 hy1 BB (by rfl) (by rfl) (by rw[hy2];omega) (by unfold maxLen;omega) (by show n<=wr.heap.size;omega) ?_;intro w4 hmk hgr;have hb4:Below wr.heap.size wr w4:=((Below.refl _ _).drew).grown hgr (by simp) (λq hq=>by simp at hq);have s1':w4.heap[n]?=_:=(hb4.block n (by omega)).trans s1;refine hK.out _ _ s1' (λhH2=>?_);clear hK K hH;simp only[Act.put,lC,lD,lF];have s2':w4.heap[n+1]?=_:=(hb4.block (n+1) (by have:=HG.out;omega)).trans s2;refine kD 7 58 (.agg #[.int .i64 ((E.t.size:Int)+1),.slice (some ⟨gl,0,none⟩) E.c.length E.c.length,.slice (some ⟨gs,0,none⟩) E.c.length E.c.length,.slice (some ⟨wr.heap.size,0,none⟩) BB BB,.int .i64 zD]) rfl rfl (by kernel_rfl) (by kernel_rfl) (by kernel_rfl) (λ_ _ _ h=>h) (Or.inl ⟨by rfl,λz hz=>by clear hH2 hz hcr s1 s2 s1' s2';go_simp⟩) (by assumption) ?_;simp only[Act.put,lC,lD,lF];have hTH:w4.there (n+1) 0 5:=qW (zC s2').1 (zC s2').2 5 (lG _);refine zAG 8 _ rfl rfl (by kernel_rfl) (by kernel_rfl) _ _ _ rfl (n+1) 0 #[.int .i64 ((E.t.size:Int)+1),.slice (some ⟨gl,0,none⟩) E.c.length E.c.length,.slice (some ⟨gs,0,none⟩) E.c.length E.c.length,.slice (some ⟨wr.heap.size,0,none⟩) BB BB,.int .i64 zD] (by kernel_rfl) (by kernel_rfl) hTH (by kernel_rfl) (by simp[Value.oneCell']) rfl ?_;have r1:=zAZ s2' #[.int .i64 ((E.t.size:Int)+1),.slice (some ⟨gl,0,none⟩) E.c.length E.c.length,.slice (some ⟨gs,0,none⟩) E.c.length E.c.length,.slice (some ⟨wr.heap.size,0,none⟩) BB BB,.int .i64 zD] rfl;have r2:∀i,i≠n+1->(w4.setCells (n+1) 0 (#[.int .i64 ((E.t.size:Int)+1),.slice (some ⟨gl,0,none⟩) E.c.length E.c.length,.slice (some ⟨gs,0,none⟩) E.c.length E.c.length,.slice (some ⟨wr.heap.size,0,none⟩) BB BB,.int .i64 zD]:Array Value).toList).heap[i]?=w4.heap[i]?:=λi hi=>qZ (n+1) _ 0 w4 i hi
     have r4:=(below_setCells (n+1) (#[.int .i64 ((E.t.size:Int)+1),.slice (some ⟨gl,0,none⟩) E.c.length E.c.length,.slice (some ⟨gs,0,none⟩) E.c.length E.c.length,.slice (some ⟨wr.heap.size,0,none⟩) BB BB,.int .i64 zD]:Array Value).toList 0 w4 n (by omega)).1;generalize w4.setCells (n+1) 0 (#[.int .i64 ((E.t.size:Int)+1),.slice (some ⟨gl,0,none⟩) E.c.length E.c.length,.slice (some ⟨gs,0,none⟩) E.c.length E.c.length,.slice (some ⟨wr.heap.size,0,none⟩) BB BB,.int .i64 zD]:Array Value).toList=w5 at *;refine⟨(r2 n (by omega)).trans s1',?_⟩
     have zMC:Hid (TabIs E w.heap.size gl gs wr.heap.size w5/\Below w.heap.size w w5):=by
      have hg:=HG.out;obtain⟨v1,v2,v3,v4,v5⟩:=HS.out wr HOW.out.2;have l4:=v3.below hb4;have s4':=HOW.out.1.below hb4;have h4:=qQ.made hmk;rw[hnn];refine⟨⟨?_,?_,?_,by omega,by omega,by omega⟩,(v4.trans (hb4.mono (by omega))).trans r4⟩
      ·unfold qK at l4 |-;rw[xI]at l4 |-;exact zT l4 (λz hz=>by cases hz;exact r2 gl (by omega))
      ·unfold qK at s4' |-;rw[dQ]at s4' |-;exact zT s4' (λz hz=>by cases hz;exact r2 gs (by omega))
      ·rw[hBB];unfold qQ at h4 |-;rw[List.length_replicate]at h4 |-;exact zT h4 (λz hz=>by cases hz;exact r2 wr.heap.size (by omega))
     have HR1:Hid (w5.heap[n+1]?=some (.cells #[.int .i64 ((E.t.size:Int)+1),.slice (some ⟨gl,0,none⟩) E.c.length E.c.length,.slice (some ⟨gs,0,none⟩) E.c.length E.c.length,.slice (some ⟨wr.heap.size,0,none⟩) BB BB,.int .i64 zD] 122 (0,0))):=r1;clear r1 r2 r4 hH2 hmk hgr hb4 s1' s2' s1 s2 hTH hcr;go_wp2_with fail
     refine bodyPost_ret (zC6 122 5 Tryz.underlying122 rfl (by kernel_rfl) rfl (by kernel_rfl) HR1.out rfl) rfl ⟨gl,gs,wr.heap.size,by first | rfl | rw[hBB],by first | exact zMC.out|(rw[<-hnn];exact zMC.out)⟩
def zCY(b:Bool):Int:=if b=true then 14 else 0
theorem zHu(p:Int):placesOf (Mt.nU p)=Mt.nowhere:=by
 unfold placesOf Mt.nowhere;apply List.ext_getElem
 ·simp
 ·intro i h1 h2;simp only[List.getElem_map,List.getElem_range,List.getElem_replicate];have hi:i<20:=by simpa using h1
  unfold Mt.gt Mt.nU Mt.nowhere;rw[lH,show 2+i=i+1+1 by omega,List.getElem?_cons_succ,List.getElem?_cons_succ,List.getElem?_append_left (by simp;omega),List.getElem?_replicate,if_pos hi];rfl
theorem zMP{A:Int->Mt.Att}{s q:List Int}(h:Mt.Sim A s q)(p:Int):Mt.yX p q=Mt.yX p s:=by
 have h':Mt.vH (A (Mt.gt s 0)) s q:=h;unfold Mt.yX;rw[h'.low 1 (by omega)];congr 2;apply List.ext_getElem?;intro j;by_cases hj:j<18
 ·rw[List.getElem?_take_of_lt hj,List.getElem?_take_of_lt hj,List.getElem?_drop,List.getElem?_drop];have e:=h'.low (4+j) (by omega);have l1:=h'.ls;have l2:=h'.lq;unfold Mt.gt at e;rw[lH,lH,lK (by omega),lK (by omega)]at e;rw[lK (by omega),lK (by omega)];simpa using e
 ·rw[List.getElem?_eq_none (by rw[List.length_take];omega),List.getElem?_eq_none (by rw[List.length_take];omega)]
def zBi(k:Pk)(E:Mt.Env)(S:Mt.Fnd × Bool)(wo1:Option Addr)(w1:World)(p n:Nat)(wr:World):Prop :=
 ∃hd kn zD wo wc,zV k wr (k.zA+1-((n+1:Nat):Int)) hd zD wo wc []/\jV k wo1 wo w1 wr/\Mt.Tab E hd kn/\kn.length=E.c.length*(E.t.size+1)*12/\(0<=zD/\zD<=5000)/\Mt.search E k.zA (E.t.size+1-p) p n kn zD=S/\(n:Int)<=k.zA
def zPW(k:Pk)(E:Mt.Env)(S:Mt.Fnd × Bool)(wo1:Option Addr)(w1:World)(p:Nat)(q':List Int)(b:Bool)(w':World):Prop :=
 q'.length=43/\∃st hd zD wo wc W,zV k w' st hd zD wo wc W/\jV k wo1 wo w1 w'/\((st=k.zA+1/\S=(Mt.vJ,true))\/(st<=k.zA/\0<=st/\b=true/\S=(⟨true,Mt.yX p q',st⟩,false))\/(st<=k.zA/\0<=st/\b=false/\∃n,zBi k E S wo1 w1 (p+1) n w'))
theorem zQZ{k:Pk}{E:Mt.Env}{A:Int->Mt.Att}(hx:Ctx k E A){S:Mt.Fnd × Bool}{wo1:Option Addr}{w1 w w':World}{p n:Nat}(hb:Below w.heap.size w w')(hp:p<=E.t.size)(h:zBi k E S wo1 w1 p n w) :
  Calls Tryz.prog 78 #[.pointer (some ⟨k.g,0,none⟩),.agg (zTS (Mt.nU p))] w' λe w2=>∃q' b,e=.returned (.tuple #[.agg (zTS q'),.bool b])/\zPW k E S wo1 w1 p q' b w2:=by
 obtain⟨hd,kn,zD,wo,wc,h1,h2,h3,h4,h5,h6,h7⟩:=h;have zTv:=hx.bud;have hK:Mt.Known E.c A:=by rw[hx.ec];exact hx.known
 have hg:Mt.Good E.c.length E.t.size (Mt.kZ p):=Mt.dL _ _ p hK.pos hp;have hf:zF9 k A (Mt.kZ p) (Mt.nU p):=⟨by rw[<-hx.ec,<-hx.et];exact hg,Mt.zMp hK p,Mt.zIs p⟩
 have hgood:=Mt.vI E hK.ok n n (Mt.kZ p) kn zD (lG _) hg h5;have hn:=Mt.tF E n (Mt.kZ p) kn zD;refine(zPS hx (n+1) w' hd kn zD wo wc [] _ _ (h1.below hb) h3 h4 h5 hf (by simp;omega) (by omega)).mono ?_;rintro e w2 ⟨q',b,rfl,hq',hpost⟩;refine⟨q',b,rfl,hq',?_⟩;rw[show n+1-1=n by omega]at hpost;rw[show E.t.size+1-p=(E.t.size-p)+1 by omega,Mt.search]at h6;have hS2:jV k wo1 wo w1 w':=h2.trans (jV.below hb);rcases hpost with ⟨ov,hd',zX,wo',wc',W',a1,a2,a3⟩ | ⟨ov,eb,zQV,hd',wo',wc',a1,a2,a3⟩
 ·rw[if_pos ov]at h6;exact⟨_,hd',zX,wo',wc',W',a1,hS2.trans a2,Or.inl ⟨rfl,h6.symm⟩⟩
 ·rw[if_neg (by rw[ov];exact Bool.false_ne_true)]at h6;refine⟨_,hd',_,wo',wc',[],a1,hS2.trans a2,Or.inr ?_⟩;cases hok:(Mt.qO E n (Mt.kZ p) kn zD).ok with
  | true =>
   rw[if_pos hok]at h6;refine Or.inl ⟨by omega,by omega,by rw[eb,hok],?_⟩;rw[<-h6,zMP (zQV hok)]
  | false =>
   rw[if_neg (by rw[hok];exact Bool.false_ne_true)]at h6;refine Or.inr ⟨by omega,by omega,by rw[eb,hok],(Mt.qO E n (Mt.kZ p) kn zD).n,hd',(Mt.qO E n (Mt.kZ p) kn zD).kn,(Mt.qO E n (Mt.kZ p) kn zD).zD,wo',wc',?_,hS2.trans a2,a3,by rw[hgood.2.1];exact h4,hgood.2.2.1,?_,by omega⟩
   ·rw[show k.zA+1-(((Mt.qO E n (Mt.kZ p) kn zD).n+1:Nat):Int)=k.zA-((Mt.qO E n (Mt.kZ p) kn zD).n:Int) by omega];exact a1
   ·rw[show E.t.size+1-(p+1)=E.t.size-p by omega];exact h6
theorem zBi.below{k:Pk}{E:Mt.Env}{S:Mt.Fnd × Bool}{wo1:Option Addr}{w1 w w':World}{p n:Nat}(h:zBi k E S wo1 w1 p n w)(hb:Below w.heap.size w w'):zBi k E S wo1 w1 p n w':=by
 obtain⟨hd,kn,zD,wo,wc,h1,h2,h3⟩:=h;exact⟨hd,kn,zD,wo,wc,h1.below hb,h2.trans (jV.below hb),h3⟩
def plA(E:Mt.Env)(g cap gl gs gh:Nat)(zA zD:Int):Array Value:=#[.slice (some ⟨g,0,none⟩) E.c.length cap,.string E.t,.int .i64 zA,.int .i64 0,.int .i64 ((E.t.size:Int)+1),.slice (some ⟨gl,0,none⟩) E.c.length E.c.length,.slice (some ⟨gs,0,none⟩) E.c.length E.c.length,.slice (some ⟨gh,0,none⟩) (E.base E.c.length) (E.base E.c.length),.int .i64 zD,.slice none 0 0]
def pk0(E:Mt.Env)(L gp g cap gl gs gh:Nat)(zA:Int):Pk:=⟨L,gp,g,gl,gs,gh,cap,E.c.length,E.c.length,E.base E.c.length,E.c,E.t,zA,dH E.c,vP E E.c.length⟩
theorem Tryz.sizePl:(Tryz.prog.info? 126).map (·.size)=some 10:=by kernel_rfl
theorem zE5{E:Mt.Env}{w:World}{n0 gp g cap gl gs gh:Nat}{zA zD:Int}(hB:w.heap[gp]?=some (.cells (plA E g cap gl gs gh zA zD) 126 (0,0)))(hc:zF w 0 (.slice (some ⟨g,0,none⟩) E.c.length cap) E.c)(ht:TabIs E n0 gl gs gh w)(h1:g<n0)(h2:n0<=gp)(h3:gp≠gl/\gp≠gs/\gp≠gh) :
  zV (pk0 E n0 gp g cap gl gs gh zA) w 0 (List.replicate (E.base E.c.length) false) zD none 0 []:=by
 have l1:=(World.ownsRow.lt ht.l gl rfl).1;have l2:=(World.ownsRow.lt ht.s gs rfl).1;have l3:=(World.ownsRow.lt ht.h gh rfl).1;refine⟨by rw[List.length_replicate];exact hB,hc,?_,?_,?_,World.ownsRow_nil _ _ _ _,⟨h2,l3⟩,xI _,dQ _ _,?_,?_,?_⟩
 ·show zOi w (.slice (some ⟨gl,0,none⟩) (dH E.c).length E.c.length) (dH E.c);rw[xI];exact jG ht.l (Nat.zero_le _)
 ·show zOi w (.slice (some ⟨gs,0,none⟩) (vP E E.c.length).length E.c.length) (vP E E.c.length);rw[dQ];exact jG ht.s (Nat.zero_le _)
 ·show zMq w (.slice (some ⟨gh,0,none⟩) (List.replicate (E.base E.c.length) false).length (E.base E.c.length)) (List.replicate (E.base E.c.length) false);rw[List.length_replicate];exact jG ht.h (Nat.zero_le _)
 ·show g≠gp/\gl≠gp/\gs≠gp/\gh≠gp;omega
 ·show g≠gh/\gl≠gh/\gs≠gh;have:=ht.ne;omega
 ·refine⟨?_,?_,?_,?_,?_⟩ <;> (intro e;simp[blk]at e)
theorem zMQ{E:Mt.Env}{A:Int->Mt.Att}{L gp g cap gl gs gh:Nat}{zA:Int}(hT:zE4 E)(hK:Mt.Known E.c A)(har:∀p,p<E.c.length->E.ar.getD p 0=Mt.jI E.c p)(hb:0<=zA/\zA<=10000):Ctx (pk0 E L gp g cap gl gs gh zA) E A :=
 ⟨rfl,rfl,hK,har,hT.zRa,λp hp=>by show(dH E.c).getD p 0=_;rw[zBx E.c p hp,hT.arN p hp],λp hp=>zKE E p hp,hT.t60,hb⟩
theorem zE6(E:Mt.Env)(A:Int->Mt.Att)(hT:zE4 E)(hK:Mt.Known E.c A)(har:∀p,p<E.c.length->E.ar.getD p 0=Mt.jI E.c p)(g cap q nq cq zTE:Nat)(zD zA:Int)(hr:0<=zD/\zD<=5000)(hb:0<=zA/\zA<=10000)(zTw:zTE<=E.t.size)(w:World)(h:zF w 0 (.slice (some ⟨g,0,none⟩) E.c.length cap) E.c)(hq:qK w 0 (.slice (some ⟨q,0,none⟩) nq cq) (Mt.kY E.zTM E.c.length))(hnq:nq=(Mt.kY E.zTM E.c.length).length)(S:Mt.Fnd × Bool)(hS:S=Mt.search E zA (E.t.size+1-zTE) zTE zA.toNat (List.replicate (E.c.length*(E.t.size+1)*12) false) zD) :
  Calls Tryz.prog 48 #[.agg #[.slice (some ⟨g,0,none⟩) E.c.length cap,.slice (some ⟨q,0,none⟩) nq cq,.string E.t,.int .i64 zD],.int .i64 (zTE:Int),.int .i64 zA] w λe w'=>e=.returned (.tuple #[.agg (fpA S.1),.int .i64 (zCY S.2)])/\Below w.heap.size w w':=by
 obtain⟨W1,hW1⟩:∃W1,W1=(w.alloc (.cells #[.slice (some ⟨g,0,none⟩) E.c.length cap,.slice (some ⟨q,0,none⟩) nq cq,.string E.t,.int .i64 zD] 84)).alloc (.cells (fpA Mt.vJ) 57):=⟨_,rfl⟩
 have B1:Below w.heap.size w W1:=by rw[hW1];exact((Below.refl _ _).alloc (lG _) _).alloc (by simp) _
 have T1:W1.heap[w.heap.size]?=some (.cells #[.slice (some ⟨g,0,none⟩) E.c.length cap,.slice (some ⟨q,0,none⟩) nq cq,.string E.t,.int .i64 zD] 84 (0,0)):=by rw[hW1];exact mX _ _ _
 have U1:W1.heap[w.heap.size+1]?=some (.cells (fpA Mt.vJ) 57 (0,0)):=by rw[hW1];exact mF _ _ _
 have HZ1:Hid (W1.heap.size=w.heap.size+2):=by rw[hW1];show _=_;simp
 have HTB:Hid (∀z:World,Below w.heap.size w z->Calls Tryz.prog 76 #[.agg #[.slice (some ⟨g,0,none⟩) E.c.length cap,.slice (some ⟨q,0,none⟩) nq cq,.string E.t,.int .i64 zD]] z λe w'=>∃gl gs gh,e=.returned (.agg #[.int .i64 ((E.t.size:Int)+1),.slice (some ⟨gl,0,none⟩) E.c.length E.c.length,.slice (some ⟨gs,0,none⟩) E.c.length E.c.length,.slice (some ⟨gh,0,none⟩) (E.base E.c.length) (E.base E.c.length),.int .i64 zD])/\TabIs E z.heap.size gl gs gh w'/\Below z.heap.size z w'):=λz hz=>zHt E hT g cap q nq cq zD z (h.below hz) (hq.below hz) hnq
 have HCO:Hid (zF w 0 (.slice (some ⟨g,0,none⟩) E.c.length cap) E.c/\g<w.heap.size):=⟨h,(World.ownsRow.lt h g rfl).2⟩
 have HCX:Hid (∀gp gl gs gh:Nat,Ctx (pk0 E w.heap.size gp g cap gl gs gh zA) E A):=λgp gl gs gh=>zMQ hT hK har hb
 have HSS:Hid (S=Mt.search E zA (E.t.size+1-zTE) zTE zA.toNat (List.replicate (E.c.length*(E.t.size+1)*12) false) zD):=hS;have HB1:Hid (Below w.heap.size w W1):=B1;have HU1:Hid (W1.heap[w.heap.size+1]?=some (.cells (fpA Mt.vJ) 57 (0,0))):=U1;have zOT:=hT.t60;have hcl:=hT.len;clear h hq hnq hT hK har hS B1 U1;go_enter Tryz.func48,Tryz.ntmps48
 go_upto_region 1 with fail
 show Code.wp _ _ _ _ ((w.alloc (.cells #[.slice (some ⟨g,0,none⟩) E.c.length cap,.slice (some ⟨q,0,none⟩) nq cq,.string E.t,.int .i64 zD] 84)).alloc (.cells (fpA Mt.vJ) 57));rw[<-hW1];clear hW1;generalize hnn:w.heap.size=n at *
 go_cut [8] (λv8 wx=>∃gp gl gs gh,v8=.pointer (some ⟨gp,0,none⟩)/\zV (pk0 E n gp g cap gl gs gh zA) wx 0 (List.replicate (E.base E.c.length) false) zD none 0 []/\Below n w wx/\wx.heap[n]?=some (.cells #[.slice (some ⟨g,0,none⟩) E.c.length cap,.slice (some ⟨q,0,none⟩) nq cq,.string E.t,.int .i64 zD] 84 (0,0))/\wx.heap[n+1]?=some (.cells (fpA Mt.vJ) 57 (0,0))/\n+2<=gp/\gh≠n+1/\gh≠n)
 case first =>
  have hcr:∀z:World,(z.heap[n]?=some (.cells #[.slice (some ⟨g,0,none⟩) E.c.length cap,.slice (some ⟨q,0,none⟩) nq cq,.string E.t,.int .i64 zD] 84 (0,0))/\z.heap[n+1]?=some (.cells (fpA Mt.vJ) 57 (0,0)))->z.cell? ⟨n,0,none⟩=some (.slice (some ⟨g,0,none⟩) E.c.length cap)/\z.cell? ⟨n,2,none⟩=some (.string E.t):=λz hz=>⟨(zC hz.1).1 0,(zC hz.1).1 2⟩
  have zOU:∀z:World,(z.heap[n]?=some (.cells #[.slice (some ⟨g,0,none⟩) E.c.length cap,.slice (some ⟨q,0,none⟩) nq cq,.string E.t,.int .i64 zD] 84 (0,0))/\z.heap[n+1]?=some (.cells (fpA Mt.vJ) 57 (0,0)))->z.rangeAt n 0 (#[.slice (some ⟨g,0,none⟩) E.c.length cap,.slice (some ⟨q,0,none⟩) nq cq,.string E.t,.int .i64 zD]:Array Value).toList:=λz hz=>xP hz.1
  have S0:W1.drew.heap[n]?=some (.cells #[.slice (some ⟨g,0,none⟩) E.c.length cap,.slice (some ⟨q,0,none⟩) nq cq,.string E.t,.int .i64 zD] 84 (0,0))/\W1.drew.heap[n+1]?=some (.cells (fpA Mt.vJ) 57 (0,0)):=⟨T1,HU1.out⟩
  refine wp_region_held_drew (S:=λz:World=>z.heap[n]?=some (.cells #[.slice (some ⟨g,0,none⟩) E.c.length cap,.slice (some ⟨q,0,none⟩) nq cq,.string E.t,.int .i64 zD] 84 (0,0))/\z.heap[n+1]?=some (.cells (fpA Mt.vJ) 57 (0,0))) (by kernel_rfl) S0 (λhH=>?_);refine kD 0 14 (.pointer (some ⟨n,0,none⟩)) rfl rfl (by kernel_rfl) (by kernel_rfl) (by kernel_rfl) (λ_ _ _ h=>h) (Or.inl ⟨by rfl,λz hz=>by clear hH hz hcr zOU S0 T1;go_simp⟩) (by assumption) ?_;simp only[Act.put,lC,lD,lF];refine kD 1 15 (.slice (some ⟨g,0,none⟩) E.c.length cap) rfl rfl (by kernel_rfl) (by kernel_rfl) (by kernel_rfl) (λ_ _ _ h=>h) (Or.inl ⟨by rfl,λz hz=>by obtain⟨hz1,hz2⟩:=hcr z hz;clear hH hz hcr zOU S0 T1;go_simp⟩) (by assumption) ?_;simp only[Act.put,lC,lD,lF];refine kD 2 16 (.pointer (some ⟨n,2,none⟩)) rfl rfl (by kernel_rfl) (by kernel_rfl) (by kernel_rfl) (λ_ _ _ h=>h) (Or.inl ⟨by rfl,λz hz=>by clear hH hz hcr zOU S0 T1;go_simp⟩) (by assumption) ?_;simp only[Act.put,lC,lD,lF];refine kD 3 17 (.string E.t) rfl rfl (by kernel_rfl) (by kernel_rfl) (by kernel_rfl) (λ_ _ _ h=>h) (Or.inl ⟨by rfl,λz hz=>by obtain⟨hz1,hz2⟩:=hcr z hz;clear hH hz hcr zOU S0 T1;go_simp⟩) (by assumption) ?_;simp only[Act.put,lC,lD,lF];refine kD 4 18 (.int .i64 zA) rfl rfl (by kernel_rfl) (by kernel_rfl) (by kernel_rfl) (λ_ _ _ h=>h) (Or.inl ⟨by rfl,λz hz=>by clear hH hz hcr zOU S0 T1;go_simp⟩) (by assumption) ?_;simp only[Act.put,lC,lD,lF];refine kD 5 19 (.agg #[.slice (some ⟨g,0,none⟩) E.c.length cap,.slice (some ⟨q,0,none⟩) nq cq,.string E.t,.int .i64 zD]) rfl rfl (by kernel_rfl) (by kernel_rfl) (by kernel_rfl) (λ_ _ _ h=>h) (yieldsIf_load_mid (by rfl) _ _ rfl _ _ rfl _ _ zOU Tryz.underlying84 rfl (by kernel_rfl)) (by assumption) ?_;simp only[Act.put,lC,lD,lF];have hz1:=HZ1.out;refine wpAnyH_ready (rs:=[6,8]) (by kernel_rfl) (by simp) ?_;refine AllReadyH.cons rfl (λK hK=>?_) (AllReadyH.cons rfl (λK hK=>?_) AllReadyH.nil)
  ·clear hcr zOU;have HC1:Hid (Below n w W1.drew):=HB1.out.drew
   go_simp
   refine(HTB.out W1.drew HC1.out).mono ?_;rintro e w4 ⟨gl,gs,gh,rfl,hTI,hb4⟩;have S4:w4.heap[n]?=some (.cells #[.slice (some ⟨g,0,none⟩) E.c.length cap,.slice (some ⟨q,0,none⟩) nq cq,.string E.t,.int .i64 zD] 84 (0,0))/\w4.heap[n+1]?=some (.cells (fpA Mt.vJ) 57 (0,0)):=⟨(hb4.block n (by simp;omega)).trans S0.1,(hb4.block (n+1) (by simp;omega)).trans S0.2⟩
   go_simp
   refine hK.out _ _ S4 (λhH2=>?_);clear hK K;refine kD 7 21 (.agg (plA E g cap gl gs gh zA zD)) rfl rfl (by kernel_rfl) (by kernel_rfl) (by kernel_rfl) (λ_ _ _ h=>h) (Or.inl ⟨by rfl,λz hz=>by refine zC7 (t:=126) (parts:=#[(0,.tmp 15),(1,.tmp 17),(2,.tmp 18),(4,.tmp 20)]) rfl ?_;simp only[List.map_toArray,List.map_cons,List.map_nil];unfold plA;kernel_rfl⟩) (by assumption) ?_;simp only[Act.put,lC,lD,lF];refine wpAnyH_ready (rs:=[8]) (by kernel_rfl) (by simp) ?_;refine AllReadyH.cons rfl (λK hK=>?_) AllReadyH.nil;have hs4:n+2<=w4.heap.size:=by have:=hb4.size;simp at this;omega
   have HK2:Hid (TabIs E W1.drew.heap.size gl gs gh w4/\Below W1.drew.heap.size W1.drew w4):=⟨hTI,hb4⟩
   clear hTI hb4
   go_simp
   have zb:(w4.alloc (.cells #[.slice none 0 0,.string ⟨#[]⟩,.int .i64 0,.int .i64 0,.int .i64 0,.slice none 0 0,.slice none 0 0,.slice none 0 0,.int .i64 0,.slice none 0 0] 126)).heap[w4.heap.size]?=some (.cells #[.slice none 0 0,.string ⟨#[]⟩,.int .i64 0,.int .i64 0,.int .i64 0,.slice none 0 0,.slice none 0 0,.slice none 0 0,.int .i64 0,.slice none 0 0] 126 (0,0)):=heap_alloc_new _ _;have S5:(w4.alloc (.cells #[.slice none 0 0,.string ⟨#[]⟩,.int .i64 0,.int .i64 0,.int .i64 0,.slice none 0 0,.slice none 0 0,.slice none 0 0,.int .i64 0,.slice none 0 0] 126)).heap[n]?=some (.cells #[.slice (some ⟨g,0,none⟩) E.c.length cap,.slice (some ⟨q,0,none⟩) nq cq,.string E.t,.int .i64 zD] 84 (0,0))/\(w4.alloc (.cells #[.slice none 0 0,.string ⟨#[]⟩,.int .i64 0,.int .i64 0,.int .i64 0,.slice none 0 0,.slice none 0 0,.slice none 0 0,.int .i64 0,.slice none 0 0] 126)).heap[n+1]?=some (.cells (fpA Mt.vJ) 57 (0,0)):=⟨(kT _ _ _ (by omega)).trans S4.1,(kT _ _ _ (by omega)).trans S4.2⟩
   have b5:Below w4.heap.size w4 (w4.alloc (.cells #[.slice none 0 0,.string ⟨#[]⟩,.int .i64 0,.int .i64 0,.int .i64 0,.slice none 0 0,.slice none 0 0,.slice none 0 0,.int .i64 0,.slice none 0 0] 126)):=(Below.refl _ _).alloc (lG _) _;have z5:(w4.alloc (.cells #[.slice none 0 0,.string ⟨#[]⟩,.int .i64 0,.int .i64 0,.int .i64 0,.slice none 0 0,.slice none 0 0,.slice none 0 0,.int .i64 0,.slice none 0 0] 126)).heap.size=w4.heap.size+1:=by simp
   refine hK.out _ _ S5 (λhH3=>?_);clear hK K;generalize w4.alloc (.cells #[.slice none 0 0,.string ⟨#[]⟩,.int .i64 0,.int .i64 0,.int .i64 0,.slice none 0 0,.slice none 0 0,.slice none 0 0,.int .i64 0,.slice none 0 0] 126)=w5 at *;have hTH:(w5).there w4.heap.size 0 (plA E g cap gl gs gh zA zD).size:=qW (zC zb).1 (zC zb).2 10 (lG _);refine zAG 9 _ rfl rfl (by kernel_rfl) (by kernel_rfl) _ _ _ rfl w4.heap.size 0 (plA E g cap gl gs gh zA zD) (by kernel_rfl) (by kernel_rfl) hTH (by rw[Tryz.sizePl];rfl) (by simp[plA,Value.oneCell']) rfl ?_;have r1:=zAZ zb (plA E g cap gl gs gh zA zD) rfl;have r2:∀i,i≠w4.heap.size->((w5).setCells w4.heap.size 0 (plA E g cap gl gs gh zA zD).toList).heap[i]?=(w5).heap[i]?:=λi hi=>qZ w4.heap.size _ 0 _ i hi
   have r4:=(below_setCells w4.heap.size (plA E g cap gl gs gh zA zD).toList 0 (w5) n (by simp at *;omega)).1;generalize w5.setCells w4.heap.size 0 (plA E g cap gl gs gh zA zD).toList=w6 at *
   have zGa:Hid (zV (pk0 E n w4.heap.size g cap gl gs gh zA) w6 0 (List.replicate (E.base E.c.length) false) zD none 0 []/\Below n w w6/\(w6.heap[n]?=some (.cells #[.slice (some ⟨g,0,none⟩) E.c.length cap,.slice (some ⟨q,0,none⟩) nq cq,.string E.t,.int .i64 zD] 84 (0,0))/\w6.heap[n+1]?=some (.cells (fpA Mt.vJ) 57 (0,0)))/\n+2<=w4.heap.size/\gh≠n+1/\gh≠n):=by
    obtain⟨k1,k2⟩:=HK2.out;have hzz:W1.drew.heap.size=n+2:=by simpa using hz1
    have hBW:Below n w w4:=HC1.out.trans (k2.mono (by omega));have hl:=World.ownsRow.lt k1.l gl rfl;have hs:=World.ownsRow.lt k1.s gs rfl;have hh:=World.ownsRow.lt k1.h gh rfl;have hgw:=HCO.out.2
    have ti:TabIs E n gl gs gh w6:=by
     refine⟨?_,?_,?_,k1.ne⟩
     ·have t:=k1.l;unfold qK at t |-;rw[xI]at t |-;exact jG (zT t (λi hi=>by cases hi;rw[r2 gl (by omega),b5.block gl hl.2])) (by omega)
     ·have t:=k1.s;unfold qK at t |-;rw[dQ]at t |-;exact jG (zT t (λi hi=>by cases hi;rw[r2 gs (by omega),b5.block gs hs.2])) (by omega)
     ·have t:=k1.h;unfold qQ at t |-;rw[List.length_replicate]at t |-;exact jG (zT t (λi hi=>by cases hi;rw[r2 gh (by omega),b5.block gh hh.2])) (by omega)
    have hB6:Below n w w6:=(hBW.trans (b5.mono (by omega))).trans r4;refine⟨zE5 r1 (HCO.out.1.below (by first | exact hB6|(rw[hnn];exact hB6))) ti hgw (by omega) ⟨by omega,by omega,by omega⟩,hB6,⟨(r2 n (by omega)).trans S5.1,(r2 (n+1) (by omega)).trans S5.2⟩,hs4,by omega,by omega⟩
   refine⟨zGa.out.2.2.1,?_⟩;clear r1 r2 r4 hH hH2 hH3 hTH zb b5 S5 S4 S0;go_wp2_with fail
   go_meet
   case rel=>exact⟨w4.heap.size,gl,gs,gh,rfl,zGa.out.1,zGa.out.2.1,zGa.out.2.2.1.1,zGa.out.2.2.1.2,zGa.out.2.2.2⟩
  ·clear hcr zOU;have zb:(W1.drew.alloc (.cells #[.slice none 0 0,.string ⟨#[]⟩,.int .i64 0,.int .i64 0,.int .i64 0,.slice none 0 0,.slice none 0 0,.slice none 0 0,.int .i64 0,.slice none 0 0] 126)).heap[W1.heap.size]?=some (.cells #[.slice none 0 0,.string ⟨#[]⟩,.int .i64 0,.int .i64 0,.int .i64 0,.slice none 0 0,.slice none 0 0,.slice none 0 0,.int .i64 0,.slice none 0 0] 126 (0,0)):=heap_alloc_new W1.drew _;have S3:(W1.drew.alloc (.cells #[.slice none 0 0,.string ⟨#[]⟩,.int .i64 0,.int .i64 0,.int .i64 0,.slice none 0 0,.slice none 0 0,.slice none 0 0,.int .i64 0,.slice none 0 0] 126)).heap[n]?=some (.cells #[.slice (some ⟨g,0,none⟩) E.c.length cap,.slice (some ⟨q,0,none⟩) nq cq,.string E.t,.int .i64 zD] 84 (0,0))/\(W1.drew.alloc (.cells #[.slice none 0 0,.string ⟨#[]⟩,.int .i64 0,.int .i64 0,.int .i64 0,.slice none 0 0,.slice none 0 0,.slice none 0 0,.int .i64 0,.slice none 0 0] 126)).heap[n+1]?=some (.cells (fpA Mt.vJ) 57 (0,0)):=⟨(kT _ _ _ (by simp;omega)).trans S0.1,(kT _ _ _ (by simp;omega)).trans S0.2⟩
   have HC3:Hid (Below n w (W1.drew.alloc (.cells #[.slice none 0 0,.string ⟨#[]⟩,.int .i64 0,.int .i64 0,.int .i64 0,.slice none 0 0,.slice none 0 0,.slice none 0 0,.int .i64 0,.slice none 0 0] 126))):=HB1.out.drew.alloc (by simp;omega) _;have z3:(W1.drew.alloc (.cells #[.slice none 0 0,.string ⟨#[]⟩,.int .i64 0,.int .i64 0,.int .i64 0,.slice none 0 0,.slice none 0 0,.slice none 0 0,.int .i64 0,.slice none 0 0] 126)).heap.size=W1.heap.size+1:=by simp
   have HZ3:Hid (W1.heap.size=n+2):=hz1;clear hz1
   go_simp
   refine hK.out _ _ S3 (λhH2=>?_);clear hK K;have zSd:Hid ((W1.drew.alloc (.cells #[.slice none 0 0,.string ⟨#[]⟩,.int .i64 0,.int .i64 0,.int .i64 0,.slice none 0 0,.slice none 0 0,.slice none 0 0,.int .i64 0,.slice none 0 0] 126)).heap.size=W1.heap.size+1):=z3;clear z3;refine wpAnyH_ready (rs:=[6]) (by kernel_rfl) (by simp) ?_;refine AllReadyH.cons rfl (λK hK=>?_) AllReadyH.nil
   go_simp
   refine(HTB.out _ HC3.out).mono ?_;rintro e w4 ⟨gl,gs,gh,rfl,hTI,hb4⟩;have z3:=zSd.out;have hz1:=HZ3.out;generalize W1.drew.alloc (.cells #[.slice none 0 0,.string ⟨#[]⟩,.int .i64 0,.int .i64 0,.int .i64 0,.slice none 0 0,.slice none 0 0,.slice none 0 0,.int .i64 0,.slice none 0 0] 126)=w3 at *;have S4:w4.heap[n]?=some (.cells #[.slice (some ⟨g,0,none⟩) E.c.length cap,.slice (some ⟨q,0,none⟩) nq cq,.string E.t,.int .i64 zD] 84 (0,0))/\w4.heap[n+1]?=some (.cells (fpA Mt.vJ) 57 (0,0)):=⟨(hb4.block n (by omega)).trans S3.1,(hb4.block (n+1) (by omega)).trans S3.2⟩
   have zb4:w4.heap[W1.heap.size]?=some (.cells #[.slice none 0 0,.string ⟨#[]⟩,.int .i64 0,.int .i64 0,.int .i64 0,.slice none 0 0,.slice none 0 0,.slice none 0 0,.int .i64 0,.slice none 0 0] 126 (0,0)):=(hb4.block W1.heap.size (by omega)).trans zb;clear z3 hz1
   go_simp
   refine hK.out _ _ S4 (λhH3=>?_);clear hK K;refine kD 7 21 (.agg (plA E g cap gl gs gh zA zD)) rfl rfl (by kernel_rfl) (by kernel_rfl) (by kernel_rfl) (λ_ _ _ h=>h) (Or.inl ⟨by rfl,λz hz=>by refine zC7 (t:=126) (parts:=#[(0,.tmp 15),(1,.tmp 17),(2,.tmp 18),(4,.tmp 20)]) rfl ?_;simp only[List.map_toArray,List.map_cons,List.map_nil];unfold plA;kernel_rfl⟩) (by assumption) ?_;simp only[Act.put,lC,lD,lF];have z3:=zSd.out;have hz1:=HZ3.out;have hTH:w4.there W1.heap.size 0 (plA E g cap gl gs gh zA zD).size:=qW (zC zb4).1 (zC zb4).2 10 (lG _);refine zAG 9 _ rfl rfl (by kernel_rfl) (by kernel_rfl) _ _ _ rfl W1.heap.size 0 (plA E g cap gl gs gh zA zD) (by kernel_rfl) (by kernel_rfl) hTH (by rw[Tryz.sizePl];rfl) (by simp[plA,Value.oneCell']) rfl ?_;have r1:=zAZ zb4 (plA E g cap gl gs gh zA zD) rfl;have r2:∀i,i≠W1.heap.size->(w4.setCells W1.heap.size 0 (plA E g cap gl gs gh zA zD).toList).heap[i]?=w4.heap[i]?:=λi hi=>qZ W1.heap.size _ 0 _ i hi
   have r4:=(below_setCells W1.heap.size (plA E g cap gl gs gh zA zD).toList 0 w4 n (by omega)).1;generalize w4.setCells W1.heap.size 0 (plA E g cap gl gs gh zA zD).toList=w6 at *
   have zGa:Hid (zV (pk0 E n W1.heap.size g cap gl gs gh zA) w6 0 (List.replicate (E.base E.c.length) false) zD none 0 []/\Below n w w6/\(w6.heap[n]?=some (.cells #[.slice (some ⟨g,0,none⟩) E.c.length cap,.slice (some ⟨q,0,none⟩) nq cq,.string E.t,.int .i64 zD] 84 (0,0))/\w6.heap[n+1]?=some (.cells (fpA Mt.vJ) 57 (0,0)))/\n+2<=W1.heap.size/\gh≠n+1/\gh≠n):=by
    have hBW:Below n w w4:=HC3.out.trans (hb4.mono (by omega));have hl:=World.ownsRow.lt hTI.l gl rfl;have hs:=World.ownsRow.lt hTI.s gs rfl;have hh:=World.ownsRow.lt hTI.h gh rfl;have hgw:=HCO.out.2
    have ti:TabIs E n gl gs gh w6:=by
     refine⟨?_,?_,?_,hTI.ne⟩
     ·have t:=hTI.l;unfold qK at t |-;rw[xI]at t |-;exact jG (zT t (λi hi=>by cases hi;rw[r2 gl (by omega)])) (by omega)
     ·have t:=hTI.s;unfold qK at t |-;rw[dQ]at t |-;exact jG (zT t (λi hi=>by cases hi;rw[r2 gs (by omega)])) (by omega)
     ·have t:=hTI.h;unfold qQ at t |-;rw[List.length_replicate]at t |-;exact jG (zT t (λi hi=>by cases hi;rw[r2 gh (by omega)])) (by omega)
    have hB6:Below n w w6:=hBW.trans r4;refine⟨zE5 r1 (HCO.out.1.below (by first | exact hB6|(rw[hnn];exact hB6))) ti hgw (by omega) ⟨by omega,by omega,by omega⟩,hB6,⟨(r2 n (by omega)).trans S4.1,(r2 (n+1) (by omega)).trans S4.2⟩,by omega,by omega,by omega⟩
   refine⟨zGa.out.2.2.1,?_⟩;clear r1 r2 r4 hH hH2 hH3 hTH zb zb4 S3 S4 S0 hTI hb4 z3 hz1;go_wp2_with fail
   go_meet
   case rel=>exact⟨W1.heap.size,gl,gs,gh,rfl,zGa.out.1,zGa.out.2.1,zGa.out.2.2.1.1,zGa.out.2.2.1.2,zGa.out.2.2.2⟩
 case rest =>
  obtain⟨gp,gl,gs,gh,rfl,hP,hB,hT1,hT2,hgp,zTx,zTy⟩:=hcut;have HX:Hid (Ctx (pk0 E n gp g cap gl gs gh zA) E A):=HCX.out gp gl gs gh;have HBW:Hid (Below n w wc):=hB
  have HSK:Hid (zBi (pk0 E n gp g cap gl gs gh zA) E S none wc zTE zA.toNat wc):=by
   refine⟨_,_,zD,none,0,?_,jV.refl _ _ _,Mt.Tab.start E _,by simp,hr,HSS.out.symm,?_⟩
   ·have e:(pk0 E n gp g cap gl gs gh zA).zA+1-((zA.toNat+1:Nat):Int)=0:=by show zA+1-_=_;omega
    rw[e];exact hP
   ·show((zA.toNat:Nat):Int)<=zA;omega
  have zKF:Hid (∀(wo:Option Addr) (z:World),jV (pk0 E n gp g cap gl gs gh zA) none wo wc z->z.heap[n]?=some (.cells #[.slice (some ⟨g,0,none⟩) E.c.length cap,.slice (some ⟨q,0,none⟩) nq cq,.string E.t,.int .i64 zD] 84 (0,0))/\z.heap[n+1]?=some (.cells (fpA Mt.vJ) 57 (0,0))/\Below n w z/\n+1<z.heap.size):=λwo z hz=>by
   have hn0:n<wc.heap.size:=(lI.1 hT1).1;have hn1:n+1<wc.heap.size:=(lI.1 hT2).1;have b1:z.heap[n]?=wc.heap[n]?:=hz.block n hn0 (by show n≠gp;omega) (by show n≠gh;omega) (λe=>by simp[blk]at e);have b2:z.heap[n+1]?=wc.heap[n+1]?:=hz.block (n+1) hn1 (by show n+1≠gp;omega) (by show n+1≠gh;omega) (λe=>by simp[blk]at e);refine⟨b1.trans hT1,b2.trans hT2,?_,by have:=hz.size;omega⟩;have:=jV.low hP hz (show n<=wc.heap.size by omega);exact hB.trans this
  have HGP:Hid (gp<wc.heap.size):=hP.lt.1;clear hP hB hT1 hT2 HCX HSS HCO HTB HB1 HU1 T1 HZ1;have hft:(zTE:Int)<=(E.t.size:Int):=by omega
  go_wp2_with fail
  go_loopw [9] (λi wr=>∃p m:Nat,zTE<=p/\p<=E.t.size+1/\i=.int .i64 p/\zBi (pk0 E n gp g cap gl gs gh zA) E S none wc p m wr) (λi _=>E.t.size+1-(intOf i).toNat)
  case atStart=>exact⟨zTE,zA.toNat,lG _,by omega,rfl,HSK.out⟩
  case round =>
   obtain⟨p,m,hp1,hp2,rfl,hsk⟩:=hrel;have zRb:Hid (zBi (pk0 E n gp g cap gl gs gh zA) E S none wc p m wr):=hsk;obtain⟨hdx,knx,zSS,wox,wcx,hPx,hSx,_⟩:=hsk;obtain⟨y1,y2,y3,y4⟩:=zKF.out _ _ hSx;have t2:wr.cell? ⟨n,2,none⟩=some (.string E.t):=(zC y1).1 2;clear hPx hSx y1 y2 y3;by_cases hpt:p<=E.t.size
   ·have hle:(p:Int)<=(E.t.size:Int):=by omega
    go_wp2_with fail
    refine(zBh (p:Int) wr).mono ?_;rintro e w3 ⟨rfl,zTL⟩;have HB3:Hid (Below wr.heap.size wr w3):=zTL;clear zTL t2;go_upto_region 6 with (refine zM 130 43 Tryz.sizeSt (by rfl) (.tmp 10) (.tmp 31) (by rfl) w3.heap.size (zTS (Mt.nU p)) (by rfl) (by rfl) (by exact jR _ _) (by rfl) (kK _) (mH _) ?_;intro w4 r1 r2 r3 r4)
    have B4:Below wr.heap.size wr w4:=HB3.out.trans ((((Below.refl _ _).alloc (lG _) _).trans (r4 _ (lG _))).mono HB3.out.size);have zQT:Hid (Calls Tryz.prog 78 #[.pointer (some ⟨gp,0,none⟩),.agg (zTS (Mt.nU p))] w4 λe w2=>∃q' b,e=.returned (.tuple #[.agg (zTS q'),.bool b])/\zPW (pk0 E n gp g cap gl gs gh zA) E S none wc p q' b w2):=zQZ HX.out B4 hpt zRb.out;clear r2 r3 r4 B4 zRb HB3;generalize w3.heap.size=nb at *;go_wp2_with (refine kQ 130 43 Tryz.underlying130 rfl Tryz.sizeSt (by rfl) (.tmp 10) (by rfl) nb (by rfl) r1 (kK _) ?_)
    refine zQT.out.mono ?_;rintro e w5 ⟨q',b,rfl,hR⟩;have HR:Hid (zPW (pk0 E n gp g cap gl gs gh zA) E S none wc p q' b w5):=hR;clear hR r1 zQT;go_upto_region 7 with (refine zM 130 43 Tryz.sizeSt (by rfl) (.tmp 11) (.tmp 35) (by rfl) w5.heap.size (zTS q') (by rfl) (by rfl) (by exact jR _ _) (by rfl) (kK _) (mH _) ?_;intro w6 r1 r2 r3 r4)
    have B6:Below w5.heap.size w5 w6:=((Below.refl _ _).alloc (lG _) _).trans (r4 _ (lG _));obtain⟨hq',st,hd',zX,wo',wc',W',hP',hS',hcase⟩:=HR.out;have hP6:=hP'.below B6;have HSP:=zCn hP6;have hS6:jV (pk0 E n gp g cap gl gs gh zA) none wo' wc w6:=hS'.trans (jV.below B6);have HS6:Hid (jV (pk0 E n gp g cap gl gs gh zA) none wo' wc w6/\zV (pk0 E n gp g cap gl gs gh zA) w6 st hd' zX wo' wc' W'):=⟨hS6,hP6⟩
    have HE6:Hid (w6.heap[w5.heap.size]?=some (.cells (zTS q') 130 (0,0))):=r1;have HQ:Hid (q'.length=43):=hq';have HB6:Hid (Below w5.heap.size w5 w6):=B6;clear r1 r2 r3 r4 B6 hP' hS' hP6 hS6 hq' HR;generalize hm5:w5.heap.size=m5 at *;rcases hcase with ⟨zTJ,hS0⟩ | ⟨zTJ,zPl,hbt,hS0⟩ | ⟨zTJ,zPl,hbf,n',zSe⟩
    ·have zQ0:Hid (Calls Tryz.prog 79 #[.pointer (some ⟨gp,0,none⟩)] w6 λe w'=>e=.returned (.bool true)/\Below w6.heap.size w6 w'):=HSP.mono (λe w' hh=>⟨by rw[hh.1,zTJ,show decide ((pk0 E n gp g cap gl gs gh zA).zA+1>(pk0 E n gp g cap gl gs gh zA).zA)=true by rw[decide_eq_true_eq];omega],hh.2⟩);have HSE:Hid (S=(Mt.vJ,true)):=hS0;clear HSP zTJ hS0;go_wp2_with fail
     refine zQ0.out.mono ?_;rintro e w7 ⟨rfl,hb7⟩;obtain⟨v1,v2,v3,v4⟩:=zKF.out _ w7 (HS6.out.1.trans (jV.below hb7));have HV3:Hid (Below n w w7):=v3;clear hb7 v1 v3;go_wp2_with (refine zM 57 22 Tryz.sizeFd (by rfl) (.tmp 6) (.tmp 38) (by rfl) (n+1) (fpA Mt.vJ) (by rfl) (by rfl) v2 (by rfl) (yP _ rfl) (mZ _) ?_;intro w9 q1 q2 q3 q4)
     refine bodyPost_ret (jK 57 22 Tryz.underlying57 rfl Tryz.sizeFd rfl (by rfl) q1 (yP _ rfl)) rfl ⟨?_,?_⟩
     ·rw[HSE.out];rfl
     ·first | exact HV3.out.trans (q4 n (by omega))|(rw[hnn];exact HV3.out.trans (q4 n (by omega)))
    ·have zQ0:Hid (Calls Tryz.prog 79 #[.pointer (some ⟨gp,0,none⟩)] w6 λe w'=>e=.returned (.bool false)/\Below w6.heap.size w6 w'):=HSP.mono (λe w' hh=>⟨by rw[hh.1,show decide (st>(pk0 E n gp g cap gl gs gh zA).zA)=false by rw[lJ];omega],hh.2⟩);have HSE:Hid (S=(⟨true,Mt.yX p q',st⟩,false)):=hS0;subst hbt;clear HSP zTJ hS0 zPl;go_wp2_with fail
     refine zQ0.out.mono ?_;rintro e w7 ⟨rfl,hb7⟩;have hP7:=HS6.out.2.below hb7;have c3:=hP7.cells.2.2.2.1;have c3':w7.cell? ⟨gp,3,none⟩=some (.int .i64 st):=c3;have E7:w7.heap[m5]?=some (.cells (zTS q') 130 (0,0)):=(hb7.block m5 (lI.1 HE6.out).1).trans HE6.out;have HS7:Hid (jV (pk0 E n gp g cap gl gs gh zA) none wo' wc w7):=HS6.out.1.trans (jV.below hb7);clear hb7 hP7 c3;go_wp2_with (refine kQ 130 43 Tryz.underlying130 rfl Tryz.sizeSt (by rfl) (.tmp 11) (by rfl) m5 (by rfl) E7 (kK _) ?_)
     refine(zML (p:Int) q' HQ.out st w7).mono ?_;rintro e w8 ⟨rfl,hb8⟩;obtain⟨v1,v2,v3,v4⟩:=zKF.out _ w8 (HS7.out.trans (jV.below hb8));have HV3:Hid (Below n w w8):=v3;have hF:(Mt.yX (p:Int) q').length=20:=by have:=HQ.out;simp[Mt.yX,this]
     clear hb8 v1 v3 c3' E7;generalize hFF:Mt.yX (p:Int) q'=F at *;go_wp2_with (refine zM 57 22 Tryz.sizeFd (by rfl) (.tmp 6) (.tmp 44) (by rfl) (n+1) (fpA ⟨true,F,st⟩) (by rfl) (by rfl) v2 (by rfl) (yP _ hF) (mZ _) ?_;intro w9 q1 q2 q3 q4)
     refine bodyPost_ret (jK 57 22 Tryz.underlying57 rfl Tryz.sizeFd rfl (by rfl) q1 (yP _ hF)) rfl ⟨?_,?_⟩
     ·rw[HSE.out];rfl
     ·first | exact HV3.out.trans (q4 n (by omega))|(rw[hnn];exact HV3.out.trans (q4 n (by omega)))
    ·have zQ0:Hid (Calls Tryz.prog 79 #[.pointer (some ⟨gp,0,none⟩)] w6 λe w'=>e=.returned (.bool false)/\Below w6.heap.size w6 w'):=HSP.mono (λe w' hh=>⟨by rw[hh.1,show decide (st>(pk0 E n gp g cap gl gs gh zA).zA)=false by rw[lJ];omega],hh.2⟩);have zST:Hid (zBi (pk0 E n gp g cap gl gs gh zA) E S none wc (p+1) n' w6):=zSe.below (by rw[hm5];exact HB6.out);subst hbf;clear HSP zTJ zPl zSe;go_wp2_with fail
     refine zQ0.out.mono ?_;rintro e w7 ⟨rfl,hb7⟩;have zSU:Hid (zBi (pk0 E n gp g cap gl gs gh zA) E S none wc (p+1) n' w7):=zST.out.below hb7;clear hb7;go_wp2_with fail
     go_roundw
     case rel=>exact⟨p+1,n',by omega,by omega,by go_num,zSU.out⟩
     case measure=>simp[intOf];omega
   ·have hpe:p=E.t.size+1:=by omega
    have hle:decide ((p:Int)<=(E.t.size:Int))=false:=by rw[lJ];omega
    have hle2:decide (p<=E.t.size)=false:=by rw[lJ];omega
    obtain⟨hd,kn,yG,wo,wc1,h1,h2,h3,h4,h5,h6,h7⟩:=zRb.out
    have HSE:Hid (S=(⟨false,Mt.nowhere,zA-(m:Int)⟩,false)):=by
     show _=_;rw[<-h6,hpe,show E.t.size+1-(E.t.size+1)=0 by omega];rfl
    have HPX:Hid (zV (pk0 E n gp g cap gl gs gh zA) wr (zA-(m:Int)) hd yG wo wc1 []/\jV (pk0 E n gp g cap gl gs gh zA) none wo wc wr):=by
     refine⟨?_,h2⟩;have e:(pk0 E n gp g cap gl gs gh zA).zA+1-((m+1:Nat):Int)=zA-(m:Int):=by show zA+1-_=_;omega
     rw[e]at h1;exact h1
    clear h1 h2 h3 h4 h5 h6 h7 zRb;go_wp2_with fail
    refine(zBh (zTE:Int) wr).mono ?_;rintro e w3 ⟨rfl,zTL⟩;have HB3:Hid (Below wr.heap.size wr w3):=zTL;clear zTL t2;go_upto_region 12 with (refine zM 130 43 Tryz.sizeSt (by rfl) (.tmp 13) (.tmp 46) (by rfl) w3.heap.size (zTS (Mt.nU zTE)) (by rfl) (by rfl) (by exact jR _ _) (by rfl) (kK _) (mH _) ?_;intro w4 r1 r2 r3 r4)
    have B4:Below wr.heap.size wr w4:=HB3.out.trans ((((Below.refl _ _).alloc (lG _) _).trans (r4 _ (lG _))).mono HB3.out.size);obtain⟨v1,v2,v3,v4⟩:=zKF.out _ w4 (HPX.out.2.trans (jV.below B4));have c3:w4.cell? ⟨gp,3,none⟩=some (.int .i64 (zA-(m:Int))):=(HPX.out.1.below B4).cells.2.2.2.1;have R1:=zBZ r1 2 20;rw[zE3,zHu]at R1;have HV3:Hid (Below n w w4):=v3;have HBF:=zKD Mt.nowhere (by simp[Mt.nowhere]) (zA-(m:Int));have hlN:Mt.nowhere.length=20:=by simp[Mt.nowhere]
    clear r1 r2 r3 r4 B4 v1 v3 HB3 HPX;generalize w3.heap.size=nb at *;generalize hNN:Mt.nowhere=N at *;generalize hUU:zA-(m:Int)=U at *;refine wp_region_lit ?_;refine wpList_plain (by rfl) (λK hK=>?_)
    go_simp
    refine hK _ _ ?_;clear hK K;refine wpList_load_mid (by rfl) 55 (.tmp 47) (by rfl) nb 2 (by rfl) (N.map (Value.int .i64)) _ R1 Tryz.underlying55 rfl (by rw[Tryz.underArr20];simp[hlN]) ?_;simp only[Act.put,lC,lD,lF];refine wpList_plain (by rfl) (λK hK=>?_)
    go_simp
    refine hK _ _ ?_;clear hK K;refine wpList_plain (by rfl) (λK hK=>?_)
    go_simp
    refine hK _ _ ?_;clear hK K;refine wpList_buildTo (by rfl) 57 #[(1,.tmp 48),(2,.tmp 50)] (by rfl) (some 51) rfl (fpA ⟨false,N,U⟩) (by simp only[List.map_toArray,List.map_cons,List.map_nil];exact HBF) ?_;simp only[Act.put,lC,lD,lF];clear HBF R1 c3;go_wp2_with (refine zM 57 22 Tryz.sizeFd (by rfl) (.tmp 6) (.tmp 51) (by rfl) (n+1) (fpA ⟨false,N,U⟩) (by rfl) (by rfl) v2 (by rfl) (yP _ hlN) (mZ _) ?_;intro w9 q1 q2 q3 q4)
    refine bodyPost_ret (jK 57 22 Tryz.underlying57 rfl Tryz.sizeFd rfl (by rfl) q1 (yP _ hlN)) rfl ⟨?_,?_⟩
    ·rw[HSE.out];rfl
    ·first | exact HV3.out.trans (q4 n (by omega))|(rw[hnn];exact HV3.out.trans (q4 n (by omega)))
