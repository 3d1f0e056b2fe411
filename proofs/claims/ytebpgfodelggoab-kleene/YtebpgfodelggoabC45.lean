import Derived.Test.YtebpgfodelggoabC44
import Derived.Test.YtebpgfodelggoabC39
set_option linter.unusedVariables false
set_option linter.unusedSimpArgs false
set_option maxRecDepth 100000
set_option maxHeartbeats 8000000
namespace Go.Proofs.Ytebpgfodelggoab
open Go.RowKit
theorem step_make {P:Program} {ops:Array Oper} {o:Oper} {a:Act} {w:World} {K:Act→World→Prop} {Q:Exit→Act→World→Prop} {X:Prop} (hg:o.guard=none) (d:Nat) (hd:o.dst=some d) (l c:Operand) (t:TypeId) (hop:o.op=Op.makeSlice t l c)
  (base:Nat) (e:TypeId) (i:TypeInfo) (z:Value) (size:Nat) (h1:P.underlying t=some (.slice e)) (h2:P.info? e=some i) (h3:i.zero=some z) (h4:i.size=size)
  (n:Nat) (hl:a.eval l=.int .i64 (n:Int)) (hc:a.eval c=.int .i64 (n:Int)) (b2:i.bytes*n≤281474976710656) (b3:n≤maxLen) (b4:base≤w.heap.size)
  (hK:∀ w',w'.ownsRow base e size (.slice (some ⟨w.heap.size,0,none⟩) n n) n (madeCells z.cells (n*size)).toList→w.grownBy w' none→K (a.put (some d) (.slice (some ⟨w.heap.size,0,none⟩) n n)) w') :
  if Region.wanted o (yielded ops a.tmps)=true then Oper.wp P o a w K Q else X:=by
 obtain ⟨w',hrun,r1,r2⟩:=run_make_full (P:=P) w base t e i z size h1 h2 h3 h4 .i64 .i64 n b2 b3 b4
 rw [if_pos (by simp [Region.wanted,hg])]
 unfold Oper.wp
 rw [← hd] at hK
 simp [execOp,hop,hl,hc,hrun,Result.andThen]
 exact hK w' r1 r2
structure TabCtx (E:Mt.Env):Prop where
 loops:∀ k,(E.c.take k).countP Mt.isMark=(E.c.take k).countP Mt.isAgain+Mt.loopsAt E.c k
 len:E.c.length≤300
 arN:∀ p,p<E.c.length→E.arN p=Mt.loopsAt E.c p
 ar11:∀ p,E.arN p≤11
 t60:E.t.size≤60
structure TabIs (E:Mt.Env) (n0 gl gs gh:Nat) (w:World):Prop where
 l:rInts w n0 (.slice (some ⟨gl,0,none⟩) E.c.length E.c.length) (loopList E.c)
 s:rInts w n0 (.slice (some ⟨gs,0,none⟩) E.c.length E.c.length) (slotsTo E E.c.length)
 h:rBools w n0 (.slice (some ⟨gh,0,none⟩) (E.base E.c.length) (E.base E.c.length)) (List.replicate (E.base E.c.length) false)
 ne:gl≠gs∧gl≠gh∧gs≠gh
theorem newTable_any (E:Mt.Env) (hE:TabCtx E) (g cap q nq cq:Nat) (room:Int) (w:World) (h:ownIns w 0 (.slice (some ⟨g,0,none⟩) E.c.length cap) E.c) (hq:rInts w 0 (.slice (some ⟨q,0,none⟩) nq cq) (Mt.numsTo E.inn E.c.length)) (hnq:nq=(Mt.numsTo E.inn E.c.length).length) :
  Calls Try.prog 44 #[.agg #[.slice (some ⟨g,0,none⟩) E.c.length cap,.slice (some ⟨q,0,none⟩) nq cq,.string E.t,.int .i64 room]] w fun e w'=>∃ gl gs gh,e=.returned (.agg #[.int .i64 ((E.t.size:Int)+1),.slice (some ⟨gl,0,none⟩) E.c.length E.c.length,.slice (some ⟨gs,0,none⟩) E.c.length E.c.length,.slice (some ⟨gh,0,none⟩) (E.base E.c.length) (E.base E.c.length),.int .i64 room])∧TabIs E w.heap.size gl gs gh w'∧Below w.heap.size w w':=by
 obtain ⟨i0,hi,hz0,hz1,hz2⟩:=info_parts Try.infoI
 obtain ⟨j0,hj,hy0,hy1,hy2⟩:=info_parts Try.infoB
 obtain ⟨W1,hW1⟩:∃ W1,W1=(w.alloc (.cells #[.slice (some ⟨g,0,none⟩) E.c.length cap,.slice (some ⟨q,0,none⟩) nq cq,.string E.t,.int .i64 room] 72)).alloc (.cells #[.int .i64 0,.slice none 0 0,.slice none 0 0,.slice none 0 0,.int .i64 0] 92):=⟨_,rfl⟩
 have B1:Below w.heap.size w W1:=by rw [hW1];exact ((Below.refl _ _).alloc (Nat.le_refl _) _).alloc (by simp) _
 have T1:W1.heap[w.heap.size]?=some (.cells #[.slice (some ⟨g,0,none⟩) E.c.length cap,.slice (some ⟨q,0,none⟩) nq cq,.string E.t,.int .i64 room] 72 (0,0)):=by rw [hW1];exact heap_b2 _ _ _
 have U1:W1.heap[w.heap.size+1]?=some (.cells #[.int .i64 0,.slice none 0 0,.slice none 0 0,.slice none 0 0,.int .i64 0] 92 (0,0)):=by rw [hW1];exact heap_b3 _ _ _
 have HZ1:Hid (W1.heap.size=w.heap.size+2):=by rw [hW1];show _=_;simp
 have HLO:Hid (Calls Try.prog 49 #[.slice (some ⟨g,0,none⟩) E.c.length cap] W1 _):=Loops_any E.c hE.loops hE.len g cap W1 (h.below B1)
 have HQ:Hid (rInts w 0 (.slice (some ⟨q,0,none⟩) nq cq) (Mt.numsTo E.inn E.c.length)):=hq
 have HE:Hid (TabCtx E):=hE
 have HNQ:Hid (nq=(Mt.numsTo E.inn E.c.length).length):=hnq
 have hql:q<w.heap.size:=(World.ownsRow.lt hq q rfl).2
 have hcl:=hE.len
 have hnl:nq≤300:=by rw [hnq];have:=Mt.numsTo_len E.inn E.c.length;omega
 have ht60:=hE.t60
 have HTC:Hid (∀ z:World,z.heap[w.heap.size]?=some (.cells #[.slice (some ⟨g,0,none⟩) E.c.length cap,.slice (some ⟨q,0,none⟩) nq cq,.string E.t,.int .i64 room] 72 (0,0))→z.cell? ⟨w.heap.size,0,none⟩=some (.slice (some ⟨g,0,none⟩) E.c.length cap)∧z.cell? ⟨w.heap.size,1,none⟩=some (.slice (some ⟨q,0,none⟩) nq cq)∧z.cell? ⟨w.heap.size,2,none⟩=some (.string E.t)∧z.cell? ⟨w.heap.size,3,none⟩=some (.int .i64 room)):=fun z hz=>⟨(cell_block hz).1 0,(cell_block hz).1 1,(cell_block hz).1 2,(cell_block hz).1 3⟩
 obtain ⟨k0,k1,k2,k3⟩:=HTC.out W1 T1
 have HB1:Hid (Below w.heap.size w W1):=B1
 have HT1:Hid (W1.heap[w.heap.size]?=some (.cells #[.slice (some ⟨g,0,none⟩) E.c.length cap,.slice (some ⟨q,0,none⟩) nq cq,.string E.t,.int .i64 room] 72 (0,0))∧W1.heap[w.heap.size+1]?=some (.cells #[.int .i64 0,.slice none 0 0,.slice none 0 0,.slice none 0 0,.int .i64 0] 92 (0,0))):=⟨T1,U1⟩
 clear h hq hE hnq B1 T1 U1
 go_enter Try.func44,Try.ntmps44
 go_upto_region 1 with fail
 rw [← hW1]
 clear hW1
 generalize hnn:w.heap.size=n at *
 go_wp2_with fail
 refine HLO.out.mono ?_
 rintro e w2 ⟨rfl,hlo,hb2⟩
 have hs2:=hb2.size
 have HT2:Hid (w2.heap[n]?=some (.cells #[.slice (some ⟨g,0,none⟩) E.c.length cap,.slice (some ⟨q,0,none⟩) nq cq,.string E.t,.int .i64 room] 72 (0,0))∧w2.heap[n+1]?=some (.cells #[.int .i64 0,.slice none 0 0,.slice none 0 0,.slice none 0 0,.int .i64 0] 92 (0,0))):=⟨(hb2.block n (by have:=HZ1.out;omega)).trans HT1.out.1,(hb2.block (n+1) (by have:=HZ1.out;omega)).trans HT1.out.2⟩
 have HB2:Hid (Below n w w2):=HB1.out.trans (hb2.mono (by have:=HZ1.out;omega))
 have HLR:Hid (rInts w2 n (.slice (some ⟨W1.heap.size,0,none⟩) E.c.length E.c.length) (loopList E.c)):=owns_base hlo (by have:=HZ1.out;omega)
 obtain ⟨k0',k1',k2',k3'⟩:=HTC.out w2 HT2.out.1
 have HG:Hid (n+2≤W1.heap.size∧W1.heap.size<w2.heap.size):=⟨by have:=HZ1.out;omega,(World.ownsRow.lt hlo W1.heap.size rfl).2⟩
 clear hlo hb2 HLO HT1 HB1 k0 k1 k2 k3 hs2 HZ1
 generalize W1.heap.size=gl at *
 go_wp2_with (first | (at_make;refine wpList_make_full _ rfl (.tmp 19) (.tmp 19) 51 rfl n 3 i0 (.int .i64 0) 1 Try.underlying51 hi hz0 hz1 .i64 .i64 _ _ E.c.length rfl rfl rfl rfl (by rw [hz2];omega) (by unfold maxLen;omega) (by have:=HG.out;omega) ?_;intro w3 hmk hgr))
 have hb3:Below w2.heap.size w2 w3:=(Below.refl _ _).grown hgr (Nat.le_refl _) (fun q hq=>by simp at hq)
 have HS:Hid (∀ (wr:World),Below w2.heap.size w2 wr→wr.heap[n]?=some (.cells #[.slice (some ⟨g,0,none⟩) E.c.length cap,.slice (some ⟨q,0,none⟩) nq cq,.string E.t,.int .i64 room] 72 (0,0))∧wr.heap[n+1]?=some (.cells #[.int .i64 0,.slice none 0 0,.slice none 0 0,.slice none 0 0,.int .i64 0] 92 (0,0))∧rInts wr n (.slice (some ⟨gl,0,none⟩) E.c.length E.c.length) (loopList E.c)∧Below n w wr∧rInts wr 0 (.slice (some ⟨q,0,none⟩) nq cq) (Mt.numsTo E.inn E.c.length)):=fun wr hb=>by
  have hg:=HG.out
  refine ⟨(hb.block n (by omega)).trans HT2.out.1,(hb.block (n+1) (by omega)).trans HT2.out.2,HLR.out.below hb,HB2.out.trans (hb.mono (by omega)),?_⟩
  exact HQ.out.below (by rw [hnn];exact HB2.out.trans (hb.mono (by omega)))
 have HM:Hid (rInts w3 n (.slice (some ⟨w2.heap.size,0,none⟩) E.c.length E.c.length) (fill (fun _=>(-1:Int)) 0 0 E.c.length)∧Below w2.heap.size w2 w3):=⟨by rw [fill_zero];exact rInts.made hmk,hb3⟩
 clear hmk hgr hb3 HT2 HB2 HLR k0' k1' k2' k3' HQ
 generalize hgs:w2.heap.size=gs at *
 go_loopw [23] (fun i wr=>∃ k:Nat,k≤E.c.length∧i=.int .i64 k∧rInts wr n (.slice (some ⟨gs,0,none⟩) E.c.length E.c.length) (fill (fun _=>(-1:Int)) 0 k E.c.length)∧Below gs w2 wr) (fun i _=>E.c.length-(intOf i).toNat)
 case atStart=>exact ⟨0,Nat.zero_le _,rfl,HM.out⟩
 case round =>
  obtain ⟨k,hk,rfl,hown,hbr⟩:=hrel
  by_cases hlt:k<E.c.length
  ·obtain ⟨x1,x2⟩:=hown.at k (by rw [fill_len];exact hlt) (by rw [fill_len])
   have hk':(k:Int)<(E.c.length:Int):=by omega
   have O4:=hown.set (by rw [fill_len]) k (-1)
   rw [fill_set (fun _=>(-1:Int)) 0 k E.c.length] at O4
   have HO4:Hid (rInts (wr.setCell ⟨gs,k,none⟩ (.int .i64 (-1))) n (.slice (some ⟨gs,0,none⟩) E.c.length E.c.length) (fill (fun _=>(-1:Int)) 0 (k+1) E.c.length)∧Below gs w2 (wr.setCell ⟨gs,k,none⟩ (.int .i64 (-1)))):=⟨O4,hbr.setCell (p:=⟨gs,k,none⟩) (Nat.le_refl _) _⟩
   clear hown hbr O4
   generalize (fill (fun _=>(-1:Int)) 0 k E.c.length).getD k 0=zz at *
   go_wp2_with fail
   go_roundw
   case rel=>exact ⟨k+1,by omega,by go_num,HO4.out⟩
   case measure=>simp [intOf];omega
  ·have hk2:k=E.c.length:=by omega
   subst hk2
   have e0:fill (fun _=>(-1:Int)) 0 E.c.length E.c.length=slotsTo E 0:=by
    rw [fill_all,slotsTo_zero]
    apply List.ext_getElem
    ·simp
    ·intro i h1 h2;simp
   rw [e0] at hown
   have HW0:Hid (rInts wr n (.slice (some ⟨gs,0,none⟩) E.c.length E.c.length) (slotsTo E 0)∧Below gs w2 wr):=⟨hown,hbr⟩
   obtain ⟨s1,s2,s3,s4,s5⟩:=HS.out wr hbr
   obtain ⟨k0',k1',k2',k3'⟩:=HTC.out wr s1
   clear hown hbr s1 s2 s3 s4 s5 HM
   rename World=>wz
   go_wp2_with fail
   go_loopw [7,33] (fun sz i wr=>∃ a j:Nat,a≤E.c.length∧j=(Mt.numsTo E.inn a).length∧i=.int .i64 j∧sz=.int .i64 (E.base a:Nat)∧rInts wr n (.slice (some ⟨gs,0,none⟩) E.c.length E.c.length) (slotsTo E a)∧Below gs w2 wr) (fun _ i _=>nq-(intOf i).toNat)
   case atStart=>exact ⟨0,0,Nat.zero_le _,rfl,rfl,rfl,HW0.out⟩
   case round =>
    obtain ⟨a,j,ha,hj,rfl,rfl,hown,hbr⟩:=hrel
    obtain ⟨s1,s2,s3,s4,s5⟩:=HS.out wr hbr
    by_cases hlt:j<nq
    ·obtain ⟨p,hp1,hp2,hp3,hp4⟩:=nums_walk E j (by rw [← HNQ.out];exact hlt)
     have hap:a≤p:=by
      rcases Nat.lt_or_ge p a with hh | hh
      ·exfalso
       have key:∀ d,(Mt.numsTo E.inn (p+1)).length≤(Mt.numsTo E.inn (p+1+d)).length:=by
        intro d
        induction d with
        | zero=>exact Nat.le_refl _
        | succ d ih=>rw [← Nat.add_assoc,Mt.numsTo_next E.inn (p+1+d),List.length_append];omega
       have:=key (a-(p+1))
       rw [show p+1+(a-(p+1))=a by omega,Mt.numsTo_next,hp3,List.length_append] at this
       simp at this
       omega
      ·exact hh
     have hjump:=slots_jump E a (p-a) (nums_same E a (p-a) (by rw [show a+(p-a)=p by omega];exact hp4.trans hj))
     rw [show a+(p-a)=p by omega] at hjump
     obtain ⟨u1,u2,u3⟩:=hjump
     obtain ⟨x1,x2⟩:=s5.at j (by rw [← HNQ.out];exact hlt) HNQ.out
     rw [hp2] at x1
     obtain ⟨y1,y2⟩:=hown.at p (by rw [slotsTo_len];exact hp1) (by rw [slotsTo_len])
     have O4:=hown.set (by rw [slotsTo_len]) p (E.base a:Int)
     rw [← u2,← u1,← slotsTo_set E p hp1 hp3] at O4
     have BS:=hbr.setCell (p:=⟨gs,p,none⟩) (Nat.le_refl _) (.int .i64 (E.base p:Int))
     obtain ⟨t1,t2,t3,t4,t5⟩:=HS.out _ BS
     obtain ⟨z1,z2⟩:=t3.at p (by rw [loopList_len];exact hp1) (by rw [loopList_len])
     rw [loopList_at E.c p hp1,← HE.out.arN p hp1] at z1
     have hbn:=E.base_next p hp3
     have hbl:=E.base_le HE.out.ar11 p
     have hb2:p*((E.t.size+1)*12)≤300*(61*12):=Nat.mul_le_mul (by omega) (Nat.mul_le_mul_right 12 (by omega))
     have har:=HE.out.ar11 p
     have hmul:((E.t.size+1)*(E.arN p+1):Nat)≤61*12:=Nat.mul_le_mul (by omega) (by omega)
     have hmulc:(((E.t.size+1)*(E.arN p+1):Nat):Int)=((E.t.size:Int)+1)*((E.arN p:Int)+1):=by push_cast;rfl
     have HO4:Hid (rInts (wr.setCell ⟨gs,p,none⟩ (.int .i64 (E.base p:Int))) n (.slice (some ⟨gs,0,none⟩) E.c.length E.c.length) (slotsTo E (p+1))∧Below gs w2 (wr.setCell ⟨gs,p,none⟩ (.int .i64 (E.base p:Int)))):=⟨O4,BS⟩
     have HNX:Hid ((Mt.numsTo E.inn (p+1)).length=j+1):=by show _=_;rw [Mt.numsTo_next,hp3,List.length_append];simp;omega
     have HBN:Hid (((E.base (p+1):Nat):Int)=(E.base p:Int)+((E.t.size:Int)+1)*((E.arN p:Int)+1)):=by show _=_;rw [hbn,← hmulc];push_cast;rfl
     rw [← hmulc] at HBN
     have hjq:(j:Int)<(nq:Int):=by omega
     have hpl:(p:Int)<(E.c.length:Int):=by omega
     rw [← u2]
     clear hown hbr s1 s2 s3 s4 s5 O4 BS t1 t2 t3 t4 t5 hp2 hp4 u1 u2 u3 z2 hj
     have HMC:Hid ((((E.t.size+1)*(E.arN p+1):Nat):Int)=((E.t.size:Int)+1)*((E.arN p:Int)+1)):=hmulc
     generalize (slotsTo E a).getD p 0=zz at *
     generalize hbp:E.base p=bp at *
     generalize hap2:E.arN p=ap at *
     generalize hMM:(E.t.size+1)*(ap+1)=MM at *
     clear hmulc hbn
     have hm2:((E.t.size:Int)+1)*((ap:Int)+1)=(MM:Int):=HMC.out.symm
     go_wp2_with fail
     go_roundw
     case rel=>exact ⟨p+1,j+1,by omega,HNX.out.symm,by go_num,by rw [HBN.out],HO4.out⟩
     case measure=>simp [intOf];omega
    ·have hmono:∀ d,(Mt.numsTo E.inn a).length≤(Mt.numsTo E.inn (a+d)).length:=by
      intro d
      induction d with
      | zero=>exact Nat.le_refl _
      | succ d ih=>rw [← Nat.add_assoc,Mt.numsTo_next E.inn (a+d),List.length_append];omega
     have hm1:=hmono (E.c.length-a)
     rw [show a+(E.c.length-a)=E.c.length by omega,← HNQ.out] at hm1
     have hjump:=slots_jump E a (E.c.length-a) (nums_same E a (E.c.length-a) (by rw [show a+(E.c.length-a)=E.c.length by omega,← HNQ.out];omega))
     rw [show a+(E.c.length-a)=E.c.length by omega] at hjump
     obtain ⟨u1,u2,u3⟩:=hjump
     rw [← u1] at hown
     rw [← u2]
     have hbl:=E.base_le HE.out.ar11 E.c.length
     have hb2:E.c.length*((E.t.size+1)*12)≤300*(61*12):=Nat.mul_le_mul (by omega) (Nat.mul_le_mul_right 12 (by omega))
     have HOW:Hid (rInts wr n (.slice (some ⟨gs,0,none⟩) E.c.length E.c.length) (slotsTo E E.c.length)∧Below gs w2 wr):=⟨hown,hbr⟩
     have hgw:gs<wr.heap.size:=(World.ownsRow.lt hown gs rfl).2
     have hgl2:=(World.ownsRow.lt s3 gl rfl)
     have hjq:¬ (j:Int)<(nq:Int):=by omega
     have hjn:decide ((j:Int)<(nq:Int))=false:=by rw [decide_eq_false_iff_not];exact hjq
     have hjn2:decide (j<nq)=false:=by rw [decide_eq_false_iff_not];omega
     clear hown hbr s3 s4 s5 u1 u2 u3 hm1 hmono hj
     generalize hBB:E.base E.c.length=BB at *
     go_wp2_with fail
     have hcr:∀ z:World,z.heap[n]?=some (.cells #[.slice (some ⟨g,0,none⟩) E.c.length cap,.slice (some ⟨q,0,none⟩) nq cq,.string E.t,.int .i64 room] 72 (0,0))→z.cell? ⟨n,3,none⟩=some (.int .i64 room):=fun z hz=>(cell_block hz).1 3
     refine wp_region_held_drew (S:=fun z:World=>z.heap[n]?=some (.cells #[.slice (some ⟨g,0,none⟩) E.c.length cap,.slice (some ⟨q,0,none⟩) nq cq,.string E.t,.int .i64 room] 72 (0,0))) (by kernel_rfl) s1 (fun hH=>?_)
     refine takeAt 0 51 (.int .i64 ((E.t.size:Int)+1)) rfl rfl (by kernel_rfl) (by kernel_rfl) (by kernel_rfl) (fun _ _ _ h=>h) (Or.inl ⟨by rfl,fun z hz=>by clear hH hz hcr s1 s2;go_simp⟩) (by assumption) ?_
     simp only [Act.put,List.setIfInBounds_toArray,List.set_cons_zero,List.set_cons_succ]
     refine takeAt 1 52 (.slice (some ⟨gl,0,none⟩) E.c.length E.c.length) rfl rfl (by kernel_rfl) (by kernel_rfl) (by kernel_rfl) (fun _ _ _ h=>h) (Or.inl ⟨by rfl,fun z hz=>by clear hH hz hcr s1 s2;go_simp⟩) (by assumption) ?_
     simp only [Act.put,List.setIfInBounds_toArray,List.set_cons_zero,List.set_cons_succ]
     refine takeAt 2 53 (.slice (some ⟨gs,0,none⟩) E.c.length E.c.length) rfl rfl (by kernel_rfl) (by kernel_rfl) (by kernel_rfl) (fun _ _ _ h=>h) (Or.inl ⟨by rfl,fun z hz=>by clear hH hz hcr s1 s2;go_simp⟩) (by assumption) ?_
     simp only [Act.put,List.setIfInBounds_toArray,List.set_cons_zero,List.set_cons_succ]
     refine takeAt 3 54 (.int .i64 (BB:Int)) rfl rfl (by kernel_rfl) (by kernel_rfl) (by kernel_rfl) (fun _ _ _ h=>h) (Or.inl ⟨by rfl,fun z hz=>by clear hH hz hcr s1 s2;go_simp⟩) (by assumption) ?_
     simp only [Act.put,List.setIfInBounds_toArray,List.set_cons_zero,List.set_cons_succ]
     refine takeAt 5 56 (.pointer (some ⟨n,3,none⟩)) rfl rfl (by kernel_rfl) (by kernel_rfl) (by kernel_rfl) (fun _ _ _ h=>h) (Or.inl ⟨by rfl,fun z hz=>by clear hH hz hcr s1 s2;go_simp⟩) (by assumption) ?_
     simp only [Act.put,List.setIfInBounds_toArray,List.set_cons_zero,List.set_cons_succ]
     refine takeAt 6 57 (.int .i64 room) rfl rfl (by kernel_rfl) (by kernel_rfl) (by kernel_rfl) (fun _ _ _ h=>h) (Or.inl ⟨by rfl,fun z hz=>by have hz3:=hcr z hz;clear hH hz hcr s1 s2;go_simp⟩) (by assumption) ?_
     simp only [Act.put,List.setIfInBounds_toArray,List.set_cons_zero,List.set_cons_succ]
     refine wpAnyH_ready (rs:=[4]) (by kernel_rfl) (by simp) ?_
     refine AllReadyH.cons rfl (fun K hK=>?_) AllReadyH.nil
     refine step_make rfl 55 rfl (.tmp 54) (.tmp 54) 90 rfl n 4 j0 (.bool false) 1 Try.underlying90 hj hy0 hy1 BB (by rfl) (by rfl) (by rw [hy2];omega) (by unfold maxLen;omega) (by show n≤wr.heap.size;omega) ?_
     intro w4 hmk hgr
     have hb4:Below wr.heap.size wr w4:=((Below.refl _ _).drew).grown hgr (by simp) (fun q hq=>by simp at hq)
     have s1':w4.heap[n]?=_:=(hb4.block n (by omega)).trans s1
     refine hK.out _ _ s1' (fun hH2=>?_)
     clear hK K hH
     simp only [Act.put,List.setIfInBounds_toArray,List.set_cons_zero,List.set_cons_succ]
     have s2':w4.heap[n+1]?=_:=(hb4.block (n+1) (by have:=HG.out;omega)).trans s2
     refine takeAt 7 58 (.agg #[.int .i64 ((E.t.size:Int)+1),.slice (some ⟨gl,0,none⟩) E.c.length E.c.length,.slice (some ⟨gs,0,none⟩) E.c.length E.c.length,.slice (some ⟨wr.heap.size,0,none⟩) BB BB,.int .i64 room]) rfl rfl (by kernel_rfl) (by kernel_rfl) (by kernel_rfl) (fun _ _ _ h=>h) (Or.inl ⟨by rfl,fun z hz=>by clear hH2 hz hcr s1 s2 s1' s2';go_simp⟩) (by assumption) ?_
     simp only [Act.put,List.setIfInBounds_toArray,List.set_cons_zero,List.set_cons_succ]
     have hTH:w4.there (n+1) 0 5:=there_block (cell_block s2').1 (cell_block s2').2 5 (Nat.le_refl _)
     refine lastStore 8 _ rfl rfl (by kernel_rfl) (by kernel_rfl) _ _ _ rfl (n+1) 0 #[.int .i64 ((E.t.size:Int)+1),.slice (some ⟨gl,0,none⟩) E.c.length E.c.length,.slice (some ⟨gs,0,none⟩) E.c.length E.c.length,.slice (some ⟨wr.heap.size,0,none⟩) BB BB,.int .i64 room] (by kernel_rfl) (by kernel_rfl) hTH (by kernel_rfl) (by simp [Value.oneCell']) rfl ?_
     have r1:=stored_blk s2' #[.int .i64 ((E.t.size:Int)+1),.slice (some ⟨gl,0,none⟩) E.c.length E.c.length,.slice (some ⟨gs,0,none⟩) E.c.length E.c.length,.slice (some ⟨wr.heap.size,0,none⟩) BB BB,.int .i64 room] rfl
     have r2:∀ i,i≠n+1→(w4.setCells (n+1) 0 (#[.int .i64 ((E.t.size:Int)+1),.slice (some ⟨gl,0,none⟩) E.c.length E.c.length,.slice (some ⟨gs,0,none⟩) E.c.length E.c.length,.slice (some ⟨wr.heap.size,0,none⟩) BB BB,.int .i64 room]:Array Value).toList).heap[i]?=w4.heap[i]?:=fun i hi=>setCells_oth (n+1) _ 0 w4 i hi
     have r4:=(below_setCells (n+1) (#[.int .i64 ((E.t.size:Int)+1),.slice (some ⟨gl,0,none⟩) E.c.length E.c.length,.slice (some ⟨gs,0,none⟩) E.c.length E.c.length,.slice (some ⟨wr.heap.size,0,none⟩) BB BB,.int .i64 room]:Array Value).toList 0 w4 n (by omega)).1
     generalize w4.setCells (n+1) 0 (#[.int .i64 ((E.t.size:Int)+1),.slice (some ⟨gl,0,none⟩) E.c.length E.c.length,.slice (some ⟨gs,0,none⟩) E.c.length E.c.length,.slice (some ⟨wr.heap.size,0,none⟩) BB BB,.int .i64 room]:Array Value).toList=w5 at *
     refine ⟨(r2 n (by omega)).trans s1',?_⟩
     have HFIN:Hid (TabIs E w.heap.size gl gs wr.heap.size w5∧Below w.heap.size w w5):=by
      have hg:=HG.out
      obtain ⟨v1,v2,v3,v4,v5⟩:=HS.out wr HOW.out.2
      have l4:=v3.below hb4
      have s4':=HOW.out.1.below hb4
      have h4:=rBools.made hmk
      rw [hnn]
      refine ⟨⟨?_,?_,?_,by omega,by omega,by omega⟩,(v4.trans (hb4.mono (by omega))).trans r4⟩
      ·unfold rInts at l4 ⊢
       rw [loopList_len] at l4 ⊢
       exact row_keep l4 (fun z hz=>by cases hz;exact r2 gl (by omega))
      ·unfold rInts at s4' ⊢
       rw [slotsTo_len] at s4' ⊢
       exact row_keep s4' (fun z hz=>by cases hz;exact r2 gs (by omega))
      ·rw [hBB]
       unfold rBools at h4 ⊢
       rw [List.length_replicate] at h4 ⊢
       exact row_keep h4 (fun z hz=>by cases hz;exact r2 wr.heap.size (by omega))
     have HR1:Hid (w5.heap[n+1]?=some (.cells #[.int .i64 ((E.t.size:Int)+1),.slice (some ⟨gl,0,none⟩) E.c.length E.c.length,.slice (some ⟨gs,0,none⟩) E.c.length E.c.length,.slice (some ⟨wr.heap.size,0,none⟩) BB BB,.int .i64 room] 92 (0,0))):=r1
     clear r1 r2 r4 hH2 hmk hgr hb4 s1' s2' s1 s2 hTH hcr
     go_wp2_with fail
     refine bodyPost_ret (ret_blk1 92 5 Try.underlying92 rfl (by kernel_rfl) rfl (by kernel_rfl) HR1.out rfl) rfl ⟨gl,gs,wr.heap.size,by first | rfl | rw [hBB],by first | exact HFIN.out | (rw [← hnn];exact HFIN.out)⟩
def errOf (b:Bool):Int:=if b=true then 14 else 0
theorem start_places (p:Int):placesOf (Mt.startQ p)=Mt.nowhere:=by
 unfold placesOf Mt.nowhere
 apply List.ext_getElem
 ·simp
 ·intro i h1 h2
  simp only [List.getElem_map,List.getElem_range,List.getElem_replicate]
  have hi:i<20:=by simpa using h1
  unfold Mt.gt Mt.startQ Mt.nowhere
  rw [List.getD_eq_getElem?_getD,show 2+i=i+1+1 by omega,List.getElem?_cons_succ,List.getElem?_cons_succ,List.getElem?_append_left (by simp;omega),List.getElem?_replicate,if_pos hi];rfl
theorem found_sim {A:Int→Mt.Att} {s q:List Int} (h:Mt.Sim A s q) (p:Int):Mt.foundAt p q=Mt.foundAt p s:=by
 have h':Mt.SimAt (A (Mt.gt s 0)) s q:=h
 unfold Mt.foundAt
 rw [h'.low 1 (by omega)]
 congr 2
 apply List.ext_getElem?
 intro j
 by_cases hj:j<18
 ·rw [List.getElem?_take_of_lt hj,List.getElem?_take_of_lt hj,List.getElem?_drop,List.getElem?_drop]
  have e:=h'.low (4+j) (by omega)
  have l1:=h'.ls
  have l2:=h'.lq
  unfold Mt.gt at e
  rw [List.getD_eq_getElem?_getD,List.getD_eq_getElem?_getD,List.getElem?_eq_getElem (by omega),List.getElem?_eq_getElem (by omega)] at e
  rw [List.getElem?_eq_getElem (by omega),List.getElem?_eq_getElem (by omega)]
  simpa using e
 ·rw [List.getElem?_eq_none (by rw [List.length_take];omega),List.getElem?_eq_none (by rw [List.length_take];omega)]
def SeekAt (k:Pk) (E:Mt.Env) (S:Mt.Fnd × Bool) (wo1:Option Addr) (w1:World) (p n:Nat) (wr:World):Prop :=
 ∃ hd kn room wo wc,PlayAt k wr (k.budget+1-((n+1:Nat):Int)) hd room wo wc []∧PStep k wo1 wo w1 wr∧Mt.Tab E hd kn∧kn.length=E.c.length*(E.t.size+1)*12∧(0≤room∧room≤5000)∧Mt.search E k.budget (E.t.size+1-p) p n kn room=S∧(n:Int)≤k.budget
def RanAt (k:Pk) (E:Mt.Env) (S:Mt.Fnd × Bool) (wo1:Option Addr) (w1:World) (p:Nat) (q':List Int) (b:Bool) (w':World):Prop :=
 q'.length=43∧∃ st hd room wo wc W,PlayAt k w' st hd room wo wc W∧PStep k wo1 wo w1 w'∧((st=k.budget+1∧S=(Mt.fnd0,true))∨(st≤k.budget∧0≤st∧b=true∧S=(⟨true,Mt.foundAt p q',st⟩,false))∨(st≤k.budget∧0≤st∧b=false∧∃ n,SeekAt k E S wo1 w1 (p+1) n w'))
theorem ran_at {k:Pk} {E:Mt.Env} {A:Int→Mt.Att} (hx:Ctx k E A) {S:Mt.Fnd × Bool} {wo1:Option Addr} {w1 w w':World} {p n:Nat} (hb:Below w.heap.size w w') (hp:p≤E.t.size) (h:SeekAt k E S wo1 w1 p n w) :
  Calls Try.prog 46 #[.pointer (some ⟨k.g,0,none⟩),.agg (stA (Mt.startQ p))] w' fun e w2=>∃ q' b,e=.returned (.tuple #[.agg (stA q'),.bool b])∧RanAt k E S wo1 w1 p q' b w2:=by
 obtain ⟨hd,kn,room,wo,wc,h1,h2,h3,h4,h5,h6,h7⟩:=h
 have hbud:=hx.bud
 have hK:Mt.Known E.c A:=by rw [hx.ec];exact hx.known
 have hg:Mt.Good E.c.length E.t.size (Mt.startSt p):=Mt.startSt_good _ _ p hK.pos hp
 have hf:Fine k A (Mt.startSt p) (Mt.startQ p):=⟨by rw [← hx.ec,← hx.et];exact hg,Mt.start_sim hK p,Mt.startSt_neg p⟩
 have hgood:=Mt.look_good E hK.ok n n (Mt.startSt p) kn room (Nat.le_refl _) hg h5
 have hn:=Mt.look_n E n (Mt.startSt p) kn room
 refine (run_any hx (n+1) w' hd kn room wo wc [] _ _ (h1.below hb) h3 h4 h5 hf (by simp;omega) (by omega)).mono ?_
 rintro e w2 ⟨q',b,rfl,hq',hpost⟩
 refine ⟨q',b,rfl,hq',?_⟩
 rw [show n+1-1=n by omega] at hpost
 rw [show E.t.size+1-p=(E.t.size-p)+1 by omega,Mt.search] at h6
 have hS2:PStep k wo1 wo w1 w':=h2.trans (PStep.below hb)
 rcases hpost with ⟨ov,hd',room',wo',wc',W',a1,a2,a3⟩ | ⟨ov,eb,esim,hd',wo',wc',a1,a2,a3⟩
 ·rw [if_pos ov] at h6
  exact ⟨_,hd',room',wo',wc',W',a1,hS2.trans a2,Or.inl ⟨rfl,h6.symm⟩⟩
 ·rw [if_neg (by rw [ov];exact Bool.false_ne_true)] at h6
  refine ⟨_,hd',_,wo',wc',[],a1,hS2.trans a2,Or.inr ?_⟩
  cases hok:(Mt.look E n (Mt.startSt p) kn room).ok with
  | true =>
   rw [if_pos hok] at h6
   refine Or.inl ⟨by omega,by omega,by rw [eb,hok],?_⟩
   rw [← h6,found_sim (esim hok)]
  | false =>
   rw [if_neg (by rw [hok];exact Bool.false_ne_true)] at h6
   refine Or.inr ⟨by omega,by omega,by rw [eb,hok],(Mt.look E n (Mt.startSt p) kn room).n,hd',(Mt.look E n (Mt.startSt p) kn room).kn,(Mt.look E n (Mt.startSt p) kn room).room,wo',wc',?_,hS2.trans a2,a3,by rw [hgood.2.1];exact h4,hgood.2.2.1,?_,by omega⟩
   ·rw [show k.budget+1-(((Mt.look E n (Mt.startSt p) kn room).n+1:Nat):Int)=k.budget-((Mt.look E n (Mt.startSt p) kn room).n:Int) by omega];exact a1
   ·rw [show E.t.size+1-(p+1)=E.t.size-p by omega];exact h6
theorem SeekAt.below {k:Pk} {E:Mt.Env} {S:Mt.Fnd × Bool} {wo1:Option Addr} {w1 w w':World} {p n:Nat} (h:SeekAt k E S wo1 w1 p n w) (hb:Below w.heap.size w w'):SeekAt k E S wo1 w1 p n w':=by
 obtain ⟨hd,kn,room,wo,wc,h1,h2,h3⟩:=h
 exact ⟨hd,kn,room,wo,wc,h1.below hb,h2.trans (PStep.below hb),h3⟩
end Go.Proofs.Ytebpgfodelggoab
