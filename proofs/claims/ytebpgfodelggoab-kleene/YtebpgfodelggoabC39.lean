import Derived.Test.YtebpgfodelggoabC38
set_option linter.unusedVariables false
set_option linter.unusedSimpArgs false
set_option maxRecDepth 100000
set_option maxHeartbeats 8000000
namespace Go.Proofs.Ytebpgfodelggoab
open Go.RowKit
section
variable {k:Pk} {E:Mt.Env} {A:Int→Mt.Att}
theorem two_states (w:World) (q:List Int):∃ W1,W1=(w.alloc (.cells (stA q) 100)).alloc (.cells (stA []) 100)∧Below w.heap.size w W1∧W1.heap[w.heap.size]?=some (.cells (stA q) 100 (0,0))∧W1.heap[w.heap.size+1]?=some (.cells (stA []) 100 (0,0))∧W1.heap.size=w.heap.size+2 :=
 ⟨_,rfl,((Below.refl _ _).alloc (Nat.le_refl _) _).alloc (by simp) _,heap_b2 _ _ _,heap_b3 _ _ _,by simp⟩
theorem PlayAt.lastState {w:World} {steps:Int} {hd:List Bool} {room:Int} {wo:Option Addr} {wc:Nat} {V:List (List Int)} {q:List Int} (h:PlayAt k w steps hd room wo wc (V++[q])):∃ gw,wo=some ⟨gw,0,none⟩∧w.rangeAt gw (V.length*43) (stC q)∧V.length+1≤wc:=by
 have hl:(V++[q]).length=V.length+1:=by simp
 obtain ⟨gw,cap,hv,_,hlt⟩:=World.ownsRow.form h.wt (by omega)
 simp only [Value.slice.injEq] at hv
 obtain ⟨rfl,_,rfl⟩:=hv
 refine ⟨gw,rfl,fun j v hj=>?_,?_⟩
 ·have hj43:j<43:=by
   rcases Nat.lt_or_ge j 43 with h | h
   ·exact h
   ·rw [List.getElem?_eq_none (by rw [stC_len];omega)] at hj;cases hj
  rw [World.ownsRow.cellAt h.wt _ (by rw [hl];omega),stFlat_at _ V.length j (by omega) hj43]
  have:(V++[q]).getD V.length []=q:=by rw [List.getD_eq_getElem?_getD,List.getElem?_append_right (Nat.le_refl _)];simp
  rw [this]
  simp [stC,hj43] at hj
  rw [← hj]
 ·rcases h.wt.2 with ⟨e,_⟩ | ⟨g',cap',cur,hv,_,_,hc,_⟩
  ·simp at e
  ·simp only [Value.slice.injEq] at hv
   omega
def zero43:List Int:=List.replicate 43 0
theorem zero43_len:zero43.length=43:=by simp [zero43]
theorem stA_zero:stA zero43=stA []:=stA_ext fun t ht=>by
 unfold Mt.gt zero43
 rw [List.getD_eq_getElem?_getD,List.getElem?_replicate,if_pos ht];rfl
theorem run_step (hx:Ctx k E A) (m:Nat) (ih:∀ n,n<m→RunK k E A n):RunK k E A m:=by
 intro w hd kn room wo wc W s q h ht hk hr hf hl hmb
 obtain ⟨p0,p1,p2,p3⟩:=hf.pc
 obtain ⟨W1,hW1,B1,T1,U1,Z1⟩:=two_states w q
 have HP1:PlayAt k W1 (k.budget+1-m) hd room wo wc W:=h.below B1
 have c9:=HP1.cells.2.2.2.2.2.2.2.2.2.1
 have x0:W1.cell? ⟨w.heap.size,0,none⟩=some (.int .i64 (Mt.pcOf s:Nat)):=by rw [(cell_block T1).1 0,← p0];exact stA_at q 0 (by omega)
 have HWT:=wait_prog q (Mt.pcOf s:Nat) hf.lq HP1 (by omega)
 rw [set_self q 0 _ p0] at HWT
 have HWT':Hid (Calls Try.prog 57 #[.pointer (some ⟨k.g,0,none⟩),.agg (stA q),.int .i64 (Mt.pcOf s:Nat)] W1 fun e w'=>e=.returned (.tuple #[])∧∃ wo' wc',PlayAt k w' (k.budget+1-m) hd room wo' wc' (W++[q])∧PStep k wo wo' W1 w'):=HWT
 have HB1:Hid (Below w.heap.size w W1):=B1
 have HU1:Hid (W1.heap[w.heap.size+1]?=some (.cells (stA []) 100 (0,0))):=U1
 have HZ1:Hid (W1.heap.size=w.heap.size+2):=Z1
 have HF:Hid (Fine k A s q):=hf
 have HX:Hid (Ctx k E A):=hx
 have HIH:Hid (∀ n,n<m→RunK k E A n):=ih
 have HT:Hid (Mt.Tab E hd kn∧kn.length=E.c.length*(E.t.size+1)*12∧(0≤room∧room≤5000)∧W.length+3*m+1≤50000∧(m:Int)≤k.budget+1∧0≤k.budget∧k.budget≤10000):=⟨ht,hk,hr,hl,hmb,hx.bud.1,hx.bud.2⟩
 have HP0:Hid (PlayAt k w (k.budget+1-m) hd room wo wc W):=h
 have HR:Hid (∃ R,R=Mt.lookS E (m-1) [s] kn room):=⟨_,rfl⟩
 obtain ⟨R,hR⟩:=HR.out
 have HPOST:Hid (∀ q' b w',RunPost k E A (Mt.look E (m-1) s kn room) (W.length+3*m+1) wo w W q' b w'↔(q'.length=43∧((R.over=true∧OverAt k wo w w' (W.length+3*m+1))∨(R.over=false∧b=R.ok∧(R.ok=true→Mt.Sim A R.st q')∧Left k E wo w w' R W)))):=fun q' b w'=>by
  obtain ⟨l1,l2,l3,l4,l5,l6⟩:=Mt.lookS_one E (m-1) s kn room
  rw [← hR] at l1 l2 l3 l4 l5 l6
  unfold RunPost Left
  rw [l1,l2,l3,l4,l5]
  constructor
  ·rintro ⟨a,b | b⟩
   ·exact ⟨a,Or.inl b⟩
   ·exact ⟨a,Or.inr ⟨b.1,b.2.1,fun ho=>by rw [l6 ho];exact b.2.2.1 ho,b.2.2.2⟩⟩
  ·rintro ⟨a,b | b⟩
   ·exact ⟨a,Or.inl b⟩
   ·exact ⟨a,Or.inr ⟨b.1,b.2.1,fun ho=>by rw [← l6 ho];exact b.2.2.1 ho,b.2.2.2⟩⟩
 have HRR:Hid (R=Mt.lookS E (m-1) [s] kn room):=hR
 clear HR hR ht hk hr hl hmb hf hx ih HP1 HWT B1 U1 Z1 p1 p2 p3 h
 generalize hgg:k.g=g at *
 generalize Mt.pcOf s=pc at *
 go_enter Try.func46,Try.ntmps46
 go_upto_region 1 with fail
 show Code.wp _ _ _ _ ((w.alloc (.cells (stA q) 100)).alloc (.cells (stA []) 100))
 rw [← hW1]
 clear hW1
 generalize hnn:w.heap.size=n at *
 go_wp2_with (refine load_blk 100 43 Try.underlying100 rfl Try.sizeSt (by rfl) (.tmp 3) (by rfl) n (by rfl) T1 (stA_size _) ?_)
 refine HWT'.out.mono ?_
 rintro e w2 ⟨rfl,wo1,wc1,hP2,hS2⟩
 have HU2:Hid (w2.heap[n+1]?=some (.cells (stA []) 100 (0,0))∧n+1<w2.heap.size∧n+1≠k.g∧n+1≠k.gh∧blk wo1≠some (n+1)):=by
  have hlt:=HP0.out.lt
  have hz:=HZ1.out
  have:=hS2.size
  rw [hnn] at hlt
  refine ⟨(hS2.block (n+1) (by omega) (by omega) (by omega) (fun e=>by have:=(hlt.2.2.2.2.2 _ e).2;omega)).trans HU1.out,by omega,by omega,by omega,fun e=>?_⟩
  have:=hS2.sub (n+1) (by omega) e
  have:=(hlt.2.2.2.2.2 _ this).2
  omega
 have HS2:Hid (PStep k wo wo1 w w2):=(PStep.below (by rw [hnn];exact HB1.out)).trans hS2
 have HST:Hid (NowAt k E A R m W wo1 w2 m w2):=by
  obtain ⟨t1,t2,t3,t4,t5,_⟩:=HT.out
  have hn0:m-1+1=m∨m=0:=by omega
  rcases hn0 with hm | hm
  ·exact Or.inl ⟨by omega,Nat.le_refl _,hd,kn,room,wo1,wc1,[s],[q],hP2,PStep.refl _ _ _,t1,t2,t3,Pairs.cons (qs:=[]) HF.out Pairs.nil,HRR.out.symm,by simp only [List.length_cons,List.length_nil];omega⟩
  ·refine Or.inr ⟨hm,?_,hd,room,wo1,wc1,W++[q],by rw [hm] at hP2;simpa using hP2,PStep.refl _ _ _,by simp only [List.length_append,List.length_cons,List.length_nil];omega⟩
   rw [HRR.out,hm];rfl
 clear hP2 hS2 HWT' x0 T1 c9
 go_wp2_with fail
 go_loopg [7] m (fun gn u7 wr=>NowAt k E A R m W wo1 w2 gn wr)
 case atStart=>exact HST.out
 case round =>
  have HREL:Hid (NowAt k E A R m W wo1 w2 gk wr):=hrel
  clear hrel HST
  rcases HREL.out with ⟨g1,g2,hd1,kn1,room1,wo2,wc2,ss,qs,hP,hS,hTab,hKn,hRm,hPairs,hLook,hLen⟩ | ⟨g0,hov,hd1,room1,wo2,wc2,V,hP,hS,hVl⟩
  ·by_cases hq0:qs.length=0
   ·
    have hss:ss=[]:=List.length_eq_zero_iff.1 (by rw [hPairs.len];exact hq0)
    have hqs:qs=[]:=List.length_eq_zero_iff.1 hq0
    subst hss
    subst hqs
    rw [List.append_nil] at hP
    have c9:=hP.cells.2.2.2.2.2.2.2.2.2.1
    rw [hgg] at c9
    have U3:wr.heap[n+1]?=some (.cells (stA []) 100 (0,0)):=by
     obtain ⟨u1,u2,u3,u4,u5⟩:=HU2.out
     exact (hS.block (n+1) u2 u3 u4 u5).trans u1
    have hgt:decide ((W.length:Int)>(W.length:Int))=false:=by simp
    have HFIN:Hid (∀ w4:World,(∀ i,i≠n+1→w4.heap[i]?=wr.heap[i]?)→w4.heap.size=wr.heap.size→Below n wr w4→RunPost k E A (Mt.look E (m-1) s kn room) (W.length+3*m+1) wo w W zero43 false w4):=fun w4 o4 z4 b4=>by
     refine (HPOST.out _ _ _).2 ⟨zero43_len,Or.inr ?_⟩
     have eR:R=⟨[],false,gk-1,kn1,room1,false⟩:=hLook.symm
     rw [eR]
     obtain ⟨u1,u2,u3,u4,u5⟩:=HU2.out
     have hlt:=hP.lt
     have h0:=HP0.out.lt
     rw [hnn] at h0
     have hb2:blk wo2≠some (n+1):=fun e=>u5 (hS.sub (n+1) u2 e)
     have hP4:PlayAt k w4 (k.budget-((gk-1:Nat):Int)) hd1 room1 wo2 wc2 W:=by
      have:=hP.same (o4 _ (by omega)) (o4 _ (by omega)) (o4 _ (by omega)) (o4 _ (by omega)) (o4 _ (by omega)) (fun i hi=>o4 i (fun e=>hb2 (by rw [← e];exact hi)))
      rw [show k.budget+1-(gk:Int)=k.budget-((gk-1:Nat):Int) by omega] at this;exact this
     have hS4:PStep k wo wo2 w w4:=by
      have hSr:=HS2.out.trans hS
      exact ⟨b4.os.trans hSr.os,b4.tape.trans hSr.tape,b4.output.trans hSr.output,Nat.le_trans hSr.size b4.size,fun i hi h1 h2 h3=>(o4 i (by omega)).trans (hSr.block i hi h1 h2 h3),hSr.sub⟩
     exact ⟨rfl,rfl,fun e=>(by cases e),hd1,wo2,wc2,hP4,hS4,hTab⟩
    clear hP hS hTab hKn hRm hPairs hLook hLen HREL HPOST
    go_wp2_with (refine store_blk 100 43 Try.sizeSt (by rfl) (.tmp 4) (.tmp 82) (by rfl) (n+1) (stA []) (by rfl) (by rfl) U3 (stA_size _) (stA_size _) (stA_all _) ?_;intro w4 r1 r2 r3 r4)
    refine bodyPost_ret (ret_blk2 100 43 Try.underlying100 rfl Try.sizeSt rfl (by rfl) r1 (stA_size _)) rfl ⟨zero43,false,?_,HFIN.out w4 r2 r3 (r4 n (by omega))⟩
    rw [stA_zero];rfl
   ·
    obtain ⟨s1,q1,ss',qs',rfl,rfl,hf1,hp'⟩:=hPairs.out (by omega)
    rw [← List.append_assoc] at hP
    obtain ⟨gw,rfl,hrg,hcap⟩:=hP.lastState
    have hVl:(W++qs').length+3*gk≤W.length+3*m:=by
     simp only [List.length_append,List.length_cons,List.length_nil] at hLen ⊢;omega
    have hVl2:qs'.length+1+3*gk≤3*m+1:=by
     simp only [List.length_append,List.length_cons,List.length_nil] at hLen;omega
    obtain ⟨t1,t2,t3,t4,t5,t6,t7⟩:=HT.out
    have hcells:=hP.cells
    have c9:=hcells.2.2.2.2.2.2.2.2.2.1
    have c3:=hcells.2.2.2.1
    have f9:=hcells.2.2.2.2.2.2.2.2.2.2 9
    have f3:=hcells.2.2.2.2.2.2.2.2.2.2 3
    rw [show ((W++qs')++[q1]).length=(W++qs').length+1 by rw [List.length_append];rfl] at c9
    have hgtV:W.length≤(W++qs').length:=by simp
    generalize hVe:W++qs'=V at *
    rw [hgg] at c9 c3 f9 f3
    have HSP:Hid (Calls Try.prog 47 #[.pointer (some ⟨g,0,none⟩)] wr fun e w'=>e=.returned (.bool false)∧Below wr.heap.size wr w'):=by
     have:=spent_prog hP
     rw [hgg] at this
     refine this.mono ?_
     rintro e w' ⟨rfl,hb⟩
     exact ⟨by rw [show decide (k.budget+1-(gk:Int)>k.budget)=false by rw [decide_eq_false_iff_not];omega],hb⟩
    have hgt:decide (W.length<V.length+1)=true:=by rw [decide_eq_true_eq];omega
    have hgt2:decide ((W.length:Int)<(V.length:Int)+1)=true:=by rw [decide_eq_true_eq];omega
    have HPH:Hid (PlayAt k wr (k.budget+1-(gk:Int)) hd1 room1 (some ⟨gw,0,none⟩) wc2 (V++[q1])):=hP
    have HSH:Hid (PStep k wo1 (some ⟨gw,0,none⟩) w2 wr):=hS
    have HTH:Hid (Mt.Tab E hd1 kn1∧kn1.length=E.c.length*(E.t.size+1)*12∧(0≤room1∧room1≤5000)∧Pairs k A ss' qs'∧Fine k A s1 q1∧Mt.lookS E (gk-1) (s1::ss') kn1 room1=R∧V.length+3*gk≤W.length+3*m∧qs'.length+1+3*gk≤3*m+1∧W++qs'=V):=⟨hTab,hKn,hRm,hp',hf1,hLook,hVl,hVl2,hVe⟩
    have hgkb:(gk:Int)≤10001:=by omega
    have hSTb:(0:Int)≤k.budget+1-(gk:Int)∧k.budget+1-(gk:Int)≤10001:=by omega
    have HSTE:Hid (∃ ST,ST=k.budget+1-(gk:Int)):=⟨_,rfl⟩
    obtain ⟨ST,hSTe⟩:=HSTE.out
    have HSTH:Hid (ST=k.budget+1-(gk:Int)):=hSTe
    rw [← hSTe] at hSTb HPH c3
    clear HSTE hSTe
    have hVlen:V.length≤60000:=by omega
    have hgg':g<wr.heap.size:=by rw [← hgg];exact hP.lt.1
    clear hP hS hTab hKn hRm hp' hf1 hLook hVl hVl2 hVe hcells hLen hPairs hq0 t1 t2 t3 t4 t5 t6 t7 HREL
    go_wp2_with fail
    refine HSP.out.mono ?_
    rintro e w3 ⟨rfl,hb3⟩
    have HB3:Hid (Below wr.heap.size wr w3):=hb3
    have HP3:Hid (PlayAt k w3 ST hd1 room1 (some ⟨gw,0,none⟩) wc2 (V++[q1])):=HPH.out.below hb3
    have R3:w3.rangeAt gw (V.length*43) (stC q1):=by
     obtain ⟨gw',e1,e2,e3⟩:=HP3.out.lastState
     cases e1;exact e2
    have d9:w3.cell? ⟨g,9,none⟩=some (.slice (some ⟨gw,0,none⟩) (V.length+1) wc2):=(World.cell?_of_block (a:=⟨g,9,none⟩) (hb3.block g hgg')).trans c9
    clear hb3 c9 c3 f9 f3 hrg HSP HPH
    have hb43:V.length*43+43≤60000*43+43:=by omega
    go_upto_region 6 with (first | (refine wpList_load_mid (by rfl) 100 (.tmp 44) (by rfl) gw (V.length*43) (by rfl) (stC q1) _ R3 Try.underlying100 rfl (by rw [Try.sizeSt];rfl) ?_) | (refine store_blk 100 43 Try.sizeSt (by rfl) (.tmp 8) (.tmp 45) (by rfl) w3.heap.size (stA q1) (by rfl) (by rfl) (by exact heap_b1 _ _) (by rfl) (stA_size _) (stA_all _) ?_;intro w4 r1 r2 r3 r4))
    have B4:Below w3.heap.size w3 w4:=((Below.refl _ _).alloc (Nat.le_refl _) _).trans (r4 _ (Nat.le_refl _))
    have HP4:PlayAt k w4 ST hd1 room1 (some ⟨gw,0,none⟩) wc2 (V++[q1]):=HP3.out.below B4
    have hcells:=HP4.cells
    have c9:=hcells.2.2.2.2.2.2.2.2.2.1
    have c3:=hcells.2.2.2.1
    have f9:=hcells.2.2.2.2.2.2.2.2.2.2 9
    have f3:=hcells.2.2.2.2.2.2.2.2.2.2 3
    rw [show (V++[q1]).length=V.length+1 by rw [List.length_append];rfl] at c9
    rw [hgg] at c9 c3 f9 f3
    have HP5:Hid (PlayAt k ((w4.setCell ⟨g,9,none⟩ (.slice (some ⟨gw,0,none⟩) V.length wc2)).setCell ⟨g,3,none⟩ (.int .i64 (ST+1))) (ST+1) hd1 room1 (some ⟨gw,0,none⟩) wc2 V):=by
     have:=(HP4.cut V.length (by simp)).setSteps (ST+1)
     rw [hgg,List.take_left] at this;exact this
    have T5:((w4.setCell ⟨g,9,none⟩ (.slice (some ⟨gw,0,none⟩) V.length wc2)).setCell ⟨g,3,none⟩ (.int .i64 (ST+1))).heap[w3.heap.size]?=some (.cells (stA q1) 100 (0,0)):=by
     have hne:w3.heap.size≠g:=by have:=HB3.out.size;omega
     rw [Below.heap_setCell _ _ _ _ hne,Below.heap_setCell _ _ _ _ hne];exact r1
    have HS5:Hid (PStep k wo1 (some ⟨gw,0,none⟩) w2 ((w4.setCell ⟨g,9,none⟩ (.slice (some ⟨gw,0,none⟩) V.length wc2)).setCell ⟨g,3,none⟩ (.int .i64 (ST+1)))) :=
     ((((HSH.out.trans (PStep.below HB3.out)).trans (PStep.below B4)).set (p:=⟨g,9,none⟩) (Or.inl hgg.symm) _).set (p:=⟨g,3,none⟩) (Or.inl hgg.symm) _)
    have HM8:Hid (w3.heap.size≠g∧w3.heap.size≠k.gh∧gw≠w3.heap.size):=by
     have hh:=HP3.out.lt
     have h1:=hh.1
     have h2:=hh.2.2.2.2.1
     have h3:=(hh.2.2.2.2.2 gw rfl).2
     rw [hgg] at h1
     exact ⟨by omega,by omega,by omega⟩
    clear r1 r2 r3 r4 B4 HP4 hcells R3 d9 HP3 HSH HB3 hb43
    go_upto_region 8 with fail
    generalize (w4.setCell ⟨g,9,none⟩ (.slice (some ⟨gw,0,none⟩) V.length wc2)).setCell ⟨g,3,none⟩ (.int .i64 (ST+1))=w5 at *
    clear c9 c3 f9 f3
    generalize hnb:w3.heap.size=nb at *
    have HEND:Hid (Calls Try.prog 58 #[.pointer (some ⟨g,4,none⟩),.agg (stA q1)] w5.drew fun e w'=>e=.returned (.bool (E.dead s1 kn1))∧PStep k (some ⟨gw,0,none⟩) (some ⟨gw,0,none⟩) w5.drew w'∧∃ hd',PlayAt k w' (ST+1) hd' (E.room' s1 kn1 room1) (some ⟨gw,0,none⟩) wc2 V∧Mt.Tab E hd' (E.kn' s1 kn1 room1)):=by
     obtain ⟨u1,u2,u3,u4,u5,u6,u7,u8,u9⟩:=HTH.out
     obtain ⟨v0,v1,v2,v3⟩:=u5.pc
     have:=ends_prog HX.out HP5.out.drew u1 u2 q1 (by omega) (by omega) u3
     obtain ⟨d1,d2,d3⟩:=dead_same HX.out u5 kn1 room1
     rw [d1,d2,d3,hgg] at this
     exact this
    have hcr:∀ z:World,z.heap[nb]?=some (.cells (stA q1) 100 (0,0))→z.rangeAt nb 0 (stA q1).toList:=fun z hz=>rangeAt_blk hz
    refine wp_region_held_drew (S:=fun z:World=>z.heap[nb]?=some (.cells (stA q1) 100 (0,0))) (by kernel_rfl) T5 (fun hH=>?_)
    refine takeAt 0 62 (.pointer (some ⟨g,0,none⟩)) rfl rfl (by kernel_rfl) (by kernel_rfl) (by kernel_rfl) (fun _ _ _ h=>h) (Or.inl ⟨by rfl,fun z hz=>by clear hH hz hcr T5;go_simp⟩) (by assumption) ?_
    simp only [Act.put,List.setIfInBounds_toArray,List.set_cons_zero,List.set_cons_succ]
    refine takeAt 1 63 (.pointer (some ⟨g,0,none⟩)) rfl rfl (by kernel_rfl) (by kernel_rfl) (by kernel_rfl) (fun _ _ _ h=>h) (Or.inl ⟨by rfl,fun z hz=>by clear hH hz hcr T5;go_simp⟩) (by assumption) ?_
    simp only [Act.put,List.setIfInBounds_toArray,List.set_cons_zero,List.set_cons_succ]
    refine takeAt 2 64 (.pointer (some ⟨g,4,none⟩)) rfl rfl (by kernel_rfl) (by kernel_rfl) (by kernel_rfl) (fun _ _ _ h=>h) (Or.inl ⟨by rfl,fun z hz=>by clear hH hz hcr T5;go_simp⟩) (by assumption) ?_
    simp only [Act.put,List.setIfInBounds_toArray,List.set_cons_zero,List.set_cons_succ]
    refine takeAt 3 65 (.agg (stA q1)) rfl rfl (by kernel_rfl) (by kernel_rfl) (by kernel_rfl) (fun _ _ _ h=>h) (yieldsIf_load_mid (by rfl) _ _ rfl _ _ rfl _ _ hcr Try.underlying100 rfl (by rw [Try.sizeSt];rfl)) (by assumption) ?_
    simp only [Act.put,List.setIfInBounds_toArray,List.set_cons_zero,List.set_cons_succ]
    refine wpAnyH_ready (rs:=[4]) (by kernel_rfl) (by simp) ?_
    refine AllReadyH.cons rfl (fun K hK=>?_) AllReadyH.nil
    clear hcr hH
    go_simp
    refine HEND.out.mono ?_
    rintro e w6 ⟨rfl,hS6,hd6,hP6,hTab6⟩
    have T6:w6.heap[nb]?=some (.cells (stA q1) 100 (0,0)):=by
     obtain ⟨m1,m2,m3⟩:=HM8.out
     refine (hS6.block nb ?_ (by rw [hgg];exact m1) m2 (fun e=>m3 (by simpa [blk] using e))).trans T5
     exact (Array.getElem?_eq_some_iff.1 T5).1
    have HS6:Hid (PStep k wo1 (some ⟨gw,0,none⟩) w2 w6):=HS5.out.drew.trans hS6
    have HP6:Hid (PlayAt k w6 (ST+1) hd6 (E.room' s1 kn1 room1) (some ⟨gw,0,none⟩) wc2 V∧Mt.Tab E hd6 (E.kn' s1 kn1 room1)):=⟨hP6,hTab6⟩
    clear hS6 hP6 hTab6 T5 HEND HS5 HP5
    go_simp
    refine hK.out _ _ T6 (fun hH2=>?_)
    clear hK K
    generalize hdd:E.dead s1 kn1=dd at *
    refine takeAt 5 9 (.bool dd) rfl rfl (by kernel_rfl) (by kernel_rfl) (by kernel_rfl) (fun _ _ _ h=>h) (Or.inl ⟨by rfl,fun z hz=>by clear hH2 hz T6;go_simp⟩) (by assumption) ?_
    simp only [Act.put,List.setIfInBounds_toArray,List.set_cons_zero,List.set_cons_succ]
    refine wpAnyH_done (by kernel_rfl) ?_ _
    clear hH2
    cases dd
    ·have HLK:Hid (Calls Try.prog 59 #[.pointer (some ⟨g,0,none⟩),.agg (stA q1)] w6 fun e w'=>∃ b,e=.returned (.bool b)∧((b=true∧EndsAt k E A R m W qs' wo1 w2 q1 w')∨(b=false∧∃ gn',gn'<gk∧NowAt k E A R m W wo1 w2 gn' w'))∧w'.heap[nb]?=some (.cells (stA q1) 100 (0,0))):=by
      obtain ⟨u1,u2,u3,u4,u5,u6,u7,u8,u9⟩:=HTH.out
      obtain ⟨t1,t2,t3,t4,t5,t6,t7⟩:=HT.out
      have hST1:ST+1=k.budget+1-((gk-1:Nat):Int):=by rw [HSTH.out];omega
      have hP6:=HP6.out.1
      rw [hST1] at hP6
      have hlk:=lookP_any HX.out u5 (HIH.out (gk-1) (by omega)) hP6 HP6.out.2 (by rw [E.kn'_len];exact u2) (E.room'_in s1 kn1 room1 u3) (by omega) (by omega)
      rw [hgg] at hlk
      refine hlk.mono ?_
      rintro e w7 ⟨b,rfl,hL⟩
      refine ⟨b,rfl,?_,?_⟩
      ·subst u9
       have:=after_look (m:=m) HX.out u5 u4 (n:=gk-1) (by omega) HP6.out.2 u2 u3 hdd u6 (by omega) HS6.out hL
       rw [show gk-1+1=gk by omega] at this
       exact this
      ·obtain ⟨wo',hSl⟩:=look_turns hL
       obtain ⟨m1,m2,m3⟩:=HM8.out
       exact (hSl.block nb (Array.getElem?_eq_some_iff.1 T6).1 (by rw [hgg];exact m1) m2 (fun e=>m3 (by simpa [blk] using e))).trans T6
     clear HP6
     go_wp2_with (refine load_blk 100 43 Try.underlying100 rfl Try.sizeSt (by rfl) (.tmp 8) (by rfl) nb (by rfl) T6 (stA_size _) ?_)
     refine HLK.out.mono ?_
     rintro e w7 ⟨b,rfl,hA,T7⟩
     have HA:Hid ((b=true∧EndsAt k E A R m W qs' wo1 w2 q1 w7)∨(b=false∧∃ gn',gn'<gk∧NowAt k E A R m W wo1 w2 gn' w7)):=hA
     clear hA HLK T6
     cases b
     ·obtain ⟨gn',hgn,hnow⟩:∃ gn',gn'<gk∧NowAt k E A R m W wo1 w2 gn' w7:=by
       rcases HA.out with ⟨e,_⟩ | ⟨_,h⟩
       ·cases e
       ·exact h
      have HNOW:Hid (NowAt k E A R m W wo1 w2 gn' w7):=hnow
      have HGN:Hid (gn'<gk):=hgn
      clear hnow hgn
      go_wp2_with fail
      go_roundg gn'
      case measure=>exact HGN.out
      case rel=>exact HNOW.out
     ·obtain ⟨st9,hd9,room9,wo9,wc9,hP9,hS9,hl9,hR9⟩:EndsAt k E A R m W qs' wo1 w2 q1 w7:=by
       rcases HA.out with ⟨_,h⟩ | ⟨e,_⟩
       ·exact h
       ·cases e
      have hcells:=hP9.cells
      have c9:=hcells.2.2.2.2.2.2.2.2.2.1
      have f9:=hcells.2.2.2.2.2.2.2.2.2.2 9
      rw [hgg] at c9 f9
      have U9:w7.heap[n+1]?=some (.cells (stA []) 100 (0,0)):=by
       obtain ⟨u1,u2,u3,u4,u5⟩:=HU2.out
       exact (hS9.block (n+1) u2 u3 u4 u5).trans u1
      have hg7:g<w7.heap.size:=by rw [← hgg];exact hP9.lt.1
      have hWl:W.length≤(W++qs').length:=by simp
      have hcut:=hP9.cut W.length hWl
      rw [hgg,List.take_left] at hcut
      have T8:(w7.setCell ⟨g,9,none⟩ (.slice wo9 W.length wc9)).heap[nb]?=some (.cells (stA q1) 100 (0,0)):=(Below.heap_setCell _ _ _ _ HM8.out.1).trans T7
      have U8:(w7.setCell ⟨g,9,none⟩ (.slice wo9 W.length wc9)).heap[n+1]?=some (.cells (stA []) 100 (0,0)):=(Below.heap_setCell _ _ _ _ (by show n+1≠g;rw [← hgg];exact HU2.out.2.2.1)).trans U9
      have HFIN:Hid (∀ w9:World,(∀ i,i≠n+1→w9.heap[i]?=(w7.setCell ⟨g,9,none⟩ (.slice wo9 W.length wc9)).heap[i]?)→Below n (w7.setCell ⟨g,9,none⟩ (.slice wo9 W.length wc9)) w9→RunPost k E A (Mt.look E (m-1) s kn room) (W.length+3*m+1) wo w W q1 true w9):=fun w9 o9 b9=>by
       obtain ⟨u1,u2,u3,u4,u5⟩:=HU2.out
       have h0:=HP0.out.lt
       rw [hnn] at h0
       have hb9:blk wo9≠some (n+1):=fun e=>u5 (hS9.sub (n+1) u2 e)
       have hP10:=hcut.same (o9 _ (by omega)) (o9 _ (by omega)) (o9 _ (by omega)) (o9 _ (by omega)) (o9 _ (by omega)) (fun i hi=>o9 i (fun e=>hb9 (by rw [← e];exact hi)))
       have hS10:PStep k wo wo9 w w9:=by
        have hSr:=(HS2.out.trans hS9).set (p:=⟨g,9,none⟩) (Or.inl hgg.symm) (.slice wo9 W.length wc9)
        exact ⟨b9.os.trans hSr.os,b9.tape.trans hSr.tape,b9.output.trans hSr.output,Nat.le_trans hSr.size b9.size,fun i hi h1 h2 h3=>(o9 i (by omega)).trans (hSr.block i hi h1 h2 h3),hSr.sub⟩
       refine (HPOST.out _ _ _).2 ⟨HTH.out.2.2.2.2.1.lq,?_⟩
       rcases hR9 with ⟨a1,rfl⟩ | ⟨a1,a2,a3,rfl,rfl,a6⟩
       ·exact Or.inl ⟨a1,hd9,room9,wo9,wc9,W,hP10,hS10,by omega⟩
       ·exact Or.inr ⟨a1,a2.symm,fun _=>a3,hd9,wo9,wc9,hP10,hS10,a6⟩
      have HWO:Hid ((wo9=none∧wc9=0∧(W++qs').length=0)∨∃ gw9,wo9=some ⟨gw9,0,none⟩∧W.length≤wc9):=by
       rcases hP9.wt.2 with ⟨e,e2⟩ | ⟨g',cap',cur,hv,_,_,hc,_⟩
       ·simp only [Value.slice.injEq] at e
        exact Or.inl ⟨e.1,e.2.2,e2⟩
       ·simp only [Value.slice.injEq] at hv
        exact Or.inr ⟨g',hv.1,by omega⟩
      clear hP9 hS9 hl9 hR9 hcells hcut U9 T7 HA
      rcases HWO.out with ⟨rfl,rfl,hz⟩ | ⟨gw9,rfl,hcap9⟩
      ·have hW0:W.length=0:=by omega
       rw [hz] at c9
       rw [hW0] at T8 U8 HFIN
       have HW0:Hid (W=[]):=List.length_eq_zero_iff.1 hW0
       clear hWl hz
       generalize W.length=WL at *
       subst hW0
       go_wp2_with (first | (refine load_blk 100 43 Try.underlying100 rfl Try.sizeSt (by rfl) (.tmp 8) (by rfl) nb (by rfl) T8 (stA_size _) ?_) | (refine store_blk 100 43 Try.sizeSt (by rfl) (.tmp 4) (.tmp 81) (by rfl) (n+1) (stA q1) (by rfl) (by rfl) U8 (stA_size _) (stA_size _) (stA_all _) ?_;intro w9 r1 r2 r3 r4))
       refine bodyPost_ret (ret_blk2 100 43 Try.underlying100 rfl Try.sizeSt rfl (by rfl) r1 (stA_size _)) rfl ⟨q1,true,rfl,?_⟩
       have hfin:=HFIN.out w9 r2 (r4 n (by omega))
       rw [show (0:Nat)+3*m+1=W.length+3*m+1 by rw [HW0.out];rfl] at hfin
       exact hfin
      ·have hcap9':(W.length:Int)≤(wc9:Int):=by omega
       generalize (W++qs').length=LL at *
       go_wp2_with (first | (refine load_blk 100 43 Try.underlying100 rfl Try.sizeSt (by rfl) (.tmp 8) (by rfl) nb (by rfl) T8 (stA_size _) ?_) | (refine store_blk 100 43 Try.sizeSt (by rfl) (.tmp 4) (.tmp 81) (by rfl) (n+1) (stA q1) (by rfl) (by rfl) U8 (stA_size _) (stA_size _) (stA_all _) ?_;intro w9 r1 r2 r3 r4))
       refine bodyPost_ret (ret_blk2 100 43 Try.underlying100 rfl Try.sizeSt rfl (by rfl) r1 (stA_size _)) rfl ⟨q1,true,rfl,HFIN.out w9 r2 (r4 n (by omega))⟩
    ·have HDEAD:Hid (NowAt k E A R m W wo1 w2 (gk-1) w6):=by
      obtain ⟨u1,u2,u3,u4,u5,u6,u7,u8,u9⟩:=HTH.out
      have hST1:ST+1=k.budget+1-((gk-1:Nat):Int):=by rw [HSTH.out];omega
      have hP6:=HP6.out.1
      rw [hST1,← u9] at hP6
      refine now_at (by omega) hP6 HS6.out HP6.out.2 (by rw [E.kn'_len];exact u2) (E.room'_in s1 kn1 room1 u3) u4 u6 ?_ (by omega)
      intro j hj
      rw [hj]
      exact Mt.lookS_dead E j s1 ss' kn1 room1 hdd
     clear HP6
     go_wp2_with fail
     go_roundg (gk-1)
     case measure=>omega
     case rel=>exact HDEAD.out
  ·have c9:=hP.cells.2.2.2.2.2.2.2.2.2.1
   rw [hgg] at c9
   have HSP:Hid (Calls Try.prog 47 #[.pointer (some ⟨g,0,none⟩)] wr fun e w'=>e=.returned (.bool true)∧Below wr.heap.size wr w'):=by
    have:=spent_prog hP
    rw [hgg] at this
    refine this.mono ?_
    rintro e w' ⟨rfl,hb⟩
    exact ⟨by rw [show decide (k.budget+1>k.budget)=true by rw [decide_eq_true_eq];omega],hb⟩
   have U3:wr.heap[n+1]?=some (.cells (stA []) 100 (0,0)):=by
    obtain ⟨u1,u2,u3,u4,u5⟩:=HU2.out
    exact (hS.block (n+1) u2 u3 u4 u5).trans u1
   have HFIN:Hid (∀ w3 w4:World,Below wr.heap.size wr w3→(∀ i,i≠n+1→w4.heap[i]?=w3.heap[i]?)→Below n w3 w4→RunPost k E A (Mt.look E (m-1) s kn room) (W.length+3*m+1) wo w W zero43 false w4):=fun w3 w4 b3 o4 b4=>by
    refine (HPOST.out _ _ _).2 ⟨zero43_len,Or.inl ⟨hov,?_⟩⟩
    obtain ⟨u1,u2,u3,u4,u5⟩:=HU2.out
    have h0:=HP0.out.lt
    rw [hnn] at h0
    have hb2:blk wo2≠some (n+1):=fun e=>u5 (hS.sub (n+1) u2 e)
    have hP4:=(hP.below b3).same (o4 _ (by omega)) (o4 _ (by omega)) (o4 _ (by omega)) (o4 _ (by omega)) (o4 _ (by omega)) (fun i hi=>o4 i (fun e=>hb2 (by rw [← e];exact hi)))
    have hS4:PStep k wo wo2 w w4:=by
     have hSr:=(HS2.out.trans hS).trans (PStep.below b3)
     exact ⟨b4.os.trans hSr.os,b4.tape.trans hSr.tape,b4.output.trans hSr.output,Nat.le_trans hSr.size b4.size,fun i hi h1 h2 h3=>(o4 i (by omega)).trans (hSr.block i hi h1 h2 h3),hSr.sub⟩
    exact ⟨hd1,room1,wo2,wc2,V,hP4,hS4,hVl⟩
   have hz:n+1<wr.heap.size:=(Array.getElem?_eq_some_iff.1 U3).1
   clear hP hS hov hVl HREL HPOST
   cases hgt:decide (W.length<V.length)
   ·go_wp2_with (refine store_blk 100 43 Try.sizeSt (by rfl) (.tmp 4) (.tmp 82) (by rfl) (n+1) (stA []) (by rfl) (by rfl) U3 (stA_size _) (stA_size _) (stA_all _) ?_;intro w4 r1 r2 r3 r4)
    refine bodyPost_ret (ret_blk2 100 43 Try.underlying100 rfl Try.sizeSt rfl (by rfl) r1 (stA_size _)) rfl ⟨zero43,false,?_,HFIN.out wr w4 (Below.refl _ _) r2 (r4 n (by omega))⟩
    rw [stA_zero];rfl
   ·go_wp2_with fail
    refine HSP.out.mono ?_
    rintro e w3 ⟨rfl,hb3⟩
    have U4:w3.heap[n+1]?=some (.cells (stA []) 100 (0,0)):=(hb3.block _ hz).trans U3
    have HB3:Hid (Below wr.heap.size wr w3):=hb3
    clear hb3 U3 c9
    go_wp2_with (refine store_blk 100 43 Try.sizeSt (by rfl) (.tmp 4) (.tmp 82) (by rfl) (n+1) (stA []) (by rfl) (by rfl) U4 (stA_size _) (stA_size _) (stA_all _) ?_;intro w4 r1 r2 r3 r4)
    refine bodyPost_ret (ret_blk2 100 43 Try.underlying100 rfl Try.sizeSt rfl (by rfl) r1 (stA_size _)) rfl ⟨zero43,false,?_,HFIN.out w3 w4 HB3.out r2 (r4 n (by omega))⟩
    rw [stA_zero];rfl
theorem run_any (hx:Ctx k E A):∀ m,RunK k E A m:=fun m=>Nat.strongRecOn m fun m ih=>run_step hx m ih
end
end Go.Proofs.Ytebpgfodelggoab
