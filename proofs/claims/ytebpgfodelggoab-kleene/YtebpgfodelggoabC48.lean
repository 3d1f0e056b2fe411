import Derived.Test.YtebpgfodelggoabC47
import Derived.Test.YtebpgfodelggoabC46
set_option linter.unusedVariables false
set_option linter.unusedSimpArgs false
set_option maxRecDepth 100000
set_option maxHeartbeats 8000000
namespace Go.Proofs.Ytebpgfodelggoab
open Go.RowKit
theorem pickJoins_any (c:List Mt.Ins) (hok:Mt.codeOk c) (hl:c.length≤300) (g cap:Nat) (w:World) (h:ownIns w 0 (.slice (some ⟨g,0,none⟩) c.length cap) c) :
  Calls Try.prog 68 #[.slice (some ⟨g,0,none⟩) c.length cap] w fun e w'=>e=.returned (.slice (some ⟨w.heap.size,0,none⟩) c.length c.length)∧rBools w' w.heap.size (.slice (some ⟨w.heap.size,0,none⟩) c.length c.length) ((List.range c.length).map fun p:Nat=>decide (1<Mt.leadsTo c (p:Int) c.length))∧Below w.heap.size w w':=by
 obtain ⟨i0,hi,hz0,hz1,hz2⟩:=info_parts Try.infoB
 have HI:Hid (ownIns w 0 (.slice (some ⟨g,0,none⟩) c.length cap) c):=h
 have HOK:Hid (Mt.codeOk c):=hok
 clear h hok
 go_enter Try.func68,Try.ntmps68
 go_wp2_with (first | (at_make;refine wpList_make_full _ rfl (.tmp 7) (.tmp 7) 90 rfl w.heap.size 4 i0 (.bool false) 1 Try.underlying90 hi hz0 hz1 .i64 .i64 _ _ c.length rfl rfl rfl rfl (by rw [hz2];omega) (by unfold maxLen;omega) (Nat.le_refl _) ?_;intro w1 hmk hgr))
 have hB1:Below w.heap.size w w1:=(Below.refl _ _).grown hgr (Nat.le_refl _) (fun q hq=>by simp at hq)
 have HM:Hid (rBools w1 w.heap.size (.slice (some ⟨w.heap.size,0,none⟩) c.length c.length) (fill (fun p:Nat=>decide (1<Mt.leadsTo c (p:Int) c.length)) false 0 c.length)):=by rw [fill_zero];exact rBools.made hmk
 have HL:Hid (Calls Try.prog 88 #[.slice (some ⟨g,0,none⟩) c.length cap] w1 _):=leadsTo_any c HOK.out hl g cap w1 (HI.out.below hB1)
 have hs1:w.heap.size<w1.heap.size:=(World.ownsRow.lt hmk w.heap.size rfl).2
 have HB1:Hid (Below w.heap.size w w1):=hB1
 clear hmk hgr hB1
 refine HL.out.mono ?_
 rintro e w2 ⟨rfl,hown2,hb2⟩
 have HO2:Hid (rInts w2 w1.heap.size (.slice (some ⟨w1.heap.size,0,none⟩) c.length c.length) (leadList c c.length)):=hown2
 have HM2:Hid (rBools w2 w.heap.size (.slice (some ⟨w.heap.size,0,none⟩) c.length c.length) (fill (fun p:Nat=>decide (1<Mt.leadsTo c (p:Int) c.length)) false 0 c.length)):=HM.out.below hb2
 have HB2:Hid (Below w.heap.size w w2):=HB1.out.trans (hb2.mono (by omega))
 clear hown2 hb2 HL HM HB1
 generalize hg1:w1.heap.size=g1 at *
 go_wp2_with fail
 go_loopw [12] (fun i wr=>∃ k:Nat,k≤c.length∧i=.int .i64 k∧rBools wr w.heap.size (.slice (some ⟨w.heap.size,0,none⟩) c.length c.length) (fill (fun p:Nat=>decide (1<Mt.leadsTo c (p:Int) c.length)) false k c.length)∧rInts wr g1 (.slice (some ⟨g1,0,none⟩) c.length c.length) (leadList c c.length)∧Below w.heap.size w wr) (fun i _=>c.length-(intOf i).toNat)
 case atStart=>exact ⟨0,Nat.zero_le _,rfl,HM2.out,HO2.out,HB2.out⟩
 case round =>
  obtain ⟨k,hk,rfl,hown,hld,hbr⟩:=hrel
  by_cases hlt:k<c.length
  ·obtain ⟨x1,x2⟩:=hown.at k (by rw [fill_len];exact hlt) (by rw [fill_len])
   obtain ⟨y1,y2⟩:=hld.at k (by rw [leadList_len];exact hlt) (by rw [leadList_len])
   rw [leadList_at c _ k hlt] at y1
   have hk':(k:Int)<(c.length:Int):=by omega
   have O4:=hown.set (by rw [fill_len]) k (decide (1<Mt.leadsTo c (k:Int) c.length))
   rw [fill_set (fun p:Nat=>decide (1<Mt.leadsTo c (p:Int) c.length)) false k c.length] at O4
   have L4:rInts (wr.setCell ⟨w.heap.size,k,none⟩ (.bool (decide (1<Mt.leadsTo c (k:Int) c.length)))) g1 (.slice (some ⟨g1,0,none⟩) c.length c.length) (leadList c c.length):=by
    unfold rInts at hld ⊢
    rw [leadList_len] at hld ⊢
    exact row_keep hld (fun q hq=>by cases hq;exact Below.heap_setCell _ _ _ _ (by show g1≠w.heap.size;omega))
   have HO4:Hid (rBools (wr.setCell ⟨w.heap.size,k,none⟩ (.bool (decide (1<Mt.leadsTo c (k:Int) c.length)))) w.heap.size (.slice (some ⟨w.heap.size,0,none⟩) c.length c.length) (fill (fun p:Nat=>decide (1<Mt.leadsTo c (p:Int) c.length)) false (k+1) c.length)∧rInts (wr.setCell ⟨w.heap.size,k,none⟩ (.bool (decide (1<Mt.leadsTo c (k:Int) c.length)))) g1 (.slice (some ⟨g1,0,none⟩) c.length c.length) (leadList c c.length)∧Below w.heap.size w (wr.setCell ⟨w.heap.size,k,none⟩ (.bool (decide (1<Mt.leadsTo c (k:Int) c.length))))):=⟨O4,L4,hbr.setCell (p:=⟨w.heap.size,k,none⟩) (Nat.le_refl _) _⟩
   clear hown hbr O4 L4 hld y2
   generalize (fill (fun p:Nat=>decide (1<Mt.leadsTo c (p:Int) c.length)) false k c.length).getD k false=zz at *
   generalize Mt.leadsTo c (k:Int) c.length=lk at *
   have HD:Hid (decide ((lk:Int)≥2)=decide (1<lk)∧decide (lk≥2)=decide (1<lk)):=by
    constructor <;> (rw [decide_eq_decide];omega)
   go_wp2_with fail
   go_roundw
   case rel=>first | exact ⟨k+1,by omega,by go_num,HO4.out⟩ | (rw [HD.out.1];exact ⟨k+1,by omega,by go_num,HO4.out⟩) | (rw [HD.out.2];exact ⟨k+1,by omega,by go_num,HO4.out⟩)
   case measure=>simp [intOf];omega
  ·have hk2:k=c.length:=by omega
   subst hk2
   rw [fill_all] at hown
   have HBR:Hid (Below w.heap.size w wr):=hbr
   have HOW:Hid (rBools wr w.heap.size (.slice (some ⟨w.heap.size,0,none⟩) c.length c.length) ((List.range c.length).map fun p:Nat=>decide (1<Mt.leadsTo c (p:Int) c.length))):=hown
   clear hbr hown
   go_wp2_with fail
   go_ret
   exact ⟨rfl,HOW.out,HBR.out⟩
def pickList (c:List Mt.Ins) (policy mask:Int):List Bool:=(List.range c.length).map fun p:Nat=>Mt.picked c p policy mask
theorem pickList_len (c:List Mt.Ins) (policy mask:Int):(pickList c policy mask).length=c.length:=by simp [pickList]
theorem bit_all:∀ k,k<32→Mt.bitOf 4294967295 k=true:=by decide
theorem pick_any (c:List Mt.Ins) (hok:Mt.codeOk c) (policy mask:Int) (hp:0≤policy∧policy≤4) (hm0:0≤mask) (hm1:mask≤4294967295) (hl:c.length≤300) (g cap:Nat) (w:World) (h:ownIns w 0 (.slice (some ⟨g,0,none⟩) c.length cap) c) :
  Calls Try.prog 56 #[.slice (some ⟨g,0,none⟩) c.length cap,.int .i64 policy,.int .i64 mask] w fun e w'=>e=.returned (.slice (some ⟨w.heap.size,0,none⟩) c.length c.length)∧rBools w' w.heap.size (.slice (some ⟨w.heap.size,0,none⟩) c.length c.length) (pickList c policy mask)∧Below w.heap.size w w':=by
 obtain ⟨i0,hi,hz0,hz1,hz2⟩:=info_parts Try.infoB
 have H1:=pickMasked_any c 4294967295 (by omega) (by omega) hl g cap w
 have H4:=pickMasked_any c mask hm0 hm1 hl g cap w
 have H2:=pickHeads_any c hok hl g cap w h
 have H3:=pickJoins_any c hok hl g cap w h
 have HH1:Hid (Calls Try.prog 66 #[.slice (some ⟨g,0,none⟩) c.length cap,.int .i64 4294967295] w _):=H1
 have HH4:Hid (Calls Try.prog 66 #[.slice (some ⟨g,0,none⟩) c.length cap,.int .i64 mask] w _):=H4
 have HH2:Hid (Calls Try.prog 67 #[.slice (some ⟨g,0,none⟩) c.length cap] w _):=H2
 have HH3:Hid (Calls Try.prog 68 #[.slice (some ⟨g,0,none⟩) c.length cap] w _):=H3
 have HPC:Hid (((policy==1)=true)∨((policy==1)=false∧(policy==2)=true)∨((policy==1)=false∧(policy==2)=false∧(policy==3)=true)∨((policy==1)=false∧(policy==2)=false∧(policy==3)=false∧(policy==4)=true)∨((policy==1)=false∧(policy==2)=false∧(policy==3)=false∧(policy==4)=false)):=by
  show _∨_
  simp only [beq_iff_eq,beq_eq_false_iff_ne]
  omega
 clear H1 H2 H3 H4 h hok
 rcases HPC.out with e1 | ⟨e1,e2⟩ | ⟨e1,e2,e3⟩ | ⟨e1,e2,e3,e4⟩ | ⟨e1,e2,e3,e4⟩
 ·go_enter Try.func56,Try.ntmps56
  go_wp2_with fail
  refine HH1.out.mono ?_
  rintro e w1 ⟨rfl,ho,hb⟩
  have HF:Hid (rBools w1 w.heap.size (.slice (some ⟨w.heap.size,0,none⟩) c.length c.length) (pickList c policy mask)∧Below w.heap.size w w1):=by
   refine ⟨?_,hb⟩
   have:pickList c policy mask=(List.range c.length).map fun p=>Mt.bitOf 4294967295 (p % 32):=by
    unfold pickList
    apply List.map_congr_left
    intro p _
    rw [bit_all _ (Nat.mod_lt _ (by omega))]
    have ep:policy=1:=by simpa using e1
    unfold Mt.picked
    rw [if_neg (by omega),if_pos ep]
   rw [this];exact ho
  clear ho hb
  go_wp2_with fail
  go_ret
  exact ⟨rfl,HF.out⟩
 ·go_enter Try.func56,Try.ntmps56
  go_wp2_with fail
  refine HH2.out.mono ?_
  rintro e w1 ⟨rfl,ho,hb⟩
  have HF:Hid (rBools w1 w.heap.size (.slice (some ⟨w.heap.size,0,none⟩) c.length c.length) (pickList c policy mask)∧Below w.heap.size w w1):=by
   refine ⟨?_,hb⟩
   have:pickList c policy mask=(List.range c.length).map fun p:Nat=>c.any (Mt.isHead (p:Int)):=by
    unfold pickList
    apply List.map_congr_left
    intro p _
    have ep:policy=2:=by simpa using e2
    unfold Mt.picked
    cases hh:c.any (Mt.isHead (p:Int))
    ·rw [if_neg (fun x=>by cases x.2),if_neg (by omega),if_neg (by omega),if_neg (by omega)]
    ·rw [if_pos ⟨ep,rfl⟩]
   rw [this];exact ho
  clear ho hb
  go_wp2_with fail
  go_ret
  exact ⟨rfl,HF.out⟩
 ·go_enter Try.func56,Try.ntmps56
  go_wp2_with fail
  refine HH3.out.mono ?_
  rintro e w1 ⟨rfl,ho,hb⟩
  have HF:Hid (rBools w1 w.heap.size (.slice (some ⟨w.heap.size,0,none⟩) c.length c.length) (pickList c policy mask)∧Below w.heap.size w w1):=by
   refine ⟨?_,hb⟩
   have:pickList c policy mask=(List.range c.length).map fun p:Nat=>decide (1<Mt.leadsTo c (p:Int) c.length):=by
    unfold pickList
    apply List.map_congr_left
    intro p _
    have ep:policy=3:=by simpa using e3
    unfold Mt.picked
    rw [if_neg (by omega),if_neg (by omega),if_pos ep]
   rw [this];exact ho
  clear ho hb
  go_wp2_with fail
  go_ret
  exact ⟨rfl,HF.out⟩
 ·go_enter Try.func56,Try.ntmps56
  go_wp2_with fail
  refine HH4.out.mono ?_
  rintro e w1 ⟨rfl,ho,hb⟩
  have HF:Hid (rBools w1 w.heap.size (.slice (some ⟨w.heap.size,0,none⟩) c.length c.length) (pickList c policy mask)∧Below w.heap.size w w1):=by
   refine ⟨?_,hb⟩
   have:pickList c policy mask=(List.range c.length).map fun p=>Mt.bitOf mask (p % 32):=by
    unfold pickList
    apply List.map_congr_left
    intro p _
    have ep:policy=4:=by simpa using e4
    unfold Mt.picked
    rw [if_neg (by omega),if_neg (by omega),if_neg (by omega),if_pos ep]
   rw [this];exact ho
  clear ho hb
  go_wp2_with fail
  go_ret
  exact ⟨rfl,HF.out⟩
 ·have HZ:Hid (pickList c policy mask=List.replicate c.length false):=by
   show _=_
   have ep:policy≠1∧policy≠2∧policy≠3∧policy≠4:=by simp only [beq_eq_false_iff_ne] at *;omega
   unfold pickList
   apply List.ext_getElem
   ·simp
   ·intro i h1 h2
    simp only [List.getElem_map,List.getElem_range,List.getElem_replicate]
    unfold Mt.picked
    rw [if_neg (by omega),if_neg (by omega),if_neg (by omega),if_neg (by omega)]
  go_enter Try.func56,Try.ntmps56
  go_wp2_with (first | (at_make;refine wpList_make_full _ rfl (.tmp 26) (.tmp 26) 90 rfl w.heap.size 4 i0 (.bool false) 1 Try.underlying90 hi hz0 hz1 .i64 .i64 _ _ c.length rfl rfl rfl rfl (by rw [hz2];omega) (by unfold maxLen;omega) (Nat.le_refl _) ?_;intro w1 hmk hgr))
  have hB1:Below w.heap.size w w1:=(Below.refl _ _).grown hgr (Nat.le_refl _) (fun q hq=>by simp at hq)
  have HF:Hid (rBools w1 w.heap.size (.slice (some ⟨w.heap.size,0,none⟩) c.length c.length) (pickList c policy mask)∧Below w.heap.size w w1):=by rw [HZ.out];exact ⟨rBools.made hmk,hB1⟩
  clear hmk hgr hB1
  go_wp2_with fail
  go_ret
  exact ⟨rfl,HF.out⟩
theorem chosen_getD (c:List Mt.Ins) (policy mask:Int) (hb:Mt.hasBack c=false) (k:Nat) (hk:k<c.length):(Mt.chosen c policy mask).getD k false=if Mt.inSub c k=true then false else Mt.picked c k policy mask:=by
 unfold Mt.chosen
 rw [if_neg (by rw [hb];exact Bool.false_ne_true),List.getD_eq_getElem?_getD,List.getElem?_map,List.getElem?_range hk]
 rfl
theorem nums_back (c:List Mt.Ins) (policy mask:Int) (hb:Mt.hasBack c=true):Mt.numsTo (Mt.chosen c policy mask) c.length=[]:=by
 unfold Mt.chosen Mt.numsTo
 rw [if_pos hb]
 have:((List.range c.length).filter fun i=>(List.replicate c.length false).getD i false)=[]:=by
  rw [List.filter_eq_nil_iff]
  intro i hi
  rw [List.getD_eq_getElem?_getD,List.getElem?_replicate]
  split <;> simp
 rw [this];rfl
theorem pickList_at (c:List Mt.Ins) (policy mask:Int) (k:Nat) (hk:k<c.length):(pickList c policy mask).getD k false=Mt.picked c k policy mask:=by
 unfold pickList
 rw [List.getD_eq_getElem?_getD,List.getElem?_map,List.getElem?_range hk];rfl
structure ChAt (c:List Mt.Ins) (policy mask:Int) (w:World) (gp k q n cap:Nat) (wr:World):Prop where
 row:rInts wr w.heap.size (.slice (some ⟨q,0,none⟩) n cap) (Mt.numsTo (Mt.chosen c policy mask) k)
 len:n=(Mt.numsTo (Mt.chosen c policy mask) k).length
 pk:rBools wr w.heap.size (.slice (some ⟨gp,0,none⟩) c.length c.length) (pickList c policy mask)
 qp:q≠gp
 below:Below w.heap.size w wr
theorem ChAt.next {c:List Mt.Ins} {policy mask:Int} {w wr w':World} {gp k q n cap:Nat} (h:ChAt c policy mask w gp k q n cap wr) (hb:Below wr.heap.size wr w') (e:Mt.numsTo (Mt.chosen c policy mask) (k+1)=Mt.numsTo (Mt.chosen c policy mask) k):ChAt c policy mask w gp (k+1) q n cap w' :=
 ⟨by rw [e];exact h.row.below hb,by rw [e];exact h.len,h.pk.below hb,h.qp,h.below.trans (hb.mono h.below.size)⟩
theorem ChAt.push {c:List Mt.Ins} {policy mask:Int} {w wr w3 w4:World} {gp k q n cap q' cap':Nat} {E:Array Value} {te:TypeId} (h:ChAt c policy mask w gp k q n cap wr) (hb:Below wr.heap.size wr w3) (hg:(w3.alloc (.cells E te)).grownBy w4 (some q)) (hq:some q=some q'∨q'=w3.heap.size+1)
  (hown:w4.ownsRow w.heap.size 3 1 (.slice (some ⟨q',0,none⟩) (n+1) cap') (n+1) ((Mt.numsTo (Mt.chosen c policy mask) k).map (Value.int .i64)++[.int .i64 (k:Int)])) (e:Mt.numsTo (Mt.chosen c policy mask) (k+1)=Mt.numsTo (Mt.chosen c policy mask) k++[(k:Int)]):ChAt c policy mask w gp (k+1) q' (n+1) cap' w4:=by
 have hgp:gp<wr.heap.size:=(World.ownsRow.lt h.pk gp rfl).2
 have hql:=World.ownsRow.lt h.row q rfl
 have hs:=hb.size
 refine ⟨?_,by rw [e,List.length_append,← h.len];rfl,?_,?_,?_⟩
 ·unfold rInts
  rw [e,List.length_append,List.map_append,← h.len];exact hown
 ·have hp:=h.pk.below hb
  unfold rBools at hp ⊢
  rw [pickList_len] at hp ⊢
  refine row_keep hp (fun z hz=>?_)
  cases hz
  rw [hg.block gp (by simp;omega) (fun ee=>h.qp (by cases ee;rfl)),heap_old _ _ _ (by omega)]
 ·rcases hq with hq | hq
  ·cases hq;exact h.qp
  ·omega
 ·refine ⟨hg.os.trans (hb.os.trans h.below.os),hg.tape.trans (hb.tape.trans h.below.tape),hg.output.trans (hb.output.trans h.below.output),?_,fun i hi=>?_⟩
  ·have:=hg.size;have:=h.below.size;simp at *;omega
  ·have:=h.below.size
   rw [hg.block i (by simp;omega) (fun ee=>by cases ee;omega),heap_old _ _ _ (by omega),hb.block i (by omega),h.below.block i hi]
theorem codeChosen_any (c:List Mt.Ins) (hok:Mt.codeOk c) (hN:Mt.Nest 0 c) (policy mask:Int) (hp:0≤policy∧policy≤4) (hm0:0≤mask) (hm1:mask≤4294967295) (hl:c.length≤300) (g cap:Nat) (w:World) (h:ownIns w 0 (.slice (some ⟨g,0,none⟩) c.length cap) c) :
  Calls Try.prog 43 #[.slice (some ⟨g,0,none⟩) c.length cap,.int .i64 policy,.int .i64 mask] w fun e w'=>∃ q n cp,e=.returned (.slice (some ⟨q,0,none⟩) n cp)∧n=(Mt.numsTo (Mt.chosen c policy mask) c.length).length∧rInts w' w.heap.size (.slice (some ⟨q,0,none⟩) n cp) (Mt.numsTo (Mt.chosen c policy mask) c.length)∧Below w.heap.size w w':=by
 obtain ⟨i0,hi,hz0,hz1,hz2⟩:=info_parts Try.infoI
 obtain ⟨W1,hW1⟩:∃ W1,W1=w.alloc (.cells #[] 3):=⟨_,rfl⟩
 have B1:Below w.heap.size w W1:=by rw [hW1];exact (Below.refl _ _).alloc (Nat.le_refl _) _
 have Z1:W1.heap.size=w.heap.size+1:=by rw [hW1];simp
 have R1:W1.ownsRow w.heap.size 3 1 (.slice (some ⟨w.heap.size,0,none⟩) 0 0) 0 []:=by rw [hW1];exact World.ownsRow_lit w #[] 0 (Nat.le_refl _) (by unfold maxLen;omega) rfl
 have HHB:Hid (Calls Try.prog 55 #[.slice (some ⟨g,0,none⟩) c.length cap] W1 _):=hasBack_any c hl g cap W1 (h.below B1)
 have HI:Hid (ownIns w 0 (.slice (some ⟨g,0,none⟩) c.length cap) c):=h
 have HCTX:Hid (Mt.codeOk c∧Mt.Nest 0 c∧(0≤policy∧policy≤4)∧0≤mask∧mask≤4294967295):=⟨hok,hN,hp,hm0,hm1⟩
 clear h hok hN
 have HB1:Hid (Below w.heap.size w W1):=B1
 have HR1:Hid (W1.ownsRow w.heap.size 3 1 (.slice (some ⟨w.heap.size,0,none⟩) 0 0) 0 []):=R1
 have HZ1:Hid (W1.heap.size=w.heap.size+1):=Z1
 clear B1 R1 Z1
 go_enter Try.func43,Try.ntmps43
 go_upto_region 2 with fail
 rw [← hW1]
 clear hW1
 cases hbk:Mt.hasBack c
 ·rw [hbk] at HHB
  go_wp2_with fail
  refine HHB.out.mono ?_
  rintro e w2 ⟨rfl,hb2⟩
  have B2:Below w.heap.size w w2:=HB1.out.trans (hb2.mono (by have:=HZ1.out;omega))
  have HPK:Hid (Calls Try.prog 56 #[.slice (some ⟨g,0,none⟩) c.length cap,.int .i64 policy,.int .i64 mask] w2 _):=pick_any c HCTX.out.1 policy mask HCTX.out.2.2.1 HCTX.out.2.2.2.1 HCTX.out.2.2.2.2 hl g cap w2 (HI.out.below B2)
  have HR2:Hid (w2.ownsRow w.heap.size 3 1 (.slice (some ⟨w.heap.size,0,none⟩) 0 0) 0 []):=owns_below HR1.out hb2
  have HB2:Hid (Below w.heap.size w w2∧w.heap.size<w2.heap.size):=⟨B2,by have:=HZ1.out;have:=hb2.size;omega⟩
  clear hb2 B2 HHB HR1 HB1 HZ1
  go_wp2_with fail
  refine HPK.out.mono ?_
  rintro e w3 ⟨rfl,hpk,hb3⟩
  have HC0:Hid (ChAt c policy mask w w2.heap.size 0 w.heap.size 0 0 w3):=by
   refine ⟨owns_below HR2.out hb3,rfl,?_,by have:=HB2.out.2;omega,HB2.out.1.trans (hb3.mono HB2.out.1.size)⟩
   exact owns_base hpk (by have:=HB2.out.2;omega)
  clear hpk hb3 HPK HR2 HB2
  generalize w2.heap.size=gp at *
  go_wp2_with fail
  go_loopw [7,9,22] (fun v b i wr=>∃ k q n cp:Nat,k≤c.length∧i=.int .i64 k∧b=.int .i64 (Mt.bh c k)∧v=.slice (some ⟨q,0,none⟩) n cp∧ChAt c policy mask w gp k q n cp wr) (fun _ _ i _=>c.length-(intOf i).toNat)
  case atStart=>exact ⟨0,w.heap.size,0,0,Nat.zero_le _,rfl,rfl,rfl,HC0.out⟩
  case round =>
   obtain ⟨k,q,n,cp,hk,rfl,rfl,rfl,hch⟩:=hrel
   by_cases hlt:k<c.length
   ·have hR:=code_range HI.out hch.below k hlt
    have hk':(k:Int)<(c.length:Int):=by omega
    have HCH:Hid (ChAt c policy mask w gp k q n cp wr):=hch
    have hsub:=Mt.bh_inSub c HCTX.out.2.1 k hlt
    have hnx:=Mt.numsTo_next (Mt.chosen c policy mask) k
    rw [chosen_getD c policy mask hbk k hlt,← hsub] at hnx
    obtain ⟨y1,y2⟩:=hch.pk.at k (by rw [pickList_len];exact hlt) (by rw [pickList_len])
    rw [pickList_at c policy mask k hlt] at y1
    have hgp:gp<wr.heap.size:=(World.ownsRow.lt hch.pk gp rfl).2
    have HBH:Hid (Mt.bh c (k+1)=if (k:Int)<Mt.bh c k then Mt.bh c k else if (c.getD k Mt.ins0).op=11 then (c.getD k Mt.ins0).y else Mt.bh c k):=rfl
    have hnl:n≤300:=by rw [hch.len];have:=Mt.numsTo_len (Mt.chosen c policy mask) k;omega
    have HNX:Hid (Mt.numsTo (Mt.chosen c policy mask) (k+1)=Mt.numsTo (Mt.chosen c policy mask) k++if (if decide ((k:Int)<Mt.bh c k)=true then false else Mt.picked c k policy mask)=true then [(k:Int)] else []):=hnx
    have HBR:Hid (Below w.heap.size w wr):=hch.below
    clear hch hsub hnx y2
    generalize c.getD k Mt.ins0=I at *
    generalize hpk:Mt.picked c k policy mask=pk at *
    generalize hbe:Mt.bh c k=bk at *
    go_upto_region 9 with (first | (refine wpList_load_mid (by rfl) 70 (.tmp 25) (by rfl) g (k*4) (by rfl) (insCells I) _ hR Try.underlying70 rfl (by rw [Try.sizeIn];rfl) ?_) | (refine store_blk 70 4 Try.sizeIn (by rfl) (.tmp 11) (.tmp 26) (by rfl) wr.heap.size (insA I) (by rfl) (by rfl) (by exact heap_b1 _ _) (by rfl) (by rfl) (insA_all I) ?_;intro w4 r1 r2 r3 r4))
    obtain ⟨x0,x1,x2,B4,B5⟩:=box_ins HBR.out r1 r4
    have z1:w4.cell? ⟨gp,k,none⟩=some (.bool pk):=(World.cell?_of_block (a:=⟨gp,k,none⟩) (B5.block gp hgp)).trans y1
    have HB5:Hid (Below wr.heap.size wr w4):=B5
    clear r1 r2 r3 r4 B4 B5 hR x1 y1
    cases hd:decide ((k:Int)<bk)
    ·have hnb:¬ (k:Int)<bk:=by simpa using hd
     have HBH2:Hid (Mt.bh c (k+1)=if I.op=11 then I.y else bk):=by show _=_;rw [HBH.out,if_neg hnb]
     cases pk
     ·have HN1:Hid (Mt.numsTo (Mt.chosen c policy mask) (k+1)=Mt.numsTo (Mt.chosen c policy mask) k):=by
       show _=_;rw [HNX.out,hd];simp
      have HCN:Hid (ChAt c policy mask w gp (k+1) q n cp w4):=HCH.out.next HB5.out HN1.out
      cases h11:(I.op==11)
      ·have HBH3:Hid (Mt.bh c (k+1)=bk):=by show _=_;rw [HBH2.out,if_neg (by simpa using h11)]
       go_wp2_with fail
       go_roundw
       case rel=>exact ⟨k+1,q,n,cp,by omega,by go_num,by rw [HBH3.out],rfl,HCN.out⟩
       case measure=>simp [intOf];omega
      ·have HBH3:Hid (Mt.bh c (k+1)=I.y):=by show _=_;rw [HBH2.out,if_pos (by simpa using h11)]
       go_wp2_with fail
       go_roundw
       case rel=>exact ⟨k+1,q,n,cp,by omega,by go_num,by rw [HBH3.out],rfl,HCN.out⟩
       case measure=>simp [intOf];omega
     ·have HN1:Hid (Mt.numsTo (Mt.chosen c policy mask) (k+1)=Mt.numsTo (Mt.chosen c policy mask) k++[(k:Int)]):=by
       show _=_;rw [HNX.out,hd];simp
      have HO4:Hid (w4.ownsRow w.heap.size 3 1 (.slice (some ⟨q,0,none⟩) n cp) n ((Mt.numsTo (Mt.chosen c policy mask) k).map (Value.int .i64))):=by
       have:=HCH.out.row.below HB5.out
       unfold rInts at this
       rw [← HCH.out.len] at this;exact this
      have hws:w.heap.size≤w4.heap.size:=Nat.le_trans HBR.out.size HB5.out.size
      cases h11:(I.op==11)
      ·have HBH3:Hid (Mt.bh c (k+1)=bk):=by show _=_;rw [HBH2.out,if_neg (by simpa using h11)]
       go_wp2_with (at_builtin;refine wpList_append_lies _ rfl _ _ 51 rfl w.heap.size 3 i0 _ 1 8 Try.underlying51 hi hz0 hz1 hz2 rfl (by decide) _ n _ rfl (World.ownsRow.alloc HO4.out _) ⟨w4.heap.size,0,none⟩ 1 1 [.int .i64 (k:Int)] rfl rfl (news_cells _ _ _) (by simp [Value.oneCell']) (by decide) (by unfold maxLen;omega) (by omega) (by simp;omega) (w4.heap.size+1) (by simp) ?_)
       intro q' cap' w5 hown hgrow hqq hqlt
       have HCN:Hid (ChAt c policy mask w gp (k+1) q' (n+1) cap' w5):=HCH.out.push HB5.out hgrow (by simpa [Value.ownBlock] using hqq) hown HN1.out
       clear hown hgrow hqq hqlt
       go_wp2_with fail
       go_roundw
       case rel=>exact ⟨k+1,q',n+1,cap',by omega,by go_num,by rw [HBH3.out],rfl,HCN.out⟩
       case measure=>simp [intOf];omega
      ·have HBH3:Hid (Mt.bh c (k+1)=I.y):=by show _=_;rw [HBH2.out,if_pos (by simpa using h11)]
       go_wp2_with (at_builtin;refine wpList_append_lies _ rfl _ _ 51 rfl w.heap.size 3 i0 _ 1 8 Try.underlying51 hi hz0 hz1 hz2 rfl (by decide) _ n _ rfl (World.ownsRow.alloc HO4.out _) ⟨w4.heap.size,0,none⟩ 1 1 [.int .i64 (k:Int)] rfl rfl (news_cells _ _ _) (by simp [Value.oneCell']) (by decide) (by unfold maxLen;omega) (by omega) (by simp;omega) (w4.heap.size+1) (by simp) ?_)
       intro q' cap' w5 hown hgrow hqq hqlt
       have HCN:Hid (ChAt c policy mask w gp (k+1) q' (n+1) cap' w5):=HCH.out.push HB5.out hgrow (by simpa [Value.ownBlock] using hqq) hown HN1.out
       clear hown hgrow hqq hqlt
       go_wp2_with fail
       go_roundw
       case rel=>exact ⟨k+1,q',n+1,cap',by omega,by go_num,by rw [HBH3.out],rfl,HCN.out⟩
       case measure=>simp [intOf];omega
    ·have hnb:(k:Int)<bk:=by simpa using hd
     have HBH2:Hid (Mt.bh c (k+1)=bk):=by show _=_;rw [HBH.out,if_pos hnb]
     have HN1:Hid (Mt.numsTo (Mt.chosen c policy mask) (k+1)=Mt.numsTo (Mt.chosen c policy mask) k):=by
      show _=_;rw [HNX.out,hd];simp
     have HCN:Hid (ChAt c policy mask w gp (k+1) q n cp w4):=HCH.out.next HB5.out HN1.out
     go_wp2_with fail
     go_roundw
     case rel=>exact ⟨k+1,q,n,cp,by omega,by go_num,by rw [HBH2.out],rfl,HCN.out⟩
     case measure=>simp [intOf];omega
   ·have hk2:k=c.length:=by omega
    subst hk2
    have HCH:Hid (ChAt c policy mask w gp c.length q n cp wr):=hch
    clear hch
    go_wp2_with fail
    go_ret
    exact ⟨q,n,cp,rfl,HCH.out.len,HCH.out.row,HCH.out.below⟩
 ·rw [hbk] at HHB
  have HNB:Hid (Mt.numsTo (Mt.chosen c policy mask) c.length=[]):=nums_back c policy mask hbk
  go_wp2_with fail
  refine HHB.out.mono ?_
  rintro e w2 ⟨rfl,hb2⟩
  have HF:Hid (Below w.heap.size w w2∧rInts w2 w.heap.size (.slice (some ⟨w.heap.size,0,none⟩) 0 0) []):=⟨HB1.out.trans (hb2.mono (by have:=HZ1.out;omega)),owns_below HR1.out hb2⟩
  clear hb2
  go_wp2_with fail
  go_ret
  exact ⟨w.heap.size,0,0,rfl,by rw [HNB.out];rfl,by rw [HNB.out];exact HF.out.2,HF.out.1⟩
theorem isChoice_any (policy mask:Int) (w:World):Calls Try.prog 42 #[.int .i64 policy,.int .i64 mask] w fun e w'=>e=.returned (.bool (Mt.maySelect policy mask))∧w=w':=by
 have HC:Hid (Mt.maySelect policy mask=(decide (policy≥0)&&decide (policy≤4)&&decide (mask≥0)&&decide (mask≤4294967295))):=by
  show _=_
  unfold Mt.maySelect
  rw [Bool.eq_iff_iff];simp;omega
 rw [HC.out]
 cases h1:decide (policy≥0)
 ·go_enter Try.func42,Try.ntmps42
  go_wp2_with fail
  go_ret
  exact ⟨rfl,rfl⟩
 cases h2:decide (policy≤4)
 ·go_enter Try.func42,Try.ntmps42
  go_wp2_with fail
  go_ret
  exact ⟨rfl,rfl⟩
 cases h3:decide (mask≥0)
 ·go_enter Try.func42,Try.ntmps42
  go_wp2_with fail
  go_ret
  exact ⟨rfl,rfl⟩
 cases h4:decide (mask≤4294967295)
 ·go_enter Try.func42,Try.ntmps42
  go_wp2_with fail
  go_ret
  exact ⟨rfl,rfl⟩
 ·go_enter Try.func42,Try.ntmps42
  go_wp2_with fail
  go_ret
  exact ⟨rfl,rfl⟩
theorem codeR_check (p:ByteArray) (h:(Mt.codeR p).2=0):(Mt.checkR p).1=0:=by
 unfold Mt.codeR at h
 split at h
 ·rename_i x;exact absurd h x
 ·rename_i x;simpa using x
def mayPrep (T:Nat) (policy mask room budget:Int):Int :=
 if 60<T then 1 else if Mt.maySelect policy mask=true∧0≤room∧room≤5000∧0≤budget∧budget≤10000 then 0 else 13
def tk0:Array Value:=#[.slice none 0 0,.slice none 0 0,.string ⟨#[]⟩,.int .i64 0]
theorem Try.sizeTk:(Try.prog.info? 72).map (·.size)=some 4:=by kernel_rfl
def PrepIs (p t:ByteArray) (policy mask room budget:Int) (n0:Nat) (v:Array Value) (e:Int) (w:World):Prop :=
 v.size=4∧v.all (·.oneCell')=true∧(((Mt.codeR p).2≠0∧e=(Mt.codeR p).2)∨((Mt.codeR p).2=0∧mayPrep t.size policy mask room budget≠0∧e=mayPrep t.size policy mask room budget) ∨
  ((Mt.codeR p).2=0∧mayPrep t.size policy mask room budget=0∧e=0∧∃ g cap q nq cq,v=#[.slice (some ⟨g,0,none⟩) (Mt.codeR p).1.length cap,.slice (some ⟨q,0,none⟩) nq cq,.string t,.int .i64 room]∧ownIns w n0 (.slice (some ⟨g,0,none⟩) (Mt.codeR p).1.length cap) (Mt.codeR p).1∧rInts w n0 (.slice (some ⟨q,0,none⟩) nq cq) (Mt.numsTo (Mt.chosen (Mt.codeR p).1 policy mask) (Mt.codeR p).1.length)∧nq=(Mt.numsTo (Mt.chosen (Mt.codeR p).1 policy mask) (Mt.codeR p).1.length).length))
theorem mayPrep_cases (T:Nat) (policy mask room budget:Int):(decide ((T:Int)>60)=true∧mayPrep T policy mask room budget=1)∨(decide ((T:Int)>60)=false∧Mt.maySelect policy mask=false∧mayPrep T policy mask room budget=13)∨(decide ((T:Int)>60)=false∧Mt.maySelect policy mask=true∧decide (room<0)=true∧mayPrep T policy mask room budget=13)∨(decide ((T:Int)>60)=false∧Mt.maySelect policy mask=true∧decide (room<0)=false∧decide (room>5000)=true∧mayPrep T policy mask room budget=13)∨(decide ((T:Int)>60)=false∧Mt.maySelect policy mask=true∧decide (room<0)=false∧decide (room>5000)=false∧decide (budget<0)=true∧mayPrep T policy mask room budget=13)∨(decide ((T:Int)>60)=false∧Mt.maySelect policy mask=true∧decide (room<0)=false∧decide (room>5000)=false∧decide (budget<0)=false∧decide (budget>10000)=true∧mayPrep T policy mask room budget=13)∨(decide ((T:Int)>60)=false∧Mt.maySelect policy mask=true∧decide (room<0)=false∧decide (room>5000)=false∧decide (budget<0)=false∧decide (budget>10000)=false∧mayPrep T policy mask room budget=0∧T≤60∧(0≤room∧room≤5000)∧(0≤budget∧budget≤10000)):=by
 unfold mayPrep
 simp only [decide_eq_true_eq,decide_eq_false_iff_not]
 by_cases h1:60<T
 ·rw [if_pos h1];left;exact ⟨by omega,rfl⟩
 rw [if_neg h1]
 right
 cases hs:Mt.maySelect policy mask
 ·left
  exact ⟨by omega,rfl,if_neg (fun x=>by cases x.1)⟩
 right
 by_cases h2:room<0
 ·left;exact ⟨by omega,rfl,h2,if_neg (by omega)⟩
 right
 by_cases h3:room>5000
 ·left;exact ⟨by omega,rfl,h2,h3,if_neg (by omega)⟩
 right
 by_cases h4:budget<0
 ·left;exact ⟨by omega,rfl,h2,by omega,h4,if_neg (by omega)⟩
 right
 by_cases h5:budget>10000
 ·left;exact ⟨by omega,rfl,h2,by omega,h4,h5,if_neg (by omega)⟩
 right
 exact ⟨by omega,rfl,h2,by omega,h4,by omega,if_pos ⟨rfl,by omega,by omega,by omega,by omega⟩,by omega,by omega,by omega⟩
theorem prepare_any (p t:ByteArray) (policy mask room budget:Int) (w:World) (hm:p.size≤maxLen) (hmt:t.size≤maxLen):Calls Try.prog 30 #[.string p,.string t,.agg #[.int .i64 policy,.int .i64 mask,.int .i64 room,.int .i64 budget]] w fun e w'=>∃ v er,e=.returned (.tuple #[.agg v,.int .i64 er])∧PrepIs p t policy mask room budget w.heap.size v er w'∧Below w.heap.size w w':=by
 obtain ⟨W1,hW1⟩:∃ W1,W1=(w.alloc (.cells #[.int .i64 policy,.int .i64 mask,.int .i64 room,.int .i64 budget] 23)).alloc (.cells tk0 72):=⟨_,rfl⟩
 have B1:Below w.heap.size w W1:=by rw [hW1];exact ((Below.refl _ _).alloc (Nat.le_refl _) _).alloc (by simp) _
 have T1:W1.heap[w.heap.size]?=some (.cells #[.int .i64 policy,.int .i64 mask,.int .i64 room,.int .i64 budget] 23 (0,0)):=by rw [hW1];exact heap_b2 _ _ _
 have U1:W1.heap[w.heap.size+1]?=some (.cells tk0 72 (0,0)):=by rw [hW1];exact heap_b3 _ _ _
 have Z1:W1.heap.size=w.heap.size+2:=by rw [hW1];simp
 have HC:Hid (Calls Try.prog 19 #[.string p] W1 fun e w'=>∃ v,e=.returned (.tuple #[v,.int .i64 (Mt.codeR p).2])∧ownIns w' W1.heap.size v (Mt.codeR p).1∧Below W1.heap.size W1 w'):=Code_any p W1 hm
 have HIC:Hid (∀ z:World,Calls Try.prog 42 #[.int .i64 policy,.int .i64 mask] z fun e w'=>e=.returned (.bool (Mt.maySelect policy mask))∧z=w'):=fun z=>isChoice_any policy mask z
 have hl:=(Mt.codeR_fit p).2
 have HKN:Hid (∀ h0:(Mt.codeR p).2=0,(∃ A,Mt.Known (Mt.codeR p).1 A)∧Mt.Nest 0 (Mt.codeR p).1):=fun h0=>⟨Mt.pattern_known p (codeR_check p h0),Mt.pattern_nest p (codeR_check p h0)⟩
 have HMS:Hid (Mt.maySelect policy mask=true→0≤policy∧policy≤4∧0≤mask∧mask≤4294967295):=fun hms=>by unfold Mt.maySelect at hms;simpa using hms
 have HB1:Hid (Below w.heap.size w W1):=B1
 have HT1:Hid (W1.heap[w.heap.size]?=some (.cells #[.int .i64 policy,.int .i64 mask,.int .i64 room,.int .i64 budget] 23 (0,0))∧W1.heap[w.heap.size+1]?=some (.cells tk0 72 (0,0))∧W1.heap.size=w.heap.size+2):=⟨T1,U1,Z1⟩
 have hmt2:(t.size:Int)≤9223372036854775807:=by unfold maxLen at hmt;omega
 clear B1 T1 U1 Z1
 go_enter Try.func30,Try.ntmps30
 go_upto_region 1 with fail
 show Code.wp _ _ _ _ ((w.alloc (.cells #[.int .i64 policy,.int .i64 mask,.int .i64 room,.int .i64 budget] 23)).alloc (.cells tk0 72))
 rw [← hW1]
 clear hW1
 generalize hnn:w.heap.size=n at *
 generalize hKK:Mt.codeR p=K at *
 go_wp2_with fail
 refine HC.out.mono ?_
 rintro e w2 ⟨v,rfl,ho,hb2⟩
 have hz:=HT1.out.2.2
 have T2:w2.heap[n]?=some (.cells #[.int .i64 policy,.int .i64 mask,.int .i64 room,.int .i64 budget] 23 (0,0)):=(hb2.block n (by omega)).trans HT1.out.1
 have U2:w2.heap[n+1]?=some (.cells tk0 72 (0,0)):=(hb2.block (n+1) (by omega)).trans HT1.out.2.1
 have HB2:Hid (Below n w w2):=HB1.out.trans (hb2.mono (by omega))
 have HO:Hid (ownIns w2 (n+2) v K.1):=ho.base (by omega)
 have o0:w2.cell? ⟨n,0,none⟩=some (.int .i64 policy):=(cell_block T2).1 0
 have o1:w2.cell? ⟨n,1,none⟩=some (.int .i64 mask):=(cell_block T2).1 1
 have o2:w2.cell? ⟨n,2,none⟩=some (.int .i64 room):=(cell_block T2).1 2
 have o3:w2.cell? ⟨n,3,none⟩=some (.int .i64 budget):=(cell_block T2).1 3
 have HT2:Hid (w2.heap[n]?=some (.cells #[.int .i64 policy,.int .i64 mask,.int .i64 room,.int .i64 budget] 23 (0,0))∧n+1<w2.heap.size):=⟨T2,(Array.getElem?_eq_some_iff.1 U2).1⟩
 clear ho hb2 HC HT1 HB1 hz T2
 cases he:(K.2 != 0)
 ·have h0:K.2=0:=by simpa using he
  rcases mayPrep_cases t.size policy mask room budget with ⟨m1,me⟩ | ⟨m1,m2,me⟩ | ⟨m1,m2,m3,me⟩ | ⟨m1,m2,m3,m4,me⟩ | ⟨m1,m2,m3,m4,m5,me⟩ | ⟨m1,m2,m3,m4,m5,m6,me⟩ | ⟨m1,m2,m3,m4,m5,m6,me,ht60,hrr,hbb⟩
  ·have m1':decide (60<t.size)=true:=by rw [decide_eq_true_eq] at m1 ⊢;omega
   have HME:Hid (mayPrep t.size policy mask room budget=1∧K.2=0):=⟨me,h0⟩
   clear me h0
   go_wp2_with (refine store_blk 72 4 Try.sizeTk (by rfl) (.tmp 6) (.tmp 23) (by rfl) (n+1) tk0 (by rfl) (by rfl) U2 (by rfl) (by rfl) (by simp [tk0,Value.oneCell']) ?_;intro w9 q1 q2 q3 q4)
   refine bodyPost_ret (ret_blk2 72 4 Try.underlying72 rfl Try.sizeTk rfl (by rfl) q1 (by rfl)) rfl ⟨_,_,rfl,?_,?_⟩
   ·rw [← hKK] at HME
    exact ⟨rfl,by simp [tk0,Value.oneCell'],Or.inr (Or.inl ⟨HME.out.2,by rw [HME.out.1];omega,HME.out.1.symm⟩)⟩
   ·first | exact HB2.out.trans (q4 n (by omega)) | (rw [hnn];exact HB2.out.trans (q4 n (by omega)))
  ·have m1':decide (60<t.size)=false:=by rw [decide_eq_false_iff_not] at m1 ⊢;omega
   have HME:Hid (mayPrep t.size policy mask room budget=13∧K.2=0):=⟨me,h0⟩
   rw [m2] at HIC
   clear me h0
   go_wp2_with fail
   refine (HIC.out w2).mono ?_
   rintro e w3 ⟨rfl,rfl⟩
   go_wp2_with (refine store_blk 72 4 Try.sizeTk (by rfl) (.tmp 6) (.tmp 50) (by rfl) (n+1) tk0 (by rfl) (by rfl) U2 (by rfl) (by rfl) (by simp [tk0,Value.oneCell']) ?_;intro w9 q1 q2 q3 q4)
   refine bodyPost_ret (ret_blk2 72 4 Try.underlying72 rfl Try.sizeTk rfl (by rfl) q1 (by rfl)) rfl ⟨_,_,rfl,?_,?_⟩
   ·rw [← hKK] at HME
    exact ⟨rfl,by simp [tk0,Value.oneCell'],Or.inr (Or.inl ⟨HME.out.2,by rw [HME.out.1];omega,HME.out.1.symm⟩)⟩
   ·first | exact HB2.out.trans (q4 n (by omega)) | (rw [hnn];exact HB2.out.trans (q4 n (by omega)))
  ·have m1':decide (60<t.size)=false:=by rw [decide_eq_false_iff_not] at m1 ⊢;omega
   have HME:Hid (mayPrep t.size policy mask room budget=13∧K.2=0):=⟨me,h0⟩
   rw [m2] at HIC
   clear me h0
   go_wp2_with fail
   refine (HIC.out w2).mono ?_
   rintro e w3 ⟨rfl,rfl⟩
   go_wp2_with (refine store_blk 72 4 Try.sizeTk (by rfl) (.tmp 6) (.tmp 50) (by rfl) (n+1) tk0 (by rfl) (by rfl) U2 (by rfl) (by rfl) (by simp [tk0,Value.oneCell']) ?_;intro w9 q1 q2 q3 q4)
   refine bodyPost_ret (ret_blk2 72 4 Try.underlying72 rfl Try.sizeTk rfl (by rfl) q1 (by rfl)) rfl ⟨_,_,rfl,?_,?_⟩
   ·rw [← hKK] at HME
    exact ⟨rfl,by simp [tk0,Value.oneCell'],Or.inr (Or.inl ⟨HME.out.2,by rw [HME.out.1];omega,HME.out.1.symm⟩)⟩
   ·first | exact HB2.out.trans (q4 n (by omega)) | (rw [hnn];exact HB2.out.trans (q4 n (by omega)))
  ·have m1':decide (60<t.size)=false:=by rw [decide_eq_false_iff_not] at m1 ⊢;omega
   have HME:Hid (mayPrep t.size policy mask room budget=13∧K.2=0):=⟨me,h0⟩
   rw [m2] at HIC
   clear me h0
   go_wp2_with fail
   refine (HIC.out w2).mono ?_
   rintro e w3 ⟨rfl,rfl⟩
   go_wp2_with (refine store_blk 72 4 Try.sizeTk (by rfl) (.tmp 6) (.tmp 50) (by rfl) (n+1) tk0 (by rfl) (by rfl) U2 (by rfl) (by rfl) (by simp [tk0,Value.oneCell']) ?_;intro w9 q1 q2 q3 q4)
   refine bodyPost_ret (ret_blk2 72 4 Try.underlying72 rfl Try.sizeTk rfl (by rfl) q1 (by rfl)) rfl ⟨_,_,rfl,?_,?_⟩
   ·rw [← hKK] at HME
    exact ⟨rfl,by simp [tk0,Value.oneCell'],Or.inr (Or.inl ⟨HME.out.2,by rw [HME.out.1];omega,HME.out.1.symm⟩)⟩
   ·first | exact HB2.out.trans (q4 n (by omega)) | (rw [hnn];exact HB2.out.trans (q4 n (by omega)))
  ·have m1':decide (60<t.size)=false:=by rw [decide_eq_false_iff_not] at m1 ⊢;omega
   have HME:Hid (mayPrep t.size policy mask room budget=13∧K.2=0):=⟨me,h0⟩
   rw [m2] at HIC
   clear me h0
   go_wp2_with fail
   refine (HIC.out w2).mono ?_
   rintro e w3 ⟨rfl,rfl⟩
   go_wp2_with (refine store_blk 72 4 Try.sizeTk (by rfl) (.tmp 6) (.tmp 50) (by rfl) (n+1) tk0 (by rfl) (by rfl) U2 (by rfl) (by rfl) (by simp [tk0,Value.oneCell']) ?_;intro w9 q1 q2 q3 q4)
   refine bodyPost_ret (ret_blk2 72 4 Try.underlying72 rfl Try.sizeTk rfl (by rfl) q1 (by rfl)) rfl ⟨_,_,rfl,?_,?_⟩
   ·rw [← hKK] at HME
    exact ⟨rfl,by simp [tk0,Value.oneCell'],Or.inr (Or.inl ⟨HME.out.2,by rw [HME.out.1];omega,HME.out.1.symm⟩)⟩
   ·first | exact HB2.out.trans (q4 n (by omega)) | (rw [hnn];exact HB2.out.trans (q4 n (by omega)))
  ·have m1':decide (60<t.size)=false:=by rw [decide_eq_false_iff_not] at m1 ⊢;omega
   have HME:Hid (mayPrep t.size policy mask room budget=13∧K.2=0):=⟨me,h0⟩
   rw [m2] at HIC
   clear me h0
   go_wp2_with fail
   refine (HIC.out w2).mono ?_
   rintro e w3 ⟨rfl,rfl⟩
   go_wp2_with (refine store_blk 72 4 Try.sizeTk (by rfl) (.tmp 6) (.tmp 50) (by rfl) (n+1) tk0 (by rfl) (by rfl) U2 (by rfl) (by rfl) (by simp [tk0,Value.oneCell']) ?_;intro w9 q1 q2 q3 q4)
   refine bodyPost_ret (ret_blk2 72 4 Try.underlying72 rfl Try.sizeTk rfl (by rfl) q1 (by rfl)) rfl ⟨_,_,rfl,?_,?_⟩
   ·rw [← hKK] at HME
    exact ⟨rfl,by simp [tk0,Value.oneCell'],Or.inr (Or.inl ⟨HME.out.2,by rw [HME.out.1];omega,HME.out.1.symm⟩)⟩
   ·first | exact HB2.out.trans (q4 n (by omega)) | (rw [hnn];exact HB2.out.trans (q4 n (by omega)))
  ·have m1':decide (60<t.size)=false:=by rw [decide_eq_false_iff_not] at m1 ⊢;omega
   have HME:Hid (mayPrep t.size policy mask room budget=0∧K.2=0):=⟨me,h0⟩
   obtain ⟨⟨A,hKn⟩,hN⟩:=HKN.out h0
   have hms':=HMS.out m2
   rw [m2] at HIC
   obtain ⟨g,cap,rfl,_,_⟩:=World.ownsRow.form HO.out hKn.pos
   have HCC:Hid (Calls Try.prog 43 #[.slice (some ⟨g,0,none⟩) K.1.length cap,.int .i64 policy,.int .i64 mask] w2 fun e w'=>∃ q nq cp,e=.returned (.slice (some ⟨q,0,none⟩) nq cp)∧nq=(Mt.numsTo (Mt.chosen K.1 policy mask) K.1.length).length∧rInts w' w2.heap.size (.slice (some ⟨q,0,none⟩) nq cp) (Mt.numsTo (Mt.chosen K.1 policy mask) K.1.length)∧Below w2.heap.size w2 w'):=codeChosen_any _ hKn.ok hN policy mask ⟨hms'.1,hms'.2.1⟩ hms'.2.2.1 hms'.2.2.2 hl g cap w2 (HO.out.base (Nat.zero_le _))
   have hpos:=hKn.pos
   clear me h0 hKn hN hms' HKN
   go_wp2_with fail
   refine (HIC.out w2).mono ?_
   rintro e w3 ⟨rfl,rfl⟩
   go_wp2_with fail
   refine HCC.out.mono ?_
   rintro e w4 ⟨q,nq,cq,rfl,hn,hrq,hb4⟩
   have T4:w4.heap[n]?=some (.cells #[.int .i64 policy,.int .i64 mask,.int .i64 room,.int .i64 budget] 23 (0,0)):=(hb4.block n (by have:=HT2.out.2;omega)).trans HT2.out.1
   have U4:w4.heap[n+1]?=some (.cells tk0 72 (0,0)):=(hb4.block (n+1) HT2.out.2).trans U2
   have p2:w4.cell? ⟨n,2,none⟩=some (.int .i64 room):=(cell_block T4).1 2
   have HB4:Hid (Below n w w4):=HB2.out.trans (hb4.mono (by have:=HT2.out.2;omega))
   have HR4:Hid (ownIns w4 n (.slice (some ⟨g,0,none⟩) K.1.length cap) K.1∧rInts w4 n (.slice (some ⟨q,0,none⟩) nq cq) (Mt.numsTo (Mt.chosen K.1 policy mask) K.1.length)∧nq=(Mt.numsTo (Mt.chosen K.1 policy mask) K.1.length).length∧g≠n+1∧q≠n+1):=by
    have h1:=(World.ownsRow.lt HO.out g rfl).1
    have h2:=(World.ownsRow.lt hrq q rfl).1
    have h3:=HT2.out.2
    exact ⟨(HO.out.below hb4).base (by omega),owns_base hrq (by omega),hn,by omega,by omega⟩
   clear hb4 hrq hn T4 U2 o0 o1 o2 o3 HCC HIC
   go_wp2_with (refine store_blk 72 4 Try.sizeTk (by rfl) (.tmp 6) (.tmp 62) (by rfl) (n+1) #[.slice (some ⟨g,0,none⟩) K.1.length cap,.slice (some ⟨q,0,none⟩) nq cq,.string t,.int .i64 room] (by rfl) (by rfl) U4 (by rfl) (by rfl) (by simp [tk0,Value.oneCell']) ?_;intro w9 q1 q2 q3 q4)
   refine bodyPost_ret (ret_blk2 72 4 Try.underlying72 rfl Try.sizeTk rfl (by rfl) q1 (by rfl)) rfl ⟨_,_,rfl,?_,?_⟩
   ·rw [← hKK] at HME HR4
    obtain ⟨h1,h2,h3,h4,h5⟩:=HR4.out
    have k1:ownIns w9 n (.slice (some ⟨g,0,none⟩) (Mt.codeR p).1.length cap) (Mt.codeR p).1:=row_keep h1 (fun i hi=>by cases hi;exact q2 g h4)
    have k2:rInts w9 n (.slice (some ⟨q,0,none⟩) nq cq) (Mt.numsTo (Mt.chosen (Mt.codeR p).1 policy mask) (Mt.codeR p).1.length):=by
     unfold rInts at h2 ⊢
     rw [← h3] at h2 ⊢
     exact row_keep h2 (fun i hi=>by cases hi;exact q2 q h5)
    refine ⟨rfl,by simp [Value.oneCell'],Or.inr (Or.inr ⟨HME.out.2,HME.out.1,rfl,g,cap,q,nq,cq,by rw [hKK],?_,?_,h3⟩)⟩
    ·first | exact k1 | (rw [hnn];exact k1)
    ·first | exact k2 | (rw [hnn];exact k2)
   ·first | exact HB4.out.trans (q4 n (by omega)) | (rw [hnn];exact HB4.out.trans (q4 n (by omega)))
 ·have HKE:Hid (K.2≠0):=by show _≠_;simpa using he
  go_wp2_with (refine store_blk 72 4 Try.sizeTk (by rfl) (.tmp 6) (.tmp 18) (by rfl) (n+1) tk0 (by rfl) (by rfl) U2 (by rfl) (by rfl) (by simp [tk0,Value.oneCell']) ?_;intro w9 q1 q2 q3 q4)
  refine bodyPost_ret (ret_blk2 72 4 Try.underlying72 rfl Try.sizeTk rfl (by rfl) q1 (by rfl)) rfl ⟨_,_,rfl,?_,?_⟩
  ·rw [← hKK] at HKE
   exact ⟨rfl,by simp [tk0,Value.oneCell'],Or.inl ⟨HKE.out,by rw [hKK]⟩⟩
  ·first | exact HB2.out.trans (q4 n (by omega)) | (rw [hnn];exact HB2.out.trans (q4 n (by omega)))
end Go.Proofs.Ytebpgfodelggoab
