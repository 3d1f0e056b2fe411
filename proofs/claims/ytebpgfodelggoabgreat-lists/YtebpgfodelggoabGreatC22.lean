import Derived.Test.YtebpgfodelggoabGreatC12
import Derived.Deep.QuietTactic
import Derived.BigQuiet
import Derived.Test.YtebpgfodelggoabGreatC15
import Derived.Test.YtebpgfodelggoabGreatC21
set_option linter.unusedVariables false
set_option linter.unusedSimpArgs false
set_option maxRecDepth 100000
set_option maxHeartbeats 4000000
namespace Go.Proofs.YtebpgfodelggoabGreat
open Go.RowKit
def zAa (T:Nat) (frm policy mask room budget:Int):Int :=
 if 60<T then 1
 else if Mt.kF policy mask=true∧0≤frm∧frm≤T∧0≤room∧room≤5000∧0≤budget∧budget≤10000 then 0 else 13
theorem zG8 (T:Nat) (frm policy mask room budget:Int) (hT:¬ 60<T) :
  (Mt.kF policy mask=false∧zAa T frm policy mask room budget=13) ∨
  (Mt.kF policy mask=true∧decide (frm<0)=true∧zAa T frm policy mask room budget=13) ∨
  (Mt.kF policy mask=true∧decide (frm<0)=false∧decide ((T:Int)<frm)=true∧zAa T frm policy mask room budget=13) ∨
  (Mt.kF policy mask=true∧decide (frm<0)=false∧decide ((T:Int)<frm)=false∧decide (room<0)=true∧zAa T frm policy mask room budget=13) ∨
  (Mt.kF policy mask=true∧decide (frm<0)=false∧decide ((T:Int)<frm)=false∧decide (room<0)=false∧decide (5000<room)=true∧zAa T frm policy mask room budget=13) ∨
  (Mt.kF policy mask=true∧decide (frm<0)=false∧decide ((T:Int)<frm)=false∧decide (room<0)=false∧decide (5000<room)=false∧decide (budget<0)=true∧zAa T frm policy mask room budget=13) ∨
  (Mt.kF policy mask=true∧decide (frm<0)=false∧decide ((T:Int)<frm)=false∧decide (room<0)=false∧decide (5000<room)=false∧decide (budget<0)=false∧decide (10000<budget)=true∧zAa T frm policy mask room budget=13) ∨
  (Mt.kF policy mask=true∧decide (frm<0)=false∧decide ((T:Int)<frm)=false∧decide (room<0)=false∧decide (5000<room)=false∧decide (budget<0)=false∧decide (10000<budget)=false∧zAa T frm policy mask room budget=0):=by
 unfold zAa
 rw [if_neg hT]
 simp only [decide_eq_true_eq,decide_eq_false_iff_not]
 cases Mt.kF policy mask
 ·left;simp
 ·right
  by_cases h:(true=true∧0≤frm∧frm≤(T:Int)∧0≤room∧room≤5000∧0≤budget∧budget≤10000)
  ·rw [if_pos h];simp at h ⊢;omega
  ·rw [if_neg h];simp at h ⊢;omega
theorem zJD (text:ByteArray) (frm policy mask room budget:Int) (w:World) (hm:text.size≤maxLen) :
  Calls Tryz.prog 49 #[.string text,.int .i64 frm,.agg #[.int .i64 policy,.int .i64 mask,.int .i64 room,.int .i64 budget]] w fun e w'=>e=.returned (.int .i64 (zAa text.size frm policy mask room budget))∧Below w.heap.size w w':=by
 have KS:Hid (∀ b,Mt.kF policy mask=b→∀ z,Calls Tryz.prog 45 #[.int .i64 policy,.int .i64 mask] z fun e w'=>e=.returned (.bool b)∧z=w'):=fun b hb z=>by rw [← hb];exact zGY policy mask z
 unfold maxLen at hm
 by_cases hT:60<text.size
 ·have e:zAa text.size frm policy mask room budget=1:=by unfold zAa;rw [if_pos hT]
  rw [e];clear e
  go_enter Tryz.func49,Tryz.ntmps49
  go_wp2_with fail
  go_ret
  exact ⟨rfl,by go_grown⟩
 ·rcases zG8 text.size frm policy mask room budget hT with ⟨a1,e⟩ | ⟨a1,a2,e⟩ | ⟨a1,a2,a3,e⟩ | ⟨a1,a2,a3,a4,e⟩ | ⟨a1,a2,a3,a4,a5,e⟩ | ⟨a1,a2,a3,a4,a5,a6,e⟩ | ⟨a1,a2,a3,a4,a5,a6,a7,e⟩ | ⟨a1,a2,a3,a4,a5,a6,a7,e⟩
  all_goals
   rw [e];clear e
   have A1:Hid (Mt.kF policy mask=_):=a1
   clear a1
   go_enter Tryz.func49,Tryz.ntmps49
   go_wp2_with fail
   refine (KS.out _ A1.out _).mono ?_
   rintro e w' ⟨rfl,rfl⟩
   go_wp2_with fail
   first | go_quiet (fail) | skip
   go_wp2_with fail
   go_ret
   exact ⟨rfl,by first | go_grown | exact below_drewN ((Below.refl _ _).alloc (Nat.le_refl _) _) _⟩
def jV (c:List Mt.Ins) (k:Nat):List Int:=(List.range k).map fun p=>(Mt.kS c p:Int)
theorem zG9 (c:List Mt.Ins) (k:Nat):jV c (k+1)=jV c k++[(Mt.kS c k:Int)]:=by
 unfold jV;rw [List.range_succ,List.map_append];rfl
theorem zCx (c:List Mt.Ins) (k:Nat):(jV c k).length=k:=by simp [jV]
theorem zQI (L T:Nat) (h1:L≤300) (h2:T≤60):L*(T+1)*12≤219600∧(0:Int)≤(L:Int)*((T:Int)+1)∧(L:Int)*((T:Int)+1)≤18300:=by
 have a:L*(T+1)≤300*61:=Nat.mul_le_mul h1 (by omega)
 refine ⟨by omega,Int.mul_nonneg (by omega) (by omega),?_⟩
 have:=Int.mul_le_mul (show (L:Int)≤300 by omega) (show (T:Int)+1≤61 by omega) (by omega) (by omega)
 omega
theorem zMY (c:List Mt.Ins) (text:ByteArray) (policy mask room b0 budget:Int) (gc cc:Nat) (w:World) (h:zB w 0 (.slice (some ⟨gc,0,none⟩) c.length cc) c) (hl0:0<c.length) (hl:c.length≤300) (hf:Mt.fit 100000000 c) (ht:text.size≤60) (hm0:0≤mask) (hm1:mask≤4294967295) :
  Calls Tryz.prog 50 #[.slice (some ⟨gc,0,none⟩) c.length cc,.string text,.agg #[.int .i64 policy,.int .i64 mask,.int .i64 room,.int .i64 b0],.int .i64 budget] w fun e w' =>
   ∃ wb gi ga gk ci ca ck,e=.returned (.pointer (some ⟨wb,0,none⟩))∧zM w' wb gc gi ga gk cc ci ca ck c text (Mt.chosen c policy mask) (jV c c.length) budget (List.replicate (c.length*(text.size+1)*12) false) room 0 false∧Below w.heap.size w w'∧w.heap.size≤wb∧w.heap.size≤gk:=by
 have H:Hid (zB w 0 (.slice (some ⟨gc,0,none⟩) c.length cc) c):=h
 have hgc:gc<w.heap.size:=(World.ownsRow.lt h gc rfl).2
 have HF:Hid (Mt.fit 100000000 c):=hf
 obtain ⟨i0,hi,hz0,hz1,hz2⟩:=info_parts Tryz.info3
 obtain ⟨j0,hj,hy0,hy1,hy2⟩:=info_parts Tryz.info4
 have hb3:=zQI c.length text.size hl ht
 clear h hf
 go_enter Tryz.func50,Tryz.ntmps50
 go_wp2_with fail
 refine (zLl c policy mask 0 _ _ (H.out.below (by go_grown)) hl hm0 hm1).mono ?_
 rintro e w1 ⟨vi,rfl,qi,hb1⟩
 have hs1:=hb1.size
 have hblk:w1.heap[w.heap.size+1]?=some (.cells #[.slice (some ⟨gc,0,none⟩) c.length cc,.string text,.slice none 0 0,.slice none 0 0,.slice none 0 0,.int .i64 room,.int .i64 budget,.int .i64 0,.bool false] 93 (0,0)):=by
  rw [hb1.block _ (by simp)];exact zBZ _ _ _
 have hB1:Below w.heap.size w w1:=(((Below.refl _ _).alloc (Nat.le_refl _) _).alloc (by simp) _).trans (hb1.mono (by simp;omega))
 have hcl:=Mt.zLh c policy mask
 obtain ⟨gi,ci,hvi,zUC,zTX⟩:∃ gi ci,vi=.slice (some ⟨gi,0,none⟩) c.length ci∧w.heap.size+2≤gi∧gi<w1.heap.size:=by
  rcases qi.2 with ⟨_,hn⟩ | ⟨g,cap,cur,rfl,hbs,hg,_⟩
  ·omega
  ·exact ⟨g,cap,by rw [hcl],by simpa using hbs,(Array.getElem?_eq_some_iff.1 hg).1⟩
 subst hvi
 have QI:Hid (jH w1 0 (.slice (some ⟨gi,0,none⟩) (Mt.chosen c policy mask).length ci) (Mt.chosen c policy mask)):=by
  show jH _ _ _ _
  have:=kQ qi (Nat.zero_le _)
  rw [hcl];exact this
 have HI1:Hid (zB w1 0 (.slice (some ⟨gc,0,none⟩) c.length cc) c):=H.out.below hB1
 have hcb:=zA hblk
 have z1:=hcb.1
 have z2:=hcb.2
 have zTY:w.heap.size+2≤w1.heap.size:=by have:=hs1;simp at this;omega
 have hlt1:w.heap.size+1<w1.heap.size:=by omega
 have HBL:Hid (w1.heap[w.heap.size+1]?=some (.cells #[.slice (some ⟨gc,0,none⟩) c.length cc,.string text,.slice none 0 0,.slice none 0 0,.slice none 0 0,.int .i64 room,.int .i64 budget,.int .i64 0,.bool false] 93 (0,0))):=hblk
 have HCL:Hid ((Mt.chosen c policy mask).length=c.length):=hcl
 have zUD:=hb3.1
 have zUE:=hb3.2.1
 have zUF:=hb3.2.2
 clear qi hb1 hs1 hblk hcb hcl hb3 H
 go_wp2_with fail
 obtain ⟨w2,hW2⟩:∃ w2,w2=w1.setCell ⟨w.heap.size+1,2,none⟩ (.slice (some ⟨gi,0,none⟩) c.length ci):=⟨_,rfl⟩
 rw [← hW2]
 have hO:∀ k,k≠w.heap.size+1→w2.heap[k]?=w1.heap[k]?:=fun k hk=>by rw [hW2];exact Below.heap_setCell _ _ _ _ hk
 have zTZ:Hid (w2.heap[w.heap.size+1]?=some (.cells #[.slice (some ⟨gc,0,none⟩) c.length cc,.string text,.slice (some ⟨gi,0,none⟩) c.length ci,.slice none 0 0,.slice none 0 0,.int .i64 room,.int .i64 budget,.int .i64 0,.bool false] 93 (0,0))):=by
  show _=_;rw [hW2];exact Go.heap_setCell_same w1 _ 2 _ _ _ HBL.out
 have QI2:Hid (jH w2 0 (.slice (some ⟨gi,0,none⟩) (Mt.chosen c policy mask).length ci) (Mt.chosen c policy mask)):=jR QI.out (hO gi (by omega))
 have HI2:Hid (zB w2 0 (.slice (some ⟨gc,0,none⟩) c.length cc) c):=jR HI1.out (hO gc (by omega))
 have hB2:Below w.heap.size w w2:=by rw [hW2];exact hB1.setCell (p:=⟨w.heap.size+1,2,none⟩) (by simp) _
 have hs2:w2.heap.size=w1.heap.size:=by rw [hW2];simp [World.setCell]
 have zUG:w.heap.size+2≤w2.heap.size:=by omega
 have zUH:gi<w2.heap.size:=by omega
 clear hO hW2 QI HI1 HBL z1 z2 hB1 zTY hs2 zTX hlt1
 go_loopw [10] (fun i wr=>∃ (k:Nat) (va:Value),k≤c.length∧i=.int .i64 k∧wr.heap[w.heap.size+1]?=some (.cells #[.slice (some ⟨gc,0,none⟩) c.length cc,.string text,.slice (some ⟨gi,0,none⟩) c.length ci,va,.slice none 0 0,.int .i64 room,.int .i64 budget,.int .i64 0,.bool false] 93 (0,0))∧zBY wr w2.heap.size va (jV c k)∧w2.heap.size≤wr.heap.size∧wr.os=w2.os∧wr.tape=w2.tape∧wr.output=w2.output∧(∀ q,q<w2.heap.size→q≠w.heap.size+1→wr.heap[q]?=w2.heap[q]?)) (fun i _=>c.length-(intOf i).toNat)
 case atStart=>exact ⟨0,_,Nat.zero_le _,rfl,zTZ.out,World.ownsRow_nil _ _ _ _,Nat.le_refl _,rfl,rfl,rfl,fun _ _ _=>rfl⟩
 case round =>
  obtain ⟨k,va,hk,rfl,hblk,hown,hsz,o1,o2,o3,hO⟩:=hrel
  have HBK:Hid (wr.heap[w.heap.size+1]?=some (.cells #[.slice (some ⟨gc,0,none⟩) c.length cc,.string text,.slice (some ⟨gi,0,none⟩) c.length ci,va,.slice none 0 0,.int .i64 room,.int .i64 budget,.int .i64 0,.bool false] 93 (0,0))):=hblk
  have hcb:=zA hblk
  have z1:=hcb.1
  have z2:=hcb.2
  have zTn:w.heap.size+1<wr.heap.size:=by omega
  have OS:Hid (wr.os=w2.os∧wr.tape=w2.tape∧wr.output=w2.output):=⟨o1,o2,o3⟩
  have HOO:Hid (∀ q,q<w2.heap.size→q≠w.heap.size+1→wr.heap[q]?=w2.heap[q]?):=hO
  have HOW:Hid (zBY wr w2.heap.size va (jV c k)):=hown
  have HIr:Hid (zB wr 0 (.slice (some ⟨gc,0,none⟩) c.length cc) c):=jR HI2.out (hO gc (by omega) (by omega))
  have hln:=zCx c k
  have HLN:Hid ((jV c k).length=k):=hln
  clear hcb hblk o1 o2 o3 hO hown hln
  by_cases hlt:k<c.length
  ·have hla:=Mt.zDZ c k
   go_wp2_with (first | (go_at_call 22;refine (zMI c _ 0 _ _ HIr.out HF.out (by omega)).mono ?_;rintro e w' ⟨rfl,rfl⟩) | (at_builtin;refine wpList_append_own _ rfl _ _ 51 rfl w2.heap.size 3 i0 _ 1 8 Tryz.underlying51 hi hz0 hz1 hz2 rfl (by decide) _ _ _ rfl (World.ownsRow.alloc HOW.out _) ⟨wr.heap.size,0,none⟩ 1 1 [.int .i64 (Mt.kS c k:Int)] rfl rfl (vS _ _ _) (by simp [Value.oneCell']) ?_ ?_ ?_ ?_;rotate_right))
   ·intro v' w3 hown' hgrow _
    have hlo:∀ q,va.ownBlock=some q→w2.heap.size≤q:=fun q hq=>(World.ownsRow.lt HOW.out q hq).1
    have h3:∀ q,q<wr.heap.size→(∀ p,va.ownBlock=some p→p≠q)→w3.heap[q]?=wr.heap[q]?:=fun q hq hne=>by
     rw [hgrow.block q (by simp;omega) (fun e=>hne q e.symm rfl)];exact kG _ _ _ hq
    have HB3:w3.heap[w.heap.size+1]?=some (.cells #[.slice (some ⟨gc,0,none⟩) c.length cc,.string text,.slice (some ⟨gi,0,none⟩) c.length ci,va,.slice none 0 0,.int .i64 room,.int .i64 budget,.int .i64 0,.bool false] 93 (0,0)):=by
     rw [h3 _ zTn (fun p hp=>by have:=hlo p hp;omega)];exact HBK.out
    have zQJ:=zA HB3
    have y1:=zQJ.1
    have y2:=zQJ.2
    have zR3:zBY w3 w2.heap.size v' (jV c (k+1)):=by
     unfold zBY
     rw [zG9,List.length_append,List.map_append]
     exact hown'
    obtain ⟨g4,c4,hv4⟩:∃ g4 c4,v'=.slice (some ⟨g4,0,none⟩) (jV c (k+1)).length c4:=by
     rcases zR3.2 with ⟨_,hn⟩ | ⟨g,cap,cur,e,_⟩
     ·rw [zCx] at hn;omega
     ·exact ⟨g,cap,e⟩
    rw [zCx] at hv4
    subst hv4
    generalize hV:(Value.slice (some ⟨g4,0,none⟩) (k+1) c4)=v' at hown' zR3 ⊢
    have HB4:Hid ((w3.setCell ⟨w.heap.size+1,3,none⟩ v').heap[w.heap.size+1]?=some (.cells #[.slice (some ⟨gc,0,none⟩) c.length cc,.string text,.slice (some ⟨gi,0,none⟩) c.length ci,v',.slice none 0 0,.int .i64 room,.int .i64 budget,.int .i64 0,.bool false] 93 (0,0))):=Go.heap_setCell_same w3 _ 3 _ _ v' HB3
    have zT0:Hid (zBY (w3.setCell ⟨w.heap.size+1,3,none⟩ v') w2.heap.size v' (jV c (k+1))) :=
     World.ownsRow.kept zR3 (zDu w3 ⟨w.heap.size+1,3,none⟩ v') (Or.inr (fun e=>by have:=(World.ownsRow.lt zR3 _ e).1;simp at this;omega))
    have hs3:wr.heap.size≤w3.heap.size:=by have:=hgrow.size;simp at this;omega
    have HS4:Hid (w2.heap.size≤(w3.setCell ⟨w.heap.size+1,3,none⟩ v').heap.size∧(w3.setCell ⟨w.heap.size+1,3,none⟩ v').os=w2.os∧(w3.setCell ⟨w.heap.size+1,3,none⟩ v').tape=w2.tape∧(w3.setCell ⟨w.heap.size+1,3,none⟩ v').output=w2.output∧(∀ q,q<w2.heap.size→q≠w.heap.size+1→(w3.setCell ⟨w.heap.size+1,3,none⟩ v').heap[q]?=w2.heap[q]?)):=by
     refine ⟨by
          have:(w3.setCell ⟨w.heap.size+1,3,none⟩ v').heap.size=w3.heap.size:=by simp [World.setCell]
          omega,hgrow.os.trans OS.out.1,hgrow.tape.trans OS.out.2.1,hgrow.output.trans OS.out.2.2,fun q hq hne=>?_⟩
     rw [Below.heap_setCell _ _ _ _ hne,h3 q (by omega) (fun p hp=>by have:=hlo p hp;omega)]
     exact HOO.out q hq hne
    have hlt3:w.heap.size+1<w3.heap.size:=by omega
    clear hown' hgrow hlo h3 HB3 zQJ zR3 HOW HIr HOO OS HBK z1 z2
    subst hV
    go_wp2_with fail
    go_roundw
    case rel=>exact ⟨k+1,_,by omega,by go_num,HB4.out,zT0.out,HS4.out.1,HS4.out.2.1,HS4.out.2.2.1,HS4.out.2.2.2.1,HS4.out.2.2.2.2⟩
    case measure=>simp [intOf];omega
   ·unfold maxLen;have:=HLN.out;omega
   ·have:=HLN.out;omega
   ·simp;omega
  ·have hk2:k=c.length:=by omega
   subst hk2
   obtain ⟨ga,ca,hva,zUI,zUJ⟩:∃ ga ca,va=.slice (some ⟨ga,0,none⟩) c.length ca∧w2.heap.size≤ga∧ga<wr.heap.size:=by
    rcases HOW.out.2 with ⟨_,hn⟩ | ⟨g,cap,cur,rfl,hbs,hg,_⟩
    ·have:=HLN.out;omega
    ·exact ⟨g,cap,by rw [HLN.out],hbs,(Array.getElem?_eq_some_iff.1 hg).1⟩
   subst hva
   go_wp2_with (first | (at_make;refine wpList_make_full _ rfl (.tmp 54) (.tmp 54) 81 rfl wr.heap.size 4 j0 (.bool false) 1 Tryz.underlying81 hj hy0 hy1 .i64 .i64 _ _ (c.length*(text.size+1)*12) rfl rfl (by simp) (by simp) (by rw [hy2];omega) (by unfold maxLen;omega) (Nat.le_refl _) ?_;intro w3 hmk hgr;have hO3:∀ q,q<wr.heap.size→w3.heap[q]?=wr.heap[q]?:=fun q hq=>hgr.block q hq (by simp);have HO3:Hid (∀ q,q<wr.heap.size→w3.heap[q]?=wr.heap[q]?):=hO3;have HB3:Hid (w3.heap[w.heap.size+1]?=wr.heap[w.heap.size+1]?):=hO3 _ zTn;have zQJ:=zA (HB3.out.trans HBK.out);have y1:=zQJ.1;have y2:=zQJ.2;have hmk':=zD0 hmk;have HMK:Hid (jH w3 wr.heap.size (.slice (some ⟨wr.heap.size,0,none⟩) (c.length*(text.size+1)*12) (c.length*(text.size+1)*12)) (List.replicate (c.length*(text.size+1)*12) false)):=hmk';have hs3:wr.heap.size≤w3.heap.size:=hgr.size;have OG:Hid (w3.os=w2.os∧w3.tape=w2.tape∧w3.output=w2.output):=⟨hgr.os.trans OS.out.1,hgr.tape.trans OS.out.2.1,hgr.output.trans OS.out.2.2⟩;have hlt3:w.heap.size+1<w3.heap.size:=(by omega);clear hmk hmk' hgr hO3 zQJ z1 z2) | fail)
   go_returns
   have hne:∀ q,q≠w.heap.size+1→q<wr.heap.size→(w3.setCell ⟨w.heap.size+1,4,none⟩ (.slice (some ⟨wr.heap.size,0,none⟩) (c.length*(text.size+1)*12) (c.length*(text.size+1)*12))).heap[q]?=wr.heap[q]?:=fun q h1 h2=>by
    rw [Below.heap_setCell _ _ _ _ h1];exact HO3.out q h2
   refine ⟨w.heap.size+1,gi,ga,wr.heap.size,ci,ca,c.length*(text.size+1)*12,rfl,⟨?_,?_,?_,?_,?_,HCL.out,HLN.out,by omega⟩,?_,by omega,by omega⟩
   ·rw [List.length_replicate];exact Go.heap_setCell_same w3 _ 4 _ _ _ (HB3.out.trans HBK.out)
   ·exact jR HIr.out (hne gc (by omega) (by omega))
   ·exact jR QI2.out ((hne gi (by omega) (by omega)).trans (HOO.out gi (by omega) (by omega)))
   ·have:=kQ HOW.out (Nat.zero_le _)
    unfold zBY
    rw [HLN.out] at this ⊢
    exact jR this (hne ga (by omega) (by omega))
   ·have:=kQ HMK.out (Nat.zero_le _)
    unfold jH
    rw [List.length_replicate] at this ⊢
    exact jR this (Below.heap_setCell _ _ _ _ (by show wr.heap.size≠w.heap.size+1;omega))
   ·refine ⟨OG.out.1.trans hB2.os,OG.out.2.1.trans hB2.tape,OG.out.2.2.trans hB2.output,?_,?_⟩
    ·have:(w3.setCell ⟨w.heap.size+1,4,none⟩ (.slice (some ⟨wr.heap.size,0,none⟩) (c.length*(text.size+1)*12) (c.length*(text.size+1)*12))).heap.size=w3.heap.size:=by simp [World.setCell]
     omega
    ·intro q hq
     rw [hne q (by omega) (by omega),HOO.out q (by omega) (by omega)]
     exact hB2.block q hq
theorem zKv (wb gc gi ga gk cc ci ca ck:Nat) (c:List Mt.Ins) (text:ByteArray) (inn:List Bool) (ar:List Int) (budget:Int) (hE:zF6 c text ar) (hb0:0≤budget) (hb1:budget≤10000) :
  ∀ (N n:Nat),n≤N→(n:Int)≤budget→zGs wb gc gi ga gk cc ci ca ck c text inn ar budget n
 | 0,n,h,hn=>zKq wb gc gi ga gk cc ci ca ck c text inn ar budget hE hb0 hb1 n hn (fun m hm=>by omega)
 | N+1,n,h,hn=>zKq wb gc gi ga gk cc ci ca ck c text inn ar budget hE hb0 hb1 n hn (fun m hm=>zKv wb gc gi ga gk cc ci ca ck c text inn ar budget hE hb0 hb1 N m (by omega) (by omega))
theorem zR4 (p:ByteArray) (text:ByteArray) (h:(Mt.kR p).2=0) (ht:text.size≤60):zF6 (Mt.kR p).1 text (jV (Mt.kR p).1 (Mt.kR p).1.length)∧0<(Mt.kR p).1.length:=by
 have hk:(Mt.jQ p).1=0:=by
  unfold Mt.kR at h
  by_cases h0:(Mt.jQ p).1=0
  ·exact h0
  ·rw [if_pos h0] at h;exact h
 obtain ⟨f,hw,e,hf,hd,hl,hc,_⟩:=Mt.zBt p hk
 rw [hc]
 have hlen:(f.re.code 0 0++[(⟨13,0,0,[]⟩:Mt.Ins)]).length=f.re.len+1:=by rw [List.length_append,Mt.Re.zH];rfl
 have hg:∀ q,q<(f.re.code 0 0++[(⟨13,0,0,[]⟩:Mt.Ins)]).length→(jV (f.re.code 0 0++[(⟨13,0,0,[]⟩:Mt.Ins)]) (f.re.code 0 0++[(⟨13,0,0,[]⟩:Mt.Ins)]).length).getD q 0=(Mt.kS (f.re.code 0 0++[(⟨13,0,0,[]⟩:Mt.Ins)]) q:Int):=by
  intro q hq
  unfold jV
  rw [List.getD_eq_getElem?_getD,List.getElem?_map,List.getElem?_range hq];rfl
 refine ⟨⟨by omega,ht,Mt.zFq _ hf hd,fun q hq=>?_,fun q hq=>?_⟩,by omega⟩
 ·rw [hg q hq]
  have:=Mt.zDZ (f.re.code 0 0++[(⟨13,0,0,[]⟩:Mt.Ins)]) q
  omega
 ·rw [hg q (by omega)]
  have hq2:q=(f.re.code 0 0).length:=by rw [Mt.Re.zH];omega
  rw [hq2,Mt.zIq _ _ (by simp)]
  simp
theorem zAS {ops:Array Oper} {rest:List Oper} {op:Oper} {a:Act} {w:World} {Q:Exit→Act→World→Prop} (hgd:op.guard=none) (x:Operand) (ho:op.op=.load 57 x)
  (b:Nat) (hx:a.eval x=.pointer (some ⟨b,0,none⟩)) {t:TypeId} {A:Array Value} (hA:w.heap[b]?=some (.cells A t (0,0))) (hs:A.size=22)
  (h:wpList Tryz.prog ops Q rest (a.put op.dst (.agg A)) w):wpList Tryz.prog ops Q (op::rest) a w :=
 wpList_load_mid hgd _ x ho b 0 hx A.toList _ (yP hA) Tryz.underlying57 rfl (by rw [Tryz.size57];simp [hs]) h
theorem zGx (E:Mt.Env) (hc:Mt.codeOk E.c) (hc0:0<E.c.length) (budget:Int):∀ (f p n:Nat) (kn:List Bool) (room:Int),p+f≤E.t.size+1→(0≤room∧room≤5000)→(Mt.search E budget f p n kn room).1.at'.length=20
 | 0,p,n,kn,room,_,_=>rfl
 | f+1,p,n,kn,room,hp,hr=>by
  have hg:=Mt.yC E hc n n (Mt.kH p) kn room (Nat.le_refl _) (Mt.zAm _ _ p hc0 (by omega)) hr
  rw [Mt.search]
  split
  ·rfl
  split
  ·exact Mt.zDg _ _ hg.2.2.2.1
  ·exact zGx E hc hc0 budget f (p+1) _ _ _ (by omega) hg.2.2.1
theorem Keep.toBelow {wb gk:Nat} {a b:World} {N:Nat} (h:Keep wb gk a b) (hN:N≤a.heap.size) (h1:N≤wb) (h2:N≤gk):Below N a b :=
 ⟨h.os,h.tape,h.output,h.size,fun i hi=>h.block i (by omega) (by omega) (by omega)⟩
end Go.Proofs.YtebpgfodelggoabGreat
