import Derived.Test.YtebpgfodelggoabC24
set_option linter.unusedVariables false
set_option linter.unusedSimpArgs false
set_option maxRecDepth 100000
set_option maxHeartbeats 2000000
namespace Mt
theorem item_in (p:ByteArray) (i:Int) (h0:0≤i) (h:(item p i).2.2.1≠0):i<(p.size:Int):=by
 rcases Int.lt_or_le i p.size with h1 | h1
 ·exact h1
 ·have e:=atB_out p i (Or.inr h1)
  exfalso;apply h
  have c:classByte p i=(0,0):=by unfold classByte;rw [if_pos (Or.inl (by omega))]
  unfold item
  rw [if_neg (by omega),if_pos (by rw [c])]
theorem classFrom_item (p:ByteArray) (b:Int) (h0:0≤b) (h1:atB p b≠93) (h2:(item p b).2.2.1≠0):classFrom p b=classFrom p (b+(item p b).2.2.1):=by
 have:=item_in p b h0 h2
 rw [classFrom_step,if_neg (by omega),if_neg h1,if_neg h2]
theorem classFrom_none (p:ByteArray) (b:Int) (h1:atB p b≠93) (h2:(item p b).2.2.1=0):classFrom p b=-1:=by
 rw [classFrom_step]
 by_cases h:(p.size:Int)≤b
 ·rw [if_pos h]
 ·rw [if_neg h,if_neg h1,if_pos h2]
theorem classFrom_end (p:ByteArray) (b:Int) (h1:atB p b=93):classFrom p b=b:=by
 have:=atB_ge p b (by omega)
 rw [classFrom_step,if_neg (by omega),if_pos h1]
def Half (p:ByteArray) (a b:Int) (S:BSet):Prop:=classFrom p b=classFrom p a∧(classFrom p a≠-1→∀ c:Nat,(S c||inClass p b (classFrom p a) (c:Int))=inClass p a (classFrom p a) (c:Int))
theorem half_start (p:ByteArray) (a:Int):Half p a a none0:=⟨rfl,fun _ c=>by simp [none0]⟩
theorem half_next {p:ByteArray} {a b:Int} {S:BSet} (h:Half p a b S) (h0:0≤b) (h1:atB p b≠93) (h2:(item p b).2.2.1≠0):Half p a (b+(item p b).2.2.1) (addI p b S):=by
 have e:=classFrom_item p b h0 h1 h2
 refine ⟨by rw [← e];exact h.1,fun hn c=>?_⟩
 have hb:=item_bd p b
 have bd:=classFrom_bd p ((p.size:Int)-(b+(item p b).2.2.1)+1).toNat (b+(item p b).2.2.1) (by omega) (by omega)
 have e2:=h.1
 rw [← h.2 hn c]
 exact (addI_in p b (classFrom p a) S c (by omega) h2).symm
theorem half_end {p:ByteArray} {a b:Int} {S:BSet} (h:Half p a b S) (h1:atB p b=93):classFrom p a=b∧∀ c:Nat,S c=inClass p a b (c:Int):=by
 have e:=classFrom_end p b h1
 have e2:=h.1
 have g:=atB_ge p b (by omega)
 have e3:classFrom p a=b:=by rw [← e2,e]
 refine ⟨e3,fun c=>?_⟩
 have:=h.2 (by omega) c
 rw [e3,inClass_empty] at this
 simpa using this
end Mt
namespace Go.Proofs.Ytebpgfodelggoab
open Go.RowKit
def clP (p:ByteArray) (i:Int):Mt.PT × Int:=if (Mt.classT p i).2 then (Mt.ptok (Mt.classT p i).1,0) else (Mt.pt0,3)
theorem clP_none (p:ByteArray) (i:Int) (h:Mt.classFrom p (Mt.classA p i)=-1):clP p i=(Mt.pt0,3):=by
 have e:(Mt.classT p i).2=false:=by unfold Mt.classT;rw [if_pos (Or.inl h)]
 unfold clP;rw [e];rfl
theorem clP_empty (p:ByteArray) (i:Int) (h:Mt.classFrom p (Mt.classA p i)=Mt.classA p i):clP p i=(Mt.pt0,3):=by
 have e:(Mt.classT p i).2=false:=by unfold Mt.classT;rw [if_pos (Or.inr h)]
 unfold clP;rw [e];rfl
theorem clP_some (p:ByteArray) (i b:Int) (h:Mt.classFrom p (Mt.classA p i)=b) (h1:b≠-1) (h2:b≠Mt.classA p i):clP p i=(⟨5,b+1,0,0,0,0,0,Mt.all p (Mt.classA p i) b (decide (Mt.atB p (i+1)=94))⟩,0):=by
 have e:Mt.classT p i=(⟨1,i,b+1,0,0,0,Mt.all p (Mt.classA p i) b (decide (Mt.atB p (i+1)=94))⟩,true):=by
  unfold Mt.classT;rw [h,if_neg (by rintro (x | x);exact h1 x;exact h2 x)]
 unfold clP;rw [e];rfl
theorem set_no (p:ByteArray) (a b:Int) (S:Mt.BSet) (h:∀ c:Nat,S c=Mt.inClass p a b (c:Int)):Mt.setTo S 256=Mt.all p a b false∧Mt.setTo (fun c=>!S c) 256=Mt.all p a b true:=by
 rw [← Mt.setTo_all,← Mt.setTo_all]
 exact ⟨Mt.setTo_same (fun c _=>by rw [h c];simp),Mt.setTo_same (fun c _=>by rw [h c];simp)⟩
theorem readClass_any (p:ByteArray) (i:Int) (w:World) (hp:p.size≤64) (hi0:0≤i) (hi1:i≤100) :
  Calls Try.prog 78 #[.string p,.int .i64 i] w fun e w'=>e=.returned (.tuple #[ptV (clP p i).1,.int .i64 (clP p i).2])∧Below w.heap.size w w':=by
 obtain ⟨a,ha⟩:∃ a,a=Mt.classA p i:=⟨_,rfl⟩
 cases hv:(Mt.atB p (i+1)==94)
 all_goals
  have ha2:a=if (Mt.atB p (i+1)==94) then i+1+1 else i+1:=by
   rw [ha];unfold Mt.classA;by_cases x:Mt.atB p (i+1)=94 <;> simp [x]
   omega
  rw [hv] at ha2
  simp only [if_true,if_false,Bool.false_eq_true] at ha2
  have ha0:0≤a:=by omega
  have ha1:a≤102:=by omega
  have HA:Hid (a=Mt.classA p i):=ha
  have HV:Hid ((Mt.atB p (i+1)==94)=_):=hv
  obtain ⟨R,hR⟩:∃ R,R=clP p i:=⟨_,rfl⟩
  rw [← hR]
  have HR:Hid (R=clP p i):=hR
  clear hR ha
  go_enter Try.func78,Try.ntmps78
  go_wp2_with (first | (go_at_call 73;refine (byteAt_any _ _ _ hp).mono ?_;rintro e w' ⟨rfl,rfl⟩))
  rw [← ha2]
  clear ha2
  go_loopw [6] (fun b wr=>∃ (k:Int) (S:Mt.BSet),a≤k∧k≤110∧b=.int .i64 k∧setAt wr (w.heap.size+1) S∧Mt.Half p a k S∧wr.heap[w.heap.size]?=some (.cells (ptA Mt.pt0) 121 (0,0))∧wr.heap.size=w.heap.size+2∧Below w.heap.size w wr) (fun b _=>(110-intOf b).toNat)
  case atStart =>
   exact ⟨a,Mt.none0,by omega,by omega,rfl,by exact set_start _ _,Mt.half_start p a,by exact heap_b2 _ _ _,by simp,by go_grown⟩
  case round =>
   obtain ⟨k,S,hk1,hk2,rfl,hs,hh,hz,hsz,hB⟩:=hrel
   have HS:Hid (setAt wr (w.heap.size+1) S):=hs
   have HH:Hid (Mt.Half p a k S):=hh
   have HB:Hid (Below w.heap.size w wr):=hB
   have HZ:Hid (wr.heap[w.heap.size]?=some (.cells (ptA Mt.pt0) 121 (0,0))):=hz
   clear hs hh hB hz
   cases hc:(Mt.atB p k != 93)
   ·have E:=Mt.half_end HH.out (by simpa using hc)
    have HE:Hid (Mt.classFrom p a=k∧∀ c:Nat,S c=Mt.inClass p a k (c:Int)):=E
    clear E
    cases hf:(k==a)
    ·have HT:Hid (R=(⟨5,k+1,0,0,0,0,0,Mt.all p a k (decide (Mt.atB p (i+1)=94))⟩,0)):=by
      show _=_
      rw [HR.out,clP_some p i k (by rw [← HA.out];exact HE.out.1) (by omega) (by rw [← HA.out];simpa using hf),HA.out]
     go_wp2_with (first | (go_at_call 73;refine (byteAt_any _ _ _ hp).mono ?_;rintro e w' ⟨rfl,rfl⟩))
     first
     | (
      refine (invert_any wr (w.heap.size+1) S HS.out).mono ?_
      rintro e w1 ⟨rfl,s1,b1,n1,o1⟩
      have HT2:Hid (R=(⟨5,k+1,0,0,0,0,0,Mt.setTo (fun c=>!S c) 256⟩,0)):=by
       show _=_
       rw [HT.out,(set_no p a k S HE.out.2).2,show decide (Mt.atB p (i+1)=94)=true by simpa using HV.out]
      have H1:Hid (setAt w1 (w.heap.size+1) (fun c=>!S c)∧Below w.heap.size w w1∧w1.heap[w.heap.size]?=some (.cells (ptA Mt.pt0) 121 (0,0))):=⟨s1,HB.out.trans (b1.mono (by omega)),(o1 _ (by omega)).trans HZ.out⟩
      clear s1 b1 o1
      generalize hX:(fun c=>!S c)=X at *
      clear hX
      go_wp2_with fail
      have TA:=text_any w1 (w.heap.size+1) _ H1.out.1
      generalize Mt.setTo X 256=T at *
      refine TA.mono ?_
      clear TA
      rintro e w2 ⟨rfl,b2⟩
      have HZ2:Hid (w2.heap[w.heap.size]?=some (.cells (ptA Mt.pt0) 121 (0,0))∧Below w.heap.size w w2):=⟨(b2.block _ (by omega)).trans H1.out.2.2,H1.out.2.1.trans (b2.mono (by omega))⟩
      clear b2
      go_wp2_with (refine store_blk 121 8 Try.sizePT (by rfl) (.tmp 4) (.tmp 45) (by rfl) w.heap.size (ptA ⟨5,k+1,0,0,0,0,0,T⟩) (by rfl) (by rfl) HZ2.out.1 (by rfl) (by rfl) (ptA_all _) ?_;intro w3 r1 r2 r3 r4)
      refine bodyPost_ret (ret_blk2 121 8 Try.underlying121 rfl Try.sizePT rfl (by rfl) r1 (by rfl)) rfl ⟨by rw [HT2.out];rfl,?_⟩
      exact HZ2.out.2.trans (r4 _ (Nat.le_refl _)))
     | (
      have HT2:Hid (R=(⟨5,k+1,0,0,0,0,0,Mt.setTo S 256⟩,0)):=by
       show _=_
       rw [HT.out,(set_no p a k S HE.out.2).1,show decide (Mt.atB p (i+1)=94)=false by simpa using HV.out]
      have TA:=text_any wr (w.heap.size+1) _ HS.out
      generalize Mt.setTo S 256=T at *
      refine TA.mono ?_
      clear TA
      rintro e w2 ⟨rfl,b2⟩
      have HZ2:Hid (w2.heap[w.heap.size]?=some (.cells (ptA Mt.pt0) 121 (0,0))∧Below w.heap.size w w2):=⟨(b2.block _ (by omega)).trans HZ.out,HB.out.trans (b2.mono (by omega))⟩
      clear b2
      go_wp2_with (refine store_blk 121 8 Try.sizePT (by rfl) (.tmp 4) (.tmp 45) (by rfl) w.heap.size (ptA ⟨5,k+1,0,0,0,0,0,T⟩) (by rfl) (by rfl) HZ2.out.1 (by rfl) (by rfl) (ptA_all _) ?_;intro w3 r1 r2 r3 r4)
      refine bodyPost_ret (ret_blk2 121 8 Try.underlying121 rfl Try.sizePT rfl (by rfl) r1 (by rfl)) rfl ⟨by rw [HT2.out];rfl,?_⟩
      exact HZ2.out.2.trans (r4 _ (Nat.le_refl _)))
    ·have HT:Hid (R=(Mt.pt0,3)):=by
      show _=_
      have:k=a:=by simpa using hf
      rw [HR.out];exact clP_empty p i (by rw [← HA.out,HE.out.1,this])
     go_wp2_with (first | (go_at_call 73;refine (byteAt_any _ _ _ hp).mono ?_;rintro e w' ⟨rfl,rfl⟩) | (refine store_blk 121 8 Try.sizePT (by rfl) (.tmp 4) (.tmp 39) (by rfl) w.heap.size (ptA Mt.pt0) (by rfl) (by rfl) HZ.out (by rfl) (by rfl) (ptA_all _) ?_;intro w3 r1 r2 r3 r4))
     refine bodyPost_ret (ret_blk2 121 8 Try.underlying121 rfl Try.sizePT rfl (by rfl) r1 (by rfl)) rfl ⟨by rw [HT.out];rfl,?_⟩
     exact HB.out.trans (r4 _ (Nat.le_refl _))
   ·cases hit:(itP p k).2
    ·have HT:Hid (R=(Mt.pt0,3)):=by
      show _=_
      have z:(Mt.item p k).2.2.1=0:=by
       unfold itP at hit;by_cases z:(Mt.item p k).2.2.1=0
       ·exact z
       ·rw [if_neg z] at hit;simp at hit
      rw [HR.out];exact clP_none p i (by rw [← HA.out,← HH.out.1];exact Mt.classFrom_none p k (by simpa using hc) z)
     go_wp2_with (first | (go_at_call 73;refine (byteAt_any _ _ _ hp).mono ?_;rintro e w' ⟨rfl,rfl⟩))
     refine (readItem_any p k wr (w.heap.size+1) S hp (by omega) (by omega) HS.out).mono ?_
     rintro e w1 ⟨rfl,s1,o1⟩
     have HB1:Hid (Below w.heap.size w w1):=HB.out.trans (o1.below (by omega))
     have HZ1:Hid (w1.heap[w.heap.size]?=some (.cells (ptA Mt.pt0) 121 (0,0))):=(o1.block _ (by omega)).trans HZ.out
     clear s1 o1
     go_wp2_with (refine store_blk 121 8 Try.sizePT (by rfl) (.tmp 4) (.tmp 34) (by rfl) w.heap.size (ptA Mt.pt0) (by rfl) (by rfl) HZ1.out (by rfl) (by rfl) (ptA_all _) ?_;intro w3 r1 r2 r3 r4)
     refine bodyPost_ret (ret_blk2 121 8 Try.underlying121 rfl Try.sizePT rfl (by rfl) r1 (by rfl)) rfl ⟨by rw [HT.out];rfl,?_⟩
     exact HB1.out.trans (r4 _ (Nat.le_refl _))
    ·have z:(Mt.item p k).2.2.1≠0:=by
      intro z;unfold itP at hit;rw [if_pos z] at hit;simp at hit
     have zb:=Mt.item_bd p k
     have zi:=Mt.item_in p k (by omega) z
     have HN:Hid (Mt.Half p a (itP p k).1 (afterI p k S)∧(itP p k).1=k+(Mt.item p k).2.2.1):=by
      have e1:(itP p k).1=k+(Mt.item p k).2.2.1:=by unfold itP;rw [if_neg z]
      refine ⟨?_,e1⟩
      have e2:afterI p k S=Mt.addI p k S:=by unfold afterI;rw [hit,if_pos rfl]
      rw [e1,e2];exact Mt.half_next HH.out (by omega) (by simpa using hc) z
     have k1:k<(itP p k).1:=by rw [HN.out.2];omega
     have k2:(itP p k).1≤110:=by rw [HN.out.2];omega
     clear z zb zi
     go_wp2_with (first | (go_at_call 73;refine (byteAt_any _ _ _ hp).mono ?_;rintro e w' ⟨rfl,rfl⟩))
     refine (readItem_any p k wr (w.heap.size+1) S hp (by omega) (by omega) HS.out).mono ?_
     rintro e w1 ⟨rfl,s1,o1⟩
     have HB1:Hid (Below w.heap.size w w1∧w1.heap[w.heap.size]?=some (.cells (ptA Mt.pt0) 121 (0,0))∧w1.heap.size=w.heap.size+2∧setAt w1 (w.heap.size+1) (afterI p k S)):=⟨HB.out.trans (o1.below (by omega)),(o1.block _ (by omega)).trans HZ.out,by rw [o1.size];exact hsz,s1⟩
     clear s1 o1
     go_wp2_with fail
     go_roundw
     case rel=>exact ⟨(itP p k).1,afterI p k S,by omega,by omega,rfl,HB1.out.2.2.2,HN.out.1,HB1.out.2.1,HB1.out.2.2.1,HB1.out.1⟩
     case measure=>simp [intOf];omega
def coP (p:ByteArray) (i:Int):Mt.PT × Int:=if (Mt.count p i).2.2.2 then (moodP p (Mt.count p i).2.2.1 (Mt.count p i).1 (Mt.count p i).2.1,0) else (Mt.pt0,4)
theorem coP_cases (p:ByteArray) (i:Int) :
  ((numP p (i+1)).2.2=false∧coP p i=(Mt.pt0,4)) ∨
  ((
   numP p (i+1)).2.2=true∧(Mt.atB p (numP p (i+1)).2.1==44)=false ∧
   (
   ((Mt.atB p (numP p (i+1)).2.1 != 125)=true∧coP p i=(Mt.pt0,4)) ∨
   ((Mt.atB p (numP p (i+1)).2.1 != 125)=false∧coP p i=(moodP p ((numP p (i+1)).2.1+1) (numP p (i+1)).1 (numP p (i+1)).1,0)))) ∨
  ((
   numP p (i+1)).2.2=true∧(Mt.atB p (numP p (i+1)).2.1==44)=true ∧
   (
   ((mostP p ((numP p (i+1)).2.1+1)).2.2=false∧coP p i=(Mt.pt0,4)) ∨
   ((mostP p ((numP p (i+1)).2.1+1)).2.2=true∧((mostP p ((numP p (i+1)).2.1+1)).1 != -1)=true∧decide ((mostP p ((numP p (i+1)).2.1+1)).1<(numP p (i+1)).1)=true∧coP p i=(Mt.pt0,4)) ∨
   ((
    mostP p ((numP p (i+1)).2.1+1)).2.2=true∧(((mostP p ((numP p (i+1)).2.1+1)).1 != -1)=false∨((mostP p ((numP p (i+1)).2.1+1)).1 != -1)=true∧decide ((mostP p ((numP p (i+1)).2.1+1)).1<(numP p (i+1)).1)=false) ∧
    (
     ((Mt.atB p (mostP p ((numP p (i+1)).2.1+1)).2.1 != 125)=true∧coP p i=(Mt.pt0,4)) ∨
     ((Mt.atB p (mostP p ((numP p (i+1)).2.1+1)).2.1 != 125)=false∧coP p i=(moodP p ((mostP p ((numP p (i+1)).2.1+1)).2.1+1) (numP p (i+1)).1 (mostP p ((numP p (i+1)).2.1+1)).1,0)))))):=by
 have b1:=Mt.number_bd p (i+1)
 have b2:=Mt.number_bd p (i+1+(Mt.number p (i+1)).2+1)
 have no:∀ x,Mt.count p i=x→x.2.2.2=false→coP p i=(Mt.pt0,4):=fun x h e=>by unfold coP;rw [h,e];rfl
 have yes:∀ a b c,Mt.count p i=(a,b,c,true)→coP p i=(moodP p c a b,0):=fun a b c h=>by unfold coP;rw [h];rfl
 by_cases h1:(Mt.number p (i+1)).2=0∨20<(Mt.number p (i+1)).1
 ·left
  refine ⟨by unfold numP;rw [if_pos h1],no (0,0,0,false) ?_ rfl⟩
  unfold Mt.count;rw [if_pos h1]
 ·right
  have en:numP p (i+1)=((Mt.number p (i+1)).1,i+1+(Mt.number p (i+1)).2,true):=by unfold numP;rw [if_neg h1]
  rw [en]
  dsimp only
  by_cases h2:Mt.atB p (i+1+(Mt.number p (i+1)).2)=44
  ·right
   refine ⟨rfl,by simpa using h2,?_⟩
   by_cases h3:Mt.atB p (i+1+(Mt.number p (i+1)).2+1)=125
   ·have em:mostP p (i+1+(Mt.number p (i+1)).2+1)=(-1,i+1+(Mt.number p (i+1)).2+1,true):=by unfold mostP;rw [if_pos h3]
    rw [em]
    right;right
    refine ⟨rfl,Or.inl rfl,Or.inr ⟨by simpa using h3,?_⟩⟩
    rw [show i+1+(Mt.number p (i+1)).2+1+1=i+1+(Mt.number p (i+1)).2+2 by omega]
    apply yes
    unfold Mt.count;rw [if_neg h1,if_neg (by omega),if_neg (by omega),if_pos h3]
   ·have em:mostP p (i+1+(Mt.number p (i+1)).2+1)=numP p (i+1+(Mt.number p (i+1)).2+1):=by unfold mostP;rw [if_neg h3]
    rw [em]
    by_cases h4:(Mt.number p (i+1+(Mt.number p (i+1)).2+1)).2=0∨20<(Mt.number p (i+1+(Mt.number p (i+1)).2+1)).1
    ·left
     refine ⟨by unfold numP;rw [if_pos h4],no (0,0,0,false) ?_ rfl⟩
     unfold Mt.count;rw [if_neg h1,if_neg (by omega),if_neg (by omega),if_neg h3,if_pos (by omega)]
    ·right
     have ey:numP p (i+1+(Mt.number p (i+1)).2+1)=((Mt.number p (i+1+(Mt.number p (i+1)).2+1)).1,i+1+(Mt.number p (i+1)).2+1+(Mt.number p (i+1+(Mt.number p (i+1)).2+1)).2,true):=by unfold numP;rw [if_neg h4]
     rw [ey]
     dsimp only
     by_cases h5:(Mt.number p (i+1+(Mt.number p (i+1)).2+1)).1<(Mt.number p (i+1)).1
     ·left
      refine ⟨rfl,by simp;omega,by simpa using h5,no (0,0,0,false) ?_ rfl⟩
      unfold Mt.count;rw [if_neg h1,if_neg (by omega),if_neg (by omega),if_neg h3,if_pos (by omega)]
     ·right
      refine ⟨rfl,Or.inr ⟨by simp;omega,by simpa using h5⟩,?_⟩
      by_cases h6:Mt.atB p (i+1+(Mt.number p (i+1)).2+1+(Mt.number p (i+1+(Mt.number p (i+1)).2+1)).2)=125
      ·right
       refine ⟨by simpa using h6,?_⟩
       rw [show i+1+(Mt.number p (i+1)).2+1+(Mt.number p (i+1+(Mt.number p (i+1)).2+1)).2+1=i+1+(Mt.number p (i+1)).2+2+(Mt.number p (i+1+(Mt.number p (i+1)).2+1)).2 by omega]
       apply yes
       unfold Mt.count;rw [if_neg h1,if_neg (by omega),if_neg (by omega),if_neg h3,if_neg (by omega)]
      ·left
       refine ⟨by simpa using h6,no (0,0,0,false) ?_ rfl⟩
       unfold Mt.count;rw [if_neg h1,if_neg (by omega),if_neg (by omega),if_neg h3,if_pos (by omega)]
  ·left
   refine ⟨rfl,by simpa using h2,?_⟩
   by_cases h3:Mt.atB p (i+1+(Mt.number p (i+1)).2)=125
   ·right
    refine ⟨by simpa using h3,yes _ _ _ ?_⟩
    unfold Mt.count;rw [if_neg h1,if_pos h3]
   ·left
    refine ⟨by simpa using h3,no (0,0,0,false) ?_ rfl⟩
    unfold Mt.count;rw [if_neg h1,if_neg h3,if_pos h2]
theorem numP_bd (p:ByteArray) (i:Int) (h:0≤i):0≤(numP p i).2.1∧(numP p i).2.1≤i+2∧0≤(numP p i).1∧(numP p i).1≤20:=by
 have b1:=Mt.number_bd p i
 unfold numP;split
 ·simp;omega
 ·simp only;omega
theorem mostP_bd (p:ByteArray) (i:Int) (h:0≤i):0≤(mostP p i).2.1∧(mostP p i).2.1≤i+2∧-1≤(mostP p i).1∧(mostP p i).1≤20:=by
 have b1:=numP_bd p i h
 unfold mostP;split
 ·simp only;omega
 ·omega
theorem readCount_any (p:ByteArray) (i:Int) (w:World) (hp:p.size≤64) (hi0:0≤i) (hi1:i≤100) :
  Calls Try.prog 76 #[.string p,.int .i64 i] w fun e w'=>e=.returned (.tuple #[ptV (coP p i).1,.int .i64 (coP p i).2])∧Below w.heap.size w w':=by
 obtain ⟨n1,n2,n3,n4⟩:=numP_bd p (i+1) (by omega)
 obtain ⟨m1,m2,m3,m4⟩:=mostP_bd p ((numP p (i+1)).2.1+1) (by omega)
 rcases coP_cases p i with ⟨a1,e⟩ | ⟨a1,a2,⟨a3,e⟩ | ⟨a3,e⟩⟩ | ⟨a1,a2,⟨a3,e⟩ | ⟨a3,a4,a5,e⟩ | ⟨a3,a4,⟨a5,e⟩ | ⟨a5,e⟩⟩⟩
 ·rw [e];clear e
  go_enter Try.func76,Try.ntmps76
  go_wp2_with (first | (go_at_call 73;refine (byteAt_any _ _ _ hp).mono ?_;rintro e w' ⟨rfl,rfl⟩) | (go_at_call 91;refine (readNumber_any _ _ _ hp (by omega) (by omega)).mono ?_;rintro e w' ⟨rfl,rfl⟩) | (go_at_call 92;refine (readMost_any _ _ _ hp (by omega) (by omega)).mono ?_;rintro e w' ⟨rfl,rfl⟩))
  go_returns
  exact ⟨rfl,by go_grown⟩
 ·rw [e];clear e
  go_enter Try.func76,Try.ntmps76
  go_wp2_with (first | (go_at_call 73;refine (byteAt_any _ _ _ hp).mono ?_;rintro e w' ⟨rfl,rfl⟩) | (go_at_call 91;refine (readNumber_any _ _ _ hp (by omega) (by omega)).mono ?_;rintro e w' ⟨rfl,rfl⟩) | (go_at_call 92;refine (readMost_any _ _ _ hp (by omega) (by omega)).mono ?_;rintro e w' ⟨rfl,rfl⟩))
  go_returns
  exact ⟨rfl,by go_grown⟩
 ·rw [e];clear e
  obtain ⟨T,hT⟩:∃ T,T=moodP p ((numP p (i+1)).2.1+1) (numP p (i+1)).1 (numP p (i+1)).1:=⟨_,rfl⟩
  rw [← hT]
  have HT:Hid (T=moodP p ((numP p (i+1)).2.1+1) (numP p (i+1)).1 (numP p (i+1)).1):=hT
  clear hT
  go_enter Try.func76,Try.ntmps76
  go_wp2_with (first | (go_at_call 73;refine (byteAt_any _ _ _ hp).mono ?_;rintro e w' ⟨rfl,rfl⟩) | (go_at_call 91;refine (readNumber_any _ _ _ hp (by omega) (by omega)).mono ?_;rintro e w' ⟨rfl,rfl⟩) | (go_at_call 92;refine (readMost_any _ _ _ hp (by omega) (by omega)).mono ?_;rintro e w' ⟨rfl,rfl⟩))
  have MA:=readMood_any p ((numP p (i+1)).2.1+1) (numP p (i+1)).1 (numP p (i+1)).1 (w.alloc (.cells (ptA Mt.pt0) 121)) hp (by omega) (by omega)
  rw [← HT.out] at MA
  refine MA.mono ?_
  clear MA
  rintro e w1 ⟨rfl,b1⟩
  have HZ:Hid (w1.heap[w.heap.size]?=some (.cells (ptA Mt.pt0) 121 (0,0))∧Below w.heap.size w w1):=⟨(b1.block _ (by simp)).trans (heap_b1 w _),((Below.refl _ _).alloc (Nat.le_refl _) _).trans (b1.mono (by simp))⟩
  clear b1
  go_wp2_with (refine store_blk 121 8 Try.sizePT (by rfl) (.tmp 4) (.tmp 56) (by rfl) w.heap.size (ptA T) (by rfl) (by rfl) HZ.out.1 (by rfl) (by rfl) (ptA_all _) ?_;intro w3 r1 r2 r3 r4)
  refine bodyPost_ret (ret_blk2 121 8 Try.underlying121 rfl Try.sizePT rfl (by rfl) r1 (by rfl)) rfl ⟨rfl,?_⟩
  exact HZ.out.2.trans (r4 _ (Nat.le_refl _))
 ·rw [e];clear e
  go_enter Try.func76,Try.ntmps76
  go_wp2_with (first | (go_at_call 73;refine (byteAt_any _ _ _ hp).mono ?_;rintro e w' ⟨rfl,rfl⟩) | (go_at_call 91;refine (readNumber_any _ _ _ hp (by omega) (by omega)).mono ?_;rintro e w' ⟨rfl,rfl⟩) | (go_at_call 92;refine (readMost_any _ _ _ hp (by omega) (by omega)).mono ?_;rintro e w' ⟨rfl,rfl⟩))
  go_returns
  exact ⟨rfl,by go_grown⟩
 ·rw [e];clear e
  go_enter Try.func76,Try.ntmps76
  go_wp2_with (first | (go_at_call 73;refine (byteAt_any _ _ _ hp).mono ?_;rintro e w' ⟨rfl,rfl⟩) | (go_at_call 91;refine (readNumber_any _ _ _ hp (by omega) (by omega)).mono ?_;rintro e w' ⟨rfl,rfl⟩) | (go_at_call 92;refine (readMost_any _ _ _ hp (by omega) (by omega)).mono ?_;rintro e w' ⟨rfl,rfl⟩))
  go_returns
  exact ⟨rfl,by go_grown⟩
 ·rw [e];clear e
  rcases a4 with a4 | ⟨a4,a4'⟩
  all_goals
   go_enter Try.func76,Try.ntmps76
   go_wp2_with (first | (go_at_call 73;refine (byteAt_any _ _ _ hp).mono ?_;rintro e w' ⟨rfl,rfl⟩) | (go_at_call 91;refine (readNumber_any _ _ _ hp (by omega) (by omega)).mono ?_;rintro e w' ⟨rfl,rfl⟩) | (go_at_call 92;refine (readMost_any _ _ _ hp (by omega) (by omega)).mono ?_;rintro e w' ⟨rfl,rfl⟩))
   go_returns
   exact ⟨rfl,by go_grown⟩
 ·rw [e];clear e
  obtain ⟨T,hT⟩:∃ T,T=moodP p ((mostP p ((numP p (i+1)).2.1+1)).2.1+1) (numP p (i+1)).1 (mostP p ((numP p (i+1)).2.1+1)).1:=⟨_,rfl⟩
  rw [← hT]
  have HT:Hid (T=moodP p ((mostP p ((numP p (i+1)).2.1+1)).2.1+1) (numP p (i+1)).1 (mostP p ((numP p (i+1)).2.1+1)).1):=hT
  clear hT
  rcases a4 with a4 | ⟨a4,a4'⟩
  all_goals
   go_enter Try.func76,Try.ntmps76
   go_wp2_with (first | (go_at_call 73;refine (byteAt_any _ _ _ hp).mono ?_;rintro e w' ⟨rfl,rfl⟩) | (go_at_call 91;refine (readNumber_any _ _ _ hp (by omega) (by omega)).mono ?_;rintro e w' ⟨rfl,rfl⟩) | (go_at_call 92;refine (readMost_any _ _ _ hp (by omega) (by omega)).mono ?_;rintro e w' ⟨rfl,rfl⟩))
   have MA:=readMood_any p ((mostP p ((numP p (i+1)).2.1+1)).2.1+1) (numP p (i+1)).1 (mostP p ((numP p (i+1)).2.1+1)).1 (w.alloc (.cells (ptA Mt.pt0) 121)) hp (by omega) (by omega)
   rw [← HT.out] at MA
   refine MA.mono ?_
   clear MA
   rintro e w1 ⟨rfl,b1⟩
   have HZ:Hid (w1.heap[w.heap.size]?=some (.cells (ptA Mt.pt0) 121 (0,0))∧Below w.heap.size w w1):=⟨(b1.block _ (by simp)).trans (heap_b1 w _),((Below.refl _ _).alloc (Nat.le_refl _) _).trans (b1.mono (by simp))⟩
   clear b1
   go_wp2_with (refine store_blk 121 8 Try.sizePT (by rfl) (.tmp 4) (.tmp 56) (by rfl) w.heap.size (ptA T) (by rfl) (by rfl) HZ.out.1 (by rfl) (by rfl) (ptA_all _) ?_;intro w3 r1 r2 r3 r4)
   refine bodyPost_ret (ret_blk2 121 8 Try.underlying121 rfl Try.sizePT rfl (by rfl) r1 (by rfl)) rfl ⟨rfl,?_⟩
   exact HZ.out.2.trans (r4 _ (Nat.le_refl _))
def opP (p:ByteArray) (i:Int):Mt.PT × Int:=if (Mt.opening p i).2 then (Mt.ptok (Mt.opening p i).1,0) else (Mt.pt0,5)
theorem opP_cases (p:ByteArray) (i:Int) :
  ((Mt.atB p (i+1) != 63)=true∧opP p i=(⟨2,i+1,1,0,0,0,0,[]⟩,0)) ∨
  ((
   Mt.atB p (i+1) != 63)=false ∧
   (
   ((Mt.atB p (i+2)==58)=true∧opP p i=(⟨2,i+3,2,0,0,0,0,[]⟩,0)) ∨
   ((Mt.atB p (i+2)==58)=false∧(Mt.atB p (i+2)==62)=true∧opP p i=(⟨2,i+3,3,0,0,0,0,[]⟩,0)) ∨
   ((Mt.atB p (i+2)==58)=false∧(Mt.atB p (i+2)==62)=false∧(Mt.atB p (i+2)==61)=true∧opP p i=(⟨2,i+3,4,0,0,0,0,[]⟩,0)) ∨
   ((Mt.atB p (i+2)==58)=false∧(Mt.atB p (i+2)==62)=false∧(Mt.atB p (i+2)==61)=false∧(Mt.atB p (i+2)==33)=true∧opP p i=(⟨2,i+3,5,0,0,0,0,[]⟩,0)) ∨
   ((Mt.atB p (i+2)==58)=false∧(Mt.atB p (i+2)==62)=false∧(Mt.atB p (i+2)==61)=false∧(Mt.atB p (i+2)==33)=false∧opP p i=(Mt.pt0,5)))):=by
 unfold opP
 rcases Mt.opening_cases p i with ⟨a1,e⟩ | ⟨a1,⟨a2,e⟩ | ⟨a2,a3,e⟩ | ⟨a2,a3,a4,e⟩ | ⟨a2,a3,a4,a5,e⟩ | ⟨a2,a3,a4,a5,e⟩⟩
 ·exact Or.inl ⟨a1,by rw [e];rfl⟩
 ·exact Or.inr ⟨a1,Or.inl ⟨a2,by rw [e];rfl⟩⟩
 ·exact Or.inr ⟨a1,Or.inr (Or.inl ⟨a2,a3,by rw [e];rfl⟩)⟩
 ·exact Or.inr ⟨a1,Or.inr (Or.inr (Or.inl ⟨a2,a3,a4,by rw [e];rfl⟩))⟩
 ·exact Or.inr ⟨a1,Or.inr (Or.inr (Or.inr (Or.inl ⟨a2,a3,a4,a5,by rw [e];rfl⟩)))⟩
 ·exact Or.inr ⟨a1,Or.inr (Or.inr (Or.inr (Or.inr ⟨a2,a3,a4,a5,by rw [e];rfl⟩)))⟩
theorem readOpening_any (p:ByteArray) (i:Int) (w:World) (hp:p.size≤64) (hi0:0≤i) (hi1:i≤100) :
  Calls Try.prog 74 #[.string p,.int .i64 i] w fun e w'=>e=.returned (.tuple #[ptV (opP p i).1,.int .i64 (opP p i).2])∧Below w.heap.size w w':=by
 rcases opP_cases p i with ⟨a1,e⟩ | ⟨a1,⟨a2,e⟩ | ⟨a2,a3,e⟩ | ⟨a2,a3,a4,e⟩ | ⟨a2,a3,a4,a5,e⟩ | ⟨a2,a3,a4,a5,e⟩⟩
 all_goals
  rw [e];clear e
  go_enter Try.func74,Try.ntmps74
  go_wp2_with (go_at_call 73;refine (byteAt_any _ _ _ hp).mono ?_;rintro e w' ⟨rfl,rfl⟩)
  go_returns
  exact ⟨rfl,by go_grown⟩
def esP (p:ByteArray) (i:Int):Mt.PT × Int:=if (Mt.escape p i).2 then (Mt.ptok (Mt.escape p i).1,0) else (Mt.pt0,2)
theorem esc_all (p:ByteArray) (i:Int) (h0:Mt.atB p i=92) (h:Mt.atB p (i+1)=100∨Mt.atB p (i+1)=119):Mt.setTo (Mt.addL Mt.none0 (decide (Mt.atB p (i+1)=119))) 256=Mt.all p i (i+2) false:=by
 rw [← Mt.setTo_all]
 refine Mt.setTo_same (fun c _=>?_)
 have e:Mt.item p i=(92,Mt.atB p (i+1),2,true):=by unfold Mt.item;rw [if_pos ⟨h0,h⟩]
 rw [Mt.addL_short,Mt.inClass_step,if_neg (by omega),e,if_neg (by simp),Mt.inClass_empty]
 simp only [if_true]
 cases Mt.shortB (decide (Mt.atB p (i+1)=119)) (c:Int) <;> simp [Mt.none0]
theorem esP_cases (p:ByteArray) (i:Int) (h0:Mt.atB p i=92) :
  (decide (49≤Mt.atB p (i+1))=true∧decide (Mt.atB p (i+1)≤57)=true∧49≤Mt.atB p (i+1)∧Mt.atB p (i+1)≤57∧esP p i=(⟨6,i+2,0,Mt.atB p (i+1)-48,0,0,0,[]⟩,0)) ∨
  ((
   decide (49≤Mt.atB p (i+1))=false∨decide (49≤Mt.atB p (i+1))=true∧decide (Mt.atB p (i+1)≤57)=false) ∧
   (
   ((Mt.atB p (i+1)==100||Mt.atB p (i+1)==119)=true∧esP p i=(⟨5,i+2,0,0,0,0,0,Mt.setTo (Mt.addL Mt.none0 (decide (Mt.atB p (i+1)=119))) 256⟩,0)) ∨
   ((Mt.atB p (i+1)==100||Mt.atB p (i+1)==119)=false∧escB (Mt.atB p (i+1))=true∧esP p i=(⟨5,i+2,0,0,0,0,0,Mt.setTo (Mt.addR Mt.none0 (Mt.atB p (i+1)) (Mt.atB p (i+1))) 256⟩,0)) ∨
   ((Mt.atB p (i+1)==100||Mt.atB p (i+1)==119)=false∧escB (Mt.atB p (i+1))=false∧esP p i=(Mt.pt0,2)))):=by
 have l0:=Mt.atB_lo p (i+1)
 have l1:=Mt.atB_hi p (i+1)
 have he:=escB_iff (Mt.atB p (i+1)) l0
 have yes:∀ t,Mt.escape p i=(t,true)→esP p i=(Mt.ptok t,0):=fun t h=>by unfold esP;rw [h];rfl
 have no:∀ t,Mt.escape p i=(t,false)→esP p i=(Mt.pt0,2):=fun t h=>by unfold esP;rw [h];rfl
 by_cases h1:Mt.atB p (i+1)<0
 ·right
  refine ⟨Or.inl (by simp;omega),Or.inr (Or.inr ⟨?_,?_,no ⟨1,i,i+2,0,0,0,[]⟩ (by unfold Mt.escape;rw [if_pos h1])⟩)⟩
  ·simp;omega
  ·cases x:escB (Mt.atB p (i+1));rfl;exact absurd (Or.inl h1) (he.1 x)
 ·by_cases h2:Mt.atB p (i+1)=100∨Mt.atB p (i+1)=119
  ·right
   refine ⟨Or.inr ⟨by simp;omega,by simp;omega⟩,Or.inl ⟨by simpa using h2,?_⟩⟩
   rw [esc_all p i h0 h2]
   exact yes ⟨1,i,i+2,0,0,0,Mt.all p i (i+2) false⟩ (by unfold Mt.escape;rw [if_neg h1,if_pos h2])
  ·have h2':(Mt.atB p (i+1)==100||Mt.atB p (i+1)==119)=false:=by simpa using h2
   by_cases h3:49≤Mt.atB p (i+1)∧Mt.atB p (i+1)≤57
   ·left
    exact ⟨by simpa using h3.1,by simpa using h3.2,h3.1,h3.2,yes ⟨2,i,i+2,Mt.atB p (i+1)-48,0,0,[]⟩ (by unfold Mt.escape;rw [if_neg h1,if_neg h2,if_pos h3])⟩
   ·right
    have e:Mt.escape p i=(⟨1,i,i+2,0,0,0,[UInt8.ofNat (Mt.atB p (i+1)).toNat]⟩,!Mt.digB (Mt.atB p (i+1))&&!Mt.letB (Mt.atB p (i+1))):=by
     unfold Mt.escape;rw [if_neg h1,if_neg h2,if_neg h3]
    refine ⟨?_,Or.inr ?_⟩
    ·simp only [decide_eq_true_eq,decide_eq_false_iff_not];omega
    ·have eb:escB (Mt.atB p (i+1))=(!Mt.digB (Mt.atB p (i+1))&&!Mt.letB (Mt.atB p (i+1))):=by
      unfold escB
      have:(Mt.atB p (i+1) != -1)=true:=by simp;omega
      rw [this];cases Mt.digB (Mt.atB p (i+1)) <;> cases Mt.letB (Mt.atB p (i+1)) <;> rfl
     rw [← eb] at e
     cases hx:escB (Mt.atB p (i+1))
     ·rw [hx] at e;exact Or.inr ⟨h2',rfl,no _ e⟩
     ·rw [hx] at e
      refine Or.inl ⟨h2',rfl,?_⟩
      rw [Mt.set_one _ (by omega) l1]
      exact yes _ e
theorem readEscape_any (p:ByteArray) (i:Int) (w:World) (hp:p.size≤64) (hi0:0≤i) (hi1:i≤100) (h92:Mt.atB p i=92) :
  Calls Try.prog 79 #[.string p,.int .i64 i] w fun e w'=>e=.returned (.tuple #[ptV (esP p i).1,.int .i64 (esP p i).2])∧Below w.heap.size w w':=by
 have HC:=esP_cases p i h92
 clear h92
 rcases HC with ⟨a1,a2,b1,b2,e⟩ | ⟨a0,⟨a1,e⟩ | ⟨a1,a2,e⟩ | ⟨a1,a2,e⟩⟩
 ·rw [e];clear e
  go_enter Try.func79,Try.ntmps79
  go_wp2_with (go_at_call 73;refine (byteAt_any _ _ _ hp).mono ?_;rintro e w' ⟨rfl,rfl⟩)
  go_returns
  exact ⟨rfl,by go_grown⟩
 ·rw [e];clear e
  obtain ⟨T,hT⟩:∃ T,T=Mt.setTo (Mt.addL Mt.none0 (decide (Mt.atB p (i+1)=119))) 256:=⟨_,rfl⟩
  rw [← hT]
  have HT:Hid (T=Mt.setTo (Mt.addL Mt.none0 (decide (Mt.atB p (i+1)=119))) 256):=hT
  clear hT
  rcases a0 with a0 | ⟨a0,a0'⟩
  all_goals
   go_enter Try.func79,Try.ntmps79
   go_wp2_with (first | (go_at_call 73;refine (byteAt_any _ _ _ hp).mono ?_;rintro e w' ⟨rfl,rfl⟩) | (go_at_call 97;refine (isSetLetter_any _ _).mono ?_;rintro e w' ⟨rfl,rfl⟩))
   refine (addLetter_any _ (w.heap.size+1) Mt.none0 _ (by exact set_start _ _)).mono ?_
   rintro e w1 ⟨rfl,s1,o1⟩
   obtain ⟨z1,b1,sz⟩:=letBy_start o1
   have HS:Hid (setAt w1 (w.heap.size+1) (Mt.addL Mt.none0 (decide (Mt.atB p (i+1)=119)))):=s1
   have HB:Hid (Below w.heap.size w w1):=b1
   clear s1 o1 b1
   go_wp2_with fail
   have TA:=text_any w1 (w.heap.size+1) _ HS.out
   rw [← HT.out] at TA
   refine TA.mono ?_
   clear TA
   rintro e w2 ⟨rfl,b2⟩
   have z2:w2.heap[w.heap.size]?=_:=(b2.block _ (by omega)).trans z1
   have HB2:Hid (Below w.heap.size w w2):=HB.out.trans (b2.mono (by omega))
   clear b2 z1
   go_wp2_with (refine store_blk 121 8 Try.sizePT (by rfl) (.tmp 4) (.tmp 30) (by rfl) w.heap.size (ptA ⟨5,i+2,0,0,0,0,0,T⟩) (by rfl) (by rfl) z2 (by rfl) (by rfl) (ptA_all _) ?_;intro w3 r1 r2 r3 r4)
   refine bodyPost_ret (ret_blk2 121 8 Try.underlying121 rfl Try.sizePT rfl (by rfl) r1 (by rfl)) rfl ⟨rfl,?_⟩
   exact HB2.out.trans (r4 _ (Nat.le_refl _))
 ·rw [e];clear e
  obtain ⟨T,hT⟩:∃ T,T=Mt.setTo (Mt.addR Mt.none0 (Mt.atB p (i+1)) (Mt.atB p (i+1))) 256:=⟨_,rfl⟩
  rw [← hT]
  have HT:Hid (T=Mt.setTo (Mt.addR Mt.none0 (Mt.atB p (i+1)) (Mt.atB p (i+1))) 256):=hT
  clear hT
  rcases a0 with a0 | ⟨a0,a0'⟩
  all_goals
   go_enter Try.func79,Try.ntmps79
   go_wp2_with (first | (go_at_call 73;refine (byteAt_any _ _ _ hp).mono ?_;rintro e w' ⟨rfl,rfl⟩) | (go_at_call 97;refine (isSetLetter_any _ _).mono ?_;rintro e w' ⟨rfl,rfl⟩) | (go_at_call 99;refine (canBeEscaped_any _ _).mono ?_;rintro e w' ⟨rfl,rfl⟩))
   have TA:=letBy_any (w.alloc (.cells (ptA Mt.pt0) 121)) (Mt.atB p (i+1)) (Mt.atB p (i+1)) (i+2)
   rw [← HT.out] at TA
   refine TA.mono ?_
   clear TA
   rintro e w2 ⟨rfl,b2⟩
   have HZ:Hid (w2.heap[w.heap.size]?=some (.cells (ptA Mt.pt0) 121 (0,0))∧Below w.heap.size w w2):=⟨(b2.block _ (by simp)).trans (heap_b1 w _),((Below.refl _ _).alloc (Nat.le_refl _) _).trans (b2.mono (by simp))⟩
   clear b2
   go_wp2_with (refine store_blk 121 8 Try.sizePT (by rfl) (.tmp 4) (.tmp 37) (by rfl) w.heap.size (ptA ⟨5,i+2,0,0,0,0,0,T⟩) (by rfl) (by rfl) HZ.out.1 (by rfl) (by rfl) (ptA_all _) ?_;intro w3 r1 r2 r3 r4)
   refine bodyPost_ret (ret_blk2 121 8 Try.underlying121 rfl Try.sizePT rfl (by rfl) r1 (by rfl)) rfl ⟨rfl,?_⟩
   exact HZ.out.2.trans (r4 _ (Nat.le_refl _))
 ·rw [e];clear e
  rcases a0 with a0 | ⟨a0,a0'⟩
  all_goals
   go_enter Try.func79,Try.ntmps79
   go_wp2_with (first | (go_at_call 73;refine (byteAt_any _ _ _ hp).mono ?_;rintro e w' ⟨rfl,rfl⟩) | (go_at_call 97;refine (isSetLetter_any _ _).mono ?_;rintro e w' ⟨rfl,rfl⟩) | (go_at_call 99;refine (canBeEscaped_any _ _).mono ?_;rintro e w' ⟨rfl,rfl⟩))
   go_returns
   exact ⟨rfl,by go_grown⟩
end Go.Proofs.Ytebpgfodelggoab
