import Derived.Test.YtebpgfodelggoabGreatC10
import Derived.Test.YtebpgfodelggoabGreatC11
import Derived.Test.YtebpgfodelggoabGreatC08
set_option linter.unusedVariables false
set_option linter.unusedSimpArgs false
set_option maxRecDepth 100000
set_option maxHeartbeats 2000000
namespace Go.Proofs.YtebpgfodelggoabGreat
open Go.RowKit
theorem zIa (p:Int) (i:Mt.Ins):((i.op==11)=false∧Mt.zBp p i=false)∨((i.op==11)=true∧decide (p<i.y)=false∧Mt.zBp p i=false)∨((i.op==11)=true∧decide (p<i.y)=true∧Mt.zBp p i=true):=by
 unfold Mt.zBp
 simp only [beq_iff_eq,beq_eq_false_iff_ne,decide_eq_true_eq,decide_eq_false_iff_not]
 omega
theorem zMK (c:List Mt.Ins) (p:Nat) (base:Nat) (v:Value) (w:World) (h:zB w base v c) (hp:p<c.length) (hl:c.length≤300) :
  Calls Tryz.prog 74 #[v,.int .i64 p] w fun e w'=>e=.returned (.bool (Mt.zEE c p))∧w=w':=by
 rcases zAt h with ⟨rfl,ao,cap,rfl⟩ | ⟨hpos,g,cap,rfl,hcap,hg,hgb,hc⟩
 ·simp at hp
 ·have HC:Hid (∀ k j,k<c.length→j<4→w.cell? ⟨g,k*4+j,none⟩=(zU (c.getD k Mt.jB))[j]?):=hc
  clear hc h
  go_enter Tryz.func74,Tryz.ntmps74
  go_wp2_with fail
  go_loop [5] (fun i=>∃ k:Nat,k≤p∧i=.int .i64 k∧(c.take k).any (Mt.zBp p)=false) (fun i=>p-(intOf i).toNat)
  case atStart=>exact ⟨0,Nat.zero_le _,rfl,rfl⟩
  case round =>
   obtain ⟨k,hk,rfl,hr⟩:=hrel
   have HR:Hid ((c.take k).any (Mt.zBp p)=false):=hr
   clear hr
   by_cases hlt:k<p
   ·have hc0:w.cell? ⟨g,k*4,none⟩=some (.int .i64 (c.getD k Mt.jB).op):=HC.out k 0 (by omega) (by omega)
    have hc2:w.cell? ⟨g,k*4+2,none⟩=some (.int .i64 (c.getD k Mt.jB).y):=HC.out k 2 (by omega) (by omega)
    have HN:Hid ((c.take (k+1)).any (Mt.zBp p)=((c.take k).any (Mt.zBp p)||Mt.zBp p (c.getD k Mt.jB))):=Mt.zCK c _ k (by omega)
    have HY:Hid (Mt.zBp p (c.getD k Mt.jB)=true→Mt.zEE c p=true):=fun x=>Mt.zBW c _ k p hlt (by omega) x
    generalize c.getD k Mt.jB=I at *
    rcases zIa p I with ⟨e1,e⟩ | ⟨e1,e2,e⟩ | ⟨e1,e2,e⟩
    ·have HE:Hid ((c.take (k+1)).any (Mt.zBp p)=false):=by show _=_;rw [HN.out,HR.out,e];rfl
     clear e HN HR HY
     go_wp2_with fail
     go_round
     case rel=>exact ⟨k+1,by omega,by go_num,HE.out⟩
     case measure=>simp [intOf];omega
    ·have HE:Hid ((c.take (k+1)).any (Mt.zBp p)=false):=by show _=_;rw [HN.out,HR.out,e];rfl
     clear e HN HR HY
     go_wp2_with fail
     go_round
     case rel=>exact ⟨k+1,by omega,by go_num,HE.out⟩
     case measure=>simp [intOf];omega
    ·have HE:Hid (Mt.zEE c p=true):=HY.out e
     clear e HN HR HY
     go_wp2_with fail
     go_ret
     exact ⟨kM (by rw [HE.out]),rfl⟩
   ·have hk2:k=p:=by omega
    subst hk2
    go_wp2_with fail
    go_ret
    exact ⟨kM (by unfold Mt.zEE;rw [HR.out]),rfl⟩
theorem zIb (x:Mt.Ins) (q p:Int) :
  ((x.op==2)=true∧(x.x==p)=true∧Mt.zAk x q p=true) ∨
  ((x.op==2)=true∧(x.x==p)=false∧Mt.zAk x q p=(x.y==p)) ∨
  ((x.op==2)=false∧(x.op==3)=true∧Mt.zAk x q p=(x.x==p)) ∨
  ((x.op==2)=false∧(x.op==3)=false∧(x.op==5)=true∧Mt.zAk x q p=(x.x==p)) ∨
  ((x.op==2)=false∧(x.op==3)=false∧(x.op==5)=false∧(x.op==11)=true∧Mt.zAk x q p=(x.y==p)) ∨
  ((x.op==2)=false∧(x.op==3)=false∧(x.op==5)=false∧(x.op==11)=false∧(x.op==12)=true∧Mt.zAk x q p=false) ∨
  ((x.op==2)=false∧(x.op==3)=false∧(x.op==5)=false∧(x.op==11)=false∧(x.op==12)=false∧(x.op==13)=true∧Mt.zAk x q p=false) ∨
  ((x.op==2)=false∧(x.op==3)=false∧(x.op==5)=false∧(x.op==11)=false∧(x.op==12)=false∧(x.op==13)=false∧Mt.zAk x q p=(q+1==p)):=by
 unfold Mt.zAk
 by_cases h1:x.op=2
 ·cases h:(x.x==p) <;> simp [h1,h]
 by_cases h2:x.op=3
 ·simp [h2]
 by_cases h3:x.op=5
 ·simp [h3]
 by_cases h4:x.op=11
 ·simp [h4]
 by_cases h5:x.op=12
 ·simp [h5]
 by_cases h6:x.op=13
 ·simp [h6]
 simp [h1,h2,h3,h4,h5,h6]
theorem zIc (c:List Mt.Ins) (q:Nat) (p:Int) (base:Nat) (v:Value) (w:World) (h:zB w base v c) (hq:q<c.length) (hl:c.length≤300) :
  Calls Tryz.prog 112 #[v,.int .i64 q,.int .i64 p] w fun e w'=>e=.returned (.bool (Mt.leads c q p))∧Below w.heap.size w w':=by
 rcases zAt h with ⟨rfl,ao,cap,rfl⟩ | ⟨hpos,g,cap,rfl,hcap,hg,hgb,hc⟩
 ·simp at hq
 ·have hc0:w.cell? ⟨g,q*4,none⟩=some (.int .i64 (c.getD q Mt.jB).op):=hc q 0 hq (by omega)
  have hc1:w.cell? ⟨g,q*4+1,none⟩=some (.int .i64 (c.getD q Mt.jB).x):=hc q 1 hq (by omega)
  have hc2:w.cell? ⟨g,q*4+2,none⟩=some (.int .i64 (c.getD q Mt.jB).y):=hc q 2 hq (by omega)
  have hc3:w.cell? ⟨g,q*4+3,none⟩=some (.string ⟨(c.getD q Mt.jB).set.toArray⟩):=hc q 3 hq (by omega)
  clear hc h
  have e:Mt.leads c q p=Mt.zAk (c.getD q Mt.jB) q p:=rfl
  rw [e];clear e
  generalize c.getD q Mt.jB=I at *
  rcases zIb I q p with ⟨a1,a2,e⟩ | ⟨a1,a2,e⟩ | ⟨a1,a2,e⟩ | ⟨a1,a2,a3,e⟩ | ⟨a1,a2,a3,a4,e⟩ | ⟨a1,a2,a3,a4,a5,e⟩ | ⟨a1,a2,a3,a4,a5,a6,e⟩ | ⟨a1,a2,a3,a4,a5,a6,e⟩
  all_goals
   rw [e];clear e
   go_enter Tryz.func112,Tryz.ntmps112
   go_wp2_with fail
   go_ret
   exact ⟨rfl,by go_grown⟩
theorem zId (p:Int) (i:Mt.Ins):((i.op==5)=false∧Mt.yO p i=false)∨((i.op==5)=true∧(i.x==p)=false∧Mt.yO p i=false)∨((i.op==5)=true∧(i.x==p)=true∧Mt.yO p i=true):=by
 unfold Mt.yO
 simp only [beq_iff_eq,beq_eq_false_iff_ne,decide_eq_true_eq,decide_eq_false_iff_not]
 omega
theorem zLi (c:List Mt.Ins) (p:Nat) (policy mask:Int) (base:Nat) (v:Value) (w:World) (h:zB w base v c) (hp:p<c.length) (hl:c.length≤300) (hm0:0≤mask) (hm1:mask≤4294967295) :
  Calls Tryz.prog 75 #[v,.int .i64 p,.int .i64 policy,.int .i64 mask] w fun e w'=>e=.returned (.bool (Mt.picked c p policy mask))∧Below w.heap.size w w':=by
 have HI:Hid (zB w base v c):=h
 rcases zAt h with ⟨rfl,ao,cap,rfl⟩ | ⟨hpos,g,cap,rfl,hcap,hg,hgb,hc⟩
 ·simp at hp
 ·have HC:Hid (∀ k j,k<c.length→j<4→w.cell? ⟨g,k*4+j,none⟩=(zU (c.getD k Mt.jB))[j]?):=hc
  clear hc h
  cases zSQ:(policy==2)
  ·have hp2:¬ policy=2:=by simpa using zSQ
   have HP:Hid (Mt.picked c p policy mask=if policy=1 then true else if policy=3 then decide (1<Mt.leadsTo c p c.length) else if policy=4 then Mt.zCk mask (p % 32) else false):=by
    show _=_
    unfold Mt.picked;rw [if_neg (fun x=>hp2 x.1)]
   clear hp2
   go_enter Tryz.func75,Tryz.ntmps75
   go_wp2_with fail
   go_loopw [9,10] (fun n i wr=>∃ k:Nat,k≤c.length∧i=.int .i64 k∧n=.int .i64 (Mt.leadsTo c p k)∧Below w.heap.size w wr) (fun _ i _=>c.length-(intOf i).toNat)
   case atStart=>exact ⟨0,Nat.zero_le _,rfl,rfl,Below.refl _ _⟩
   case round =>
    obtain ⟨k,hk,rfl,rfl,hbel⟩:=hrel
    have hsz:=hbel.size
    have hle:=Mt.zGp c p k
    have HN:Hid (Mt.leadsTo c p (k+1)=Mt.leadsTo c p k+if Mt.leads c k p then 1 else 0):=Mt.zEo c p k
    have HIr:Hid (zB wr base (.slice (some ⟨g,0,none⟩) c.length cap) c):=HI.out.below hbel
    by_cases hlt:k<c.length
    ·have HL:Hid (∀ b,Mt.leads c k p=b→Calls Tryz.prog 112 #[.slice (some ⟨g,0,none⟩) c.length cap,.int .i64 k,.int .i64 p] wr fun e w'=>e=.returned (.bool b)∧Below wr.heap.size wr w'):=fun b hb=>by rw [← hb];exact zIc c k p base _ wr HIr.out hlt hl
     cases hq:Mt.leads c k p
     all_goals
      have HQ:Hid (Mt.leads c k p=_):=hq
      clear hq
      go_wp2_with fail
      refine (HL.out _ HQ.out).mono ?_
      rintro e w1 ⟨rfl,hb1⟩
      have hB1:Below w.heap.size w w1:=hbel.trans (hb1.mono hsz)
      clear hb1
      go_wp2_with fail
      go_roundw
      case rel=>exact ⟨k+1,by omega,by go_num,by first | (rw [HN.out,HQ.out];simp;done) | (rw [HN.out,HQ.out];go_num),hB1⟩
      case measure=>simp [intOf];omega
    ·have hk2:k=c.length:=by omega
     subst hk2
     clear HN HIr
     cases h1:(policy==1)
     ·cases h3:(policy==3)
      ·cases h4:(policy==4)
       ·go_wp2_with fail
        go_ret
        exact ⟨kM (by rw [HP.out,if_neg (by simpa using h1),if_neg (by simpa using h3),if_neg (by simpa using h4)]),hbel⟩
       ·go_wp2_with fail
        go_ret
        exact ⟨kM (by rw [HP.out,if_neg (by simpa using h1),if_neg (by simpa using h3),if_pos (by simpa using h4)];rfl),hbel⟩
      ·go_wp2_with fail
       go_ret
       exact ⟨kM (by rw [HP.out,if_neg (by simpa using h1),if_pos (by simpa using h3)];exact decide_eq_decide.2 (by omega)),hbel⟩
     ·go_wp2_with fail
      go_ret
      exact ⟨kM (by rw [HP.out,if_pos (by simpa using h1)]),hbel⟩
  ·have hp2:policy=2:=by simpa using zSQ
   subst hp2
   clear zSQ
   have HP:Hid (c.any (Mt.yO p)=false→Mt.picked c p 2 mask=false):=fun x=>by
    unfold Mt.picked;rw [if_neg (by rw [x];simp),if_neg (by omega),if_neg (by omega),if_neg (by omega)]
   have HP1:Hid (c.any (Mt.yO p)=true→Mt.picked c p 2 mask=true):=fun x=>by
    unfold Mt.picked;rw [if_pos ⟨rfl,x⟩]
   go_enter Tryz.func75,Tryz.ntmps75
   go_wp2_with fail
   go_loopw [9,10] (fun n i wr=>∃ k m:Nat,k≤c.length∧m≤k∧i=.int .i64 k∧n=.int .i64 m∧Below w.heap.size w wr∧(c.take k).any (Mt.yO p)=false) (fun _ i _=>c.length-(intOf i).toNat)
   case atStart=>exact ⟨0,0,Nat.zero_le _,Nat.le_refl _,rfl,rfl,Below.refl _ _,rfl⟩
   case round =>
    obtain ⟨k,m,hk,hmk,rfl,rfl,hbel,hr⟩:=hrel
    have HR:Hid ((c.take k).any (Mt.yO p)=false):=hr
    clear hr
    have hsz:=hbel.size
    have HIr:Hid (zB wr base (.slice (some ⟨g,0,none⟩) c.length cap) c):=HI.out.below hbel
    by_cases hlt:k<c.length
    ·have hc0:wr.cell? ⟨g,k*4,none⟩=some (.int .i64 (c.getD k Mt.jB).op):=(hbel.cell (p:=⟨g,k*4,none⟩) hg).trans (HC.out k 0 hlt (by omega))
     have hc1:wr.cell? ⟨g,k*4+1,none⟩=some (.int .i64 (c.getD k Mt.jB).x):=(hbel.cell (p:=⟨g,k*4+1,none⟩) hg).trans (HC.out k 1 hlt (by omega))
     have HL:Hid (∀ b,Mt.leads c k p=b→Calls Tryz.prog 112 #[.slice (some ⟨g,0,none⟩) c.length cap,.int .i64 k,.int .i64 p] wr fun e w'=>e=.returned (.bool b)∧Below wr.heap.size wr w'):=fun b hb=>by rw [← hb];exact zIc c k p base _ wr HIr.out hlt hl
     have HN:Hid ((c.take (k+1)).any (Mt.yO p)=((c.take k).any (Mt.yO p)||Mt.yO p (c.getD k Mt.jB))):=Mt.zCK c _ k hlt
     have HY:Hid (Mt.yO p (c.getD k Mt.jB)=true→c.any (Mt.yO p)=true):=fun x=>by
      have:=Mt.zBW c (Mt.yO p) k c.length hlt (Nat.le_refl _) x
      rwa [List.take_length] at this
     generalize c.getD k Mt.jB=I at *
     rcases zId p I with ⟨e1,e⟩ | ⟨e1,e2,e⟩ | ⟨e1,e2,e⟩
     ·have HE:Hid ((c.take (k+1)).any (Mt.yO p)=false):=by show _=_;rw [HN.out,HR.out,e];rfl
      clear e HN HR HY
      cases hq:Mt.leads c k p
      all_goals
       have HQ:Hid (Mt.leads c k p=_):=hq
       clear hq
       go_wp2_with fail
       refine (HL.out _ HQ.out).mono ?_
       rintro e w1 ⟨rfl,hb1⟩
       have hB1:Below w.heap.size w w1:=hbel.trans (hb1.mono hsz)
       clear hb1
       go_wp2_with fail
       go_roundw
       case rel=>first | exact ⟨k+1,m,by omega,by omega,by go_num,rfl,hB1,HE.out⟩ | exact ⟨k+1,m+1,by omega,by omega,by go_num,by go_num,hB1,HE.out⟩
       case measure=>simp [intOf];omega
     ·have HE:Hid ((c.take (k+1)).any (Mt.yO p)=false):=by show _=_;rw [HN.out,HR.out,e];rfl
      clear e HN HR HY
      cases hq:Mt.leads c k p
      all_goals
       have HQ:Hid (Mt.leads c k p=_):=hq
       clear hq
       go_wp2_with fail
       refine (HL.out _ HQ.out).mono ?_
       rintro e w1 ⟨rfl,hb1⟩
       have hB1:Below w.heap.size w w1:=hbel.trans (hb1.mono hsz)
       clear hb1
       go_wp2_with fail
       go_roundw
       case rel=>first | exact ⟨k+1,m,by omega,by omega,by go_num,rfl,hB1,HE.out⟩ | exact ⟨k+1,m+1,by omega,by omega,by go_num,by go_num,hB1,HE.out⟩
       case measure=>simp [intOf];omega
     ·have HE:Hid (Mt.picked c p 2 mask=true):=HP1.out (HY.out e)
      clear e HN HR HY HL
      go_wp2_with fail
      go_ret
      exact ⟨kM (by rw [HE.out]),hbel⟩
    ·have HE:Hid (Mt.picked c p 2 mask=false):=HP.out (by have:=HR.out;rwa [show k=c.length by omega,List.take_length] at this)
     clear HR HIr
     go_wp2_with fail
     go_ret
     exact ⟨kM (by rw [HE.out]),hbel⟩
def jH (w:World) (base:Nat) (v:Value) (b:List Bool):Prop:=w.ownsRow base 4 1 v b.length (b.map Value.bool)
theorem jH.below {w w':World} {base:Nat} {v:Value} {l:List Bool} (h:jH w base v l) (hb:Below w.heap.size w w'):jH w' base v l:=jT h hb
theorem Tryz.info4:(Tryz.prog.info? 4).map (fun i=>(i.zero,i.size,i.bytes))=some (some (.bool false),1,1):=by kernel_rfl
theorem zD0 {w:World} {base:Nat} {v:Value} {n:Nat} (h:w.ownsRow base 4 1 v n (madeCells (Value.bool false).cells (n*1)).toList):jH w base v (List.replicate n false):=by
 unfold jH
 rw [List.length_replicate,List.map_replicate]
 have e:(madeCells (Value.bool false).cells (n*1)).toList=List.replicate n (Value.bool false):=by
  rw [Nat.mul_one];exact toList_madeCells_one _ _
 rw [e] at h;exact h
def zBX (c:List Mt.Ins) (policy mask:Int) (k:Nat):List Bool:=(List.range k).map (Mt.zBq c policy mask)++List.replicate (c.length-k) false
theorem zML (c:List Mt.Ins) (policy mask:Int) (k:Nat) (h:k≤c.length):(zBX c policy mask k).length=c.length:=by simp [zBX];omega
theorem zLj (c:List Mt.Ins) (policy mask:Int) (k:Nat) (h:k<c.length):zBX c policy mask (k+1)=(zBX c policy mask k).set k (Mt.zBq c policy mask k):=by
 unfold zBX
 rw [show c.length-k=(c.length-(k+1))+1 by omega,List.replicate_succ,List.set_append_right _ _ (by simp),List.range_succ]
 simp
theorem zLk (c:List Mt.Ins) (policy mask:Int) (k:Nat) (h:k<c.length) (hc:Mt.zBq c policy mask k=false):zBX c policy mask (k+1)=zBX c policy mask k:=by
 unfold zBX
 rw [show c.length-k=(c.length-(k+1))+1 by omega,List.replicate_succ,List.range_succ,List.map_append,List.append_assoc]
 simp [hc]
theorem zOH {c:List Mt.Ins} {k:Nat} (h:k<c.length) (h8:(c.getD k Mt.jB).op=8):Mt.zBf c=true:=by
 have:=Mt.zBW c (fun i=>decide (i.op=8)) k c.length h (Nat.le_refl _) (by simpa using h8)
 rwa [List.take_length] at this
theorem zLl (c:List Mt.Ins) (policy mask:Int) (base:Nat) (v:Value) (w:World) (h:zB w base v c) (hl:c.length≤300) (hm0:0≤mask) (hm1:mask≤4294967295) :
  Calls Tryz.prog 46 #[v,.int .i64 policy,.int .i64 mask] w fun e w'=>∃ v',e=.returned v'∧jH w' w.heap.size v' (Mt.chosen c policy mask)∧Below w.heap.size w w':=by
 obtain ⟨i0,hi,hz0,hz1,hz2⟩:=info_parts Tryz.info4
 have HI:Hid (zB w base v c):=h
 obtain ⟨ao,cap,rfl⟩:=zCp h
 go_enter Tryz.func46,Tryz.ntmps46
 go_wp2_with (first | (at_make;refine wpList_make_full _ rfl (.tmp 11) (.tmp 11) 81 rfl w.heap.size 4 i0 (.bool false) 1 Tryz.underlying81 hi hz0 hz1 .i64 .i64 _ _ c.length rfl rfl rfl rfl (by rw [hz2];omega) (by unfold maxLen;omega) (Nat.le_refl _) ?_;intro w1 hmk hgr;clear h))
 have hB1:Below w.heap.size w w1:=(Below.refl _ _).grown hgr (Nat.le_refl _) (fun q hq=>by simp at hq)
 have HM:Hid (jH w1 w.heap.size (.slice (some ⟨w.heap.size,0,none⟩) c.length c.length) (List.replicate c.length false)):=zD0 hmk
 clear hmk hgr
 go_loopw [8] (fun i wr=>∃ k:Nat,k≤c.length∧i=.int .i64 k∧jH wr w.heap.size (.slice (some ⟨w.heap.size,0,none⟩) c.length c.length) (zBX c policy mask k)∧Below w.heap.size w wr∧(c.take k).any (fun i=>decide (i.op=8))=false) (fun i _=>c.length-(intOf i).toNat)
 case atStart=>exact ⟨0,Nat.zero_le _,rfl,HM.out,hB1,rfl⟩
 case round =>
  obtain ⟨k,hk,rfl,hown,hbel,hr⟩:=hrel
  have HR:Hid ((c.take k).any (fun i=>decide (i.op=8))=false):=hr
  have HO:Hid (jH wr w.heap.size (.slice (some ⟨w.heap.size,0,none⟩) c.length c.length) (zBX c policy mask k)):=hown
  have hsz:=hbel.size
  have HIr:Hid (zB wr base (.slice ao c.length cap) c):=HI.out.below hbel
  clear hr hown HM
  by_cases hlt:k<c.length
  ·rcases zAt HIr.out with ⟨hn,_⟩ | ⟨hpos,g,cap',hv,hcap,hg,hgb,hc⟩
   ·rw [hn] at hlt;simp at hlt
   ·simp only [Value.slice.injEq,true_and] at hv
    obtain ⟨rfl,rfl⟩:=hv
    have hc0:wr.cell? ⟨g,k*4,none⟩=some (.int .i64 (c.getD k Mt.jB).op):=hc k 0 hlt (by omega)
    have HN:Hid ((c.take (k+1)).any (fun i=>decide (i.op=8))=((c.take k).any (fun i=>decide (i.op=8))||decide ((c.getD k Mt.jB).op=8))):=Mt.zCK c _ k hlt
    have HB:Hid ((c.getD k Mt.jB).op=8→Mt.zBf c=true):=fun x=>zOH hlt x
    generalize zTS:(c.getD k Mt.jB).op=o at *
    clear zTS hc
    cases h8:(o==8)
    ·have HR2:Hid ((c.take (k+1)).any (fun i=>decide (i.op=8))=false):=by
      have h8':¬ o=8:=by simpa using h8
      show _=_;rw [HN.out,HR.out];simpa using h8'
     clear HN HB HR
     have HS:Hid (∀ b,Mt.zEE c k=b→Calls Tryz.prog 74 #[.slice (some ⟨g,0,none⟩) c.length cap,.int .i64 k] wr fun e w'=>e=.returned (.bool b)∧wr=w'):=fun b hb=>by rw [← hb];exact zMK c k base _ wr HIr.out hlt hl
     cases hs:Mt.zEE c k
     ·have HCA:Hid (Mt.zBq c policy mask k=Mt.picked c k policy mask):=by show _=_;unfold Mt.zBq;rw [hs];rfl
      have HSS:Hid (Mt.zEE c k=false):=hs
      clear hs
      have HPK:Hid (Calls Tryz.prog 75 #[.slice (some ⟨g,0,none⟩) c.length cap,.int .i64 k,.int .i64 policy,.int .i64 mask] wr fun e w'=>e=.returned (.bool (Mt.picked c k policy mask))∧Below wr.heap.size wr w'):=zLi c k policy mask base _ wr HIr.out hlt hl hm0 hm1
      have HNX:Hid (zBX c policy mask (k+1)=(zBX c policy mask k).set k (Mt.picked c k policy mask)):=by show _=_;rw [zLj c policy mask k hlt,HCA.out]
      clear HCA
      go_wp2_with fail
      refine (HS.out _ HSS.out).mono ?_
      rintro e w' ⟨rfl,rfl⟩
      go_wp2_with fail
      refine HPK.out.mono ?_
      rintro e w2 ⟨rfl,hb2⟩
      have hB2:Below w.heap.size w w2:=hbel.trans (hb2.mono hsz)
      have HO2:Hid (jH w2 w.heap.size (.slice (some ⟨w.heap.size,0,none⟩) c.length c.length) (zBX c policy mask k)):=HO.out.below hb2
      have hl2:=zML c policy mask k hk
      have q1:w2.cell? ⟨w.heap.size,k,none⟩=some (.bool ((zBX c policy mask k).getD k false)):=by
       have hx:=HO2.out
       unfold jH at hx
       rw [hl2] at hx
       have:=World.ownsRow.cellAt hx k (by omega)
       rw [this,List.getElem?_map,List.getD_eq_getElem?_getD,List.getElem?_eq_getElem (by omega)];rfl
      have q2:w2.frozen? ⟨w.heap.size,k,none⟩=false:=by
       have hx:=HO2.out
       unfold jH at hx
       rw [hl2] at hx
       exact World.ownsRow.frozenAt hx k
      have HST:Hid (jH (w2.setCell ⟨w.heap.size,k,none⟩ (.bool (Mt.picked c k policy mask))) w.heap.size (.slice (some ⟨w.heap.size,0,none⟩) c.length c.length) (zBX c policy mask (k+1))):=by
       have hx:=HO2.out
       unfold jH at hx
       rw [hl2] at hx
       have hy:=(World.ownsRow.stored hx k (.bool (Mt.picked c k policy mask))).1
       show jH _ _ _ _
       unfold jH
       rw [HNX.out,List.length_set,hl2,List.map_set]
       exact hy
      clear hb2 HO HO2 HIr hl2 HNX HPK HS
      generalize (zBX c policy mask k).getD k false=old at *
      go_wp2_with fail
      go_roundw
      case rel=>exact ⟨k+1,by omega,by go_num,HST.out,hB2.setCell (Nat.le_refl _) _,HR2.out⟩
      case measure=>simp [intOf];omega
     ·have HCA:Hid (Mt.zBq c policy mask k=false):=by show _=_;unfold Mt.zBq;rw [hs];rfl
      have HSS:Hid (Mt.zEE c k=true):=hs
      clear hs
      have HST:Hid (jH wr w.heap.size (.slice (some ⟨w.heap.size,0,none⟩) c.length c.length) (zBX c policy mask (k+1))):=by
       show jH _ _ _ _
       rw [zLk c policy mask k hlt HCA.out];exact HO.out
      clear HCA HO HIr
      go_wp2_with fail
      refine (HS.out _ HSS.out).mono ?_
      rintro e w' ⟨rfl,rfl⟩
      go_wp2_with fail
      go_roundw
      case rel=>exact ⟨k+1,by omega,by go_num,HST.out,hbel,HR2.out⟩
      case measure=>simp [intOf];omega
    ·have HE:Hid (Mt.chosen c policy mask=List.replicate c.length false):=by
      show _=_;unfold Mt.chosen;rw [if_pos (HB.out (by simpa using h8))]
     clear HN HB HR HO HIr
     go_wp2_with (first | (at_make;refine wpList_make_full _ rfl (.tmp 26) (.tmp 26) 81 rfl w.heap.size 4 i0 (.bool false) 1 Tryz.underlying81 hi hz0 hz1 .i64 .i64 _ _ c.length rfl rfl rfl rfl (by rw [hz2];omega) (by unfold maxLen;omega) hsz ?_;intro w2 hmk hgr))
     have hB2:Below w.heap.size w w2:=hbel.grown hgr hsz (fun q hq=>by simp at hq)
     have HM:Hid (jH w2 w.heap.size (.slice (some ⟨wr.heap.size,0,none⟩) c.length c.length) (List.replicate c.length false)):=zD0 hmk
     clear hmk hgr
     go_wp2_with fail
     go_ret
     exact ⟨_,rfl,by rw [HE.out];exact HM.out,hB2⟩
  ·have hk2:k=c.length:=by omega
   subst hk2
   have HE:Hid (Mt.chosen c policy mask=zBX c policy mask c.length):=by
    have h0:Mt.zBf c=false:=by have:=HR.out;rwa [List.take_length] at this
    show _=_;unfold Mt.chosen zBX;rw [h0];simp
   clear HIr HR
   go_wp2_with fail
   go_ret
   exact ⟨_,rfl,by rw [HE.out];exact HO.out,hbel⟩
theorem zFe (policy mask:Int) :
  (decide (0≤policy)=false∧Mt.kF policy mask=false) ∨
  (decide (0≤policy)=true∧decide (policy≤4)=false∧Mt.kF policy mask=false) ∨
  (decide (0≤policy)=true∧decide (policy≤4)=true∧decide (0≤mask)=false∧Mt.kF policy mask=false) ∨
  (decide (0≤policy)=true∧decide (policy≤4)=true∧decide (0≤mask)=true∧decide (mask≤4294967295)=false∧Mt.kF policy mask=false) ∨
  (decide (0≤policy)=true∧decide (policy≤4)=true∧decide (0≤mask)=true∧decide (mask≤4294967295)=true∧Mt.kF policy mask=true):=by
 unfold Mt.kF
 simp only [decide_eq_true_eq,decide_eq_false_iff_not]
 omega
theorem zGY (policy mask:Int) (w:World) :
  Calls Tryz.prog 45 #[.int .i64 policy,.int .i64 mask] w fun e w'=>e=.returned (.bool (Mt.kF policy mask))∧w=w':=by
 rcases zFe policy mask with ⟨a1,e⟩ | ⟨a1,a2,e⟩ | ⟨a1,a2,a3,e⟩ | ⟨a1,a2,a3,a4,e⟩ | ⟨a1,a2,a3,a4,e⟩
 all_goals
  rw [e];clear e
  go_enter Tryz.func45,Tryz.ntmps45
  go_wp2_with fail
  go_ret
  exact ⟨rfl,rfl⟩
def zBY (w:World) (base:Nat) (v:Value) (b:List Int):Prop:=w.ownsRow base 3 1 v b.length (b.map (Value.int .i64))
theorem Tryz.info3:(Tryz.prog.info? 3).map (fun i=>(i.zero,i.size,i.bytes))=some (some (.int .i64 0),1,8):=by kernel_rfl
def zRS:Prop:=∀ (p:ByteArray) (z:World),p.size≤maxLen→Calls Tryz.prog 18 #[.string p] z fun e w'=>∃ v,e=.returned (.tuple #[v,.int .i64 (Mt.kR p).2])∧zB w' z.heap.size v (Mt.kR p).1∧Below z.heap.size z w'
def zQu:Prop:=∀ (p:ByteArray) (z:World),p.size≤maxLen→Calls Tryz.prog 10 #[.string p] z fun e w'=>e=.returned (.tuple #[.int .i64 (Mt.zMG p).1,.int .i64 (Mt.zMG p).2])∧Below z.heap.size z w'
def zQv:Prop:=∀ (p:ByteArray) (policy mask:Int) (z:World),p.size≤maxLen→Calls Tryz.prog 23 #[.string p,.int .i64 policy,.int .i64 mask] z fun e w'=>∃ v,e=.returned (.tuple #[v,.int .i64 (Mt.zMJ p policy mask).2])∧zBY w' z.heap.size v (Mt.zMJ p policy mask).1∧Below z.heap.size z w'
end Go.Proofs.YtebpgfodelggoabGreat
