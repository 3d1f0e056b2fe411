import Derived.Test.YtebpgfodelggoaaGreatDoorC26
import Derived.Test.YtebpgfodelggoaaGreatDoorC03
import Derived.Deep.RegionWith
import Derived.Deep.QuietTactic
import Derived.BigQuiet
set_option linter.unusedVariables false
set_option linter.unusedSimpArgs false
set_option maxRecDepth 100000
set_option maxHeartbeats 2000000
namespace Go.Proofs.YtebpgfodelggoaaGreatDoor
open Go.RowKit
def cbP (p:ByteArray) (i:Int):Int × Int × Bool:=if (Mt.classByte p i).2=0 then (0,0,false) else ((Mt.classByte p i).1,i+(Mt.classByte p i).2,true)
theorem escB_iff (d:Int) (hd:-1≤d):escB d=true↔¬ (d<0∨Mt.digB d=true∨Mt.letB d=true):=by
 unfold escB
 cases Mt.digB d <;> cases Mt.letB d <;> simp <;> omega
theorem cbP_cases (p:ByteArray) (i:Int) :
  ((Mt.atB p i==-1)=true∧cbP p i=(0,0,false))∨((Mt.atB p i==-1)=false∧(Mt.atB p i==93)=true∧cbP p i=(0,0,false)) ∨
  ((Mt.atB p i==-1)=false∧(Mt.atB p i==93)=false∧(Mt.atB p i==45)=true∧cbP p i=(0,0,false)) ∨
  ((Mt.atB p i==-1)=false∧(Mt.atB p i==93)=false∧(Mt.atB p i==45)=false∧(Mt.atB p i==92)=true∧escB (Mt.atB p (i+1))=false∧cbP p i=(0,0,false)) ∨
  ((Mt.atB p i==-1)=false∧(Mt.atB p i==93)=false∧(Mt.atB p i==45)=false∧(Mt.atB p i==92)=true∧escB (Mt.atB p (i+1))=true∧cbP p i=(Mt.atB p (i+1),i+2,true)) ∨
  ((Mt.atB p i==-1)=false∧(Mt.atB p i==93)=false∧(Mt.atB p i==45)=false∧(Mt.atB p i==92)=false∧cbP p i=(Mt.atB p i,i+1,true)):=by
 unfold cbP Mt.classByte
 have l0:=Mt.atB_lo p i
 have l1:=Mt.atB_lo p (i+1)
 have he:=escB_iff (Mt.atB p (i+1)) l1
 generalize Mt.atB p i=c at *
 generalize Mt.atB p (i+1)=d at *
 simp only [beq_iff_eq,beq_eq_false_iff_ne]
 by_cases h1:c<0∨c=93∨c=45
 ·rw [if_pos h1];simp;omega
 ·rw [if_neg h1]
  by_cases h2:c≠92
  ·rw [if_pos h2];simp;omega
  ·rw [if_neg h2]
   by_cases h3:d<0∨Mt.digB d=true∨Mt.letB d=true
   ·rw [if_pos h3]
    have:escB d=false:=by cases x:escB d;rfl;exact absurd h3 (he.1 x)
    simp [this];omega
   ·rw [if_neg h3]
    have:escB d=true:=he.2 h3
    simp [this];omega
theorem readClassByte_any (p:ByteArray) (i:Int) (w:World) (hp:p.size≤64) (_hi0:0≤i) (_hi1:i≤1000) :
  Calls Tryz.prog 96 #[.string p,.int .i64 i] w fun e w'=>e=.returned (.tuple #[.int .i64 (cbP p i).1,.int .i64 (cbP p i).2.1,.bool (cbP p i).2.2])∧w=w':=by
 rcases cbP_cases p i with ⟨a1,e⟩ | ⟨a1,a2,e⟩ | ⟨a1,a2,a3,e⟩ | ⟨a1,a2,a3,a4,a5,e⟩ | ⟨a1,a2,a3,a4,a5,e⟩ | ⟨a1,a2,a3,a4,e⟩
 all_goals
  rw [e];clear e
  go_enter Tryz.func96,Tryz.ntmps96
  go_wp2_with (first | (go_at_call 66;refine (byteAt_any _ _ _ hp).mono ?_;rintro e w' ⟨rfl,rfl⟩) | (go_at_call 89;refine (canBeEscaped_any _ _).mono ?_;rintro e w' ⟨rfl,rfl⟩))
  refine bodyPost_ret (results_tmp3 rfl _ _ _) rfl ?_
  exact ⟨rfl,rfl⟩
def numP (p:ByteArray) (i:Int):Int × Int × Bool:=if (Mt.number p i).2=0∨20<(Mt.number p i).1 then (0,0,false) else ((Mt.number p i).1,i+(Mt.number p i).2,true)
theorem numP_cases (p:ByteArray) (i:Int) :
  (Mt.digB (Mt.atB p i)=false∧numP p i=(0,0,false)) ∨
  (48≤Mt.atB p i∧Mt.atB p i≤57∧Mt.digB (Mt.atB p i)=true∧Mt.digB (Mt.atB p (i+1))=false∧numP p i=(Mt.atB p i-48,i+1,true)) ∨
  (48≤Mt.atB p i∧Mt.atB p i≤57∧48≤Mt.atB p (i+1)∧Mt.atB p (i+1)≤57∧Mt.digB (Mt.atB p i)=true∧Mt.digB (Mt.atB p (i+1))=true ∧
   (
   (decide (20<(Mt.atB p i-48)*10+Mt.atB p (i+1)-48)=true∧numP p i=(0,0,false)) ∨
   (decide (20<(Mt.atB p i-48)*10+Mt.atB p (i+1)-48)=false∧numP p i=((Mt.atB p i-48)*10+Mt.atB p (i+1)-48,i+1+1,true)))):=by
 unfold numP Mt.number
 simp only [Mt.digB,decide_eq_true_eq,decide_eq_false_iff_not]
 generalize Mt.atB p i=c
 generalize Mt.atB p (i+1)=d
 by_cases h1:c<48∨57<c
 ·rw [if_pos h1];simp;omega
 ·rw [if_neg h1]
  by_cases h2:d<48∨57<d
  ·rw [if_pos h2];simp;omega
  ·rw [if_neg h2]
   by_cases h3:20<10*(c-48)+d-48
   ·simp [h3];omega
   ·simp [h3];omega
theorem readNumber_any (p:ByteArray) (i:Int) (w:World) (hp:p.size≤64) (_hi0:0≤i) (_hi1:i≤1000) :
  Calls Tryz.prog 81 #[.string p,.int .i64 i] w fun e w'=>e=.returned (.tuple #[.int .i64 (numP p i).1,.int .i64 (numP p i).2.1,.bool (numP p i).2.2])∧w=w':=by
 rcases numP_cases p i with ⟨a1,e⟩ | ⟨b1,b2,a1,a2,e⟩ | ⟨b1,b2,b3,b4,a1,a2,⟨a3,e⟩ | ⟨a3,e⟩⟩
 all_goals
  rw [e];clear e
  go_enter Tryz.func81,Tryz.ntmps81
  go_wp2_with (first | (go_at_call 66;refine (byteAt_any _ _ _ hp).mono ?_;rintro e w' ⟨rfl,rfl⟩) | (go_at_call 95;refine (isDigit_any _ _).mono ?_;rintro e w' ⟨rfl,rfl⟩))
  refine bodyPost_ret (results_tmp3 rfl _ _ _) rfl ?_
  exact ⟨rfl,rfl⟩
def mostP (p:ByteArray) (i:Int):Int × Int × Bool:=if Mt.atB p i=125 then (-1,i,true) else numP p i
theorem readMost_any (p:ByteArray) (i:Int) (w:World) (hp:p.size≤64) (_hi0:0≤i) (_hi1:i≤1000) :
  Calls Tryz.prog 82 #[.string p,.int .i64 i] w fun e w'=>e=.returned (.tuple #[.int .i64 (mostP p i).1,.int .i64 (mostP p i).2.1,.bool (mostP p i).2.2])∧w=w':=by
 cases a:(Mt.atB p i==125)
 ·have e:mostP p i=numP p i:=by unfold mostP;rw [if_neg (by simpa using a)]
  rw [e];clear e
  go_enter Tryz.func82,Tryz.ntmps82
  go_wp2_with (first | (go_at_call 66;refine (byteAt_any _ _ _ hp).mono ?_;rintro e w' ⟨rfl,rfl⟩) | (go_at_call 81;refine (readNumber_any _ _ _ hp (by omega) (by omega)).mono ?_;rintro e w' ⟨rfl,rfl⟩))
  refine bodyPost_ret (results_tmp3 rfl _ _ _) rfl ?_
  exact ⟨rfl,rfl⟩
 ·have e:mostP p i=(-1,i,true):=by unfold mostP;rw [if_pos (by simpa using a)]
  rw [e];clear e
  go_enter Tryz.func82,Tryz.ntmps82
  go_wp2_with (first | (go_at_call 66;refine (byteAt_any _ _ _ hp).mono ?_;rintro e w' ⟨rfl,rfl⟩))
  refine bodyPost_ret (results_tmp3 rfl _ _ _) rfl ?_
  exact ⟨rfl,rfl⟩
def ptA (t:Mt.PT):Array Value:=#[.int .i64 t.kind,.int .i64 t.en,.int .i64 t.group,.int .i64 t.number,.int .i64 t.least,.int .i64 t.most,.int .i64 t.mood,.string ⟨t.set.toArray⟩]
def ptV (t:Mt.PT):Value:=.agg (ptA t)
theorem ptA_size (t:Mt.PT):(ptA t).size=8:=rfl
theorem ptA_all (t:Mt.PT):(ptA t).all (·.oneCell')=true:=by simp [ptA,Value.oneCell']
theorem Tryz.sizePT:(Tryz.prog.info? 115).map (·.size)=some 8:=by kernel_rfl
theorem Tryz.zeroSet:Tryz.zeroCells142=setA Mt.none0:=by kernel_rfl
theorem letBy_start {w w1:World} {A:Array Value} {t:TypeId} (o1:Only (w.heap.size+1) ((w.alloc (.cells A t)).alloc (.cells Tryz.zeroCells142 142)) w1) :
  w1.heap[w.heap.size]?=some (.cells A t (0,0))∧Below w.heap.size w w1∧w1.heap.size=w.heap.size+2:=by
 refine ⟨by rw [o1.block _ (by omega)];exact heap_b2 _ _ _,?_,by rw [o1.size];simp⟩
 exact (((Below.refl _ _).alloc (Nat.le_refl _) _).alloc (by simp) _).trans (o1.below (by omega))
theorem set_start (w:World) (A:Obj):setAt ((w.alloc A).alloc (.cells Tryz.zeroCells142 142)) (w.heap.size+1) Mt.none0:=by
 unfold setAt;rw [heap_b3,Tryz.zeroSet]
theorem letBy_any (w:World) (a b i:Int) :
  Calls Tryz.prog 70 #[.int .i64 a,.int .i64 b,.int .i64 i] w fun e w'=>e=.returned (ptV ⟨5,i,0,0,0,0,0,Mt.setTo (Mt.addR Mt.none0 a b) 256⟩)∧Below w.heap.size w w':=by
 obtain ⟨T,hT⟩:∃ T,T=Mt.setTo (Mt.addR Mt.none0 a b) 256:=⟨_,rfl⟩
 rw [← hT]
 have HT:Hid (T=Mt.setTo (Mt.addR Mt.none0 a b) 256):=hT
 clear hT
 go_enter Tryz.func70,Tryz.ntmps70
 go_wp2_with fail
 refine (addRange_any _ (w.heap.size+1) Mt.none0 a b (by exact set_start _ _)).mono ?_
 rintro e w1 ⟨rfl,s1,o1⟩
 obtain ⟨z1,b1,sz⟩:=letBy_start o1
 have HS:Hid (setAt w1 (w.heap.size+1) (Mt.addR Mt.none0 a b)):=s1
 have HB:Hid (Below w.heap.size w w1):=b1
 clear s1 o1 b1
 go_wp2_with fail
 have TA:=text_any w1 (w.heap.size+1) _ HS.out
 rw [← HT.out] at TA
 refine TA.mono ?_
 clear TA
 rintro e w2 ⟨rfl,b2⟩
 have z2:w2.heap[w.heap.size]?=_:=(b2.block _ (by omega)).trans z1
 have HB2:Hid (Below w.heap.size w w2):=HB.out.trans (b2.mono (by omega))
 clear b2 z1
 go_wp2_with (refine store_blk 115 8 Tryz.sizePT (by rfl) (.tmp 6) (.tmp 13) (by rfl) w.heap.size (ptA ⟨5,i,0,0,0,0,0,T⟩) (by rfl) (by rfl) z2 (by rfl) (by rfl) (ptA_all _) ?_;intro w3 r1 r2 r3 r4)
 refine bodyPost_ret (ret_blk1 115 8 Tryz.underlying115 rfl Tryz.sizePT rfl (by rfl) r1 (by rfl)) rfl ⟨rfl,?_⟩
 exact HB2.out.trans (r4 _ (Nat.le_refl _))
def moodP (p:ByteArray) (t n m:Int):Mt.PT:=⟨4,(Mt.mood p t).2,0,0,n,m,(Mt.mood p t).1+1,[]⟩
theorem moodP_cases (p:ByteArray) (t n m:Int) :
  ((Mt.atB p t==63)=true∧moodP p t n m=⟨4,t+1,0,0,n,m,2,[]⟩)∨((Mt.atB p t==63)=false∧(Mt.atB p t==43)=true∧moodP p t n m=⟨4,t+1,0,0,n,m,3,[]⟩) ∨
  ((Mt.atB p t==63)=false∧(Mt.atB p t==43)=false∧moodP p t n m=⟨4,t,0,0,n,m,1,[]⟩):=by
 unfold moodP Mt.mood
 simp only [beq_iff_eq,beq_eq_false_iff_ne]
 by_cases h1:Mt.atB p t=63
 ·rw [if_pos h1];simp [h1]
 ·rw [if_neg h1]
  by_cases h2:Mt.atB p t=43
  ·rw [if_pos h2];simp [h2]
  ·rw [if_neg h2];simp [h1,h2]
theorem readMood_any (p:ByteArray) (t n m:Int) (w:World) (hp:p.size≤64) (h0:0≤t) (h1:t≤1000) :
  Calls Tryz.prog 68 #[.string p,.int .i64 t,.int .i64 n,.int .i64 m] w fun e w'=>e=.returned (ptV (moodP p t n m))∧Below w.heap.size w w':=by
 rcases moodP_cases p t n m with ⟨a1,e⟩ | ⟨a1,a2,e⟩ | ⟨a1,a2,e⟩
 all_goals
  rw [e];clear e
  go_enter Tryz.func68,Tryz.ntmps68
  go_wp2_with (first | (go_at_call 66;refine (byteAt_any _ _ _ hp).mono ?_;rintro e w' ⟨rfl,rfl⟩))
  go_returns
  exact ⟨rfl,by go_grown⟩
def itP (p:ByteArray) (i:Int):Int × Bool:=if (Mt.item p i).2.2.1=0 then (0,false) else (i+(Mt.item p i).2.2.1,true)
theorem itP_cases (p:ByteArray) (i:Int) (S:Mt.BSet) :
  ((Mt.atB p i==92)=true∧(Mt.atB p (i+1)==100||Mt.atB p (i+1)==119)=true∧itP p i=(i+2,true)∧Mt.addI p i S=Mt.addL S (decide (Mt.atB p (i+1)=119))) ∨
  ((
   (Mt.atB p i==92)=false∨(Mt.atB p i==92)=true∧(Mt.atB p (i+1)==100||Mt.atB p (i+1)==119)=false) ∧
   (
   ((cbP p i).2.2=false∧itP p i=(0,false)) ∨
   ((cbP p i).2.2=true∧(Mt.atB p (cbP p i).2.1 != 45)=true∧itP p i=((cbP p i).2.1,true)∧Mt.addI p i S=Mt.addR S (cbP p i).1 (cbP p i).1) ∨
   ((cbP p i).2.2=true∧(Mt.atB p (cbP p i).2.1 != 45)=false∧(cbP p ((cbP p i).2.1+1)).2.2=false∧itP p i=(0,false)) ∨
   ((cbP p i).2.2=true∧(Mt.atB p (cbP p i).2.1 != 45)=false∧(cbP p ((cbP p i).2.1+1)).2.2=true∧decide ((cbP p ((cbP p i).2.1+1)).1<(cbP p i).1)=true∧itP p i=(0,false)) ∨
   ((
    cbP p i).2.2=true∧(Mt.atB p (cbP p i).2.1 != 45)=false∧(cbP p ((cbP p i).2.1+1)).2.2=true∧decide ((cbP p ((cbP p i).2.1+1)).1<(cbP p i).1)=false ∧
    itP p i=((cbP p ((cbP p i).2.1+1)).2.1,true)∧Mt.addI p i S=Mt.addR S (cbP p i).1 (cbP p ((cbP p i).2.1+1)).1))):=by
 have b1:=Mt.classByte_bd p i
 have b2:=Mt.classByte_bd p (i+(Mt.classByte p i).2+1)
 have key:∀ j,(Mt.classByte p j).2=0→cbP p j=(0,0,false):=fun j h=>by unfold cbP;rw [if_pos h]
 have key2:∀ j,¬ (Mt.classByte p j).2=0→cbP p j=((Mt.classByte p j).1,j+(Mt.classByte p j).2,true):=fun j h=>by unfold cbP;rw [if_neg h]
 unfold itP Mt.addI
 by_cases h0:Mt.atB p i=92∧(Mt.atB p (i+1)=100∨Mt.atB p (i+1)=119)
 ·have e:Mt.item p i=(92,Mt.atB p (i+1),2,true):=by unfold Mt.item;rw [if_pos h0]
  left
  rw [e]
  refine ⟨by simpa using h0.1,by simpa using h0.2,by simp,by simp⟩
 ·right
  refine ⟨?_,?_⟩
  ·by_cases h1:Mt.atB p i=92
   ·right;refine ⟨by simpa using h1,?_⟩
    have:¬ (Mt.atB p (i+1)=100∨Mt.atB p (i+1)=119):=fun x=>h0 ⟨h1,x⟩
    simpa using this
   ·left;simpa using h1
  ·by_cases h1:(Mt.classByte p i).2=0
   ·have e:Mt.item p i=(0,0,0,false):=by unfold Mt.item;rw [if_neg h0,if_pos h1]
    left;rw [e,key i h1];simp
   ·right
    rw [key2 i h1]
    dsimp only
    by_cases h2:Mt.atB p (i+(Mt.classByte p i).2)≠45
    ·have e:Mt.item p i=((Mt.classByte p i).1,(Mt.classByte p i).1,(Mt.classByte p i).2,false):=by unfold Mt.item;rw [if_neg h0,if_neg h1,if_pos h2]
     left;rw [e];simp [h1,h2]
    ·right
     have h2':(Mt.atB p (i+(Mt.classByte p i).2) != 45)=false:=by simpa using h2
     by_cases h3:(Mt.classByte p (i+(Mt.classByte p i).2+1)).2=0
     ·have e:Mt.item p i=(0,0,0,false):=by unfold Mt.item;rw [if_neg h0,if_neg h1,if_neg h2,if_pos (Or.inl h3)]
      left;rw [e,key _ h3];simp [h2']
     ·right
      rw [key2 _ h3]
      by_cases h4:(Mt.classByte p (i+(Mt.classByte p i).2+1)).1<(Mt.classByte p i).1
      ·have e:Mt.item p i=(0,0,0,false):=by unfold Mt.item;rw [if_neg h0,if_neg h1,if_neg h2,if_pos (Or.inr h4)]
       left;rw [e];simp [h2',h4]
      ·have e:Mt.item p i=((Mt.classByte p i).1,(Mt.classByte p (i+(Mt.classByte p i).2+1)).1,(Mt.classByte p i).2+1+(Mt.classByte p (i+(Mt.classByte p i).2+1)).2,false):=by
        unfold Mt.item;rw [if_neg h0,if_neg h1,if_neg h2,if_neg (by omega)]
       right;rw [e]
       refine ⟨rfl,h2',rfl,by simpa using h4,?_,by simp⟩
       rw [if_neg (by simp only;omega)]
       simp only [Prod.mk.injEq,and_true];omega
theorem cbP_bd (p:ByteArray) (i:Int) (h:0≤i):0≤(cbP p i).2.1∧(cbP p i).2.1≤i+2:=by
 have b1:=Mt.classByte_bd p i
 unfold cbP;split
 ·simp;omega
 ·simp only;omega
def afterI (p:ByteArray) (i:Int) (S:Mt.BSet):Mt.BSet:=if (itP p i).2 then Mt.addI p i S else S
theorem readItem_any (p:ByteArray) (i:Int) (w:World) (g:Nat) (S:Mt.BSet) (hp:p.size≤64) (hi0:0≤i) (hi1:i≤900) (hS:setAt w g S) :
  Calls Tryz.prog 85 #[.string p,.int .i64 i,.pointer (some ⟨g,0,none⟩)] w fun e w'=>e=.returned (.tuple #[.int .i64 (itP p i).1,.bool (itP p i).2])∧setAt w' g (afterI p i S)∧Only g w w':=by
 have H0:Hid (setAt w g S):=hS
 clear hS
 obtain ⟨c1,c2⟩:=cbP_bd p i hi0
 obtain ⟨d1,d2⟩:=cbP_bd p ((cbP p i).2.1+1) (by omega)
 unfold afterI
 rcases itP_cases p i S with ⟨a1,a2,e,f⟩ | ⟨a0,⟨a1,e⟩ | ⟨a1,a2,e,f⟩ | ⟨a1,a2,a3,e⟩ | ⟨a1,a2,a3,a4,e⟩ | ⟨a1,a2,a3,a4,e,f⟩⟩
 ·rw [e]
  have HF:Hid (Mt.addI p i S=Mt.addL S (decide (Mt.atB p (i+1)=119))):=f
  clear e f
  go_enter Tryz.func85,Tryz.ntmps85
  go_wp2_with (first | (go_at_call 66;refine (byteAt_any _ _ _ hp).mono ?_;rintro e w' ⟨rfl,rfl⟩) | (go_at_call 87;refine (isSetLetter_any _ _).mono ?_;rintro e w' ⟨rfl,rfl⟩))
  refine (addLetter_any _ g S _ H0.out).mono ?_
  rintro e w1 ⟨rfl,s1,o1⟩
  have H1:Hid (setAt w1 g (Mt.addL S (decide (Mt.atB p (i+1)=119)))∧Only g w w1):=⟨s1,o1⟩
  clear s1 o1
  go_wp2_with fail
  go_returns
  exact ⟨rfl,by rw [HF.out];exact H1.out.1,H1.out.2⟩
 ·rw [e]
  clear e
  rcases a0 with a0 | ⟨a0,a0'⟩
  all_goals
   go_enter Tryz.func85,Tryz.ntmps85
   go_wp2_with (first | (go_at_call 66;refine (byteAt_any _ _ _ hp).mono ?_;rintro e w' ⟨rfl,rfl⟩) | (go_at_call 87;refine (isSetLetter_any _ _).mono ?_;rintro e w' ⟨rfl,rfl⟩) | (go_at_call 96;refine (readClassByte_any _ _ _ hp (by omega) (by omega)).mono ?_;rintro e w' ⟨rfl,rfl⟩))
   go_returns
   exact ⟨rfl,H0.out,Only.refl _ _⟩
 ·rw [e]
  have HF:Hid (Mt.addI p i S=Mt.addR S (cbP p i).1 (cbP p i).1):=f
  clear e f
  rcases a0 with a0 | ⟨a0,a0'⟩
  all_goals
   go_enter Tryz.func85,Tryz.ntmps85
   go_wp2_with (first | (go_at_call 66;refine (byteAt_any _ _ _ hp).mono ?_;rintro e w' ⟨rfl,rfl⟩) | (go_at_call 87;refine (isSetLetter_any _ _).mono ?_;rintro e w' ⟨rfl,rfl⟩) | (go_at_call 96;refine (readClassByte_any _ _ _ hp (by omega) (by omega)).mono ?_;rintro e w' ⟨rfl,rfl⟩))
   refine (addRange_any _ g S _ _ H0.out).mono ?_
   rintro e w1 ⟨rfl,s1,o1⟩
   have H1:Hid (setAt w1 g (Mt.addR S (cbP p i).1 (cbP p i).1)∧Only g w w1):=⟨s1,o1⟩
   clear s1 o1
   go_wp2_with fail
   go_returns
   exact ⟨rfl,by rw [HF.out];exact H1.out.1,H1.out.2⟩
 ·rw [e]
  clear e
  rcases a0 with a0 | ⟨a0,a0'⟩
  all_goals
   go_enter Tryz.func85,Tryz.ntmps85
   go_wp2_with (first | (go_at_call 66;refine (byteAt_any _ _ _ hp).mono ?_;rintro e w' ⟨rfl,rfl⟩) | (go_at_call 87;refine (isSetLetter_any _ _).mono ?_;rintro e w' ⟨rfl,rfl⟩) | (go_at_call 96;refine (readClassByte_any _ _ _ hp (by omega) (by omega)).mono ?_;rintro e w' ⟨rfl,rfl⟩))
   go_returns
   exact ⟨rfl,H0.out,Only.refl _ _⟩
 ·rw [e]
  clear e
  rcases a0 with a0 | ⟨a0,a0'⟩
  all_goals
   go_enter Tryz.func85,Tryz.ntmps85
   go_wp2_with (first | (go_at_call 66;refine (byteAt_any _ _ _ hp).mono ?_;rintro e w' ⟨rfl,rfl⟩) | (go_at_call 87;refine (isSetLetter_any _ _).mono ?_;rintro e w' ⟨rfl,rfl⟩) | (go_at_call 96;refine (readClassByte_any _ _ _ hp (by omega) (by omega)).mono ?_;rintro e w' ⟨rfl,rfl⟩))
   go_returns
   exact ⟨rfl,H0.out,Only.refl _ _⟩
 ·rw [e]
  have HF:Hid (Mt.addI p i S=Mt.addR S (cbP p i).1 (cbP p ((cbP p i).2.1+1)).1):=f
  clear e f
  rcases a0 with a0 | ⟨a0,a0'⟩
  all_goals
   go_enter Tryz.func85,Tryz.ntmps85
   go_wp2_with (first | (go_at_call 66;refine (byteAt_any _ _ _ hp).mono ?_;rintro e w' ⟨rfl,rfl⟩) | (go_at_call 87;refine (isSetLetter_any _ _).mono ?_;rintro e w' ⟨rfl,rfl⟩) | (go_at_call 96;refine (readClassByte_any _ _ _ hp (by omega) (by omega)).mono ?_;rintro e w' ⟨rfl,rfl⟩))
   refine (addRange_any _ g S _ _ H0.out).mono ?_
   rintro e w1 ⟨rfl,s1,o1⟩
   have H1:Hid (setAt w1 g (Mt.addR S (cbP p i).1 (cbP p ((cbP p i).2.1+1)).1)∧Only g w w1):=⟨s1,o1⟩
   clear s1 o1
   go_wp2_with fail
   go_returns
   exact ⟨rfl,by rw [HF.out];exact H1.out.1,H1.out.2⟩
theorem Only.drew {g:Nat} {a w:World} (h:Only g a w):Only g a w.drew:=h.trans ⟨(Below.refl 0 w).drew.os,(Below.refl 0 w).drew.tape,(Below.refl 0 w).drew.output,rfl,fun _ _=>rfl⟩
theorem invert_any (w:World) (g:Nat) (S:Mt.BSet) (hS:setAt w g S) :
  Calls Tryz.prog 86 #[.pointer (some ⟨g,0,none⟩)] w fun e w'=>e=.returned (.tuple #[])∧setAt w' g (fun c=>!S c)∧Below g w w'∧w'.heap.size=w.heap.size∧(∀ k,k≠g→w'.heap[k]?=w.heap[k]?):=by
 have H0:Hid (setAt w g (Mt.notTo S 0)):=by
                        show setAt _ _ _;have:Mt.notTo S 0=S:=by funext c;simp [Mt.notTo]
                        rw [this];exact hS
 clear hS
 go_enter Tryz.func86,Tryz.ntmps86
 go_wp2_with fail
 go_loopw [2] (fun i wr=>∃ k:Nat,k≤256∧i=.int .i64 k∧setAt wr g (Mt.notTo S k)∧Below g w wr∧wr.heap.size=w.heap.size∧(∀ j,j≠g→wr.heap[j]?=w.heap[j]?)) (fun i _=>256-(intOf i).toNat)
 case atStart=>exact ⟨0,by omega,rfl,H0.out,Below.refl _ _,rfl,fun _ _=>rfl⟩
 case round =>
  obtain ⟨k,hk,rfl,hs,hO,hz,hj⟩:=hrel
  have HS:Hid (setAt wr g (Mt.notTo S k)):=hs
  have HO:Hid (Below g w wr∧wr.heap.size=w.heap.size∧(∀ j,j≠g→wr.heap[j]?=w.heap[j]?)):=⟨hO,hz,hj⟩
  by_cases hl:k<256
  ·have zz:wr.cell? ⟨g,k,none⟩=some (.bool (S k)):=by rw [(cell_block hs).1,setA_get _ _ hl];simp [Mt.notTo]
   have z2:=(cell_block hs).2 k
   clear hs hO hz hj
   generalize hq:S k=q at *
   have HQ:Hid (S k=q):=hq
   clear hq
   go_wp2_with fail
   go_region
   go_wp2_with fail
   go_roundw
   case rel =>
    refine ⟨k+1,by omega,by go_num,?_,(HO.out.1.setCell (p:=⟨g,k,none⟩) (Nat.le_refl _) _).drew,?_,fun j hj=>?_⟩
    ·have:=Go.heap_setCell_same wr g k _ _ (.bool !q) HS.out
     rw [setA_set (Mt.notTo S k) (Mt.notTo S (k+1)) k (!q) hl (fun c=>by rw [Mt.notTo_next,HQ.out])] at this
     exact this
    ·show (wr.setCell ⟨g,k,none⟩ (.bool !q)).heap.size=_
     rw [← HO.out.2.1];simp [World.setCell]
    ·show (wr.setCell ⟨g,k,none⟩ (.bool !q)).heap[j]?=_
     rw [Below.heap_setCell _ _ _ _ hj];exact HO.out.2.2 j hj
   case measure=>simp [intOf];omega
  ·have e:k=256:=by omega
   subst e
   clear hs hO hz hj
   go_wp2_with fail
   go_returns
   refine ⟨rfl,?_,HO.out⟩
   have:=HS.out
   unfold setAt at this ⊢
   rw [setA_same (T:=fun c=>!S c) (fun c hc=>by simp [Mt.notTo,hc])] at this
   exact this
end Go.Proofs.YtebpgfodelggoaaGreatDoor
namespace Mt
theorem item_in (p:ByteArray) (i:Int) (h0:0≤i) (h:(item p i).2.2.1≠0):i<(p.size:Int):=by
 rcases Int.lt_or_le i p.size with h1 | h1
 ·exact h1
 ·have e:=atB_out p i (Or.inr h1)
  exfalso;apply h
  have c:classByte p i=(0,0):=by unfold classByte;rw [if_pos (Or.inl (by omega))]
  unfold item
  rw [if_neg (by omega),if_pos (by rw [c])]
theorem classFrom_item (p:ByteArray) (b:Int) (h0:0≤b) (h1:atB p b≠93) (h2:(item p b).2.2.1≠0):classFrom p b=classFrom p (b+(item p b).2.2.1):=by
 have:=item_in p b h0 h2
 rw [classFrom_step,if_neg (by omega),if_neg h1,if_neg h2]
theorem classFrom_none (p:ByteArray) (b:Int) (h1:atB p b≠93) (h2:(item p b).2.2.1=0):classFrom p b=-1:=by
 rw [classFrom_step]
 by_cases h:(p.size:Int)≤b
 ·rw [if_pos h]
 ·rw [if_neg h,if_neg h1,if_pos h2]
theorem classFrom_end (p:ByteArray) (b:Int) (h1:atB p b=93):classFrom p b=b:=by
 have:=atB_ge p b (by omega)
 rw [classFrom_step,if_neg (by omega),if_pos h1]
def Half (p:ByteArray) (a b:Int) (S:BSet):Prop:=classFrom p b=classFrom p a∧(classFrom p a≠-1→∀ c:Nat,(S c||inClass p b (classFrom p a) (c:Int))=inClass p a (classFrom p a) (c:Int))
theorem half_start (p:ByteArray) (a:Int):Half p a a none0:=⟨rfl,fun _ c=>by simp [none0]⟩
theorem half_next {p:ByteArray} {a b:Int} {S:BSet} (h:Half p a b S) (h0:0≤b) (h1:atB p b≠93) (h2:(item p b).2.2.1≠0):Half p a (b+(item p b).2.2.1) (addI p b S):=by
 have e:=classFrom_item p b h0 h1 h2
 refine ⟨by rw [← e];exact h.1,fun hn c=>?_⟩
 have hb:=item_bd p b
 have bd:=classFrom_bd p ((p.size:Int)-(b+(item p b).2.2.1)+1).toNat (b+(item p b).2.2.1) (by omega) (by omega)
 have e2:=h.1
 rw [← h.2 hn c]
 exact (addI_in p b (classFrom p a) S c (by omega) h2).symm
theorem half_end {p:ByteArray} {a b:Int} {S:BSet} (h:Half p a b S) (h1:atB p b=93):classFrom p a=b∧∀ c:Nat,S c=inClass p a b (c:Int):=by
 have e:=classFrom_end p b h1
 have e2:=h.1
 have g:=atB_ge p b (by omega)
 have e3:classFrom p a=b:=by rw [← e2,e]
 refine ⟨e3,fun c=>?_⟩
 have:=h.2 (by omega) c
 rw [e3,inClass_empty] at this
 simpa using this
end Mt
namespace Go.Proofs.YtebpgfodelggoaaGreatDoor
open Go.RowKit
def clP (p:ByteArray) (i:Int):Mt.PT × Int:=if (Mt.classT p i).2 then (Mt.ptok (Mt.classT p i).1,0) else (Mt.pt0,3)
theorem clP_none (p:ByteArray) (i:Int) (h:Mt.classFrom p (Mt.classA p i)=-1):clP p i=(Mt.pt0,3):=by
 have e:(Mt.classT p i).2=false:=by unfold Mt.classT;rw [if_pos (Or.inl h)]
 unfold clP;rw [e];rfl
theorem clP_empty (p:ByteArray) (i:Int) (h:Mt.classFrom p (Mt.classA p i)=Mt.classA p i):clP p i=(Mt.pt0,3):=by
 have e:(Mt.classT p i).2=false:=by unfold Mt.classT;rw [if_pos (Or.inr h)]
 unfold clP;rw [e];rfl
theorem clP_some (p:ByteArray) (i b:Int) (h:Mt.classFrom p (Mt.classA p i)=b) (h1:b≠-1) (h2:b≠Mt.classA p i):clP p i=(⟨5,b+1,0,0,0,0,0,Mt.all p (Mt.classA p i) b (decide (Mt.atB p (i+1)=94))⟩,0):=by
 have e:Mt.classT p i=(⟨1,i,b+1,0,0,0,Mt.all p (Mt.classA p i) b (decide (Mt.atB p (i+1)=94))⟩,true):=by
  unfold Mt.classT;rw [h,if_neg (by rintro (x | x);exact h1 x;exact h2 x)]
 unfold clP;rw [e];rfl
theorem set_no (p:ByteArray) (a b:Int) (S:Mt.BSet) (h:∀ c:Nat,S c=Mt.inClass p a b (c:Int)):Mt.setTo S 256=Mt.all p a b false∧Mt.setTo (fun c=>!S c) 256=Mt.all p a b true:=by
 rw [← Mt.setTo_all,← Mt.setTo_all]
 exact ⟨Mt.setTo_same (fun c _=>by rw [h c];simp),Mt.setTo_same (fun c _=>by rw [h c];simp)⟩
theorem readClass_any (p:ByteArray) (i:Int) (w:World) (hp:p.size≤64) (hi0:0≤i) (hi1:i≤100) :
  Calls Tryz.prog 71 #[.string p,.int .i64 i] w fun e w'=>e=.returned (.tuple #[ptV (clP p i).1,.int .i64 (clP p i).2])∧Below w.heap.size w w':=by
 obtain ⟨a,ha⟩:∃ a,a=Mt.classA p i:=⟨_,rfl⟩
 cases hv:(Mt.atB p (i+1)==94)
 all_goals
  have ha2:a=if (Mt.atB p (i+1)==94) then i+1+1 else i+1:=by
   rw [ha];unfold Mt.classA;by_cases x:Mt.atB p (i+1)=94 <;> simp [x]
   omega
  rw [hv] at ha2
  simp only [if_true,if_false,Bool.false_eq_true] at ha2
  have ha0:0≤a:=by omega
  have ha1:a≤102:=by omega
  have HA:Hid (a=Mt.classA p i):=ha
  have HV:Hid ((Mt.atB p (i+1)==94)=_):=hv
  obtain ⟨R,hR⟩:∃ R,R=clP p i:=⟨_,rfl⟩
  rw [← hR]
  have HR:Hid (R=clP p i):=hR
  clear hR ha
  go_enter Tryz.func71,Tryz.ntmps71
  go_wp2_with (first | (go_at_call 66;refine (byteAt_any _ _ _ hp).mono ?_;rintro e w' ⟨rfl,rfl⟩))
  rw [← ha2]
  clear ha2
  go_loopw [6] (fun b wr=>∃ (k:Int) (S:Mt.BSet),a≤k∧k≤110∧b=.int .i64 k∧setAt wr (w.heap.size+1) S∧Mt.Half p a k S∧wr.heap[w.heap.size]?=some (.cells (ptA Mt.pt0) 115 (0,0))∧wr.heap.size=w.heap.size+2∧Below w.heap.size w wr) (fun b _=>(110-intOf b).toNat)
  case atStart =>
   exact ⟨a,Mt.none0,by omega,by omega,rfl,by exact set_start _ _,Mt.half_start p a,by exact heap_b2 _ _ _,by simp,by go_grown⟩
  case round =>
   obtain ⟨k,S,hk1,hk2,rfl,hs,hh,hz,hsz,hB⟩:=hrel
   have HS:Hid (setAt wr (w.heap.size+1) S):=hs
   have HH:Hid (Mt.Half p a k S):=hh
   have HB:Hid (Below w.heap.size w wr):=hB
   have HZ:Hid (wr.heap[w.heap.size]?=some (.cells (ptA Mt.pt0) 115 (0,0))):=hz
   clear hs hh hB hz
   cases hc:(Mt.atB p k != 93)
   ·have E:=Mt.half_end HH.out (by simpa using hc)
    have HE:Hid (Mt.classFrom p a=k∧∀ c:Nat,S c=Mt.inClass p a k (c:Int)):=E
    clear E
    cases hf:(k==a)
    ·have HT:Hid (R=(⟨5,k+1,0,0,0,0,0,Mt.all p a k (decide (Mt.atB p (i+1)=94))⟩,0)):=by
      show _=_
      rw [HR.out,clP_some p i k (by rw [← HA.out];exact HE.out.1) (by omega) (by rw [← HA.out];simpa using hf),HA.out]
     go_wp2_with (first | (go_at_call 66;refine (byteAt_any _ _ _ hp).mono ?_;rintro e w' ⟨rfl,rfl⟩))
     first
     | (
      refine (invert_any wr (w.heap.size+1) S HS.out).mono ?_
      rintro e w1 ⟨rfl,s1,b1,n1,o1⟩
      have HT2:Hid (R=(⟨5,k+1,0,0,0,0,0,Mt.setTo (fun c=>!S c) 256⟩,0)):=by
       show _=_
       rw [HT.out,(set_no p a k S HE.out.2).2,show decide (Mt.atB p (i+1)=94)=true by simpa using HV.out]
      have H1:Hid (setAt w1 (w.heap.size+1) (fun c=>!S c)∧Below w.heap.size w w1∧w1.heap[w.heap.size]?=some (.cells (ptA Mt.pt0) 115 (0,0))):=⟨s1,HB.out.trans (b1.mono (by omega)),(o1 _ (by omega)).trans HZ.out⟩
      clear s1 b1 o1
      generalize hX:(fun c=>!S c)=X at *
      clear hX
      go_wp2_with fail
      have TA:=text_any w1 (w.heap.size+1) _ H1.out.1
      generalize Mt.setTo X 256=T at *
      refine TA.mono ?_
      clear TA
      rintro e w2 ⟨rfl,b2⟩
      have HZ2:Hid (w2.heap[w.heap.size]?=some (.cells (ptA Mt.pt0) 115 (0,0))∧Below w.heap.size w w2):=⟨(b2.block _ (by omega)).trans H1.out.2.2,H1.out.2.1.trans (b2.mono (by omega))⟩
      clear b2
      go_wp2_with (refine store_blk 115 8 Tryz.sizePT (by rfl) (.tmp 4) (.tmp 45) (by rfl) w.heap.size (ptA ⟨5,k+1,0,0,0,0,0,T⟩) (by rfl) (by rfl) HZ2.out.1 (by rfl) (by rfl) (ptA_all _) ?_;intro w3 r1 r2 r3 r4)
      refine bodyPost_ret (ret_blk2 115 8 Tryz.underlying115 rfl Tryz.sizePT rfl (by rfl) r1 (by rfl)) rfl ⟨by rw [HT2.out];rfl,?_⟩
      exact HZ2.out.2.trans (r4 _ (Nat.le_refl _)))
     | (
      have HT2:Hid (R=(⟨5,k+1,0,0,0,0,0,Mt.setTo S 256⟩,0)):=by
       show _=_
       rw [HT.out,(set_no p a k S HE.out.2).1,show decide (Mt.atB p (i+1)=94)=false by simpa using HV.out]
      have TA:=text_any wr (w.heap.size+1) _ HS.out
      generalize Mt.setTo S 256=T at *
      refine TA.mono ?_
      clear TA
      rintro e w2 ⟨rfl,b2⟩
      have HZ2:Hid (w2.heap[w.heap.size]?=some (.cells (ptA Mt.pt0) 115 (0,0))∧Below w.heap.size w w2):=⟨(b2.block _ (by omega)).trans HZ.out,HB.out.trans (b2.mono (by omega))⟩
      clear b2
      go_wp2_with (refine store_blk 115 8 Tryz.sizePT (by rfl) (.tmp 4) (.tmp 45) (by rfl) w.heap.size (ptA ⟨5,k+1,0,0,0,0,0,T⟩) (by rfl) (by rfl) HZ2.out.1 (by rfl) (by rfl) (ptA_all _) ?_;intro w3 r1 r2 r3 r4)
      refine bodyPost_ret (ret_blk2 115 8 Tryz.underlying115 rfl Tryz.sizePT rfl (by rfl) r1 (by rfl)) rfl ⟨by rw [HT2.out];rfl,?_⟩
      exact HZ2.out.2.trans (r4 _ (Nat.le_refl _)))
    ·have HT:Hid (R=(Mt.pt0,3)):=by
      show _=_
      have:k=a:=by simpa using hf
      rw [HR.out];exact clP_empty p i (by rw [← HA.out,HE.out.1,this])
     go_wp2_with (first | (go_at_call 66;refine (byteAt_any _ _ _ hp).mono ?_;rintro e w' ⟨rfl,rfl⟩) | (refine store_blk 115 8 Tryz.sizePT (by rfl) (.tmp 4) (.tmp 39) (by rfl) w.heap.size (ptA Mt.pt0) (by rfl) (by rfl) HZ.out (by rfl) (by rfl) (ptA_all _) ?_;intro w3 r1 r2 r3 r4))
     refine bodyPost_ret (ret_blk2 115 8 Tryz.underlying115 rfl Tryz.sizePT rfl (by rfl) r1 (by rfl)) rfl ⟨by rw [HT.out];rfl,?_⟩
     exact HB.out.trans (r4 _ (Nat.le_refl _))
   ·cases hit:(itP p k).2
    ·have HT:Hid (R=(Mt.pt0,3)):=by
      show _=_
      have z:(Mt.item p k).2.2.1=0:=by
       unfold itP at hit;by_cases z:(Mt.item p k).2.2.1=0
       ·exact z
       ·rw [if_neg z] at hit;simp at hit
      rw [HR.out];exact clP_none p i (by rw [← HA.out,← HH.out.1];exact Mt.classFrom_none p k (by simpa using hc) z)
     go_wp2_with (first | (go_at_call 66;refine (byteAt_any _ _ _ hp).mono ?_;rintro e w' ⟨rfl,rfl⟩))
     refine (readItem_any p k wr (w.heap.size+1) S hp (by omega) (by omega) HS.out).mono ?_
     rintro e w1 ⟨rfl,s1,o1⟩
     have HB1:Hid (Below w.heap.size w w1):=HB.out.trans (o1.below (by omega))
     have HZ1:Hid (w1.heap[w.heap.size]?=some (.cells (ptA Mt.pt0) 115 (0,0))):=(o1.block _ (by omega)).trans HZ.out
     clear s1 o1
     go_wp2_with (refine store_blk 115 8 Tryz.sizePT (by rfl) (.tmp 4) (.tmp 34) (by rfl) w.heap.size (ptA Mt.pt0) (by rfl) (by rfl) HZ1.out (by rfl) (by rfl) (ptA_all _) ?_;intro w3 r1 r2 r3 r4)
     refine bodyPost_ret (ret_blk2 115 8 Tryz.underlying115 rfl Tryz.sizePT rfl (by rfl) r1 (by rfl)) rfl ⟨by rw [HT.out];rfl,?_⟩
     exact HB1.out.trans (r4 _ (Nat.le_refl _))
    ·have z:(Mt.item p k).2.2.1≠0:=by
      intro z;unfold itP at hit;rw [if_pos z] at hit;simp at hit
     have zb:=Mt.item_bd p k
     have zi:=Mt.item_in p k (by omega) z
     have HN:Hid (Mt.Half p a (itP p k).1 (afterI p k S)∧(itP p k).1=k+(Mt.item p k).2.2.1):=by
      have e1:(itP p k).1=k+(Mt.item p k).2.2.1:=by unfold itP;rw [if_neg z]
      refine ⟨?_,e1⟩
      have e2:afterI p k S=Mt.addI p k S:=by unfold afterI;rw [hit,if_pos rfl]
      rw [e1,e2];exact Mt.half_next HH.out (by omega) (by simpa using hc) z
     have k1:k<(itP p k).1:=by rw [HN.out.2];omega
     have k2:(itP p k).1≤110:=by rw [HN.out.2];omega
     clear z zb zi
     go_wp2_with (first | (go_at_call 66;refine (byteAt_any _ _ _ hp).mono ?_;rintro e w' ⟨rfl,rfl⟩))
     refine (readItem_any p k wr (w.heap.size+1) S hp (by omega) (by omega) HS.out).mono ?_
     rintro e w1 ⟨rfl,s1,o1⟩
     have HB1:Hid (Below w.heap.size w w1∧w1.heap[w.heap.size]?=some (.cells (ptA Mt.pt0) 115 (0,0))∧w1.heap.size=w.heap.size+2∧setAt w1 (w.heap.size+1) (afterI p k S)):=⟨HB.out.trans (o1.below (by omega)),(o1.block _ (by omega)).trans HZ.out,by rw [o1.size];exact hsz,s1⟩
     clear s1 o1
     go_wp2_with fail
     go_roundw
     case rel=>exact ⟨(itP p k).1,afterI p k S,by omega,by omega,rfl,HB1.out.2.2.2,HN.out.1,HB1.out.2.1,HB1.out.2.2.1,HB1.out.1⟩
     case measure=>simp [intOf];omega
end Go.Proofs.YtebpgfodelggoaaGreatDoor
