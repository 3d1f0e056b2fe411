import Derived.Test.YtebpgfodelggoabC23
import Derived.Test.YtebpgfodelggoabC03
import Derived.Deep.RegionWith
import Derived.Deep.QuietTactic
import Derived.BigQuiet
set_option linter.unusedVariables false
set_option linter.unusedSimpArgs false
set_option maxRecDepth 100000
set_option maxHeartbeats 4000000
namespace Go.Proofs.Ytebpgfodelggoab
open Go.RowKit
structure ViaAt (w0:World) (m g:Nat) (P:ByteArray) (D:Int) (M:Nat→Nat→Bool) (k:Nat) (wr:World):Prop where
 zb:wr.heap[m+1]?=some (.cells Try.zeroCells57 57 (0,0))
 sb:∃ C,shAt wr g P D C∧∀ u v,u≤10→v≤10→(C u v=true↔Mt.Via M k u v)
 below:Below m w0 wr
structure StarAt (w0:World) (m g:Nat) (P:ByteArray) (D:Int) (M:Nat→Nat→Bool) (k a j:Nat) (C:Nat→Nat→Bool) (wr:World):Prop where
 zb:wr.heap[m+1]?=some (.cells Try.zeroCells57 57 (0,0))
 sb:shAt wr g P D C
 sound:∀ u v,u≤10→v≤10→C u v=true→Mt.Via M (k+1) u v
 old:∀ u v,u≤10→v≤10→Mt.Via M k u v→C u v=true
 done:∀ u v,u≤k→k≤v→v≤10→(u<a∨(u=a∧v<j))→Mt.Via M k u k→Mt.Via M k k v→C u v=true
 below:Below m w0 wr
section
variable {w0 wr:World} {m g:Nat} {P:ByteArray} {D:Int} {M C:Nat→Nat→Bool} {k a j:Nat}
theorem ViaAt.start (h:ViaAt w0 m g P D M k wr):∃ C,StarAt w0 m g P D M k 0 0 C wr:=by
 obtain ⟨h1,⟨C,h2,h3⟩,h4⟩:=h
 exact ⟨C,h1,h2,fun u v hu hv g=>.inl ((h3 u v hu hv).1 g),fun u v hu hv g=>(h3 u v hu hv).2 g,fun u v _ _ _ g=>by omega,h4⟩
theorem StarAt.to {a' j':Nat} (h:StarAt w0 m g P D M k a j C wr) (ht:∀ u v,u≤k→k≤v→v≤10→(u<a'∨(u=a'∧v<j'))→(u<a∨(u=a∧v<j))):StarAt w0 m g P D M k a' j' C wr :=
 ⟨h.zb,h.sb,h.sound,h.old,fun u v g1 g2 g3 g4=>h.done u v g1 g2 g3 (ht u v g1 g2 g3 g4),h.below⟩
theorem StarAt.stop (h:StarAt w0 m g P D M k a j C wr) (hk:k≤10) (ha:k<a) (hM:∀ u v,u≤10→v≤10→M u v=true→u≤v):ViaAt w0 m g P D M (k+1) wr:=by
 refine ⟨h.zb,⟨C,h.sb,fun u v hu hv=>⟨h.sound u v hu hv,fun g=>?_⟩⟩,h.below⟩
 rcases g with g | ⟨g1,g2⟩
 ·exact h.old u v hu hv g
 ·have a1:=Mt.via_up hM k (by omega) u k hu hk g1
  have a2:=Mt.via_up hM k (by omega) k v hk hv g2
  exact h.done u v a1 a2 hv (.inl (by omega)) g1 g2
theorem StarAt.skip (h:StarAt w0 m g P D M k a j C wr) (hk:k≤10) (ha:a≤10) (hj:j≤10) (hn:¬ (C a k=true∧C k j=true)):StarAt w0 m g P D M k a (j+1) C wr:=by
 refine ⟨h.zb,h.sb,h.sound,h.old,fun u v g1 g2 g3 g4 g5 g6=>?_,h.below⟩
 by_cases e:u=a∧v=j
 ·obtain ⟨rfl,rfl⟩:=e
  exact absurd ⟨h.old u k ha hk g5,h.old k v hk hj g6⟩ hn
 ·exact h.done u v g1 g2 g3 (by omega) g5 g6
theorem StarAt.put (h:StarAt w0 m g P D M k a j C wr) (hg:m+2≤g) (hk:k≤10) (ha:a≤10) (hj:j≤10) (h1:C a k=true) (h2:C k j=true):StarAt w0 m g P D M k a (j+1) (upd C a j true) (wr.setCell ⟨g,2+a*11+j,none⟩ (.bool true)):=by
 refine ⟨(Below.heap_setCell _ _ _ _ (by show m+1≠g;omega)).trans h.zb,shAt_set h.sb ha hj _,fun u v hu hv x=>?_,fun u v hu hv x=>?_,fun u v g1 g2 g3 g4 g5 g6=>?_,h.below.setCell (by show m≤g;omega) _⟩
 ·unfold upd at x
  by_cases e:u=a∧v=j
  ·obtain ⟨rfl,rfl⟩:=e
   exact .inr ⟨Mt.via_col.1 (h.sound u k hu hk h1),Mt.via_row.1 (h.sound k v hk hv h2)⟩
  ·rw [if_neg e] at x;exact h.sound u v hu hv x
 ·unfold upd
  by_cases e:u=a∧v=j
  ·rw [if_pos e]
  ·rw [if_neg e];exact h.old u v hu hv x
 ·unfold upd
  by_cases e:u=a∧v=j
  ·rw [if_pos e]
  ·rw [if_neg e];exact h.done u v g1 g2 g3 (by omega) g5 g6
end
theorem star_any (p q:ByteArray) (d:Int) (T:Nat→Nat→Bool) (n:Nat) (w:World) (hp:p.size≤1000) (hq:q.size≤10) (hd:0≤d∧d≤1000) (hn:n≤10) (hT:∀ u v,u≤10→v≤10→T u v=true→u≤v) :
  Calls Try.prog 39 #[.agg (shA p d T),.string q,.int .i64 (n:Int)] w fun e w'=>(∃ C,e=.returned (.agg (shA ((((⟨#[40,63,58]⟩:ByteArray)++p)++⟨#[41]⟩)++q) (d+1) C))∧∀ u v,u≤10→v≤10→(C u v=true↔Mt.Via (mayT T (n+1)) 11 u v))∧Below w.heap.size w w':=by
 have KM:Hid (∀ z:World,Calls Try.prog 40 #[.agg (shA p d T),.string q,.int .i64 (n:Int)] z fun e w'=>e=.returned (.agg (shA ((((⟨#[40,63,58]⟩:ByteArray)++p)++⟨#[41]⟩)++q) (d+1) (mayT T (n+1))))∧Below z.heap.size z w'):=fun z=>maybe_any p q d T n z hp hq hd hn
 have HM:Hid (∀ u v,u≤10→v≤10→mayT T (n+1) u v=true→u≤v):=fun u v hu hv g=>by
  unfold mayT at g
  rw [Bool.or_eq_true,decide_eq_true_eq] at g
  rcases g with g | g
  ·exact hT u v hu hv g
  ·omega
 clear hT
 generalize hP:((((⟨#[40,63,58]⟩:ByteArray)++p)++⟨#[41]⟩)++q)=P at *
 generalize hM0:mayT T (n+1)=M at *
 go_enter Try.func39,Try.ntmps39
 go_upto_region 1 with fail
 obtain ⟨z,hz⟩:∃ z,z=(w.alloc (.cells (shA p d T) 57)).alloc (.cells Try.zeroCells57 57):=⟨_,rfl⟩
 have q1:Hid (z.heap[w.heap.size]?=some (.cells (shA p d T) 57 (0,0))):=by show _=_;rw [hz];exact heap_b2 _ _ _
 have F1:Hid (z.heap[w.heap.size+1]?=some (.cells Try.zeroCells57 57 (0,0))):=by show _=_;rw [hz];exact heap_b3 _ _ _
 have B1:Hid (Below w.heap.size w z):=by show Below _ _ _;rw [hz];exact ((Below.refl _ _).alloc (Nat.le_refl _) _).alloc (by simp) _
 have sz:z.heap.size=w.heap.size+2:=by rw [hz];simp
 rw [← hz]
 clear hz
 generalize hm:w.heap.size=m at *
 go_wp2_with (refine load_blk 57 123 Try.underlying57 rfl Try.sizeSh (by rfl) (.tmp 3) (by rfl) m (by rfl) q1.out (shA_size _ _ _) ?_)
 refine (KM.out _).mono ?_
 rintro e w1 ⟨rfl,hb1⟩
 have F2:Hid (w1.heap[m+1]?=some (.cells Try.zeroCells57 57 (0,0))):=(hb1.block _ (by rw [sz];omega)).trans F1.out
 have hg:m+2≤w1.heap.size:=by rw [← sz];exact hb1.size
 have B2:Hid (Below m w w1):=B1.out.trans (hb1.mono (by rw [sz];omega))
 clear hb1 F1 B1 q1 KM
 go_upto_region 2 with (refine store_blk 57 123 Try.sizeSh (by rfl) (.tmp 7) (.tmp 14) (by rfl) w1.heap.size (shA P (d+1) M) (by rfl) (by rfl) (by exact heap_b1 _ _) zero_size (shA_size _ _ _) (shA_all _ _ _) ?_;intro w2 s1 s2 s3 s4)
 have H3:Hid (ViaAt w m w1.heap.size P (d+1) M 0 w2):=⟨(s2 _ (by omega)).trans ((heap_old _ _ _ (by omega)).trans F2.out),⟨M,s1,fun u v _ _=>Iff.rfl⟩,B2.out.trans (((Below.refl _ _).alloc (by omega) _).trans (s4 _ (by omega)))⟩
 clear s1 s2 s3 s4 F2 B2 sz
 generalize w1.heap.size=g at *
 go_wp2_with fail
 go_loopw [8] (fun i wr=>∃ k:Nat,k≤11∧i=.int .i64 k∧Hid (ViaAt w m g P (d+1) M k wr)) (fun i _=>11-(intOf i).toNat)
 case atStart=>exact ⟨0,by omega,rfl,H3⟩
 case round =>
  obtain ⟨k,hk,rfl,HI⟩:=hrel
  by_cases hk':k≤10
  ·have d1:decide ((k:Int)≤10)=true:=by rw [decide_eq_true_eq];omega
   obtain ⟨C0,hC0⟩:=HI.out.start
   have HC0:Hid _:=hC0
   clear hC0 HI
   go_wp2_with fail
   go_loopw [9] (fun i wr=>∃ (a:Nat) (C:Nat→Nat→Bool),a≤k+1∧i=.int .i64 a∧Hid (StarAt w m g P (d+1) M k a 0 C wr)) (fun i _=>k+1-(intOf i).toNat)
   case atStart=>exact ⟨0,C0,by omega,rfl,HC0⟩
   case round =>
    obtain ⟨a,C,ha,rfl,HJ⟩:=hrel
    by_cases ha':a≤k
    ·have d2:decide ((a:Int)≤(k:Int))=true:=by rw [decide_eq_true_eq];omega
     go_wp2_with fail
     go_loopw [10] (fun i wr=>∃ (j:Nat) (C:Nat→Nat→Bool),k≤j∧j≤11∧i=.int .i64 j∧Hid (StarAt w m g P (d+1) M k a j C wr)) (fun i _=>11-(intOf i).toNat)
     case atStart=>exact ⟨k,C,by omega,by omega,rfl,HJ.out.to (by omega)⟩
     case round =>
      clear HJ
      obtain ⟨j,C,hj,hj2,rfl,HK⟩:=hrel
      by_cases hj':j≤10
      ·have d3:decide ((j:Int)≤10)=true:=by rw [decide_eq_true_eq];omega
       have e1:(a:Int)<11:=by omega
       have e2:(k:Int)<11:=by omega
       have e3:(j:Int)<11:=by omega
       have x1:=shAt_cell HK.out.sb (show a≤10 by omega) hk'
       have x2:=shAt_cell HK.out.sb hk' hj'
       have x3:=shAt_cell HK.out.sb (show a≤10 by omega) hj'
       have x4:=shAt_free HK.out.sb (2+a*11+j)
       have HSk:Hid (¬ (C a k=true∧C k j=true)→StarAt w m g P (d+1) M k a (j+1) C wr):=fun h=>HK.out.skip hk' (by omega) hj' h
       have HPt:Hid (C a k=true→C k j=true→StarAt w m g P (d+1) M k a (j+1) (upd C a j true) (wr.setCell ⟨g,2+a*11+j,none⟩ (.bool true))):=fun h1 h2=>HK.out.put hg hk' (by omega) hj' h1 h2
       clear HK
       generalize hU:upd C a j true=U at *
       generalize C a k=b1 at *
       generalize C k j=b2 at *
       generalize C a j=b3 at *
       cases b1
       ·have HN:=HSk.out (by simp)
        have HN2:Hid _:=HN
        clear HN HSk HPt
        go_wp2_with fail
        go_roundw
        case rel=>exact ⟨j+1,C,by omega,by omega,by go_num,HN2⟩
        case measure=>simp [intOf];omega
       ·cases b2
        ·have HN:=HSk.out (by simp)
         have HN2:Hid _:=HN
         clear HN HSk HPt
         go_wp2_with fail
         go_roundw
         case rel=>exact ⟨j+1,C,by omega,by omega,by go_num,HN2⟩
         case measure=>simp [intOf];omega
        ·have HN:=HPt.out rfl rfl
         have HN2:Hid _:=HN
         clear HN HSk HPt
         go_wp2_with fail
         go_roundw
         case rel=>exact ⟨j+1,U,by omega,by omega,by go_num,HN2⟩
         case measure=>simp [intOf];omega
      ·have d3:decide ((j:Int)≤10)=false:=by rw [decide_eq_false_iff_not];omega
       go_wp2_with fail
       go_roundw
       case rel=>exact ⟨a+1,C,by omega,by go_num,HK.out.to (by omega)⟩
       case measure=>simp [intOf];omega
    ·have d2:decide ((a:Int)≤(k:Int))=false:=by rw [decide_eq_false_iff_not];omega
     go_wp2_with fail
     go_roundw
     case rel=>exact ⟨k+1,by omega,by go_num,HJ.out.stop hk' (by omega) HM.out⟩
     case measure=>simp [intOf];omega
  ·have d1:decide ((k:Int)≤10)=false:=by rw [decide_eq_false_iff_not];omega
   have e:k=11:=by omega
   subst e
   obtain ⟨C,hC,hC1⟩:=HI.out.sb
   have HS:Hid (shAt wr g P (d+1) C):=hC
   have HC1:Hid _:=hC1
   clear hC hC1
   go_wp2_with (first | (refine load_blk 57 123 Try.underlying57 rfl Try.sizeSh (by rfl) (.tmp 7) (by rfl) g (by rfl) HS.out (shA_size _ _ _) ?_) | (refine store_blk 57 123 Try.sizeSh (by rfl) (.tmp 6) (.tmp 48) (by rfl) (m+1) (shA P (d+1) C) (by rfl) (by rfl) HI.out.zb zero_size (shA_size _ _ _) (shA_all _ _ _) ?_;intro w3 r1 r2 r3 r4))
   refine bodyPost_ret (ret_blk1 57 123 Try.underlying57 rfl Try.sizeSh rfl (by rfl) r1 (shA_size _ _ _)) rfl ⟨⟨C,by first | rfl | (rw [hP];rfl) | (rw [hP]),fun u v hu hv=>by first | exact HC1.out u v hu hv | (rw [hM0];exact HC1.out u v hu hv)⟩,?_⟩
   first
    | exact HI.out.below.trans (r4 _ (by omega))
    | (rw [hm];exact HI.out.below.trans (r4 _ (by omega)))
def itP (p:ByteArray) (i:Int):Int × Bool:=if (Mt.item p i).2.2.1=0 then (0,false) else (i+(Mt.item p i).2.2.1,true)
theorem itP_cases (p:ByteArray) (i:Int) (S:Mt.BSet) :
  ((Mt.atB p i==92)=true∧(Mt.atB p (i+1)==100||Mt.atB p (i+1)==119)=true∧itP p i=(i+2,true)∧Mt.addI p i S=Mt.addL S (decide (Mt.atB p (i+1)=119))) ∨
  ((
   (Mt.atB p i==92)=false∨(Mt.atB p i==92)=true∧(Mt.atB p (i+1)==100||Mt.atB p (i+1)==119)=false) ∧
   (
   ((cbP p i).2.2=false∧itP p i=(0,false)) ∨
   ((cbP p i).2.2=true∧(Mt.atB p (cbP p i).2.1 != 45)=true∧itP p i=((cbP p i).2.1,true)∧Mt.addI p i S=Mt.addR S (cbP p i).1 (cbP p i).1) ∨
   ((cbP p i).2.2=true∧(Mt.atB p (cbP p i).2.1 != 45)=false∧(cbP p ((cbP p i).2.1+1)).2.2=false∧itP p i=(0,false)) ∨
   ((cbP p i).2.2=true∧(Mt.atB p (cbP p i).2.1 != 45)=false∧(cbP p ((cbP p i).2.1+1)).2.2=true∧decide ((cbP p ((cbP p i).2.1+1)).1<(cbP p i).1)=true∧itP p i=(0,false)) ∨
   ((
    cbP p i).2.2=true∧(Mt.atB p (cbP p i).2.1 != 45)=false∧(cbP p ((cbP p i).2.1+1)).2.2=true∧decide ((cbP p ((cbP p i).2.1+1)).1<(cbP p i).1)=false ∧
    itP p i=((cbP p ((cbP p i).2.1+1)).2.1,true)∧Mt.addI p i S=Mt.addR S (cbP p i).1 (cbP p ((cbP p i).2.1+1)).1))):=by
 have b1:=Mt.classByte_bd p i
 have b2:=Mt.classByte_bd p (i+(Mt.classByte p i).2+1)
 have key:∀ j,(Mt.classByte p j).2=0→cbP p j=(0,0,false):=fun j h=>by unfold cbP;rw [if_pos h]
 have key2:∀ j,¬ (Mt.classByte p j).2=0→cbP p j=((Mt.classByte p j).1,j+(Mt.classByte p j).2,true):=fun j h=>by unfold cbP;rw [if_neg h]
 unfold itP Mt.addI
 by_cases h0:Mt.atB p i=92∧(Mt.atB p (i+1)=100∨Mt.atB p (i+1)=119)
 ·have e:Mt.item p i=(92,Mt.atB p (i+1),2,true):=by unfold Mt.item;rw [if_pos h0]
  left
  rw [e]
  refine ⟨by simpa using h0.1,by simpa using h0.2,by simp,by simp⟩
 ·right
  refine ⟨?_,?_⟩
  ·by_cases h1:Mt.atB p i=92
   ·right;refine ⟨by simpa using h1,?_⟩
    have:¬ (Mt.atB p (i+1)=100∨Mt.atB p (i+1)=119):=fun x=>h0 ⟨h1,x⟩
    simpa using this
   ·left;simpa using h1
  ·by_cases h1:(Mt.classByte p i).2=0
   ·have e:Mt.item p i=(0,0,0,false):=by unfold Mt.item;rw [if_neg h0,if_pos h1]
    left;rw [e,key i h1];simp
   ·right
    rw [key2 i h1]
    dsimp only
    by_cases h2:Mt.atB p (i+(Mt.classByte p i).2)≠45
    ·have e:Mt.item p i=((Mt.classByte p i).1,(Mt.classByte p i).1,(Mt.classByte p i).2,false):=by unfold Mt.item;rw [if_neg h0,if_neg h1,if_pos h2]
     left;rw [e];simp [h1,h2]
    ·right
     have h2':(Mt.atB p (i+(Mt.classByte p i).2) != 45)=false:=by simpa using h2
     by_cases h3:(Mt.classByte p (i+(Mt.classByte p i).2+1)).2=0
     ·have e:Mt.item p i=(0,0,0,false):=by unfold Mt.item;rw [if_neg h0,if_neg h1,if_neg h2,if_pos (Or.inl h3)]
      left;rw [e,key _ h3];simp [h2']
     ·right
      rw [key2 _ h3]
      by_cases h4:(Mt.classByte p (i+(Mt.classByte p i).2+1)).1<(Mt.classByte p i).1
      ·have e:Mt.item p i=(0,0,0,false):=by unfold Mt.item;rw [if_neg h0,if_neg h1,if_neg h2,if_pos (Or.inr h4)]
       left;rw [e];simp [h2',h4]
      ·have e:Mt.item p i=((Mt.classByte p i).1,(Mt.classByte p (i+(Mt.classByte p i).2+1)).1,(Mt.classByte p i).2+1+(Mt.classByte p (i+(Mt.classByte p i).2+1)).2,false):=by
        unfold Mt.item;rw [if_neg h0,if_neg h1,if_neg h2,if_neg (by omega)]
       right;rw [e]
       refine ⟨rfl,h2',rfl,by simpa using h4,?_,by simp⟩
       rw [if_neg (by simp only;omega)]
       simp only [Prod.mk.injEq,and_true];omega
theorem cbP_bd (p:ByteArray) (i:Int) (h:0≤i):0≤(cbP p i).2.1∧(cbP p i).2.1≤i+2:=by
 have b1:=Mt.classByte_bd p i
 unfold cbP;split
 ·simp;omega
 ·simp only;omega
def afterI (p:ByteArray) (i:Int) (S:Mt.BSet):Mt.BSet:=if (itP p i).2 then Mt.addI p i S else S
theorem readItem_any (p:ByteArray) (i:Int) (w:World) (g:Nat) (S:Mt.BSet) (hp:p.size≤64) (hi0:0≤i) (hi1:i≤900) (hS:setAt w g S) :
  Calls Try.prog 95 #[.string p,.int .i64 i,.pointer (some ⟨g,0,none⟩)] w fun e w'=>e=.returned (.tuple #[.int .i64 (itP p i).1,.bool (itP p i).2])∧setAt w' g (afterI p i S)∧Only g w w':=by
 have H0:Hid (setAt w g S):=hS
 clear hS
 obtain ⟨c1,c2⟩:=cbP_bd p i hi0
 obtain ⟨d1,d2⟩:=cbP_bd p ((cbP p i).2.1+1) (by omega)
 unfold afterI
 rcases itP_cases p i S with ⟨a1,a2,e,f⟩ | ⟨a0,⟨a1,e⟩ | ⟨a1,a2,e,f⟩ | ⟨a1,a2,a3,e⟩ | ⟨a1,a2,a3,a4,e⟩ | ⟨a1,a2,a3,a4,e,f⟩⟩
 ·rw [e]
  have HF:Hid (Mt.addI p i S=Mt.addL S (decide (Mt.atB p (i+1)=119))):=f
  clear e f
  go_enter Try.func95,Try.ntmps95
  go_wp2_with (first | (go_at_call 73;refine (byteAt_any _ _ _ hp).mono ?_;rintro e w' ⟨rfl,rfl⟩) | (go_at_call 97;refine (isSetLetter_any _ _).mono ?_;rintro e w' ⟨rfl,rfl⟩))
  refine (addLetter_any _ g S _ H0.out).mono ?_
  rintro e w1 ⟨rfl,s1,o1⟩
  have H1:Hid (setAt w1 g (Mt.addL S (decide (Mt.atB p (i+1)=119)))∧Only g w w1):=⟨s1,o1⟩
  clear s1 o1
  go_wp2_with fail
  go_returns
  exact ⟨rfl,by rw [HF.out];exact H1.out.1,H1.out.2⟩
 ·rw [e]
  clear e
  rcases a0 with a0 | ⟨a0,a0'⟩
  all_goals
   go_enter Try.func95,Try.ntmps95
   go_wp2_with (first | (go_at_call 73;refine (byteAt_any _ _ _ hp).mono ?_;rintro e w' ⟨rfl,rfl⟩) | (go_at_call 97;refine (isSetLetter_any _ _).mono ?_;rintro e w' ⟨rfl,rfl⟩) | (go_at_call 106;refine (readClassByte_any _ _ _ hp (by omega) (by omega)).mono ?_;rintro e w' ⟨rfl,rfl⟩))
   go_returns
   exact ⟨rfl,H0.out,Only.refl _ _⟩
 ·rw [e]
  have HF:Hid (Mt.addI p i S=Mt.addR S (cbP p i).1 (cbP p i).1):=f
  clear e f
  rcases a0 with a0 | ⟨a0,a0'⟩
  all_goals
   go_enter Try.func95,Try.ntmps95
   go_wp2_with (first | (go_at_call 73;refine (byteAt_any _ _ _ hp).mono ?_;rintro e w' ⟨rfl,rfl⟩) | (go_at_call 97;refine (isSetLetter_any _ _).mono ?_;rintro e w' ⟨rfl,rfl⟩) | (go_at_call 106;refine (readClassByte_any _ _ _ hp (by omega) (by omega)).mono ?_;rintro e w' ⟨rfl,rfl⟩))
   refine (addRange_any _ g S _ _ H0.out).mono ?_
   rintro e w1 ⟨rfl,s1,o1⟩
   have H1:Hid (setAt w1 g (Mt.addR S (cbP p i).1 (cbP p i).1)∧Only g w w1):=⟨s1,o1⟩
   clear s1 o1
   go_wp2_with fail
   go_returns
   exact ⟨rfl,by rw [HF.out];exact H1.out.1,H1.out.2⟩
 ·rw [e]
  clear e
  rcases a0 with a0 | ⟨a0,a0'⟩
  all_goals
   go_enter Try.func95,Try.ntmps95
   go_wp2_with (first | (go_at_call 73;refine (byteAt_any _ _ _ hp).mono ?_;rintro e w' ⟨rfl,rfl⟩) | (go_at_call 97;refine (isSetLetter_any _ _).mono ?_;rintro e w' ⟨rfl,rfl⟩) | (go_at_call 106;refine (readClassByte_any _ _ _ hp (by omega) (by omega)).mono ?_;rintro e w' ⟨rfl,rfl⟩))
   go_returns
   exact ⟨rfl,H0.out,Only.refl _ _⟩
 ·rw [e]
  clear e
  rcases a0 with a0 | ⟨a0,a0'⟩
  all_goals
   go_enter Try.func95,Try.ntmps95
   go_wp2_with (first | (go_at_call 73;refine (byteAt_any _ _ _ hp).mono ?_;rintro e w' ⟨rfl,rfl⟩) | (go_at_call 97;refine (isSetLetter_any _ _).mono ?_;rintro e w' ⟨rfl,rfl⟩) | (go_at_call 106;refine (readClassByte_any _ _ _ hp (by omega) (by omega)).mono ?_;rintro e w' ⟨rfl,rfl⟩))
   go_returns
   exact ⟨rfl,H0.out,Only.refl _ _⟩
 ·rw [e]
  have HF:Hid (Mt.addI p i S=Mt.addR S (cbP p i).1 (cbP p ((cbP p i).2.1+1)).1):=f
  clear e f
  rcases a0 with a0 | ⟨a0,a0'⟩
  all_goals
   go_enter Try.func95,Try.ntmps95
   go_wp2_with (first | (go_at_call 73;refine (byteAt_any _ _ _ hp).mono ?_;rintro e w' ⟨rfl,rfl⟩) | (go_at_call 97;refine (isSetLetter_any _ _).mono ?_;rintro e w' ⟨rfl,rfl⟩) | (go_at_call 106;refine (readClassByte_any _ _ _ hp (by omega) (by omega)).mono ?_;rintro e w' ⟨rfl,rfl⟩))
   refine (addRange_any _ g S _ _ H0.out).mono ?_
   rintro e w1 ⟨rfl,s1,o1⟩
   have H1:Hid (setAt w1 g (Mt.addR S (cbP p i).1 (cbP p ((cbP p i).2.1+1)).1)∧Only g w w1):=⟨s1,o1⟩
   clear s1 o1
   go_wp2_with fail
   go_returns
   exact ⟨rfl,by rw [HF.out];exact H1.out.1,H1.out.2⟩
theorem Only.drew {g:Nat} {a w:World} (h:Only g a w):Only g a w.drew:=h.trans ⟨(Below.refl 0 w).drew.os,(Below.refl 0 w).drew.tape,(Below.refl 0 w).drew.output,rfl,fun _ _=>rfl⟩
theorem invert_any (w:World) (g:Nat) (S:Mt.BSet) (hS:setAt w g S) :
  Calls Try.prog 96 #[.pointer (some ⟨g,0,none⟩)] w fun e w'=>e=.returned (.tuple #[])∧setAt w' g (fun c=>!S c)∧Below g w w'∧w'.heap.size=w.heap.size∧(∀ k,k≠g→w'.heap[k]?=w.heap[k]?):=by
 have H0:Hid (setAt w g (Mt.notTo S 0)):=by
                        show setAt _ _ _;have:Mt.notTo S 0=S:=by funext c;simp [Mt.notTo]
                        rw [this];exact hS
 clear hS
 go_enter Try.func96,Try.ntmps96
 go_wp2_with fail
 go_loopw [2] (fun i wr=>∃ k:Nat,k≤256∧i=.int .i64 k∧setAt wr g (Mt.notTo S k)∧Below g w wr∧wr.heap.size=w.heap.size∧(∀ j,j≠g→wr.heap[j]?=w.heap[j]?)) (fun i _=>256-(intOf i).toNat)
 case atStart=>exact ⟨0,by omega,rfl,H0.out,Below.refl _ _,rfl,fun _ _=>rfl⟩
 case round =>
  obtain ⟨k,hk,rfl,hs,hO,hz,hj⟩:=hrel
  have HS:Hid (setAt wr g (Mt.notTo S k)):=hs
  have HO:Hid (Below g w wr∧wr.heap.size=w.heap.size∧(∀ j,j≠g→wr.heap[j]?=w.heap[j]?)):=⟨hO,hz,hj⟩
  by_cases hl:k<256
  ·have zz:wr.cell? ⟨g,k,none⟩=some (.bool (S k)):=by rw [(cell_block hs).1,setA_get _ _ hl];simp [Mt.notTo]
   have z2:=(cell_block hs).2 k
   clear hs hO hz hj
   generalize hq:S k=q at *
   have HQ:Hid (S k=q):=hq
   clear hq
   go_wp2_with fail
   go_region
   go_wp2_with fail
   go_roundw
   case rel =>
    refine ⟨k+1,by omega,by go_num,?_,(HO.out.1.setCell (p:=⟨g,k,none⟩) (Nat.le_refl _) _).drew,?_,fun j hj=>?_⟩
    ·have:=Go.heap_setCell_same wr g k _ _ (.bool !q) HS.out
     rw [setA_set (Mt.notTo S k) (Mt.notTo S (k+1)) k (!q) hl (fun c=>by rw [Mt.notTo_next,HQ.out])] at this
     exact this
    ·show (wr.setCell ⟨g,k,none⟩ (.bool !q)).heap.size=_
     rw [← HO.out.2.1];simp [World.setCell]
    ·show (wr.setCell ⟨g,k,none⟩ (.bool !q)).heap[j]?=_
     rw [Below.heap_setCell _ _ _ _ hj];exact HO.out.2.2 j hj
   case measure=>simp [intOf];omega
  ·have e:k=256:=by omega
   subst e
   clear hs hO hz hj
   go_wp2_with fail
   go_returns
   refine ⟨rfl,?_,HO.out⟩
   have:=HS.out
   unfold setAt at this ⊢
   rw [setA_same (T:=fun c=>!S c) (fun c hc=>by simp [Mt.notTo,hc])] at this
   exact this
end Go.Proofs.Ytebpgfodelggoab
