import Derived.Test.YtebpgfodelggoaaGreatC04
import Derived.Test.YtebpgfodelggoaaGreatC05
import Derived.Test.YtebpgfodelggoaaGreatC03
import Derived.Test.YtebpgfodelggoaaGreatC02
import Derived.Deep.RegionWith
import Derived.Deep.DrawnRows
import Derived.Deep.QuietTactic
import Derived.BigQuiet
import Derived.Test.YtebpgfodelggoaaGreatC00
set_option linter.unusedVariables false
set_option linter.unusedSimpArgs false
set_option maxRecDepth 100000
set_option maxHeartbeats 6000000
namespace Go.Proofs.YtebpgfodelggoaaGreat
open Go.RowKit
theorem zMa {l:List Mt.Tok} (hl:Mt.zAs l) (f tag a b:Nat) (d:Int) (h0:0≤d) (h1:d+f≤1000):((Mt.gen l f tag a b d).length:Int)≤10000000:=by
 have:=(Mt.zI2 l hl f tag a b d h0 h1).1
 omega
theorem zRm {t:Mt.Tok} {x y:List Mt.Ins} {d:Int} (hm:t.m<0) (hn:0<t.n) (hp:(t.how==2)=false):zFT t x y d=Mt.behind (Mt.zC x t.n.toNat []) (Mt.vG y d (t.how==1)):=by
 have hp':¬ t.how=2:=by simpa using hp
 simp only [zFT];rw [if_neg hp',if_pos hm,if_pos (Or.inl hn),if_neg (by omega)];rfl
theorem zP0 {t:Mt.Tok} {x y:List Mt.Ins} {d:Int} (hm:t.m<0) (hn:0<t.n) (hp:(t.how==2)=true):zFT t x y d=Mt.alone 0 (Mt.behind (Mt.zC x t.n.toNat []) (Mt.vG y d (t.how==1))):=by
 have hp':t.how=2:=by simpa using hp
 simp only [zFT];rw [if_pos hp',if_pos hm,if_pos (Or.inl hn),if_neg (by omega)];rfl
theorem zRn {t:Mt.Tok} {x y:List Mt.Ins} {d:Int} (hm:t.m<0) (hn:t.n≤0) (hp:(t.how==2)=false):zFT t x y d=Mt.behind [] (Mt.vG y d (t.how==1)):=by
 have hp':¬ t.how=2:=by simpa using hp
 simp only [zFT];rw [if_neg hp',if_pos hm,if_neg (by omega)];rfl
theorem zP1 {t:Mt.Tok} {x y:List Mt.Ins} {d:Int} (hm:t.m<0) (hn:t.n≤0) (hp:(t.how==2)=true):zFT t x y d=Mt.alone 0 (Mt.behind [] (Mt.vG y d (t.how==1))):=by
 have hp':t.how=2:=by simpa using hp
 simp only [zFT];rw [if_pos hp',if_pos hm,if_neg (by omega)];rfl
theorem zRo {t:Mt.Tok} {x y:List Mt.Ins} {d:Int} (hm:¬ t.m<0) (hm0:t.m≤0) (hn:t.n≤0) (hp:(t.how==2)=false):zFT t x y d=[]:=by
 have hp':¬ t.how=2:=by simpa using hp
 simp only [zFT];rw [if_neg hp',if_neg hm,if_neg (by omega)]
theorem zP2 {t:Mt.Tok} {x y:List Mt.Ins} {d:Int} (hm:¬ t.m<0) (hm0:t.m≤0) (hn:t.n≤0) (hp:(t.how==2)=true):zFT t x y d=Mt.alone 0 []:=by
 have hp':t.how=2:=by simpa using hp
 simp only [zFT];rw [if_pos hp',if_neg hm,if_neg (by omega)]
theorem zPF {t:Mt.Tok} {x y:List Mt.Ins} {d:Int} (hm:¬ t.m<0) (h:0<t.n∨0<t.m) (hmn:t.n<t.m) (hp:(t.how==2)=false):zFT t x y d=Mt.behind (Mt.zC x t.n.toNat []) (Mt.upTo x (t.m-t.n).toNat (t.how==1)):=by
 have hp':¬ t.how=2:=by simpa using hp
 simp only [zFT];rw [if_neg hp',if_neg hm,if_pos h,if_pos hmn];rfl
theorem zMb {t:Mt.Tok} {x y:List Mt.Ins} {d:Int} (hm:¬ t.m<0) (h:0<t.n∨0<t.m) (hmn:t.n<t.m) (hp:(t.how==2)=true):zFT t x y d=Mt.alone 0 (Mt.behind (Mt.zC x t.n.toNat []) (Mt.upTo x (t.m-t.n).toNat (t.how==1))):=by
 have hp':t.how=2:=by simpa using hp
 simp only [zFT];rw [if_pos hp',if_neg hm,if_pos h,if_pos hmn];rfl
theorem zRp {t:Mt.Tok} {x y:List Mt.Ins} {d:Int} (hm:¬ t.m<0) (hn:0<t.n) (hmn:¬ t.n<t.m) (hp:(t.how==2)=false):zFT t x y d=Mt.zC x t.n.toNat []:=by
 have hp':¬ t.how=2:=by simpa using hp
 simp only [zFT];rw [if_neg hp',if_neg hm,if_pos (Or.inl hn),if_neg hmn]
theorem zP3 {t:Mt.Tok} {x y:List Mt.Ins} {d:Int} (hm:¬ t.m<0) (hn:0<t.n) (hmn:¬ t.n<t.m) (hp:(t.how==2)=true):zFT t x y d=Mt.alone 0 (Mt.zC x t.n.toNat []):=by
 have hp':t.how=2:=by simpa using hp
 simp only [zFT];rw [if_pos hp',if_neg hm,if_pos (Or.inl hn),if_neg hmn]
theorem zGI (l:List Mt.Tok) (hl:l.length≤64) (ho:Mt.zAs l) (f:Nat) (h2:S2 l f):S3 l (f+1):=by
 intro a b ai bi d v w hai hbi ht ha hab hb h8 hf hd0 hd1
 subst hai hbi
 rw [zI3]
 have fx:=zDm ho f 2 a b d hd0 (by omega)
 have fy:=zDm ho f 2 a b (d+1) (by omega) (by omega)
 have lx:=zMa ho f 2 a b d hd0 (by omega)
 have ly:=zMa ho f 2 a b (d+1) (by omega) (by omega)
 have tk:=Mt.zEE ho b
 have h8':(l.getD b Mt.kX).kind=8:=h8
 have KX:=fun z hz=>h2 a b a b d v z rfl rfl hz ha hab (by omega) (by omega) hd0 (by omega)
 have KY:=fun z hz=>h2 a b a b (d+1) v z rfl rfl hz ha hab (by omega) (by omega) (by omega) (by omega)
 obtain ⟨g,cap,rfl,hcap,hg,c0,c1,c2,c3,c4,c5,c6⟩:=zPE ht hb
 generalize Mt.gen l f 2 a b d=x at *
 generalize Mt.gen l f 2 a b (d+1)=y at *
 generalize l.getD b Mt.kX=t at *
 obtain ⟨t1,t2,t3,t4,t5,t6,t7⟩:=tk
 have t2':=t7 h8'
 have dn:∀ p:Prop,[Decidable p]→¬ p→decide p=false:=fun p _ h=>by simpa using h
 have dy:∀ p:Prop,[Decidable p]→p→decide p=true:=fun p _ h=>by simpa using h
 cases hp:(t.how==2)
 ·by_cases hm:t.m<0
  ·by_cases hn:0<t.n
   ·rw [zRm hm hn hp]
    exact zHt l hl a b d t x y g cap w hb hab hcap hg hd0 (by omega) ht KX KY fx fy lx ly c0 c1 c2 c3 c4 c5 c6 t1 t2' t3 t4 t5 t6 hm hn (dy _ hn) hp
   ·rw [zRn hm (by omega) hp]
    exact zTe l hl a b d t x y g cap w hb hab hcap hg hd0 (by omega) ht KX KY fx fy lx ly c0 c1 c2 c3 c4 c5 c6 t1 t2' t3 t4 t5 t6 hm (by omega) (dn _ hn) (dn _ (by omega)) hp
  ·by_cases hn:0<t.n
   ·by_cases hmn:t.n<t.m
    ·rw [zPF hm (Or.inl hn) hmn hp]
     exact zTf l hl a b d t x y g cap w hb hab hcap hg hd0 (by omega) ht KX KY fx fy lx ly c0 c1 c2 c3 c4 c5 c6 t1 t2' t3 t4 t5 t6 hm hmn (dy _ hn) hp
    ·rw [zRp hm hn hmn hp]
     exact zTh l hl a b d t x y g cap w hb hab hcap hg hd0 (by omega) ht KX KY fx fy lx ly c0 c1 c2 c3 c4 c5 c6 t1 t2' t3 t4 t5 t6 hm hmn hn (dy _ hn) hp
   ·by_cases hm0:0<t.m
    ·rw [zPF hm (Or.inr hm0) (by omega) hp]
     exact zTg l hl a b d t x y g cap w hb hab hcap hg hd0 (by omega) ht KX KY fx fy lx ly c0 c1 c2 c3 c4 c5 c6 t1 t2' t3 t4 t5 t6 hm (by omega) (dn _ hn) (dy _ hm0) hp
    ·rw [zRo hm (by omega) (by omega) hp]
     exact zSd l hl a b d t x y g cap w hb hab hcap hg hd0 (by omega) ht KX KY fx fy lx ly c0 c1 c2 c3 c4 c5 c6 t1 t2' t3 t4 t5 t6 hm (by omega) (dn _ hn) (dn _ hm0) hp
 ·by_cases hm:t.m<0
  ·by_cases hn:0<t.n
   ·rw [zP0 hm hn hp]
    exact zSe l hl a b d t x y g cap w hb hab hcap hg hd0 (by omega) ht KX KY fx fy lx ly c0 c1 c2 c3 c4 c5 c6 t1 t2' t3 t4 t5 t6 hm hn (dy _ hn) hp
   ·rw [zP1 hm (by omega) hp]
    exact zSf l hl a b d t x y g cap w hb hab hcap hg hd0 (by omega) ht KX KY fx fy lx ly c0 c1 c2 c3 c4 c5 c6 t1 t2' t3 t4 t5 t6 hm (by omega) (dn _ hn) (dn _ (by omega)) hp
  ·by_cases hn:0<t.n
   ·by_cases hmn:t.n<t.m
    ·rw [zMb hm (Or.inl hn) hmn hp]
     exact zSg l hl a b d t x y g cap w hb hab hcap hg hd0 (by omega) ht KX KY fx fy lx ly c0 c1 c2 c3 c4 c5 c6 t1 t2' t3 t4 t5 t6 hm hmn (dy _ hn) hp
    ·rw [zP3 hm hn hmn hp]
     exact zSi l hl a b d t x y g cap w hb hab hcap hg hd0 (by omega) ht KX KY fx fy lx ly c0 c1 c2 c3 c4 c5 c6 t1 t2' t3 t4 t5 t6 hm hmn hn (dy _ hn) hp
   ·by_cases hm0:0<t.m
    ·rw [zMb hm (Or.inr hm0) (by omega) hp]
     exact zSh l hl a b d t x y g cap w hb hab hcap hg hd0 (by omega) ht KX KY fx fy lx ly c0 c1 c2 c3 c4 c5 c6 t1 t2' t3 t4 t5 t6 hm (by omega) (dn _ hn) (dy _ hm0) hp
    ·rw [zP2 hm (by omega) (by omega) hp]
     exact zRk l hl a b d t x y g cap w hb hab hcap hg hd0 (by omega) ht KX KY fx fy lx ly c0 c1 c2 c3 c4 c5 c6 t1 t2' t3 t4 t5 t6 hm (by omega) (dn _ hn) (dn _ hm0) hp
theorem zMc (l:List Mt.Tok) (hl:l.length≤64) (ho:Mt.zAs l):∀ f,S0 l f∧S1 l f∧S2 l f∧S3 l f:=by
 intro f
 induction f with
 | zero =>
  refine ⟨?_,?_,?_,?_⟩
  ·intro a b ai bi d v w h1 h2 h3 h4 h5 h6;omega
  ·intro a b ai bi d v w h1 h2 h3 h4 h5 h6;omega
  ·intro a b ai bi d v w h1 h2 h3 h4 h5 h6 h7;omega
  ·intro a b ai bi d v w h1 h2 h3 h4 h5 h6 h7 h8;omega
 | succ f ih =>
  obtain ⟨i0,i1,i2,i3⟩:=ih
  exact ⟨zDP l hl ho f i0 i1,zGH l hl ho f i2 i3,zL9 l hl ho f i0,zGI l hl ho f i2⟩
theorem zHL (l:List Mt.Tok) (v:Value) (w:World) (hl:l.length≤64) (ho:Mt.zAs l) (h:toks w v l) :
  Calls Tryz.prog 43 #[v] w fun e w'=>∃ v',e=.returned v'∧zB w' 0 v' (Mt.coded l)∧Below w.heap.size w w':=by
 have fc:=zDm ho 283 0 0 l.length 0 (by omega) (by omega)
 have K:=(zMc l hl ho 283).1 0 l.length 0 l.length 0 v w rfl rfl h (by omega) (Nat.le_refl _) (by omega) (by omega) (by omega)
 unfold Mt.coded
 generalize Mt.gen l 283 0 0 l.length 0=c at *
 have F1:Hid (Mt.fit 900000000 c):=Mt.zJ fc (by omega)
 have F2:Hid (Mt.fit 900000000 [(⟨13,0,0,[]⟩:Mt.Ins)]):=Mt.zAU (yK _ _ _ _ (by omega) (by omega)) (by omega)
 have KH:=K
 clear fc K
 obtain ⟨ao,cap,hv⟩:∃ ao cap,v=.slice ao l.length cap:=by
  rcases h.2 with ⟨rfl,hn⟩ | ⟨g,cap,cur,rfl,_⟩
  ·exact ⟨none,0,by rw [hn]⟩
  ·exact ⟨_,_,rfl⟩
 subst hv
 have KK:Hid (Calls Tryz.prog 71 #[.slice ao l.length cap,.int .i64 0,.int .i64 l.length,.int .i64 0] w fun e w'=>∃ v',e=.returned v'∧zB w' 0 v' c∧Below w.heap.size w w'):=KH
 clear KH h
 go_enter Tryz.func43,Tryz.ntmps43
 go_wp2_with fail
 refine KK.out.mono ?_
 rintro e w1 ⟨v1,rfl,q1,hb1⟩
 have Q1:Hid (zB w1 0 v1 c):=q1
 have hs1:=hb1.size
 clear q1
 go_wp2_with fail
 refine (kD c [⟨13,0,0,[]⟩] _ _ _ (Q1.out.below (by go_grown)) (zAr w1 _ rfl _) F1.out F2.out).mono ?_
 rintro e w2 ⟨v2,rfl,q2,hb2⟩
 have hB2:Below w.heap.size w w2:=(hb1.alloc hs1 _).trans (hb2.mono (by simp;omega))
 clear hb2 hb1
 go_wp2_with fail
 go_ret
 exact ⟨_,rfl,q2,hB2⟩
theorem zMd (l:List Mt.Tok) (t:Mt.Tok) :
  ((t.kind==2)=true∧((Mt.closed l t.n=true∧Mt.may l t=0)∨(Mt.closed l t.n=false∧Mt.may l t=6))) ∨
  ((t.kind==2)=false∧(t.kind==8)=true∧((Mt.yO l=true∧Mt.may l t=0)∨(Mt.yO l=false∧Mt.may l t=7))) ∨
  ((t.kind==2)=false∧(t.kind==8)=false∧(t.kind==6)=true∧((10≤Mt.opened l∧Mt.may l t=8)∨(Mt.opened l<10∧(t.how==4)=false∧Mt.may l t=0)∨(Mt.opened l<10∧(t.how==4)=true∧decide (9≤Mt.captures l)=true∧Mt.may l t=9)∨(Mt.opened l<10∧(t.how==4)=true∧decide (9≤Mt.captures l)=false∧Mt.may l t=0))) ∨
  ((t.kind==2)=false∧(t.kind==8)=false∧(t.kind==6)=false∧(t.kind==7)=true∧(((Mt.opened l==0)=true∧Mt.may l t=10)∨((Mt.opened l==0)=false∧Mt.may l t=0))) ∨
  ((t.kind==2)=false∧(t.kind==8)=false∧(t.kind==6)=false∧(t.kind==7)=false∧Mt.may l t=0):=by
 unfold Mt.may
 simp only [beq_iff_eq,beq_eq_false_iff_ne,decide_eq_true_eq,decide_eq_false_iff_not]
 by_cases h1:t.kind=2
 ·rw [if_pos h1];cases Mt.closed l t.n <;> simp [h1]
 rw [if_neg h1]
 by_cases h2:t.kind=8
 ·rw [if_pos h2];cases Mt.yO l <;> simp [h2]
 rw [if_neg h2]
 by_cases h3:t.kind=6
 ·rw [if_pos h3]
  by_cases h4:10≤Mt.opened l
  ·rw [if_pos h4];simp [h3,h4]
  ·rw [if_neg h4]
   by_cases h5:t.how=4
   ·by_cases h6:9≤Mt.captures l
    ·rw [if_pos ⟨h5,h6⟩];simp [h3,h5,h6];omega
    ·rw [if_neg (fun x=>h6 x.2)];simp [h3,h5,h6];omega
   ·rw [if_neg (fun x=>h5 x.1)];simp [h3,h5];omega
 rw [if_neg h3]
 by_cases h7:t.kind=7
 ·rw [if_pos h7]
  by_cases h8:Mt.opened l=0
  ·simp [h7,h8]
  ·simp [h7,h8]
 rw [if_neg h7];simp [h1,h2,h3,h7]
theorem zP4 (l:List Mt.Tok) (t:Mt.Tok) (v:Value) (w:World) (h:toks w v l) (hl:l.length≤64) :
  Calls Tryz.prog 49 #[v,zAP t] w fun e w'=>e=.returned (.int .i64 (Mt.may l t))∧Below w.heap.size w w':=by
 have HK:Hid (∀ o,toks (w.alloc o) v l):=fun o=>h.alloc o
 clear h
 have ⟨b1,b2⟩:=Mt.zDi l
 have ⟨b3,b4⟩:=Mt.xY l
 unfold zAP
 rcases zMd l t with ⟨a1,⟨a2,e⟩ | ⟨a2,e⟩⟩ | ⟨a1,a2,⟨a3,e⟩ | ⟨a3,e⟩⟩ | ⟨a1,a2,a3,⟨a4,e⟩ | ⟨a4,a5,e⟩ | ⟨a4,a5,a6,e⟩ | ⟨a4,a5,a6,e⟩⟩ | ⟨a1,a2,a3,a4,⟨a5,e⟩ | ⟨a5,e⟩⟩ | ⟨a1,a2,a3,a4,e⟩
 all_goals
  rw [e];clear e
  go_enter Tryz.func49,Tryz.ntmps49
  go_wp2_with (first | (go_at_call 83;refine (zKK l _ _ _ (HK.out _) hl).mono ?_;rintro e w' ⟨rfl,rfl⟩) | (go_at_call 84;refine (zHK l _ _ (HK.out _) hl).mono ?_;rintro e w' ⟨rfl,rfl⟩) | (go_at_call 51;refine (zDN l _ _ (HK.out _) hl).mono ?_;rintro e w' ⟨rfl,rfl⟩) | (go_at_call 50;refine (zEf l _ _ (HK.out _) hl).mono ?_;rintro e w' ⟨rfl,rfl⟩))
  go_ret
  exact ⟨rfl,by go_grown⟩
attribute [local go_sem ↓] Go.wp_at_zero Go.wp_at_succ
theorem zOd (c:Int) (b:Bool) (w:World) (h:Mt.zCX c=b) (h0:0≤c) (h1:c≤255) :
  Calls Tryz.prog 108 #[.int .u8 c] w fun e w'=>e=.returned (.bool b)∧w=w':=by rw [← h];exact zET c w h0 h1
theorem zMe (c:Int) (b:Bool) (w:World) (h:Mt.zCT c=b) (h0:0≤c) (h1:c≤255) :
  Calls Tryz.prog 109 #[.int .u8 c] w fun e w'=>e=.returned (.bool b)∧w=w':=by rw [← h];exact zDL c w h0 h1
theorem zOe (w:World) (A B:Array Value) (t u:TypeId) (x:Int) (h0:0≤x) (h1:x≤255) :
  (convert 158 9 (.slice (some ⟨w.heap.size+1+1,0,none⟩) 1 1)).run Tryz.prog (((w.alloc (.cells A t)).alloc (.cells B u)).alloc (.cells #[.int .u8 x] 5)) =
   .ok (.string ⟨#[UInt8.ofNat x.toNat]⟩) (((w.alloc (.cells A t)).alloc (.cells B u)).alloc (.cells #[.int .u8 x] 5)):=by
 refine run_convert_bytes_back _ _ _ _ ⟨w.heap.size+1+1,0,none⟩ 1 [UInt8.ofNat x.toNat] Tryz.underlying158 Tryz.underlying5 Tryz.underlying9 ?_
 intro j hj
 have:j=0:=by simpa using hj
 subst this
 obtain ⟨k,rfl⟩:=Int.eq_ofNat_of_zero_le h0
 have e:k % 256=k:=by omega
 simp [Addr.add,go_sem,e]
theorem zKN (p:ByteArray) (i:Int) (w:World) (hp:p.size≤64) (hi0:0≤i) (hi1:i≤100) :
  Calls Tryz.prog 78 #[.string p,.int .i64 i] w fun e w'=>e=.returned (.tuple #[zAP (Mt.escape p i).1,.bool (Mt.escape p i).2])∧Below w.heap.size w w':=by
 have l1:=Mt.zEa p (i+1)
 rcases Mt.zCf p i with ⟨a1,e⟩ | ⟨a0,a1,⟨a2,e⟩ | ⟨a2,a3,e⟩ | ⟨a2,a3,a4,a5,a6,a7,e⟩ | ⟨a2,a3,a4,e⟩⟩
 ·rw [e];clear e
  go_enter Tryz.func78,Tryz.ntmps78
  go_wp2_with (go_at_call 107;refine (zAO _ _ _ hp).mono ?_;rintro e w' ⟨rfl,rfl⟩)
  go_returns
  exact ⟨rfl,by go_grown⟩
 ·rw [e];clear e
  go_enter Tryz.func78,Tryz.ntmps78
  go_wp2_with (first | (go_at_call 107;refine (zAO _ _ _ hp).mono ?_;rintro e w' ⟨rfl,rfl⟩) | (go_at_call 82;refine (zEV _ _ _ _ _ hp (by omega) (by omega) (by omega)).mono ?_;rintro e w1 ⟨rfl,hb1⟩;obtain ⟨q0,q1,q2,q3,q4,q5⟩:=zBu hb1;clear hb1))
  refine bodyPost_ret (v:=.tuple #[zAP ⟨1,i,i+2,0,0,0,Mt.all p i (i+2) false⟩,.bool true]) (by simp [results,Tryz.results78,go_sem,q0,q1,q2,q3,zAP]) rfl ⟨rfl,?_⟩
  go_grown
 ·rw [e];clear e
  go_enter Tryz.func78,Tryz.ntmps78
  go_wp2_with (first | (go_at_call 107;refine (zAO _ _ _ hp).mono ?_;rintro e w' ⟨rfl,rfl⟩) | (go_at_call 82;refine (zEV _ _ _ _ _ hp (by omega) (by omega) (by omega)).mono ?_;rintro e w1 ⟨rfl,hb1⟩;obtain ⟨q0,q1,q2,q3,q4,q5⟩:=zBu hb1;clear hb1))
  refine bodyPost_ret (v:=.tuple #[zAP ⟨1,i,i+2,0,0,0,Mt.all p i (i+2) false⟩,.bool true]) (by simp [results,Tryz.results78,go_sem,q0,q1,q2,q3,zAP]) rfl ⟨rfl,?_⟩
  go_grown
 ·rw [e];clear e
  go_enter Tryz.func78,Tryz.ntmps78
  go_wp2_with (go_at_call 107;refine (zAO _ _ _ hp).mono ?_;rintro e w' ⟨rfl,rfl⟩)
  go_returns
  exact ⟨rfl,by go_grown⟩
 ·rw [e];clear e
  have hcv:=fun A B=>zOe w A B 97 97 (Mt.atB p (i+1)) a0 l1
  rcases a4 with a4 | ⟨a4,a5⟩ <;> cases hd:Mt.zCX (Mt.atB p (i+1)) <;> cases hl:Mt.zCT (Mt.atB p (i+1))
  all_goals
   go_enter Tryz.func78,Tryz.ntmps78
   go_wp2_with (first | (go_at_call 107;refine (zAO _ _ _ hp).mono ?_;rintro e w' ⟨rfl,rfl⟩))
   first | (go_region_with (first | (go_at_call 108;refine (zOd _ _ _ hd (by omega) (by omega)).mono ?_;rintro e w' ⟨rfl,rfl⟩) | (go_at_call 109;refine (zMe _ _ _ hl (by omega) (by omega)).mono ?_;rintro e w' ⟨rfl,rfl⟩))) | fail
   all_goals
    go_wp2
    go_returns
    exact ⟨rfl,by go_grown⟩
theorem zEG (p:ByteArray) (k:Nat) (w:World) (hk:k<p.size) (hp:p.size≤64) (h1:(((p[k]'hk).toNat:Int)==124)=true) :
  Calls Tryz.prog 48 #[.string p,.int .i64 k] w fun e w'=>e=.returned (.tuple #[zAP ⟨5,k,k+1,0,0,0,[]⟩,.int .i64 0])∧Below w.heap.size w w':=by
 go_enter Tryz.func48,Tryz.ntmps48
 go_wp2_with fail
 go_returns
 exact ⟨rfl,by go_grown⟩
theorem zCD (p:ByteArray) (k:Nat) (w:World) (hk:k<p.size) (hp:p.size≤64) (h1:(((p[k]'hk).toNat:Int)==124)=false) (h2:(((p[k]'hk).toNat:Int)==41)=true) :
  Calls Tryz.prog 48 #[.string p,.int .i64 k] w fun e w'=>e=.returned (.tuple #[zAP ⟨7,k,k+1,0,0,0,[]⟩,.int .i64 0])∧Below w.heap.size w w':=by
 go_enter Tryz.func48,Tryz.ntmps48
 go_wp2_with fail
 go_returns
 exact ⟨rfl,by go_grown⟩
theorem zMf (p:ByteArray) (k:Nat) (w:World) (hk:k<p.size) (hp:p.size≤64) (h1:(((p[k]'hk).toNat:Int)==124)=false) (h2:(((p[k]'hk).toNat:Int)==41)=false) (h3:(((p[k]'hk).toNat:Int)==94)=true) :
  Calls Tryz.prog 48 #[.string p,.int .i64 k] w fun e w'=>e=.returned (.tuple #[zAP ⟨3,k,k+1,0,0,0,[]⟩,.int .i64 0])∧Below w.heap.size w w':=by
 go_enter Tryz.func48,Tryz.ntmps48
 go_wp2_with fail
 go_returns
 exact ⟨rfl,by go_grown⟩
theorem zMg (p:ByteArray) (k:Nat) (w:World) (hk:k<p.size) (hp:p.size≤64) (h1:(((p[k]'hk).toNat:Int)==124)=false) (h2:(((p[k]'hk).toNat:Int)==41)=false) (h3:(((p[k]'hk).toNat:Int)==94)=false) (h4:(((p[k]'hk).toNat:Int)==36)=true) :
  Calls Tryz.prog 48 #[.string p,.int .i64 k] w fun e w'=>e=.returned (.tuple #[zAP ⟨4,k,k+1,0,0,0,[]⟩,.int .i64 0])∧Below w.heap.size w w':=by
 go_enter Tryz.func48,Tryz.ntmps48
 go_wp2_with fail
 go_returns
 exact ⟨rfl,by go_grown⟩
theorem zKO (p:ByteArray) (k:Nat) (w:World) (hk:k<p.size) (hp:p.size≤64) (h1:(((p[k]'hk).toNat:Int)==124)=false) (h2:(((p[k]'hk).toNat:Int)==41)=false) (h3:(((p[k]'hk).toNat:Int)==94)=false) (h4:(((p[k]'hk).toNat:Int)==36)=false) (h5:(((p[k]'hk).toNat:Int)==92)=false) (h6:(((p[k]'hk).toNat:Int)==91)=true) (b:Bool) (hb:(Mt.jM p k).2=b) :
  Calls Tryz.prog 48 #[.string p,.int .i64 k] w fun e w'=>e=.returned (.tuple #[zAP (Mt.jM p k).1,.int .i64 (if b then 0 else 3)])∧Below w.heap.size w w':=by
 generalize hT:Mt.jM p k=T at *
 have HT:Hid (Mt.jM p k=T):=hT
 clear hT
 cases b
 all_goals
  go_enter Tryz.func48,Tryz.ntmps48
  go_wp2_with fail
  refine (zL3 _ _ _ hp (by omega) (by omega)).mono ?_
  rw [HT.out]
  rintro e w1 ⟨rfl,hb1⟩
  simp only [hb]
  obtain ⟨q0,q1,q2,q3,q4,q5⟩:=zBu hb1
  clear hb1
  go_wp2_with (refine qR rfl (.tmp 6) (.tmp 49) (by rfl) (w.heap.size+1) T.1 (by rfl) (by rfl) q2 q3 (by rfl) ?_;intro w2 r1 r2 r3 r4 r5 r6;have s0:=fun o=>(r3 w.heap.size o (by omega)).trans (q0 o);have s1:=fun o=>(r4 w.heap.size o).trans (q1 o);have s2:Below w.heap.size w w2:=q5.trans (r6 _ (by omega));clear r3 r4 r6 q0 q1 q2 q3 q5)
  refine bodyPost_ret (v:=.tuple #[zAP T.1,_]) (by simp [results,Tryz.results48,go_sem,s0,s1,r1,r2,zAP]) rfl ⟨rfl,?_⟩
  go_grown
theorem zDn (p:ByteArray) (k:Nat) (w:World) (hk:k<p.size) (hp:p.size≤64) (h1:(((p[k]'hk).toNat:Int)==124)=false) (h2:(((p[k]'hk).toNat:Int)==41)=false) (h3:(((p[k]'hk).toNat:Int)==94)=false) (h4:(((p[k]'hk).toNat:Int)==36)=false) (h5:(((p[k]'hk).toNat:Int)==92)=false) (h6:(((p[k]'hk).toNat:Int)==91)=false) (h7:(((p[k]'hk).toNat:Int)==40)=true) (b:Bool) (hb:(Mt.opening p k).2=b) :
  Calls Tryz.prog 48 #[.string p,.int .i64 k] w fun e w'=>e=.returned (.tuple #[zAP (Mt.opening p k).1,.int .i64 (if b then 0 else 5)])∧Below w.heap.size w w':=by
 generalize hT:Mt.opening p k=T at *
 have HT:Hid (Mt.opening p k=T):=hT
 clear hT
 cases b
 all_goals
  go_enter Tryz.func48,Tryz.ntmps48
  go_wp2_with fail
  refine (zIX _ _ _ hp (by omega) (by omega)).mono ?_
  rw [HT.out]
  rintro e w1 ⟨rfl,hb1⟩
  simp only [hb]
  obtain ⟨q0,q1,q2,q3,q4,q5⟩:=zBu hb1
  clear hb1
  go_wp2_with (refine qR rfl (.tmp 6) (.tmp 57) (by rfl) (w.heap.size+1) T.1 (by rfl) (by rfl) q2 q3 (by rfl) ?_;intro w2 r1 r2 r3 r4 r5 r6;have s0:=fun o=>(r3 w.heap.size o (by omega)).trans (q0 o);have s1:=fun o=>(r4 w.heap.size o).trans (q1 o);have s2:Below w.heap.size w w2:=q5.trans (r6 _ (by omega));clear r3 r4 r6 q0 q1 q2 q3 q5)
  refine bodyPost_ret (v:=.tuple #[zAP T.1,_]) (by simp [results,Tryz.results48,go_sem,s0,s1,r1,r2,zAP]) rfl ⟨rfl,?_⟩
  go_grown
theorem zKP (p:ByteArray) (k:Nat) (w:World) (hk:k<p.size) (hp:p.size≤64) (h1:(((p[k]'hk).toNat:Int)==124)=false) (h2:(((p[k]'hk).toNat:Int)==41)=false) (h3:(((p[k]'hk).toNat:Int)==94)=false) (h4:(((p[k]'hk).toNat:Int)==36)=false) (h5:(((p[k]'hk).toNat:Int)==92)=false) (h6:(((p[k]'hk).toNat:Int)==91)=false) (h7:(((p[k]'hk).toNat:Int)==40)=false) (h8:(((p[k]'hk).toNat:Int)==42)=true) (b:Bool) (hb:(Mt.kI p k).2=b) :
  Calls Tryz.prog 48 #[.string p,.int .i64 k] w fun e w'=>e=.returned (.tuple #[zAP (Mt.kI p k).1,.int .i64 (if b then 0 else 4)])∧Below w.heap.size w w':=by
 generalize hT:Mt.kI p k=T at *
 have HT:Hid (Mt.kI p k=T):=hT
 clear hT
 cases b
 all_goals
  go_enter Tryz.func48,Tryz.ntmps48
  go_wp2_with fail
  refine (zCC _ _ _ hp (by omega) (by omega)).mono ?_
  rw [HT.out]
  rintro e w1 ⟨rfl,hb1⟩
  simp only [hb]
  obtain ⟨q0,q1,q2,q3,q4,q5⟩:=zBu hb1
  clear hb1
  go_wp2_with (refine qR rfl (.tmp 6) (.tmp 68) (by rfl) (w.heap.size+1) T.1 (by rfl) (by rfl) q2 q3 (by rfl) ?_;intro w2 r1 r2 r3 r4 r5 r6;have s0:=fun o=>(r3 w.heap.size o (by omega)).trans (q0 o);have s1:=fun o=>(r4 w.heap.size o).trans (q1 o);have s2:Below w.heap.size w w2:=q5.trans (r6 _ (by omega));clear r3 r4 r6 q0 q1 q2 q3 q5)
  refine bodyPost_ret (v:=.tuple #[zAP T.1,_]) (by simp [results,Tryz.results48,go_sem,s0,s1,r1,r2,zAP]) rfl ⟨rfl,?_⟩
  go_grown
theorem zKQ (p:ByteArray) (k:Nat) (w:World) (hk:k<p.size) (hp:p.size≤64) (h1:(((p[k]'hk).toNat:Int)==124)=false) (h2:(((p[k]'hk).toNat:Int)==41)=false) (h3:(((p[k]'hk).toNat:Int)==94)=false) (h4:(((p[k]'hk).toNat:Int)==36)=false) (h5:(((p[k]'hk).toNat:Int)==92)=false) (h6:(((p[k]'hk).toNat:Int)==91)=false) (h7:(((p[k]'hk).toNat:Int)==40)=false) (h8:(((p[k]'hk).toNat:Int)==42)=false) (h9:(((p[k]'hk).toNat:Int)==43)=true) (b:Bool) (hb:(Mt.kI p k).2=b) :
  Calls Tryz.prog 48 #[.string p,.int .i64 k] w fun e w'=>e=.returned (.tuple #[zAP (Mt.kI p k).1,.int .i64 (if b then 0 else 4)])∧Below w.heap.size w w':=by
 generalize hT:Mt.kI p k=T at *
 have HT:Hid (Mt.kI p k=T):=hT
 clear hT
 cases b
 all_goals
  go_enter Tryz.func48,Tryz.ntmps48
  go_wp2_with fail
  refine (zCC _ _ _ hp (by omega) (by omega)).mono ?_
  rw [HT.out]
  rintro e w1 ⟨rfl,hb1⟩
  simp only [hb]
  obtain ⟨q0,q1,q2,q3,q4,q5⟩:=zBu hb1
  clear hb1
  go_wp2_with (refine qR rfl (.tmp 6) (.tmp 68) (by rfl) (w.heap.size+1) T.1 (by rfl) (by rfl) q2 q3 (by rfl) ?_;intro w2 r1 r2 r3 r4 r5 r6;have s0:=fun o=>(r3 w.heap.size o (by omega)).trans (q0 o);have s1:=fun o=>(r4 w.heap.size o).trans (q1 o);have s2:Below w.heap.size w w2:=q5.trans (r6 _ (by omega));clear r3 r4 r6 q0 q1 q2 q3 q5)
  refine bodyPost_ret (v:=.tuple #[zAP T.1,_]) (by simp [results,Tryz.results48,go_sem,s0,s1,r1,r2,zAP]) rfl ⟨rfl,?_⟩
  go_grown
end Go.Proofs.YtebpgfodelggoaaGreat
