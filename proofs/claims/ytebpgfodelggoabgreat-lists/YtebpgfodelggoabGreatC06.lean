import Derived.Test.YtebpgfodelggoabGreatC04
import Derived.Test.YtebpgfodelggoabGreatC05
import Derived.Test.YtebpgfodelggoabGreatC02
import Derived.Test.YtebpgfodelggoabGreatC01
import Derived.Deep.RegionWith
import Derived.Deep.DrawnRows
import Derived.Deep.QuietTactic
import Derived.BigQuiet
import Derived.Test.YtebpgfodelggoabGreatC00
set_option linter.unusedVariables false
set_option linter.unusedSimpArgs false
set_option maxRecDepth 100000
set_option maxHeartbeats 6000000
namespace Go.Proofs.YtebpgfodelggoabGreat
open Go.RowKit
theorem zMs {l:List Mt.Tok} (hl:Mt.zAv l) (f tag a b:Nat) (d:Int) (h0:0≤d) (h1:d+f≤1000):((Mt.gen l f tag a b d).length:Int)≤10000000:=by
 have:=(Mt.zJj l hl f tag a b d h0 h1).1
 omega
theorem zRO {t:Mt.Tok} {x y:List Mt.Ins} {d:Int} (hm:t.m<0) (hn:0<t.n) (hp:(t.how==2)=false):zF3 t x y d=Mt.behind (Mt.zC x t.n.toNat []) (Mt.vI y d (t.how==1)):=by
 have hp':¬ t.how=2:=by simpa using hp
 simp only [zF3];rw [if_neg hp',if_pos hm,if_pos (Or.inl hn),if_neg (by omega)];rfl
theorem zQn {t:Mt.Tok} {x y:List Mt.Ins} {d:Int} (hm:t.m<0) (hn:0<t.n) (hp:(t.how==2)=true):zF3 t x y d=Mt.alone 0 (Mt.behind (Mt.zC x t.n.toNat []) (Mt.vI y d (t.how==1))):=by
 have hp':t.how=2:=by simpa using hp
 simp only [zF3];rw [if_pos hp',if_pos hm,if_pos (Or.inl hn),if_neg (by omega)];rfl
theorem zRP {t:Mt.Tok} {x y:List Mt.Ins} {d:Int} (hm:t.m<0) (hn:t.n≤0) (hp:(t.how==2)=false):zF3 t x y d=Mt.behind [] (Mt.vI y d (t.how==1)):=by
 have hp':¬ t.how=2:=by simpa using hp
 simp only [zF3];rw [if_neg hp',if_pos hm,if_neg (by omega)];rfl
theorem zQo {t:Mt.Tok} {x y:List Mt.Ins} {d:Int} (hm:t.m<0) (hn:t.n≤0) (hp:(t.how==2)=true):zF3 t x y d=Mt.alone 0 (Mt.behind [] (Mt.vI y d (t.how==1))):=by
 have hp':t.how=2:=by simpa using hp
 simp only [zF3];rw [if_pos hp',if_pos hm,if_neg (by omega)];rfl
theorem zRQ {t:Mt.Tok} {x y:List Mt.Ins} {d:Int} (hm:¬ t.m<0) (hm0:t.m≤0) (hn:t.n≤0) (hp:(t.how==2)=false):zF3 t x y d=[]:=by
 have hp':¬ t.how=2:=by simpa using hp
 simp only [zF3];rw [if_neg hp',if_neg hm,if_neg (by omega)]
theorem zQp {t:Mt.Tok} {x y:List Mt.Ins} {d:Int} (hm:¬ t.m<0) (hm0:t.m≤0) (hn:t.n≤0) (hp:(t.how==2)=true):zF3 t x y d=Mt.alone 0 []:=by
 have hp':t.how=2:=by simpa using hp
 simp only [zF3];rw [if_pos hp',if_neg hm,if_neg (by omega)]
theorem zP4 {t:Mt.Tok} {x y:List Mt.Ins} {d:Int} (hm:¬ t.m<0) (h:0<t.n∨0<t.m) (hmn:t.n<t.m) (hp:(t.how==2)=false):zF3 t x y d=Mt.behind (Mt.zC x t.n.toNat []) (Mt.upTo x (t.m-t.n).toNat (t.how==1)):=by
 have hp':¬ t.how=2:=by simpa using hp
 simp only [zF3];rw [if_neg hp',if_neg hm,if_pos h,if_pos hmn];rfl
theorem zMt {t:Mt.Tok} {x y:List Mt.Ins} {d:Int} (hm:¬ t.m<0) (h:0<t.n∨0<t.m) (hmn:t.n<t.m) (hp:(t.how==2)=true):zF3 t x y d=Mt.alone 0 (Mt.behind (Mt.zC x t.n.toNat []) (Mt.upTo x (t.m-t.n).toNat (t.how==1))):=by
 have hp':t.how=2:=by simpa using hp
 simp only [zF3];rw [if_pos hp',if_neg hm,if_pos h,if_pos hmn];rfl
theorem zRR {t:Mt.Tok} {x y:List Mt.Ins} {d:Int} (hm:¬ t.m<0) (hn:0<t.n) (hmn:¬ t.n<t.m) (hp:(t.how==2)=false):zF3 t x y d=Mt.zC x t.n.toNat []:=by
 have hp':¬ t.how=2:=by simpa using hp
 simp only [zF3];rw [if_neg hp',if_neg hm,if_pos (Or.inl hn),if_neg hmn]
theorem zQq {t:Mt.Tok} {x y:List Mt.Ins} {d:Int} (hm:¬ t.m<0) (hn:0<t.n) (hmn:¬ t.n<t.m) (hp:(t.how==2)=true):zF3 t x y d=Mt.alone 0 (Mt.zC x t.n.toNat []):=by
 have hp':t.how=2:=by simpa using hp
 simp only [zF3];rw [if_pos hp',if_neg hm,if_pos (Or.inl hn),if_neg hmn]
theorem zGV (l:List Mt.Tok) (hl:l.length≤64) (ho:Mt.zAv l) (f:Nat) (h2:S2 l f):S3 l (f+1):=by
 intro a b ai bi d v w hai hbi ht ha hab hb h8 hf hd0 hd1
 subst hai hbi
 rw [zJk]
 have fx:=zDv ho f 2 a b d hd0 (by omega)
 have fy:=zDv ho f 2 a b (d+1) (by omega) (by omega)
 have lx:=zMs ho f 2 a b d hd0 (by omega)
 have ly:=zMs ho f 2 a b (d+1) (by omega) (by omega)
 have tk:=Mt.zEO ho b
 have h8':(l.getD b Mt.jA).kind=8:=h8
 have KX:=fun z hz=>h2 a b a b d v z rfl rfl hz ha hab (by omega) (by omega) hd0 (by omega)
 have KY:=fun z hz=>h2 a b a b (d+1) v z rfl rfl hz ha hab (by omega) (by omega) (by omega) (by omega)
 obtain ⟨g,cap,rfl,hcap,hg,c0,c1,c2,c3,c4,c5,c6⟩:=zP3 ht hb
 generalize Mt.gen l f 2 a b d=x at *
 generalize Mt.gen l f 2 a b (d+1)=y at *
 generalize l.getD b Mt.jA=t at *
 obtain ⟨t1,t2,t3,t4,t5,t6,t7⟩:=tk
 have t2':=t7 h8'
 have dn:∀ p:Prop,[Decidable p]→¬ p→decide p=false:=fun p _ h=>by simpa using h
 have dy:∀ p:Prop,[Decidable p]→p→decide p=true:=fun p _ h=>by simpa using h
 cases hp:(t.how==2)
 ·by_cases hm:t.m<0
  ·by_cases hn:0<t.n
   ·rw [zRO hm hn hp]
    exact zHK l hl a b d t x y g cap w hb hab hcap hg hd0 (by omega) ht KX KY fx fy lx ly c0 c1 c2 c3 c4 c5 c6 t1 t2' t3 t4 t5 t6 hm hn (dy _ hn) hp
   ·rw [zRP hm (by omega) hp]
    exact zTO l hl a b d t x y g cap w hb hab hcap hg hd0 (by omega) ht KX KY fx fy lx ly c0 c1 c2 c3 c4 c5 c6 t1 t2' t3 t4 t5 t6 hm (by omega) (dn _ hn) (dn _ (by omega)) hp
  ·by_cases hn:0<t.n
   ·by_cases hmn:t.n<t.m
    ·rw [zP4 hm (Or.inl hn) hmn hp]
     exact zTP l hl a b d t x y g cap w hb hab hcap hg hd0 (by omega) ht KX KY fx fy lx ly c0 c1 c2 c3 c4 c5 c6 t1 t2' t3 t4 t5 t6 hm hmn (dy _ hn) hp
    ·rw [zRR hm hn hmn hp]
     exact zTR l hl a b d t x y g cap w hb hab hcap hg hd0 (by omega) ht KX KY fx fy lx ly c0 c1 c2 c3 c4 c5 c6 t1 t2' t3 t4 t5 t6 hm hmn hn (dy _ hn) hp
   ·by_cases hm0:0<t.m
    ·rw [zP4 hm (Or.inr hm0) (by omega) hp]
     exact zTQ l hl a b d t x y g cap w hb hab hcap hg hd0 (by omega) ht KX KY fx fy lx ly c0 c1 c2 c3 c4 c5 c6 t1 t2' t3 t4 t5 t6 hm (by omega) (dn _ hn) (dy _ hm0) hp
    ·rw [zRQ hm (by omega) (by omega) hp]
     exact zSJ l hl a b d t x y g cap w hb hab hcap hg hd0 (by omega) ht KX KY fx fy lx ly c0 c1 c2 c3 c4 c5 c6 t1 t2' t3 t4 t5 t6 hm (by omega) (dn _ hn) (dn _ hm0) hp
 ·by_cases hm:t.m<0
  ·by_cases hn:0<t.n
   ·rw [zQn hm hn hp]
    exact zSK l hl a b d t x y g cap w hb hab hcap hg hd0 (by omega) ht KX KY fx fy lx ly c0 c1 c2 c3 c4 c5 c6 t1 t2' t3 t4 t5 t6 hm hn (dy _ hn) hp
   ·rw [zQo hm (by omega) hp]
    exact zSL l hl a b d t x y g cap w hb hab hcap hg hd0 (by omega) ht KX KY fx fy lx ly c0 c1 c2 c3 c4 c5 c6 t1 t2' t3 t4 t5 t6 hm (by omega) (dn _ hn) (dn _ (by omega)) hp
  ·by_cases hn:0<t.n
   ·by_cases hmn:t.n<t.m
    ·rw [zMt hm (Or.inl hn) hmn hp]
     exact zSM l hl a b d t x y g cap w hb hab hcap hg hd0 (by omega) ht KX KY fx fy lx ly c0 c1 c2 c3 c4 c5 c6 t1 t2' t3 t4 t5 t6 hm hmn (dy _ hn) hp
    ·rw [zQq hm hn hmn hp]
     exact zSO l hl a b d t x y g cap w hb hab hcap hg hd0 (by omega) ht KX KY fx fy lx ly c0 c1 c2 c3 c4 c5 c6 t1 t2' t3 t4 t5 t6 hm hmn hn (dy _ hn) hp
   ·by_cases hm0:0<t.m
    ·rw [zMt hm (Or.inr hm0) (by omega) hp]
     exact zSN l hl a b d t x y g cap w hb hab hcap hg hd0 (by omega) ht KX KY fx fy lx ly c0 c1 c2 c3 c4 c5 c6 t1 t2' t3 t4 t5 t6 hm (by omega) (dn _ hn) (dy _ hm0) hp
    ·rw [zQp hm (by omega) (by omega) hp]
     exact zRM l hl a b d t x y g cap w hb hab hcap hg hd0 (by omega) ht KX KY fx fy lx ly c0 c1 c2 c3 c4 c5 c6 t1 t2' t3 t4 t5 t6 hm (by omega) (dn _ hn) (dn _ hm0) hp
theorem zMu (l:List Mt.Tok) (hl:l.length≤64) (ho:Mt.zAv l):∀ f,S0 l f∧S1 l f∧S2 l f∧S3 l f:=by
 intro f
 induction f with
 | zero =>
  refine ⟨?_,?_,?_,?_⟩
  ·intro a b ai bi d v w h1 h2 h3 h4 h5 h6;omega
  ·intro a b ai bi d v w h1 h2 h3 h4 h5 h6;omega
  ·intro a b ai bi d v w h1 h2 h3 h4 h5 h6 h7;omega
  ·intro a b ai bi d v w h1 h2 h3 h4 h5 h6 h7 h8;omega
 | succ f ih =>
  obtain ⟨i0,i1,i2,i3⟩:=ih
  exact ⟨zDY l hl ho f i0 i1,zGU l hl ho f i2 i3,zMr l hl ho f i0,zGV l hl ho f i2⟩
theorem zH2 (l:List Mt.Tok) (v:Value) (w:World) (hl:l.length≤64) (ho:Mt.zAv l) (h:toks w v l) :
  Calls Tryz.prog 17 #[v] w fun e w'=>∃ v',e=.returned v'∧zB w' 0 v' (Mt.coded l)∧Below w.heap.size w w':=by
 have fc:=zDv ho 283 0 0 l.length 0 (by omega) (by omega)
 have K:=(zMu l hl ho 283).1 0 l.length 0 l.length 0 v w rfl rfl h (by omega) (Nat.le_refl _) (by omega) (by omega) (by omega)
 unfold Mt.coded
 generalize Mt.gen l 283 0 0 l.length 0=c at *
 have F1:Hid (Mt.fit 900000000 c):=Mt.zI fc (by omega)
 have F2:Hid (Mt.fit 900000000 [(⟨13,0,0,[]⟩:Mt.Ins)]):=Mt.zA0 (yJ _ _ _ _ (by omega) (by omega)) (by omega)
 have KH:=K
 clear fc K
 obtain ⟨ao,cap,hv⟩:∃ ao cap,v=.slice ao l.length cap:=by
  rcases h.2 with ⟨rfl,hn⟩ | ⟨g,cap,cur,rfl,_⟩
  ·exact ⟨none,0,by rw [hn]⟩
  ·exact ⟨_,_,rfl⟩
 subst hv
 have KK:Hid (Calls Tryz.prog 39 #[.slice ao l.length cap,.int .i64 0,.int .i64 l.length,.int .i64 0] w fun e w'=>∃ v',e=.returned v'∧zB w' 0 v' c∧Below w.heap.size w w'):=KH
 clear KH h
 go_enter Tryz.func17,Tryz.ntmps17
 go_wp2_with fail
 refine KK.out.mono ?_
 rintro e w1 ⟨v1,rfl,q1,hb1⟩
 have Q1:Hid (zB w1 0 v1 c):=q1
 have hs1:=hb1.size
 clear q1
 go_wp2_with fail
 refine (kD c [⟨13,0,0,[]⟩] _ _ _ (Q1.out.below (by go_grown)) (zAu w1 _ rfl _) F1.out F2.out).mono ?_
 rintro e w2 ⟨v2,rfl,q2,hb2⟩
 have hB2:Below w.heap.size w w2:=(hb1.alloc hs1 _).trans (hb2.mono (by simp;omega))
 clear hb2 hb1
 go_wp2_with fail
 go_ret
 exact ⟨_,rfl,q2,hB2⟩
theorem zMv (l:List Mt.Tok) (t:Mt.Tok) :
  ((t.kind==2)=true∧((Mt.closed l t.n=true∧Mt.may l t=0)∨(Mt.closed l t.n=false∧Mt.may l t=6))) ∨
  ((t.kind==2)=false∧(t.kind==8)=true∧((Mt.yN l=true∧Mt.may l t=0)∨(Mt.yN l=false∧Mt.may l t=7))) ∨
  ((t.kind==2)=false∧(t.kind==8)=false∧(t.kind==6)=true∧((10≤Mt.opened l∧Mt.may l t=8)∨(Mt.opened l<10∧(t.how==4)=false∧Mt.may l t=0)∨(Mt.opened l<10∧(t.how==4)=true∧decide (9≤Mt.captures l)=true∧Mt.may l t=9)∨(Mt.opened l<10∧(t.how==4)=true∧decide (9≤Mt.captures l)=false∧Mt.may l t=0))) ∨
  ((t.kind==2)=false∧(t.kind==8)=false∧(t.kind==6)=false∧(t.kind==7)=true∧(((Mt.opened l==0)=true∧Mt.may l t=10)∨((Mt.opened l==0)=false∧Mt.may l t=0))) ∨
  ((t.kind==2)=false∧(t.kind==8)=false∧(t.kind==6)=false∧(t.kind==7)=false∧Mt.may l t=0):=by
 unfold Mt.may
 simp only [beq_iff_eq,beq_eq_false_iff_ne,decide_eq_true_eq,decide_eq_false_iff_not]
 by_cases h1:t.kind=2
 ·rw [if_pos h1];cases Mt.closed l t.n <;> simp [h1]
 rw [if_neg h1]
 by_cases h2:t.kind=8
 ·rw [if_pos h2];cases Mt.yN l <;> simp [h2]
 rw [if_neg h2]
 by_cases h3:t.kind=6
 ·rw [if_pos h3]
  by_cases h4:10≤Mt.opened l
  ·rw [if_pos h4];simp [h3,h4]
  ·rw [if_neg h4]
   by_cases h5:t.how=4
   ·by_cases h6:9≤Mt.captures l
    ·rw [if_pos ⟨h5,h6⟩];simp [h3,h5,h6];omega
    ·rw [if_neg (fun x=>h6 x.2)];simp [h3,h5,h6];omega
   ·rw [if_neg (fun x=>h5 x.1)];simp [h3,h5];omega
 rw [if_neg h3]
 by_cases h7:t.kind=7
 ·rw [if_pos h7]
  by_cases h8:Mt.opened l=0
  ·simp [h7,h8]
  ·simp [h7,h8]
 rw [if_neg h7];simp [h1,h2,h3,h7]
theorem zQr (l:List Mt.Tok) (t:Mt.Tok) (v:Value) (w:World) (h:toks w v l) (hl:l.length≤64) :
  Calls Tryz.prog 36 #[v,zAU t] w fun e w'=>e=.returned (.int .i64 (Mt.may l t))∧Below w.heap.size w w':=by
 have HK:Hid (∀ o,toks (w.alloc o) v l):=fun o=>h.alloc o
 clear h
 have ⟨b1,b2⟩:=Mt.zDr l
 have ⟨b3,b4⟩:=Mt.zAd l
 unfold zAU
 rcases zMv l t with ⟨a1,⟨a2,e⟩ | ⟨a2,e⟩⟩ | ⟨a1,a2,⟨a3,e⟩ | ⟨a3,e⟩⟩ | ⟨a1,a2,a3,⟨a4,e⟩ | ⟨a4,a5,e⟩ | ⟨a4,a5,a6,e⟩ | ⟨a4,a5,a6,e⟩⟩ | ⟨a1,a2,a3,a4,⟨a5,e⟩ | ⟨a5,e⟩⟩ | ⟨a1,a2,a3,a4,e⟩
 all_goals
  rw [e];clear e
  go_enter Tryz.func36,Tryz.ntmps36
  go_wp2_with (first | (go_at_call 64;refine (zK5 l _ _ _ (HK.out _) hl).mono ?_;rintro e w' ⟨rfl,rfl⟩) | (go_at_call 65;refine (zH1 l _ _ (HK.out _) hl).mono ?_;rintro e w' ⟨rfl,rfl⟩) | (go_at_call 38;refine (zDW l _ _ (HK.out _) hl).mono ?_;rintro e w' ⟨rfl,rfl⟩) | (go_at_call 37;refine (zEn l _ _ (HK.out _) hl).mono ?_;rintro e w' ⟨rfl,rfl⟩))
  go_ret
  exact ⟨rfl,by go_grown⟩
attribute [local go_sem ↓] Go.wp_at_zero Go.wp_at_succ
theorem zOB (c:Int) (b:Bool) (w:World) (h:Mt.zC2 c=b) (h0:0≤c) (h1:c≤255) :
  Calls Tryz.prog 99 #[.int .u8 c] w fun e w'=>e=.returned (.bool b)∧w=w':=by rw [← h];exact zE3 c w h0 h1
theorem zMw (c:Int) (b:Bool) (w:World) (h:Mt.zCY c=b) (h0:0≤c) (h1:c≤255) :
  Calls Tryz.prog 100 #[.int .u8 c] w fun e w'=>e=.returned (.bool b)∧w=w':=by rw [← h];exact zDV c w h0 h1
theorem zOC (w:World) (A B:Array Value) (t u:TypeId) (x:Int) (h0:0≤x) (h1:x≤255) :
  (convert 151 9 (.slice (some ⟨w.heap.size+1+1,0,none⟩) 1 1)).run Tryz.prog (((w.alloc (.cells A t)).alloc (.cells B u)).alloc (.cells #[.int .u8 x] 5)) =
   .ok (.string ⟨#[UInt8.ofNat x.toNat]⟩) (((w.alloc (.cells A t)).alloc (.cells B u)).alloc (.cells #[.int .u8 x] 5)):=by
 refine run_convert_bytes_back _ _ _ _ ⟨w.heap.size+1+1,0,none⟩ 1 [UInt8.ofNat x.toNat] Tryz.underlying151 Tryz.underlying5 Tryz.underlying9 ?_
 intro j hj
 have:j=0:=by simpa using hj
 subst this
 obtain ⟨k,rfl⟩:=Int.eq_ofNat_of_zero_le h0
 have e:k % 256=k:=by omega
 simp [Addr.add,go_sem,e]
theorem zK8 (p:ByteArray) (i:Int) (w:World) (hp:p.size≤64) (hi0:0≤i) (hi1:i≤100) :
  Calls Tryz.prog 59 #[.string p,.int .i64 i] w fun e w'=>e=.returned (.tuple #[zAU (Mt.escape p i).1,.bool (Mt.escape p i).2])∧Below w.heap.size w w':=by
 have l1:=Mt.zEi p (i+1)
 rcases Mt.zCm p i with ⟨a1,e⟩ | ⟨a0,a1,⟨a2,e⟩ | ⟨a2,a3,e⟩ | ⟨a2,a3,a4,a5,a6,a7,e⟩ | ⟨a2,a3,a4,e⟩⟩
 ·rw [e];clear e
  go_enter Tryz.func59,Tryz.ntmps59
  go_wp2_with (go_at_call 98;refine (zAT _ _ _ hp).mono ?_;rintro e w' ⟨rfl,rfl⟩)
  go_returns
  exact ⟨rfl,by go_grown⟩
 ·rw [e];clear e
  go_enter Tryz.func59,Tryz.ntmps59
  go_wp2_with (first | (go_at_call 98;refine (zAT _ _ _ hp).mono ?_;rintro e w' ⟨rfl,rfl⟩) | (go_at_call 63;refine (zE5 _ _ _ _ _ hp (by omega) (by omega) (by omega)).mono ?_;rintro e w1 ⟨rfl,hb1⟩;obtain ⟨q0,q1,q2,q3,q4,q5⟩:=zBA hb1;clear hb1))
  refine bodyPost_ret (v:=.tuple #[zAU ⟨1,i,i+2,0,0,0,Mt.all p i (i+2) false⟩,.bool true]) (by simp [results,Tryz.results59,go_sem,q0,q1,q2,q3,zAU]) rfl ⟨rfl,?_⟩
  go_grown
 ·rw [e];clear e
  go_enter Tryz.func59,Tryz.ntmps59
  go_wp2_with (first | (go_at_call 98;refine (zAT _ _ _ hp).mono ?_;rintro e w' ⟨rfl,rfl⟩) | (go_at_call 63;refine (zE5 _ _ _ _ _ hp (by omega) (by omega) (by omega)).mono ?_;rintro e w1 ⟨rfl,hb1⟩;obtain ⟨q0,q1,q2,q3,q4,q5⟩:=zBA hb1;clear hb1))
  refine bodyPost_ret (v:=.tuple #[zAU ⟨1,i,i+2,0,0,0,Mt.all p i (i+2) false⟩,.bool true]) (by simp [results,Tryz.results59,go_sem,q0,q1,q2,q3,zAU]) rfl ⟨rfl,?_⟩
  go_grown
 ·rw [e];clear e
  go_enter Tryz.func59,Tryz.ntmps59
  go_wp2_with (go_at_call 98;refine (zAT _ _ _ hp).mono ?_;rintro e w' ⟨rfl,rfl⟩)
  go_returns
  exact ⟨rfl,by go_grown⟩
 ·rw [e];clear e
  have hcv:=fun A B=>zOC w A B 70 70 (Mt.atB p (i+1)) a0 l1
  rcases a4 with a4 | ⟨a4,a5⟩ <;> cases hd:Mt.zC2 (Mt.atB p (i+1)) <;> cases hl:Mt.zCY (Mt.atB p (i+1))
  all_goals
   go_enter Tryz.func59,Tryz.ntmps59
   go_wp2_with (first | (go_at_call 98;refine (zAT _ _ _ hp).mono ?_;rintro e w' ⟨rfl,rfl⟩))
   first | (go_region_with (first | (go_at_call 99;refine (zOB _ _ _ hd (by omega) (by omega)).mono ?_;rintro e w' ⟨rfl,rfl⟩) | (go_at_call 100;refine (zMw _ _ _ hl (by omega) (by omega)).mono ?_;rintro e w' ⟨rfl,rfl⟩))) | fail
   all_goals
    go_wp2
    go_returns
    exact ⟨rfl,by go_grown⟩
theorem zEQ (p:ByteArray) (k:Nat) (w:World) (hk:k<p.size) (hp:p.size≤64) (h1:(((p[k]'hk).toNat:Int)==124)=true) :
  Calls Tryz.prog 35 #[.string p,.int .i64 k] w fun e w'=>e=.returned (.tuple #[zAU ⟨5,k,k+1,0,0,0,[]⟩,.int .i64 0])∧Below w.heap.size w w':=by
 go_enter Tryz.func35,Tryz.ntmps35
 go_wp2_with fail
 go_returns
 exact ⟨rfl,by go_grown⟩
theorem zCI (p:ByteArray) (k:Nat) (w:World) (hk:k<p.size) (hp:p.size≤64) (h1:(((p[k]'hk).toNat:Int)==124)=false) (h2:(((p[k]'hk).toNat:Int)==41)=true) :
  Calls Tryz.prog 35 #[.string p,.int .i64 k] w fun e w'=>e=.returned (.tuple #[zAU ⟨7,k,k+1,0,0,0,[]⟩,.int .i64 0])∧Below w.heap.size w w':=by
 go_enter Tryz.func35,Tryz.ntmps35
 go_wp2_with fail
 go_returns
 exact ⟨rfl,by go_grown⟩
theorem zMx (p:ByteArray) (k:Nat) (w:World) (hk:k<p.size) (hp:p.size≤64) (h1:(((p[k]'hk).toNat:Int)==124)=false) (h2:(((p[k]'hk).toNat:Int)==41)=false) (h3:(((p[k]'hk).toNat:Int)==94)=true) :
  Calls Tryz.prog 35 #[.string p,.int .i64 k] w fun e w'=>e=.returned (.tuple #[zAU ⟨3,k,k+1,0,0,0,[]⟩,.int .i64 0])∧Below w.heap.size w w':=by
 go_enter Tryz.func35,Tryz.ntmps35
 go_wp2_with fail
 go_returns
 exact ⟨rfl,by go_grown⟩
theorem zMy (p:ByteArray) (k:Nat) (w:World) (hk:k<p.size) (hp:p.size≤64) (h1:(((p[k]'hk).toNat:Int)==124)=false) (h2:(((p[k]'hk).toNat:Int)==41)=false) (h3:(((p[k]'hk).toNat:Int)==94)=false) (h4:(((p[k]'hk).toNat:Int)==36)=true) :
  Calls Tryz.prog 35 #[.string p,.int .i64 k] w fun e w'=>e=.returned (.tuple #[zAU ⟨4,k,k+1,0,0,0,[]⟩,.int .i64 0])∧Below w.heap.size w w':=by
 go_enter Tryz.func35,Tryz.ntmps35
 go_wp2_with fail
 go_returns
 exact ⟨rfl,by go_grown⟩
theorem zK9 (p:ByteArray) (k:Nat) (w:World) (hk:k<p.size) (hp:p.size≤64) (h1:(((p[k]'hk).toNat:Int)==124)=false) (h2:(((p[k]'hk).toNat:Int)==41)=false) (h3:(((p[k]'hk).toNat:Int)==94)=false) (h4:(((p[k]'hk).toNat:Int)==36)=false) (h5:(((p[k]'hk).toNat:Int)==92)=false) (h6:(((p[k]'hk).toNat:Int)==91)=true) (b:Bool) (hb:(Mt.jN p k).2=b) :
  Calls Tryz.prog 35 #[.string p,.int .i64 k] w fun e w'=>e=.returned (.tuple #[zAU (Mt.jN p k).1,.int .i64 (if b then 0 else 3)])∧Below w.heap.size w w':=by
 generalize hT:Mt.jN p k=T at *
 have HT:Hid (Mt.jN p k=T):=hT
 clear hT
 cases b
 all_goals
  go_enter Tryz.func35,Tryz.ntmps35
  go_wp2_with fail
  refine (zMl _ _ _ hp (by omega) (by omega)).mono ?_
  rw [HT.out]
  rintro e w1 ⟨rfl,hb1⟩
  simp only [hb]
  obtain ⟨q0,q1,q2,q3,q4,q5⟩:=zBA hb1
  clear hb1
  go_wp2_with (refine qR rfl (.tmp 6) (.tmp 49) (by rfl) (w.heap.size+1) T.1 (by rfl) (by rfl) q2 q3 (by rfl) ?_;intro w2 r1 r2 r3 r4 r5 r6;have s0:=fun o=>(r3 w.heap.size o (by omega)).trans (q0 o);have s1:=fun o=>(r4 w.heap.size o).trans (q1 o);have s2:Below w.heap.size w w2:=q5.trans (r6 _ (by omega));clear r3 r4 r6 q0 q1 q2 q3 q5)
  refine bodyPost_ret (v:=.tuple #[zAU T.1,_]) (by simp [results,Tryz.results35,go_sem,s0,s1,r1,r2,zAU]) rfl ⟨rfl,?_⟩
  go_grown
theorem zDw (p:ByteArray) (k:Nat) (w:World) (hk:k<p.size) (hp:p.size≤64) (h1:(((p[k]'hk).toNat:Int)==124)=false) (h2:(((p[k]'hk).toNat:Int)==41)=false) (h3:(((p[k]'hk).toNat:Int)==94)=false) (h4:(((p[k]'hk).toNat:Int)==36)=false) (h5:(((p[k]'hk).toNat:Int)==92)=false) (h6:(((p[k]'hk).toNat:Int)==91)=false) (h7:(((p[k]'hk).toNat:Int)==40)=true) (b:Bool) (hb:(Mt.opening p k).2=b) :
  Calls Tryz.prog 35 #[.string p,.int .i64 k] w fun e w'=>e=.returned (.tuple #[zAU (Mt.opening p k).1,.int .i64 (if b then 0 else 5)])∧Below w.heap.size w w':=by
 generalize hT:Mt.opening p k=T at *
 have HT:Hid (Mt.opening p k=T):=hT
 clear hT
 cases b
 all_goals
  go_enter Tryz.func35,Tryz.ntmps35
  go_wp2_with fail
  refine (zJe _ _ _ hp (by omega) (by omega)).mono ?_
  rw [HT.out]
  rintro e w1 ⟨rfl,hb1⟩
  simp only [hb]
  obtain ⟨q0,q1,q2,q3,q4,q5⟩:=zBA hb1
  clear hb1
  go_wp2_with (refine qR rfl (.tmp 6) (.tmp 57) (by rfl) (w.heap.size+1) T.1 (by rfl) (by rfl) q2 q3 (by rfl) ?_;intro w2 r1 r2 r3 r4 r5 r6;have s0:=fun o=>(r3 w.heap.size o (by omega)).trans (q0 o);have s1:=fun o=>(r4 w.heap.size o).trans (q1 o);have s2:Below w.heap.size w w2:=q5.trans (r6 _ (by omega));clear r3 r4 r6 q0 q1 q2 q3 q5)
  refine bodyPost_ret (v:=.tuple #[zAU T.1,_]) (by simp [results,Tryz.results35,go_sem,s0,s1,r1,r2,zAU]) rfl ⟨rfl,?_⟩
  go_grown
theorem zLa (p:ByteArray) (k:Nat) (w:World) (hk:k<p.size) (hp:p.size≤64) (h1:(((p[k]'hk).toNat:Int)==124)=false) (h2:(((p[k]'hk).toNat:Int)==41)=false) (h3:(((p[k]'hk).toNat:Int)==94)=false) (h4:(((p[k]'hk).toNat:Int)==36)=false) (h5:(((p[k]'hk).toNat:Int)==92)=false) (h6:(((p[k]'hk).toNat:Int)==91)=false) (h7:(((p[k]'hk).toNat:Int)==40)=false) (h8:(((p[k]'hk).toNat:Int)==42)=true) (b:Bool) (hb:(Mt.kJ p k).2=b) :
  Calls Tryz.prog 35 #[.string p,.int .i64 k] w fun e w'=>e=.returned (.tuple #[zAU (Mt.kJ p k).1,.int .i64 (if b then 0 else 4)])∧Below w.heap.size w w':=by
 generalize hT:Mt.kJ p k=T at *
 have HT:Hid (Mt.kJ p k=T):=hT
 clear hT
 cases b
 all_goals
  go_enter Tryz.func35,Tryz.ntmps35
  go_wp2_with fail
  refine (zCH _ _ _ hp (by omega) (by omega)).mono ?_
  rw [HT.out]
  rintro e w1 ⟨rfl,hb1⟩
  simp only [hb]
  obtain ⟨q0,q1,q2,q3,q4,q5⟩:=zBA hb1
  clear hb1
  go_wp2_with (refine qR rfl (.tmp 6) (.tmp 68) (by rfl) (w.heap.size+1) T.1 (by rfl) (by rfl) q2 q3 (by rfl) ?_;intro w2 r1 r2 r3 r4 r5 r6;have s0:=fun o=>(r3 w.heap.size o (by omega)).trans (q0 o);have s1:=fun o=>(r4 w.heap.size o).trans (q1 o);have s2:Below w.heap.size w w2:=q5.trans (r6 _ (by omega));clear r3 r4 r6 q0 q1 q2 q3 q5)
  refine bodyPost_ret (v:=.tuple #[zAU T.1,_]) (by simp [results,Tryz.results35,go_sem,s0,s1,r1,r2,zAU]) rfl ⟨rfl,?_⟩
  go_grown
theorem zLb (p:ByteArray) (k:Nat) (w:World) (hk:k<p.size) (hp:p.size≤64) (h1:(((p[k]'hk).toNat:Int)==124)=false) (h2:(((p[k]'hk).toNat:Int)==41)=false) (h3:(((p[k]'hk).toNat:Int)==94)=false) (h4:(((p[k]'hk).toNat:Int)==36)=false) (h5:(((p[k]'hk).toNat:Int)==92)=false) (h6:(((p[k]'hk).toNat:Int)==91)=false) (h7:(((p[k]'hk).toNat:Int)==40)=false) (h8:(((p[k]'hk).toNat:Int)==42)=false) (h9:(((p[k]'hk).toNat:Int)==43)=true) (b:Bool) (hb:(Mt.kJ p k).2=b) :
  Calls Tryz.prog 35 #[.string p,.int .i64 k] w fun e w'=>e=.returned (.tuple #[zAU (Mt.kJ p k).1,.int .i64 (if b then 0 else 4)])∧Below w.heap.size w w':=by
 generalize hT:Mt.kJ p k=T at *
 have HT:Hid (Mt.kJ p k=T):=hT
 clear hT
 cases b
 all_goals
  go_enter Tryz.func35,Tryz.ntmps35
  go_wp2_with fail
  refine (zCH _ _ _ hp (by omega) (by omega)).mono ?_
  rw [HT.out]
  rintro e w1 ⟨rfl,hb1⟩
  simp only [hb]
  obtain ⟨q0,q1,q2,q3,q4,q5⟩:=zBA hb1
  clear hb1
  go_wp2_with (refine qR rfl (.tmp 6) (.tmp 68) (by rfl) (w.heap.size+1) T.1 (by rfl) (by rfl) q2 q3 (by rfl) ?_;intro w2 r1 r2 r3 r4 r5 r6;have s0:=fun o=>(r3 w.heap.size o (by omega)).trans (q0 o);have s1:=fun o=>(r4 w.heap.size o).trans (q1 o);have s2:Below w.heap.size w w2:=q5.trans (r6 _ (by omega));clear r3 r4 r6 q0 q1 q2 q3 q5)
  refine bodyPost_ret (v:=.tuple #[zAU T.1,_]) (by simp [results,Tryz.results35,go_sem,s0,s1,r1,r2,zAU]) rfl ⟨rfl,?_⟩
  go_grown
theorem zLc (p:ByteArray) (k:Nat) (w:World) (hk:k<p.size) (hp:p.size≤64) (h1:(((p[k]'hk).toNat:Int)==124)=false) (h2:(((p[k]'hk).toNat:Int)==41)=false) (h3:(((p[k]'hk).toNat:Int)==94)=false) (h4:(((p[k]'hk).toNat:Int)==36)=false) (h5:(((p[k]'hk).toNat:Int)==92)=false) (h6:(((p[k]'hk).toNat:Int)==91)=false) (h7:(((p[k]'hk).toNat:Int)==40)=false) (h8:(((p[k]'hk).toNat:Int)==42)=false) (h9:(((p[k]'hk).toNat:Int)==43)=false) (h10:(((p[k]'hk).toNat:Int)==63)=true) (b:Bool) (hb:(Mt.kJ p k).2=b) :
  Calls Tryz.prog 35 #[.string p,.int .i64 k] w fun e w'=>e=.returned (.tuple #[zAU (Mt.kJ p k).1,.int .i64 (if b then 0 else 4)])∧Below w.heap.size w w':=by
 generalize hT:Mt.kJ p k=T at *
 have HT:Hid (Mt.kJ p k=T):=hT
 clear hT
 cases b
 all_goals
  go_enter Tryz.func35,Tryz.ntmps35
  go_wp2_with fail
  refine (zCH _ _ _ hp (by omega) (by omega)).mono ?_
  rw [HT.out]
  rintro e w1 ⟨rfl,hb1⟩
  simp only [hb]
  obtain ⟨q0,q1,q2,q3,q4,q5⟩:=zBA hb1
  clear hb1
  go_wp2_with (refine qR rfl (.tmp 6) (.tmp 68) (by rfl) (w.heap.size+1) T.1 (by rfl) (by rfl) q2 q3 (by rfl) ?_;intro w2 r1 r2 r3 r4 r5 r6;have s0:=fun o=>(r3 w.heap.size o (by omega)).trans (q0 o);have s1:=fun o=>(r4 w.heap.size o).trans (q1 o);have s2:Below w.heap.size w w2:=q5.trans (r6 _ (by omega));clear r3 r4 r6 q0 q1 q2 q3 q5)
  refine bodyPost_ret (v:=.tuple #[zAU T.1,_]) (by simp [results,Tryz.results35,go_sem,s0,s1,r1,r2,zAU]) rfl ⟨rfl,?_⟩
  go_grown
theorem zJl (p:ByteArray) (k:Nat) (w:World) (hk:k<p.size) (hp:p.size≤64) (h1:(((p[k]'hk).toNat:Int)==124)=false) (h2:(((p[k]'hk).toNat:Int)==41)=false) (h3:(((p[k]'hk).toNat:Int)==94)=false) (h4:(((p[k]'hk).toNat:Int)==36)=false) (h5:(((p[k]'hk).toNat:Int)==92)=false) (h6:(((p[k]'hk).toNat:Int)==91)=false) (h7:(((p[k]'hk).toNat:Int)==40)=false) (h8:(((p[k]'hk).toNat:Int)==42)=false) (h9:(((p[k]'hk).toNat:Int)==43)=false) (h10:(((p[k]'hk).toNat:Int)==63)=false) (h11:(((p[k]'hk).toNat:Int)==123)=true) (b:Bool) (hb:(Mt.kJ p k).2=b) :
  Calls Tryz.prog 35 #[.string p,.int .i64 k] w fun e w'=>e=.returned (.tuple #[zAU (Mt.kJ p k).1,.int .i64 (if b then 0 else 4)])∧Below w.heap.size w w':=by
 generalize hT:Mt.kJ p k=T at *
 have HT:Hid (Mt.kJ p k=T):=hT
 clear hT
 cases b
 all_goals
  go_enter Tryz.func35,Tryz.ntmps35
  go_wp2_with fail
  refine (zCH _ _ _ hp (by omega) (by omega)).mono ?_
  rw [HT.out]
  rintro e w1 ⟨rfl,hb1⟩
  simp only [hb]
  obtain ⟨q0,q1,q2,q3,q4,q5⟩:=zBA hb1
  clear hb1
  go_wp2_with (refine qR rfl (.tmp 6) (.tmp 68) (by rfl) (w.heap.size+1) T.1 (by rfl) (by rfl) q2 q3 (by rfl) ?_;intro w2 r1 r2 r3 r4 r5 r6;have s0:=fun o=>(r3 w.heap.size o (by omega)).trans (q0 o);have s1:=fun o=>(r4 w.heap.size o).trans (q1 o);have s2:Below w.heap.size w w2:=q5.trans (r6 _ (by omega));clear r3 r4 r6 q0 q1 q2 q3 q5)
  refine bodyPost_ret (v:=.tuple #[zAU T.1,_]) (by simp [results,Tryz.results35,go_sem,s0,s1,r1,r2,zAU]) rfl ⟨rfl,?_⟩
  go_grown
theorem zOD (p:ByteArray) (k:Nat) (w:World) (hk:k<p.size) (hp:p.size≤64) (h1:(((p[k]'hk).toNat:Int)==124)=false) (h2:(((p[k]'hk).toNat:Int)==41)=false) (h3:(((p[k]'hk).toNat:Int)==94)=false) (h4:(((p[k]'hk).toNat:Int)==36)=false) (h5:(((p[k]'hk).toNat:Int)==92)=false) (h6:(((p[k]'hk).toNat:Int)==91)=false) (h7:(((p[k]'hk).toNat:Int)==40)=false) (h8:(((p[k]'hk).toNat:Int)==42)=false) (h9:(((p[k]'hk).toNat:Int)==43)=false) (h10:(((p[k]'hk).toNat:Int)==63)=false) (h11:(((p[k]'hk).toNat:Int)==123)=false) (h12:(((p[k]'hk).toNat:Int)==46)=true) :
  Calls Tryz.prog 35 #[.string p,.int .i64 k] w fun e w'=>e=.returned (.tuple #[zAU ⟨1,k,k+1,0,0,0,Mt.all p k k true⟩,.int .i64 0])∧Below w.heap.size w w':=by
 go_enter Tryz.func35,Tryz.ntmps35
 go_wp2_with (first | (go_at_call 63;refine (zE5 _ _ _ _ _ hp (by omega) (by omega) (by omega)).mono ?_;rintro e w1 ⟨rfl,hb1⟩;obtain ⟨q0,q1,q2,q3,q4,q5⟩:=zBA hb1;clear hb1))
 refine bodyPost_ret (v:=.tuple #[zAU ⟨1,k,k+1,0,0,0,Mt.all p k k true⟩,.int .i64 0]) (by simp [results,Tryz.results35,go_sem,q0,q1,q2,q3,zAU]) rfl ⟨rfl,?_⟩
 go_grown
theorem zJm (p:ByteArray) (k:Nat) (hk:k<p.size):p.extract k (k+1)=⟨([UInt8.ofNat (Mt.atB p k).toNat]:List UInt8).toArray⟩:=by
 have e:=byte_at p k hk
 have e2:(Mt.atB p k).toNat=(p[k]'hk).toNat:=by rw [← e];simp
 rw [e2]
 have e3:UInt8.ofNat (p[k]'hk).toNat=p[k]'hk:=by simp
 rw [e3]
 apply ByteArray.ext
 rw [ByteArray.data_extract]
 apply Array.ext'
 have hk':k<p.data.size:=hk
 rw [Array.toList_extract]
 simp [List.extract_eq_take_drop,List.take_one,hk']
 rw [Array.getElem?_eq_getElem hk']
 rfl
theorem zMz (p:ByteArray) (k:Nat) (w:World) (hk:k<p.size) (hp:p.size≤64) (h1:(((p[k]'hk).toNat:Int)==124)=false) (h2:(((p[k]'hk).toNat:Int)==41)=false) (h3:(((p[k]'hk).toNat:Int)==94)=false) (h4:(((p[k]'hk).toNat:Int)==36)=false) (h5:(((p[k]'hk).toNat:Int)==92)=false) (h6:(((p[k]'hk).toNat:Int)==91)=false) (h7:(((p[k]'hk).toNat:Int)==40)=false) (h8:(((p[k]'hk).toNat:Int)==42)=false) (h9:(((p[k]'hk).toNat:Int)==43)=false) (h10:(((p[k]'hk).toNat:Int)==63)=false) (h11:(((p[k]'hk).toNat:Int)==123)=false) (h12:(((p[k]'hk).toNat:Int)==46)=false) :
  Calls Tryz.prog 35 #[.string p,.int .i64 k] w fun e w'=>e=.returned (.tuple #[zAU ⟨1,k,k+1,0,0,0,[UInt8.ofNat (Mt.atB p k).toNat]⟩,.int .i64 0])∧Below w.heap.size w w':=by
 have hx:=zJm p k hk
 go_enter Tryz.func35,Tryz.ntmps35
 go_wp2_with fail
 go_returns
 exact ⟨rfl,by go_grown⟩
theorem zOE (p:ByteArray) (k:Nat) (w:World) (hk:k<p.size) (hp:p.size≤64) (h1:(((p[k]'hk).toNat:Int)==124)=false) (h2:(((p[k]'hk).toNat:Int)==41)=false) (h3:(((p[k]'hk).toNat:Int)==94)=false) (h4:(((p[k]'hk).toNat:Int)==36)=false) (h5:(((p[k]'hk).toNat:Int)==92)=true)
  (b:Bool) (hb:(Mt.escape p k).2=b) :
  Calls Tryz.prog 35 #[.string p,.int .i64 k] w fun e w'=>e=.returned (.tuple #[zAU (Mt.escape p k).1,.int .i64 (if b then 0 else 2)])∧Below w.heap.size w w':=by
 generalize hT:Mt.escape p k=T at *
 have HT:Hid (Mt.escape p k=T):=hT
 clear hT
 cases b
 all_goals
  go_enter Tryz.func35,Tryz.ntmps35
  go_wp2_with fail
  refine (zK8 _ _ _ hp (by omega) (by omega)).mono ?_
  rw [HT.out]
  rintro e w1 ⟨rfl,hb1⟩
  simp only [hb]
  obtain ⟨q0,q1,q2,q3,q4,q5⟩:=zBA hb1
  clear hb1
  go_wp2_with (refine qR rfl (.tmp 6) (.tmp 41) (by rfl) (w.heap.size+1) T.1 (by rfl) (by rfl) q2 q3 (by rfl) ?_;intro w2 r1 r2 r3 r4 r5 r6;have s0:=fun o=>(r3 w.heap.size o (by omega)).trans (q0 o);have s1:=fun o=>(r4 w.heap.size o).trans (q1 o);have s2:Below w.heap.size w w2:=q5.trans (r6 _ (by omega));clear r3 r4 r6 q0 q1 q2 q3 q5)
  refine bodyPost_ret (v:=.tuple #[zAU T.1,_]) (by simp [results,Tryz.results35,go_sem,s0,s1,r1,r2,zAU]) rfl ⟨rfl,?_⟩
  go_grown
theorem zKk (p:ByteArray) (i:Int) (w:World) (hp:p.size≤64) (hi0:0≤i) (hi1:i<(p.size:Int)) :
  Calls Tryz.prog 35 #[.string p,.int .i64 i] w fun e w'=>e=.returned (.tuple #[zAU (Mt.kK p i).1,.int .i64 (Mt.kK p i).2])∧Below w.heap.size w w':=by
 obtain ⟨k,rfl⟩:=Int.eq_ofNat_of_zero_le hi0
 have hk:k<p.size:=by omega
 have eb:=byte_at p k hk
 have yes:∀ q:Int,Mt.atB p k=q→(((p[k]'hk).toNat:Int)==q)=true:=fun q h=>by rw [eb];simpa using h
 have no:∀ q:Int,¬ Mt.atB p k=q→(((p[k]'hk).toNat:Int)==q)=false:=fun q h=>by rw [eb];simpa using h
 unfold Mt.kK
 by_cases h1:Mt.atB p k=124
 ·rw [if_pos h1];exact zEQ p k w hk hp (yes _ h1)
 rw [if_neg h1]
 by_cases h2:Mt.atB p k=41
 ·rw [if_pos h2];exact zCI p k w hk hp (no _ h1) (yes _ h2)
 rw [if_neg h2]
 by_cases h3:Mt.atB p k=94
 ·rw [if_pos h3];exact zMx p k w hk hp (no _ h1) (no _ h2) (yes _ h3)
 rw [if_neg h3]
 by_cases h4:Mt.atB p k=36
 ·rw [if_pos h4];exact zMy p k w hk hp (no _ h1) (no _ h2) (no _ h3) (yes _ h4)
 rw [if_neg h4]
 by_cases h5:Mt.atB p k=92
 ·rw [if_pos h5];exact zOE p k w hk hp (no _ h1) (no _ h2) (no _ h3) (no _ h4) (yes _ h5) _ rfl
 rw [if_neg h5]
 by_cases h6:Mt.atB p k=91
 ·rw [if_pos h6];exact zK9 p k w hk hp (no _ h1) (no _ h2) (no _ h3) (no _ h4) (no _ h5) (yes _ h6) _ rfl
 rw [if_neg h6]
 by_cases h7:Mt.atB p k=40
 ·rw [if_pos h7];exact zDw p k w hk hp (no _ h1) (no _ h2) (no _ h3) (no _ h4) (no _ h5) (no _ h6) (yes _ h7) _ rfl
 rw [if_neg h7]
 by_cases h8:Mt.atB p k=42
 ·rw [if_pos (Or.inl h8)];exact zLa p k w hk hp (no _ h1) (no _ h2) (no _ h3) (no _ h4) (no _ h5) (no _ h6) (no _ h7) (yes _ h8) _ rfl
 by_cases h9:Mt.atB p k=43
 ·rw [if_pos (Or.inr (Or.inl h9))];exact zLb p k w hk hp (no _ h1) (no _ h2) (no _ h3) (no _ h4) (no _ h5) (no _ h6) (no _ h7) (no _ h8) (yes _ h9) _ rfl
 by_cases h10:Mt.atB p k=63
 ·rw [if_pos (Or.inr (Or.inr (Or.inl h10)))];exact zLc p k w hk hp (no _ h1) (no _ h2) (no _ h3) (no _ h4) (no _ h5) (no _ h6) (no _ h7) (no _ h8) (no _ h9) (yes _ h10) _ rfl
 by_cases h11:Mt.atB p k=123
 ·rw [if_pos (Or.inr (Or.inr (Or.inr h11)))];exact zJl p k w hk hp (no _ h1) (no _ h2) (no _ h3) (no _ h4) (no _ h5) (no _ h6) (no _ h7) (no _ h8) (no _ h9) (no _ h10) (yes _ h11) _ rfl
 rw [if_neg (by rintro (h | h | h | h) <;> contradiction)]
 by_cases h12:Mt.atB p k=46
 ·rw [if_pos h12];exact zOD p k w hk hp (no _ h1) (no _ h2) (no _ h3) (no _ h4) (no _ h5) (no _ h6) (no _ h7) (no _ h8) (no _ h9) (no _ h10) (no _ h11) (yes _ h12)
 rw [if_neg h12]
 exact zMz p k w hk hp (no _ h1) (no _ h2) (no _ h3) (no _ h4) (no _ h5) (no _ h6) (no _ h7) (no _ h8) (no _ h9) (no _ h10) (no _ h11) (no _ h12)
theorem Tryz.info80:(Tryz.prog.info? 70).map (fun i=>(i.zero,i.size,i.bytes))=some (some (.agg #[.int .i64 0,.int .i64 0,.int .i64 0,.int .i64 0,.int .i64 0,.int .i64 0,.string ⟨#[]⟩]),7,64):=by kernel_rfl
def vB (w:World) (base:Nat) (v:Value) (l:List Mt.Tok):Prop:=w.ownsRow base 70 7 v l.length (l.flatMap yF)
theorem vB.toks {w:World} {base:Nat} {v:Value} {l:List Mt.Tok} (h:vB w base v l):toks w v l:=kQ h (Nat.zero_le _)
theorem vB.below {w w':World} {base:Nat} {v:Value} {l:List Mt.Tok} (h:vB w base v l) (hb:Below w.heap.size w w'):vB w' base v l:=jT h hb
theorem zCJ {p:ByteArray} {a:Int} {k:Int} (hp:p.size≤64) (h:Mt.qD p [] 0=([],a,k)) (ha:a≠0):Mt.tokens p=([],a,k):=by
 unfold Mt.tokens
 rw [if_neg (by omega),Mt.vF p hp,h,if_pos ha]
theorem zBV {p:ByteArray} {l:List Mt.Tok} {k:Int} (hp:p.size≤64) (h:Mt.qD p [] 0=(l,0,k)) (ho:0<Mt.opened l):Mt.tokens p=([],11,(p.size:Int)):=by
 unfold Mt.tokens
 rw [if_neg (by omega),Mt.vF p hp,h,if_neg (by simp),if_pos ho]
theorem zH3 {p:ByteArray} {l:List Mt.Tok} {k:Int} (hp:p.size≤64) (h:Mt.qD p [] 0=(l,0,k)) (ho:¬ 0<Mt.opened l):Mt.tokens p=(l,0,0):=by
 unfold Mt.tokens
 rw [if_neg (by omega),Mt.vF p hp,h,if_neg (by simp),if_neg ho]
theorem zH4 {l:List Mt.Tok} {t:Mt.Tok} (h:Mt.kP t=false):Mt.joined l t=t:=by unfold Mt.joined;rw [h];rfl
theorem zLd {l:List Mt.Tok} {t:Mt.Tok} (h:Mt.kP t=true):Mt.joined l t={ t with n:=Mt.captures l+1 }:=by unfold Mt.joined;rw [h];rfl
theorem zJn (t:Mt.Tok):∀ u∈yF t,u.oneCell'=true:=by
 intro u hu
 simp only [yF,List.mem_cons,List.not_mem_nil,or_false] at hu
 rcases hu with rfl | rfl | rfl | rfl | rfl | rfl | rfl <;> rfl
theorem vB.set {w:World} {base:Nat} {v:Value} {l:List Mt.Tok} (h:vB w base v l) (b x:Nat) (u:Value) (hne:∀ q,v.ownBlock=some q→q<b):vB (w.setCell ⟨b,x,none⟩ u) base v l :=
 World.ownsRow.kept h (zDu w ⟨b,x,none⟩ u) (Or.inr (fun e=>by have:=hne b e;omega))
theorem zGW {w:World} {base:Nat} {v:Value} {l:List Mt.Tok} {t:Mt.Tok} (h:w.ownsRow base 70 7 v (l.length+1) (l.flatMap yF++yF t)):vB w base v (l++[t]):=by
 unfold vB
 rw [List.length_append,List.flatMap_append,List.flatMap_cons,List.flatMap_nil,List.append_nil]
 exact h
theorem zJo (p:ByteArray) (w:World) (h:64<p.size) (hm:p.size≤maxLen) :
  Calls Tryz.prog 16 #[.string p] w fun e w'=>e=.returned (.tuple #[.slice none 0 0,.int .i64 1,.int .i64 0])∧w=w':=by
 unfold maxLen at hm
 go_enter Tryz.func16,Tryz.ntmps16
 go_wp2_with fail
 go_ret3
 exact ⟨rfl,rfl⟩
theorem zH5 (p:ByteArray) (w:World) (hp:p.size≤64) :
  Calls Tryz.prog 16 #[.string p] w fun e w'=>∃ v,e=.returned (.tuple #[v,.int .i64 (Mt.tokens p).2.1,.int .i64 (Mt.tokens p).2.2])∧vB w' w.heap.size v (Mt.tokens p).1∧Below w.heap.size w w':=by
 obtain ⟨i0,hi,hz0,hz1,hz2⟩:=info_parts Tryz.info80
 go_enter Tryz.func16,Tryz.ntmps16
 go_wp2_with fail
 go_loopw [5,6] (fun v i wr=>∃ (k:Nat) (l:List Mt.Tok),k≤p.size∧l.length≤k∧i=.int .i64 k∧vB wr w.heap.size v l∧Below w.heap.size w wr∧Mt.qD p [] 0=Mt.qD p l k) (fun _ i _=>p.size-(intOf i).toNat)
 case atStart=>exact ⟨0,[],Nat.zero_le _,Nat.le_refl _,rfl,World.ownsRow_nil _ _ _ _,Below.refl _ _,rfl⟩
 case round =>
  obtain ⟨k,l,hk,hlk,rfl,hown,hbel,hr⟩:=hrel
  have H:Hid (Mt.qD p [] 0=Mt.qD p l k):=hr
  have HO:Hid (vB wr w.heap.size u5 l):=hown
  have hsz:=hbel.size
  clear hr hown
  by_cases hlt:k<p.size
  ·have hst:=Mt.vH p l k (by omega) (by omega)
   rw [if_neg (by omega),← H.out] at hst
   have hto:=Mt.zBR p k (by omega) (by omega)
   generalize hT:Mt.kK p k=T at *
   have HT:Hid (Mt.kK p k=T):=hT
   clear hT
   cases hne:(T.2==0)
   ·rw [if_pos (by simpa using hne)] at hst
    have HS:Hid (Mt.qD p [] 0=([],T.2,(k:Int))):=hst
    have hne2:(T.2 != 0)=true:=by simpa using hne
    clear hst H hto
    go_wp2_with (first | (go_at_call 35;refine (zKk _ _ _ hp (by omega) (by omega)).mono ?_;rw [HT.out];rintro e w1 ⟨rfl,hb1⟩;simp only [zAU]) | fail)
    go_ret3
    refine ⟨.slice none 0 0,?_,?_,?_⟩
    ·rw [zCJ hp HS.out (by simpa using hne)];rfl
    ·rw [zCJ hp HS.out (by simpa using hne)];exact World.ownsRow_nil _ _ _ _
    ·have hb2:Below w.heap.size w w1:=hbel.trans (hb1.mono hsz)
     exact hb2.alloc (by have:=hb2.size;omega) _
   ·have hn0:T.2=0:=by simpa using hne
    have zSP:=hto hn0
    have zUw:=zSP.1
    have zUx:=zSP.2
    rw [if_neg (by simp [hn0])] at hst
    clear hto zSP
    have HS:Hid (Mt.qD p [] 0=if Mt.may l T.1≠0 then ([],Mt.may l T.1,(k:Int)) else Mt.qD p (l++[Mt.joined l T.1]) T.1.to):=hst
    clear hst H hn0
    go_wp2_with (first | (go_at_call 35;refine (zKk _ _ _ hp (by omega) (by omega)).mono ?_;rw [HT.out];rintro e w1 ⟨rfl,hb1⟩;simp only [zAU]) | fail)
    have hbw:Below w.heap.size w w1:=hbel.trans (hb1.mono hsz)
    have hsz1:w.heap.size≤w1.heap.size:=hbw.size
    have HO1:Hid (vB w1 w.heap.size u5 l):=HO.out.below hb1
    refine (zQr l T.1 u5 _ (HO1.out.toks.alloc _) (by omega)).mono ?_
    rintro e w2 ⟨rfl,hb2⟩
    have HO2:Hid (vB w2 w.heap.size u5 l):=vB.below (World.ownsRow.alloc HO1.out _) hb2
    obtain ⟨q0,q1,q2,q3⟩:=xR hb2
    have hg5:∀ q,u5.ownBlock=some q→q<w1.heap.size:=fun q hq=>(World.ownsRow.lt HO1.out q hq).2
    clear hb2 HO HO1 hb1
    have hbw2:Below w.heap.size w w2:=hbw.trans (q3.mono hsz1)
    have hsz2:w.heap.size≤w2.heap.size:=hbw2.size
    cases hm:(Mt.may l T.1 != 0)
    ·have hm0:¬ Mt.may l T.1≠0:=by simpa using hm
     have HS2:Hid (Mt.qD p [] 0=Mt.qD p (l++[Mt.joined l T.1]) T.1.to):=by show _=_;rw [HS.out,if_neg hm0]
     clear HS hm0
     rcases zFb T.1 with ⟨e1,e3⟩ | ⟨e1,e2,e3⟩ | ⟨e1,e2,e3⟩
     ·have HJ:Hid (Mt.joined l T.1=T.1):=zH4 e3
      clear e3
      go_wp2_with (first | (at_builtin;refine wpList_append_own _ rfl _ _ 39 rfl w.heap.size 70 i0 _ 7 64 Tryz.underlying39 hi hz0 hz1 hz2 rfl (by decide) _ _ _ rfl (World.ownsRow.alloc HO2.out _) ⟨w2.heap.size,0,none⟩ 1 1 (yF T.1) rfl rfl (vS _ _ _) (zJn _) ?c3 ?c4 ?c5 ?_))
      case c3=>unfold maxLen;omega
      case c4=>omega
      case c5=>simp;omega
      intro v' w3 hown' hgrow _
      have R1:Hid (vB w3 w.heap.size v' (l++[Mt.joined l T.1])):=by rw [HJ.out];exact zGW hown'
      have R2:Below w.heap.size w w3:=(hbw2.alloc hsz2 _).grown hgrow (by simp;omega) (fun q hq'=>(World.ownsRow.lt HO2.out q hq').1)
      have q6:w3.cell? ⟨w1.heap.size,2,none⟩=some (.int .i64 T.1.to):=(zAH hgrow q2 hg5 2).trans (q0 2)
      clear hown' hgrow HO2 hg5
      go_wp2
      go_roundw
      case rel=>exact ⟨T.1.to.toNat,l++[Mt.joined l T.1],by omega,by rw [List.length_append];simp;omega,by rw [Int.toNat_of_nonneg (by omega)],R1.out,R2,by rw [Int.toNat_of_nonneg (by omega)];exact HS2.out⟩
      case measure=>simp [intOf];omega
     ·have HJ:Hid (Mt.joined l T.1=T.1):=zH4 e3
      clear e3
      go_wp2_with (first | (at_builtin;refine wpList_append_own _ rfl _ _ 39 rfl w.heap.size 70 i0 _ 7 64 Tryz.underlying39 hi hz0 hz1 hz2 rfl (by decide) _ _ _ rfl (World.ownsRow.alloc HO2.out _) ⟨w2.heap.size,0,none⟩ 1 1 (yF T.1) rfl rfl (vS _ _ _) (zJn _) ?d3 ?d4 ?d5 ?_))
      case d3=>unfold maxLen;omega
      case d4=>omega
      case d5=>simp;omega
      intro v' w3 hown' hgrow _
      have R1:Hid (vB w3 w.heap.size v' (l++[Mt.joined l T.1])):=by rw [HJ.out];exact zGW hown'
      have R2:Below w.heap.size w w3:=(hbw2.alloc hsz2 _).grown hgrow (by simp;omega) (fun q hq'=>(World.ownsRow.lt HO2.out q hq').1)
      have q6:w3.cell? ⟨w1.heap.size,2,none⟩=some (.int .i64 T.1.to):=(zAH hgrow q2 hg5 2).trans (q0 2)
      clear hown' hgrow HO2 hg5
      go_wp2
      go_roundw
      case rel=>exact ⟨T.1.to.toNat,l++[Mt.joined l T.1],by omega,by rw [List.length_append];simp;omega,by rw [Int.toNat_of_nonneg (by omega)],R1.out,R2,by rw [Int.toNat_of_nonneg (by omega)];exact HS2.out⟩
      case measure=>simp [intOf];omega
     ·have HJ:Hid (Mt.joined l T.1={ T.1 with n:=Mt.captures l+1 }):=zLd e3
      clear e3
      have ⟨b3,b4⟩:=Mt.zAd l
      have HO3:Hid (vB (w2.setCell ⟨w1.heap.size,3,none⟩ (.int .i64 (Mt.captures l+1))) w.heap.size u5 l):=HO2.out.set _ _ _ hg5
      go_wp2_with (first | (go_at_call 37;refine (zEn l _ _ HO2.out.toks (by omega)).mono ?_;rintro e w' ⟨rfl,rfl⟩) | (at_builtin;refine wpList_append_own _ rfl _ _ 39 rfl w.heap.size 70 i0 _ 7 64 Tryz.underlying39 hi hz0 hz1 hz2 rfl (by decide) _ _ _ rfl (World.ownsRow.alloc HO3.out _) ⟨w2.heap.size,0,none⟩ 1 1 (yF { T.1 with n:=Mt.captures l+1 }) rfl rfl (zE7 _ _ (by simp [World.setCell]) _ _) (zJn _) ?g3 ?g4 ?g5 ?_))
      case g3=>unfold maxLen;omega
      case g4=>omega
      case g5=>simp;omega
      intro v' w3 hown' hgrow _
      have R1:Hid (vB w3 w.heap.size v' (l++[Mt.joined l T.1])):=by rw [HJ.out];exact zGW hown'
      have R2:Below w.heap.size w w3:=((hbw2.setCell (p:=⟨w1.heap.size,3,none⟩) hsz1 _).alloc (by simp;omega) _).grown hgrow (by simp;omega) (fun q hq'=>(World.ownsRow.lt HO2.out q hq').1)
      have q5:(w2.setCell ⟨w1.heap.size,3,none⟩ (.int .i64 (Mt.captures l+1))).cell? ⟨w1.heap.size,2,none⟩=w2.cell? ⟨w1.heap.size,2,none⟩:=World.cell?_setCell_other _ _ _ _ (by simp)
      have q6:w3.cell? ⟨w1.heap.size,2,none⟩=some (.int .i64 T.1.to):=(zAH hgrow (by simp;omega) hg5 2).trans (q5.trans (q0 2))
      clear hown' hgrow HO2 hg5 HO3 q5
      go_wp2
      go_roundw
      case rel=>exact ⟨T.1.to.toNat,l++[Mt.joined l T.1],by omega,by rw [List.length_append];simp;omega,by rw [Int.toNat_of_nonneg (by omega)],R1.out,R2,by rw [Int.toNat_of_nonneg (by omega)];exact HS2.out⟩
      case measure=>simp [intOf];omega
    ·have hm0:Mt.may l T.1≠0:=by simpa using hm
     have HS2:Hid (Mt.qD p [] 0=([],Mt.may l T.1,(k:Int))):=by show _=_;rw [HS.out,if_pos hm0]
     have HM:Hid (Mt.may l T.1≠0):=hm0
     clear HS hm0
     go_wp2_with fail
     go_ret3
     refine ⟨.slice none 0 0,?_,?_,?_⟩
     ·rw [zCJ hp HS2.out HM.out];rfl
     ·rw [zCJ hp HS2.out HM.out];exact World.ownsRow_nil _ _ _ _
     ·exact hbw2
  ·have hst:=Mt.vH p l k (by omega) (by omega)
   rw [if_pos (by omega),← H.out] at hst
   have HS:Hid (Mt.qD p [] 0=(l,0,(k:Int))):=hst
   clear hst H
   have ⟨b1,b2⟩:=Mt.zDr l
   by_cases hop:0<Mt.opened l
   ·go_wp2_with (first | (go_at_call 38;refine (zDW l _ _ HO.out.toks (by omega)).mono ?_;rintro e w' ⟨rfl,rfl⟩) | fail)
    go_ret3
    refine ⟨.slice none 0 0,?_,?_,?_⟩
    ·rw [zBV hp HS.out hop];rfl
    ·rw [zBV hp HS.out hop];exact World.ownsRow_nil _ _ _ _
    ·exact hbel
   ·go_wp2_with (first | (go_at_call 38;refine (zDW l _ _ HO.out.toks (by omega)).mono ?_;rintro e w' ⟨rfl,rfl⟩) | fail)
    go_ret3
    refine ⟨u5,?_,?_,?_⟩
    ·rw [zH3 hp HS.out (by omega)];rfl
    ·rw [zH3 hp HS.out (by omega)];exact HO.out
    ·exact hbel
end Go.Proofs.YtebpgfodelggoabGreat
