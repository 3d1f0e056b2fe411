import Derived.Test.YtebpgfodelggoabGreatC04
set_option linter.unusedVariables false
set_option linter.unusedSimpArgs false
set_option maxRecDepth 100000
set_option maxHeartbeats 4000000
namespace Go.Proofs.YtebpgfodelggoabGreat
open Go.RowKit
theorem zEP (x:List Mt.Ins) (ki:Int) (late:Bool) (v:Value) (w:World) (h:zB w 0 v x) (hf:Mt.fit 70000000 x) (hl:(x.length:Int)≤10000000) (h0:0≤ki) (h1:ki≤20) :
  Calls Tryz.prog 133 #[v,.int .i64 ki,.bool late] w fun e w'=>∃ v',e=.returned v'∧zB w' 0 v' (Mt.upTo x ki.toNat late)∧Below w.heap.size w w':=by
 obtain ⟨k,rfl⟩:=Int.eq_ofNat_of_zero_le h0
 rw [Int.toNat_natCast]
 exact zOy x k late v w h hf hl (by omega)
theorem zAi (x:List Mt.Ins) (n j:Nat) (c:List Mt.Ins) (h:j<n):Mt.zC x (n-j) c=Mt.zC x (n-(j+1)) (Mt.behind c x):=by
 rw [show n-j=(n-(j+1))+1 by omega];rfl
def zF3 (t:Mt.Tok) (x y:List Mt.Ins) (d:Int):List Mt.Ins :=
 let c1:=if 0<t.n∨0<t.m then
   (if t.n<t.m then Mt.behind (Mt.zC x t.n.toNat []) (Mt.upTo x (t.m-t.n).toNat (decide (t.how=1))) else Mt.zC x t.n.toNat [])
  else []
 let c2:=if t.m<0 then Mt.behind c1 (Mt.vI y d (decide (t.how=1))) else c1
 if t.how=2 then Mt.alone 0 c2 else c2
theorem zJk (l:List Mt.Tok) (f a b:Nat) (d:Int):Mt.gen l (f+1) 3 a b d=zF3 (l.getD b Mt.jA) (Mt.gen l f 2 a b d) (Mt.gen l f 2 a b (d+1)) d:=by
 simp only [Mt.gen];rfl
theorem zHK (l:List Mt.Tok) (hl:l.length≤64) (a b:Nat) (d:Int) (t:Mt.Tok) (x y:List Mt.Ins) (g cap:Nat) (w:World) (hb:b<l.length) (hab:a<b) (hcap:l.length≤cap) (hg:g<w.heap.size) (hd0:0≤d) (hd1:d≤999)
  (HT:Hid (toks w (.slice (some ⟨g,0,none⟩) l.length cap) l))
  (KX:Hid (∀ z:World,toks z (.slice (some ⟨g,0,none⟩) l.length cap) l→Calls Tryz.prog 107 #[.slice (some ⟨g,0,none⟩) l.length cap,.int .i64 a,.int .i64 b,.int .i64 d] z fun e w'=>∃ v',e=.returned v'∧zB w' 0 v' x∧Below z.heap.size z w'))
  (KY:Hid (∀ z:World,toks z (.slice (some ⟨g,0,none⟩) l.length cap) l→Calls Tryz.prog 107 #[.slice (some ⟨g,0,none⟩) l.length cap,.int .i64 a,.int .i64 b,.int .i64 (d+1)] z fun e w'=>∃ v',e=.returned v'∧zB w' 0 v' y∧Below z.heap.size z w'))
  (FX:Hid (Mt.fit 70000000 x)) (FY:Hid (Mt.fit 70000000 y)) (LX:(x.length:Int)≤10000000) (LY:(y.length:Int)≤10000000)
  (c0:w.cell? ⟨g,b*7,none⟩=some (.int .i64 t.kind)) (c1:w.cell? ⟨g,b*7+1,none⟩=some (.int .i64 t.frm)) (c2:w.cell? ⟨g,b*7+2,none⟩=some (.int .i64 t.to)) (c3:w.cell? ⟨g,b*7+3,none⟩=some (.int .i64 t.n)) (c4:w.cell? ⟨g,b*7+4,none⟩=some (.int .i64 t.m)) (c5:w.cell? ⟨g,b*7+5,none⟩=some (.int .i64 t.how)) (c6:w.cell? ⟨g,b*7+6,none⟩=some (.string ⟨t.set.toArray⟩))
  (t1:0≤t.n) (t2:t.n≤20) (t3:-1≤t.m) (t4:t.m≤20) (t5:0≤t.how) (t6:t.how≤4) (hm:t.m<0) (hn:0<t.n) (hnb:decide (0<t.n)=true) (hp:(t.how==2)=false) :
  Calls Tryz.prog 106 #[.slice (some ⟨g,0,none⟩) l.length cap,.int .i64 a,.int .i64 b,.int .i64 d] w fun e w'=>∃ v',e=.returned v'∧zB w' 0 v' (Mt.behind (Mt.zC x t.n.toNat []) (Mt.vI y d (t.how==1)))∧Below w.heap.size w w':=by
 have FX9:Hid (Mt.fit 900000000 x):=Mt.zI FX.out (by omega)
 go_enter Tryz.func106,Tryz.ntmps106
 go_wp2_with fail
 have fl0:Mt.zCh (10000000+900) (70000010+900) (Mt.vI y d (t.how==1)):=Mt.zCr (L:=10000000) (N:=70000010) d (t.how==1) ⟨LY,fun i hi=>Mt.vO (FY.out.2 i hi) (by omega)⟩ (by omega) (by omega) (by omega)
 have FL:Hid (Mt.fit 900000000 (Mt.vI y d (t.how==1))):=Mt.yG fl0 (by omega) (by omega)
 have FLH:Hid (Mt.fit 400000000 (Mt.vI y d (t.how==1))):=Mt.yG fl0 (by omega) (by omega)
 clear fl0
 refine (KX.out _ (HT.out.alloc _)).mono ?_
 rintro e w1 ⟨vx,rfl,qx,hbx⟩
 obtain ⟨r0,r1,r2,r3⟩:=xR hbx
 have hs1:=r3.size
 have Qx:Hid (zB w1 0 vx x):=qx
 have HT1:Hid (toks w1 (.slice (some ⟨g,0,none⟩) l.length cap) l):=jU HT.out r3
 clear qx hbx HT c0 c1 c2 c3 c4 c5 c6
 go_wp2_with fail
 go_loopw [10,12] (fun u i wr=>∃ (j:Nat) (c:List Mt.Ins),(j:Int)≤t.n∧i=.int .i64 j∧zB wr 0 u c∧Mt.fit 70000300 c∧Below w1.heap.size w1 wr∧Mt.zC x t.n.toNat []=Mt.zC x (t.n.toNat-j) c) (fun _ i _=>t.n.toNat-(intOf i).toNat)
 case atStart=>exact ⟨0,[],by omega,rfl,zB.nil _ _,Mt.zAe (by omega),Below.refl _ _,rfl⟩
 case round =>
  obtain ⟨j,c,hj,rfl,hown,hfc,hbel,hr⟩:=hrel
  have HR:Hid (Mt.zC x t.n.toNat []=Mt.zC x (t.n.toNat-j) c):=hr
  have HO:Hid (zB wr 0 u10 c):=hown
  have FC:Hid (Mt.fit 70000300 c):=hfc
  have QXr:Hid (zB wr 0 vx x):=Qx.out.below hbel
  have HTr:Hid (toks wr (.slice (some ⟨g,0,none⟩) l.length cap) l):=jU HT1.out hbel
  have rr0:=fun o=>(hbel.cell (p:=⟨w.heap.size,o,none⟩) r2).trans (r0 o)
  have hB:Below w.heap.size w wr:=r3.trans (hbel.mono hs1)
  have hsr:=hB.size
  have hgt:w.heap.size<wr.heap.size:=Nat.lt_of_lt_of_le r2 hbel.size
  clear hr hown hfc
  by_cases hlt:(j:Int)<t.n
  ·have HN:Hid (Mt.zC x t.n.toNat []=Mt.zC x (t.n.toNat-(j+1)) (Mt.behind c x)):=HR.out.trans (zAi x t.n.toNat j c (by omega))
   have G1:Hid (Mt.fit 70000300 (Mt.behind c x)):=jK (M:=70000000) FC.out (Mt.zI FX.out (by omega))
   have hs2:=hbel.size
   go_wp2_with fail
   refine (kD c x _ _ _ HO.out QXr.out (Mt.zI FC.out (by omega)) FX9.out).mono ?_
   rintro e w2 ⟨v2,rfl,q2,hb2⟩
   have hB2:Below w1.heap.size w1 w2:=hbel.trans (hb2.mono hs2)
   have Q2:Hid (zB w2 0 v2 (Mt.behind c x)):=q2
   clear q2 hb2 HO QXr HTr hB rr0
   go_wp2_with fail
   go_roundw
   case rel=>exact ⟨j+1,_,by omega,by go_num,Q2.out,G1.out,hB2,HN.out⟩
   case measure=>simp [intOf];omega
  ·have hjn:t.n.toNat-j=0:=by omega
   have HC:Hid (zB wr 0 u10 (Mt.zC x t.n.toNat [])):=by
    show zB _ _ _ _
    rw [HR.out,hjn];exact HO.out
   have FT:Hid (Mt.fit 70000300 (Mt.zC x t.n.toNat [])):=by
    show Mt.fit _ _
    rw [HR.out,hjn];exact FC.out
   clear HR HO FC hjn hbel
   generalize hTT:Mt.zC x t.n.toNat []=T at *
   have HTT:Hid (Mt.zC x t.n.toNat []=T):=hTT
   clear hTT
   go_wp2_with fail
   refine (KY.out _ HTr.out).mono ?_
   rintro e w2 ⟨v2,rfl,q2,hb2⟩
   have hB2:Below w.heap.size w w2:=hB.trans (hb2.mono hsr)
   have hs2:=hB2.size
   have hgt2:w.heap.size<w2.heap.size:=Nat.lt_of_lt_of_le hgt hb2.size
   have s0:=fun o=>(hb2.cell (p:=⟨w.heap.size,o,none⟩) hgt).trans (rr0 o)
   have Q2:Hid (zB w2 0 v2 y):=q2
   have HC2:Hid (zB w2 0 u10 T):=HC.out.below hb2
   clear q2 hb2 hB rr0
   go_wp2_with fail
   refine (zEN y d _ _ _ Q2.out (Mt.zI FY.out (by omega)) hd0 (by omega)).mono ?_
   rintro e w3 ⟨v3,rfl,q3,hb3⟩
   have hB3:Below w.heap.size w w3:=hB2.trans (hb3.mono hs2)
   have hs3:=hB3.size
   have zQm:w.heap.size<w3.heap.size:=Nat.lt_of_lt_of_le hgt2 hb3.size
   have s1:=fun o=>(hb3.cell (p:=⟨w.heap.size,o,none⟩) hgt2).trans (s0 o)
   have Q3:Hid (zB w3 0 v3 (Mt.vI y d (t.how==1))):=q3
   have HC3:Hid (zB w3 0 u10 T):=HC2.out.below hb3
   clear q3 hb3 hB2 s0 HC2 Q2
   go_wp2_with fail
   refine (kD T _ _ _ _ HC3.out Q3.out (Mt.zI FT.out (by omega)) FL.out).mono ?_
   rintro e w4 ⟨v4,rfl,q4,hb4⟩
   have hB4:Below w.heap.size w w4:=hB3.trans (hb4.mono hs3)
   have hs4:=hB4.size
   have s2:=fun o=>(hb4.cell (p:=⟨w.heap.size,o,none⟩) zQm).trans (s1 o)
   have Q4:Hid (zB w4 0 v4 (Mt.behind T (Mt.vI y d (t.how==1)))):=q4
   clear q4 hb4 hB3 s1 HC3 Q3
   go_wp2_with fail
   go_ret
   exact ⟨_,rfl,by rw [HTT.out];exact Q4.out,hB4⟩
theorem zTO (l:List Mt.Tok) (hl:l.length≤64) (a b:Nat) (d:Int) (t:Mt.Tok) (x y:List Mt.Ins) (g cap:Nat) (w:World) (hb:b<l.length) (hab:a<b) (hcap:l.length≤cap) (hg:g<w.heap.size) (hd0:0≤d) (hd1:d≤999)
  (HT:Hid (toks w (.slice (some ⟨g,0,none⟩) l.length cap) l))
  (KX:Hid (∀ z:World,toks z (.slice (some ⟨g,0,none⟩) l.length cap) l→Calls Tryz.prog 107 #[.slice (some ⟨g,0,none⟩) l.length cap,.int .i64 a,.int .i64 b,.int .i64 d] z fun e w'=>∃ v',e=.returned v'∧zB w' 0 v' x∧Below z.heap.size z w'))
  (KY:Hid (∀ z:World,toks z (.slice (some ⟨g,0,none⟩) l.length cap) l→Calls Tryz.prog 107 #[.slice (some ⟨g,0,none⟩) l.length cap,.int .i64 a,.int .i64 b,.int .i64 (d+1)] z fun e w'=>∃ v',e=.returned v'∧zB w' 0 v' y∧Below z.heap.size z w'))
  (FX:Hid (Mt.fit 70000000 x)) (FY:Hid (Mt.fit 70000000 y)) (LX:(x.length:Int)≤10000000) (LY:(y.length:Int)≤10000000)
  (c0:w.cell? ⟨g,b*7,none⟩=some (.int .i64 t.kind)) (c1:w.cell? ⟨g,b*7+1,none⟩=some (.int .i64 t.frm)) (c2:w.cell? ⟨g,b*7+2,none⟩=some (.int .i64 t.to)) (c3:w.cell? ⟨g,b*7+3,none⟩=some (.int .i64 t.n)) (c4:w.cell? ⟨g,b*7+4,none⟩=some (.int .i64 t.m)) (c5:w.cell? ⟨g,b*7+5,none⟩=some (.int .i64 t.how)) (c6:w.cell? ⟨g,b*7+6,none⟩=some (.string ⟨t.set.toArray⟩))
  (t1:0≤t.n) (t2:t.n≤20) (t3:-1≤t.m) (t4:t.m≤20) (t5:0≤t.how) (t6:t.how≤4) (hm:t.m<0) (hn:t.n≤0) (hnb:decide (0<t.n)=false) (hmb:decide (0<t.m)=false) (hp:(t.how==2)=false) :
  Calls Tryz.prog 106 #[.slice (some ⟨g,0,none⟩) l.length cap,.int .i64 a,.int .i64 b,.int .i64 d] w fun e w'=>∃ v',e=.returned v'∧zB w' 0 v' (Mt.behind [] (Mt.vI y d (t.how==1)))∧Below w.heap.size w w':=by
 have FX9:Hid (Mt.fit 900000000 x):=Mt.zI FX.out (by omega)
 go_enter Tryz.func106,Tryz.ntmps106
 go_wp2_with fail
 have fl0:Mt.zCh (10000000+900) (70000010+900) (Mt.vI y d (t.how==1)):=Mt.zCr (L:=10000000) (N:=70000010) d (t.how==1) ⟨LY,fun i hi=>Mt.vO (FY.out.2 i hi) (by omega)⟩ (by omega) (by omega) (by omega)
 have FL:Hid (Mt.fit 900000000 (Mt.vI y d (t.how==1))):=Mt.yG fl0 (by omega) (by omega)
 have FLH:Hid (Mt.fit 400000000 (Mt.vI y d (t.how==1))):=Mt.yG fl0 (by omega) (by omega)
 clear fl0
 refine (KY.out _ (HT.out.alloc _)).mono ?_
 rintro e w2 ⟨v2,rfl,q2,hb2⟩
 obtain ⟨s0,r1,hgt2,hB2⟩:=xR hb2
 have hs2:=hB2.size
 have Q2:Hid (zB w2 0 v2 y):=q2
 clear q2 hb2 HT c0 c1 c2 c3 c4 c5 c6
 go_wp2_with fail
 refine (zEN y d _ _ _ Q2.out (Mt.zI FY.out (by omega)) hd0 (by omega)).mono ?_
 rintro e w3 ⟨v3,rfl,q3,hb3⟩
 have hB3:Below w.heap.size w w3:=hB2.trans (hb3.mono hs2)
 have hs3:=hB3.size
 have zQm:w.heap.size<w3.heap.size:=Nat.lt_of_lt_of_le hgt2 hb3.size
 have s1:=fun o=>(hb3.cell (p:=⟨w.heap.size,o,none⟩) hgt2).trans (s0 o)
 have Q3:Hid (zB w3 0 v3 (Mt.vI y d (t.how==1))):=q3
 clear q3 hb3 hB2 s0 Q2
 go_wp2_with fail
 refine (kD [] _ _ _ _ (zB.nil _ _) Q3.out (Mt.zAe (by omega)) FL.out).mono ?_
 rintro e w4 ⟨v4,rfl,q4,hb4⟩
 have hB4:Below w.heap.size w w4:=hB3.trans (hb4.mono hs3)
 have hs4:=hB4.size
 have s2:=fun o=>(hb4.cell (p:=⟨w.heap.size,o,none⟩) zQm).trans (s1 o)
 have Q4:Hid (zB w4 0 v4 (Mt.behind [] (Mt.vI y d (t.how==1)))):=q4
 clear q4 hb4 hB3 s1 Q3
 go_wp2_with fail
 go_ret
 exact ⟨_,rfl,Q4.out,hB4⟩
theorem zSJ (l:List Mt.Tok) (hl:l.length≤64) (a b:Nat) (d:Int) (t:Mt.Tok) (x y:List Mt.Ins) (g cap:Nat) (w:World) (hb:b<l.length) (hab:a<b) (hcap:l.length≤cap) (hg:g<w.heap.size) (hd0:0≤d) (hd1:d≤999)
  (HT:Hid (toks w (.slice (some ⟨g,0,none⟩) l.length cap) l))
  (KX:Hid (∀ z:World,toks z (.slice (some ⟨g,0,none⟩) l.length cap) l→Calls Tryz.prog 107 #[.slice (some ⟨g,0,none⟩) l.length cap,.int .i64 a,.int .i64 b,.int .i64 d] z fun e w'=>∃ v',e=.returned v'∧zB w' 0 v' x∧Below z.heap.size z w'))
  (KY:Hid (∀ z:World,toks z (.slice (some ⟨g,0,none⟩) l.length cap) l→Calls Tryz.prog 107 #[.slice (some ⟨g,0,none⟩) l.length cap,.int .i64 a,.int .i64 b,.int .i64 (d+1)] z fun e w'=>∃ v',e=.returned v'∧zB w' 0 v' y∧Below z.heap.size z w'))
  (FX:Hid (Mt.fit 70000000 x)) (FY:Hid (Mt.fit 70000000 y)) (LX:(x.length:Int)≤10000000) (LY:(y.length:Int)≤10000000)
  (c0:w.cell? ⟨g,b*7,none⟩=some (.int .i64 t.kind)) (c1:w.cell? ⟨g,b*7+1,none⟩=some (.int .i64 t.frm)) (c2:w.cell? ⟨g,b*7+2,none⟩=some (.int .i64 t.to)) (c3:w.cell? ⟨g,b*7+3,none⟩=some (.int .i64 t.n)) (c4:w.cell? ⟨g,b*7+4,none⟩=some (.int .i64 t.m)) (c5:w.cell? ⟨g,b*7+5,none⟩=some (.int .i64 t.how)) (c6:w.cell? ⟨g,b*7+6,none⟩=some (.string ⟨t.set.toArray⟩))
  (t1:0≤t.n) (t2:t.n≤20) (t3:-1≤t.m) (t4:t.m≤20) (t5:0≤t.how) (t6:t.how≤4) (hm:¬ t.m<0) (hn:t.n≤0) (hnb:decide (0<t.n)=false) (hmb:decide (0<t.m)=false) (hp:(t.how==2)=false) :
  Calls Tryz.prog 106 #[.slice (some ⟨g,0,none⟩) l.length cap,.int .i64 a,.int .i64 b,.int .i64 d] w fun e w'=>∃ v',e=.returned v'∧zB w' 0 v' ([])∧Below w.heap.size w w':=by
 have FX9:Hid (Mt.fit 900000000 x):=Mt.zI FX.out (by omega)
 go_enter Tryz.func106,Tryz.ntmps106
 go_wp2_with fail
 go_ret
 exact ⟨_,rfl,zB.nil _ _,by go_grown⟩
theorem zTP (l:List Mt.Tok) (hl:l.length≤64) (a b:Nat) (d:Int) (t:Mt.Tok) (x y:List Mt.Ins) (g cap:Nat) (w:World) (hb:b<l.length) (hab:a<b) (hcap:l.length≤cap) (hg:g<w.heap.size) (hd0:0≤d) (hd1:d≤999)
  (HT:Hid (toks w (.slice (some ⟨g,0,none⟩) l.length cap) l))
  (KX:Hid (∀ z:World,toks z (.slice (some ⟨g,0,none⟩) l.length cap) l→Calls Tryz.prog 107 #[.slice (some ⟨g,0,none⟩) l.length cap,.int .i64 a,.int .i64 b,.int .i64 d] z fun e w'=>∃ v',e=.returned v'∧zB w' 0 v' x∧Below z.heap.size z w'))
  (KY:Hid (∀ z:World,toks z (.slice (some ⟨g,0,none⟩) l.length cap) l→Calls Tryz.prog 107 #[.slice (some ⟨g,0,none⟩) l.length cap,.int .i64 a,.int .i64 b,.int .i64 (d+1)] z fun e w'=>∃ v',e=.returned v'∧zB w' 0 v' y∧Below z.heap.size z w'))
  (FX:Hid (Mt.fit 70000000 x)) (FY:Hid (Mt.fit 70000000 y)) (LX:(x.length:Int)≤10000000) (LY:(y.length:Int)≤10000000)
  (c0:w.cell? ⟨g,b*7,none⟩=some (.int .i64 t.kind)) (c1:w.cell? ⟨g,b*7+1,none⟩=some (.int .i64 t.frm)) (c2:w.cell? ⟨g,b*7+2,none⟩=some (.int .i64 t.to)) (c3:w.cell? ⟨g,b*7+3,none⟩=some (.int .i64 t.n)) (c4:w.cell? ⟨g,b*7+4,none⟩=some (.int .i64 t.m)) (c5:w.cell? ⟨g,b*7+5,none⟩=some (.int .i64 t.how)) (c6:w.cell? ⟨g,b*7+6,none⟩=some (.string ⟨t.set.toArray⟩))
  (t1:0≤t.n) (t2:t.n≤20) (t3:-1≤t.m) (t4:t.m≤20) (t5:0≤t.how) (t6:t.how≤4) (hm:¬ t.m<0) (hmn:t.n<t.m) (hnb:decide (0<t.n)=true) (hp:(t.how==2)=false) :
  Calls Tryz.prog 106 #[.slice (some ⟨g,0,none⟩) l.length cap,.int .i64 a,.int .i64 b,.int .i64 d] w fun e w'=>∃ v',e=.returned v'∧zB w' 0 v' (Mt.behind (Mt.zC x t.n.toNat []) (Mt.upTo x (t.m-t.n).toNat (t.how==1)))∧Below w.heap.size w w':=by
 have FX9:Hid (Mt.fit 900000000 x):=Mt.zI FX.out (by omega)
 go_enter Tryz.func106,Tryz.ntmps106
 go_wp2_with fail
 have fu0:Mt.zCh (10000600) (300000600+300) (Mt.upTo x (t.m-t.n).toNat (t.how==1)):=Mt.jC (Mt.zBC (L:=10000000) (N:=300000000) (t.how==1) ⟨LX,fun i hi=>Mt.vO (FX.out.2 i hi) (by omega)⟩ (by omega) (by omega) (t.m-t.n).toNat [] (by omega) (Mt.zBa (by omega))) (by omega) (by omega)
 have FU:Hid (Mt.fit 900000000 (Mt.upTo x (t.m-t.n).toNat (t.how==1))):=Mt.yG fu0 (by omega) (by omega)
 have FU4:Mt.fit 400000000 (Mt.upTo x (t.m-t.n).toNat (t.how==1)):=Mt.yG fu0 (by omega) (by omega)
 have FUH:Hid (Mt.fit 400000000 (Mt.upTo x (t.m-t.n).toNat (t.how==1))):=FU4
 clear fu0 FU4
 refine (KX.out _ (HT.out.alloc _)).mono ?_
 rintro e w1 ⟨vx,rfl,qx,hbx⟩
 obtain ⟨r0,r1,r2,r3⟩:=xR hbx
 have hs1:=r3.size
 have Qx:Hid (zB w1 0 vx x):=qx
 have HT1:Hid (toks w1 (.slice (some ⟨g,0,none⟩) l.length cap) l):=jU HT.out r3
 clear qx hbx HT c0 c1 c2 c3 c4 c5 c6
 go_wp2_with fail
 go_loopw [10,12] (fun u i wr=>∃ (j:Nat) (c:List Mt.Ins),(j:Int)≤t.n∧i=.int .i64 j∧zB wr 0 u c∧Mt.fit 70000300 c∧Below w1.heap.size w1 wr∧Mt.zC x t.n.toNat []=Mt.zC x (t.n.toNat-j) c) (fun _ i _=>t.n.toNat-(intOf i).toNat)
 case atStart=>exact ⟨0,[],by omega,rfl,zB.nil _ _,Mt.zAe (by omega),Below.refl _ _,rfl⟩
 case round =>
  obtain ⟨j,c,hj,rfl,hown,hfc,hbel,hr⟩:=hrel
  have HR:Hid (Mt.zC x t.n.toNat []=Mt.zC x (t.n.toNat-j) c):=hr
  have HO:Hid (zB wr 0 u10 c):=hown
  have FC:Hid (Mt.fit 70000300 c):=hfc
  have QXr:Hid (zB wr 0 vx x):=Qx.out.below hbel
  have HTr:Hid (toks wr (.slice (some ⟨g,0,none⟩) l.length cap) l):=jU HT1.out hbel
  have rr0:=fun o=>(hbel.cell (p:=⟨w.heap.size,o,none⟩) r2).trans (r0 o)
  have hB:Below w.heap.size w wr:=r3.trans (hbel.mono hs1)
  have hsr:=hB.size
  have hgt:w.heap.size<wr.heap.size:=Nat.lt_of_lt_of_le r2 hbel.size
  clear hr hown hfc
  by_cases hlt:(j:Int)<t.n
  ·have HN:Hid (Mt.zC x t.n.toNat []=Mt.zC x (t.n.toNat-(j+1)) (Mt.behind c x)):=HR.out.trans (zAi x t.n.toNat j c (by omega))
   have G1:Hid (Mt.fit 70000300 (Mt.behind c x)):=jK (M:=70000000) FC.out (Mt.zI FX.out (by omega))
   have hs2:=hbel.size
   go_wp2_with fail
   refine (kD c x _ _ _ HO.out QXr.out (Mt.zI FC.out (by omega)) FX9.out).mono ?_
   rintro e w2 ⟨v2,rfl,q2,hb2⟩
   have hB2:Below w1.heap.size w1 w2:=hbel.trans (hb2.mono hs2)
   have Q2:Hid (zB w2 0 v2 (Mt.behind c x)):=q2
   clear q2 hb2 HO QXr HTr hB rr0
   go_wp2_with fail
   go_roundw
   case rel=>exact ⟨j+1,_,by omega,by go_num,Q2.out,G1.out,hB2,HN.out⟩
   case measure=>simp [intOf];omega
  ·have hjn:t.n.toNat-j=0:=by omega
   have HC:Hid (zB wr 0 u10 (Mt.zC x t.n.toNat [])):=by
    show zB _ _ _ _
    rw [HR.out,hjn];exact HO.out
   have FT:Hid (Mt.fit 70000300 (Mt.zC x t.n.toNat [])):=by
    show Mt.fit _ _
    rw [HR.out,hjn];exact FC.out
   clear HR HO FC hjn hbel
   generalize hTT:Mt.zC x t.n.toNat []=T at *
   have HTT:Hid (Mt.zC x t.n.toNat []=T):=hTT
   clear hTT
   go_wp2_with fail
   refine (zEP x _ _ _ _ QXr.out FX.out LX (by omega) (by omega)).mono ?_
   rintro e w2 ⟨v2,rfl,q2,hb2⟩
   have hB2:Below w.heap.size w w2:=hB.trans (hb2.mono hsr)
   have hs2:=hB2.size
   have hgt2:w.heap.size<w2.heap.size:=Nat.lt_of_lt_of_le hgt hb2.size
   have s0:=fun o=>(hb2.cell (p:=⟨w.heap.size,o,none⟩) hgt).trans (rr0 o)
   have Q2:Hid (zB w2 0 v2 (Mt.upTo x (t.m-t.n).toNat (t.how==1))):=q2
   have HC2:Hid (zB w2 0 u10 T):=HC.out.below hb2
   clear q2 hb2 hB rr0 QXr HTr HC
   go_wp2_with fail
   refine (kD T _ _ _ _ HC2.out Q2.out (Mt.zI FT.out (by omega)) FU.out).mono ?_
   rintro e w3 ⟨v3,rfl,q3,hb3⟩
   have hB3:Below w.heap.size w w3:=hB2.trans (hb3.mono hs2)
   have hs3:=hB3.size
   have s1:=fun o=>(hb3.cell (p:=⟨w.heap.size,o,none⟩) hgt2).trans (s0 o)
   have Q3:Hid (zB w3 0 v3 (Mt.behind T (Mt.upTo x (t.m-t.n).toNat (t.how==1)))):=q3
   clear q3 hb3 hB2 s0 HC2 Q2
   go_wp2_with fail
   go_ret
   exact ⟨_,rfl,by rw [HTT.out];exact Q3.out,hB3⟩
theorem zTQ (l:List Mt.Tok) (hl:l.length≤64) (a b:Nat) (d:Int) (t:Mt.Tok) (x y:List Mt.Ins) (g cap:Nat) (w:World) (hb:b<l.length) (hab:a<b) (hcap:l.length≤cap) (hg:g<w.heap.size) (hd0:0≤d) (hd1:d≤999)
  (HT:Hid (toks w (.slice (some ⟨g,0,none⟩) l.length cap) l))
  (KX:Hid (∀ z:World,toks z (.slice (some ⟨g,0,none⟩) l.length cap) l→Calls Tryz.prog 107 #[.slice (some ⟨g,0,none⟩) l.length cap,.int .i64 a,.int .i64 b,.int .i64 d] z fun e w'=>∃ v',e=.returned v'∧zB w' 0 v' x∧Below z.heap.size z w'))
  (KY:Hid (∀ z:World,toks z (.slice (some ⟨g,0,none⟩) l.length cap) l→Calls Tryz.prog 107 #[.slice (some ⟨g,0,none⟩) l.length cap,.int .i64 a,.int .i64 b,.int .i64 (d+1)] z fun e w'=>∃ v',e=.returned v'∧zB w' 0 v' y∧Below z.heap.size z w'))
  (FX:Hid (Mt.fit 70000000 x)) (FY:Hid (Mt.fit 70000000 y)) (LX:(x.length:Int)≤10000000) (LY:(y.length:Int)≤10000000)
  (c0:w.cell? ⟨g,b*7,none⟩=some (.int .i64 t.kind)) (c1:w.cell? ⟨g,b*7+1,none⟩=some (.int .i64 t.frm)) (c2:w.cell? ⟨g,b*7+2,none⟩=some (.int .i64 t.to)) (c3:w.cell? ⟨g,b*7+3,none⟩=some (.int .i64 t.n)) (c4:w.cell? ⟨g,b*7+4,none⟩=some (.int .i64 t.m)) (c5:w.cell? ⟨g,b*7+5,none⟩=some (.int .i64 t.how)) (c6:w.cell? ⟨g,b*7+6,none⟩=some (.string ⟨t.set.toArray⟩))
  (t1:0≤t.n) (t2:t.n≤20) (t3:-1≤t.m) (t4:t.m≤20) (t5:0≤t.how) (t6:t.how≤4) (hm:¬ t.m<0) (hmn:t.n<t.m) (hnb:decide (0<t.n)=false) (hmb:decide (0<t.m)=true) (hp:(t.how==2)=false) :
  Calls Tryz.prog 106 #[.slice (some ⟨g,0,none⟩) l.length cap,.int .i64 a,.int .i64 b,.int .i64 d] w fun e w'=>∃ v',e=.returned v'∧zB w' 0 v' (Mt.behind (Mt.zC x t.n.toNat []) (Mt.upTo x (t.m-t.n).toNat (t.how==1)))∧Below w.heap.size w w':=by
 have FX9:Hid (Mt.fit 900000000 x):=Mt.zI FX.out (by omega)
 go_enter Tryz.func106,Tryz.ntmps106
 go_wp2_with fail
 have fu0:Mt.zCh (10000600) (300000600+300) (Mt.upTo x (t.m-t.n).toNat (t.how==1)):=Mt.jC (Mt.zBC (L:=10000000) (N:=300000000) (t.how==1) ⟨LX,fun i hi=>Mt.vO (FX.out.2 i hi) (by omega)⟩ (by omega) (by omega) (t.m-t.n).toNat [] (by omega) (Mt.zBa (by omega))) (by omega) (by omega)
 have FU:Hid (Mt.fit 900000000 (Mt.upTo x (t.m-t.n).toNat (t.how==1))):=Mt.yG fu0 (by omega) (by omega)
 have FU4:Mt.fit 400000000 (Mt.upTo x (t.m-t.n).toNat (t.how==1)):=Mt.yG fu0 (by omega) (by omega)
 have FUH:Hid (Mt.fit 400000000 (Mt.upTo x (t.m-t.n).toNat (t.how==1))):=FU4
 clear fu0 FU4
 refine (KX.out _ (HT.out.alloc _)).mono ?_
 rintro e w1 ⟨vx,rfl,qx,hbx⟩
 obtain ⟨r0,r1,r2,r3⟩:=xR hbx
 have hs1:=r3.size
 have Qx:Hid (zB w1 0 vx x):=qx
 have HT1:Hid (toks w1 (.slice (some ⟨g,0,none⟩) l.length cap) l):=jU HT.out r3
 clear qx hbx HT c0 c1 c2 c3 c4 c5 c6
 go_wp2_with fail
 go_loopw [10,12] (fun u i wr=>∃ (j:Nat) (c:List Mt.Ins),(j:Int)≤t.n∧i=.int .i64 j∧zB wr 0 u c∧Mt.fit 70000300 c∧Below w1.heap.size w1 wr∧Mt.zC x t.n.toNat []=Mt.zC x (t.n.toNat-j) c) (fun _ i _=>t.n.toNat-(intOf i).toNat)
 case atStart=>exact ⟨0,[],by omega,rfl,zB.nil _ _,Mt.zAe (by omega),Below.refl _ _,rfl⟩
 case round =>
  obtain ⟨j,c,hj,rfl,hown,hfc,hbel,hr⟩:=hrel
  have HR:Hid (Mt.zC x t.n.toNat []=Mt.zC x (t.n.toNat-j) c):=hr
  have HO:Hid (zB wr 0 u10 c):=hown
  have FC:Hid (Mt.fit 70000300 c):=hfc
  have QXr:Hid (zB wr 0 vx x):=Qx.out.below hbel
  have HTr:Hid (toks wr (.slice (some ⟨g,0,none⟩) l.length cap) l):=jU HT1.out hbel
  have rr0:=fun o=>(hbel.cell (p:=⟨w.heap.size,o,none⟩) r2).trans (r0 o)
  have hB:Below w.heap.size w wr:=r3.trans (hbel.mono hs1)
  have hsr:=hB.size
  have hgt:w.heap.size<wr.heap.size:=Nat.lt_of_lt_of_le r2 hbel.size
  clear hr hown hfc
  by_cases hlt:(j:Int)<t.n
  ·have HN:Hid (Mt.zC x t.n.toNat []=Mt.zC x (t.n.toNat-(j+1)) (Mt.behind c x)):=HR.out.trans (zAi x t.n.toNat j c (by omega))
   have G1:Hid (Mt.fit 70000300 (Mt.behind c x)):=jK (M:=70000000) FC.out (Mt.zI FX.out (by omega))
   have hs2:=hbel.size
   go_wp2_with fail
   refine (kD c x _ _ _ HO.out QXr.out (Mt.zI FC.out (by omega)) FX9.out).mono ?_
   rintro e w2 ⟨v2,rfl,q2,hb2⟩
   have hB2:Below w1.heap.size w1 w2:=hbel.trans (hb2.mono hs2)
   have Q2:Hid (zB w2 0 v2 (Mt.behind c x)):=q2
   clear q2 hb2 HO QXr HTr hB rr0
   go_wp2_with fail
   go_roundw
   case rel=>exact ⟨j+1,_,by omega,by go_num,Q2.out,G1.out,hB2,HN.out⟩
   case measure=>simp [intOf];omega
  ·have hjn:t.n.toNat-j=0:=by omega
   have HC:Hid (zB wr 0 u10 (Mt.zC x t.n.toNat [])):=by
    show zB _ _ _ _
    rw [HR.out,hjn];exact HO.out
   have FT:Hid (Mt.fit 70000300 (Mt.zC x t.n.toNat [])):=by
    show Mt.fit _ _
    rw [HR.out,hjn];exact FC.out
   clear HR HO FC hjn hbel
   generalize hTT:Mt.zC x t.n.toNat []=T at *
   have HTT:Hid (Mt.zC x t.n.toNat []=T):=hTT
   clear hTT
   go_wp2_with fail
   refine (zEP x _ _ _ _ QXr.out FX.out LX (by omega) (by omega)).mono ?_
   rintro e w2 ⟨v2,rfl,q2,hb2⟩
   have hB2:Below w.heap.size w w2:=hB.trans (hb2.mono hsr)
   have hs2:=hB2.size
   have hgt2:w.heap.size<w2.heap.size:=Nat.lt_of_lt_of_le hgt hb2.size
   have s0:=fun o=>(hb2.cell (p:=⟨w.heap.size,o,none⟩) hgt).trans (rr0 o)
   have Q2:Hid (zB w2 0 v2 (Mt.upTo x (t.m-t.n).toNat (t.how==1))):=q2
   have HC2:Hid (zB w2 0 u10 T):=HC.out.below hb2
   clear q2 hb2 hB rr0 QXr HTr HC
   go_wp2_with fail
   refine (kD T _ _ _ _ HC2.out Q2.out (Mt.zI FT.out (by omega)) FU.out).mono ?_
   rintro e w3 ⟨v3,rfl,q3,hb3⟩
   have hB3:Below w.heap.size w w3:=hB2.trans (hb3.mono hs2)
   have hs3:=hB3.size
   have s1:=fun o=>(hb3.cell (p:=⟨w.heap.size,o,none⟩) hgt2).trans (s0 o)
   have Q3:Hid (zB w3 0 v3 (Mt.behind T (Mt.upTo x (t.m-t.n).toNat (t.how==1)))):=q3
   clear q3 hb3 hB2 s0 HC2 Q2
   go_wp2_with fail
   go_ret
   exact ⟨_,rfl,by rw [HTT.out];exact Q3.out,hB3⟩
theorem zTR (l:List Mt.Tok) (hl:l.length≤64) (a b:Nat) (d:Int) (t:Mt.Tok) (x y:List Mt.Ins) (g cap:Nat) (w:World) (hb:b<l.length) (hab:a<b) (hcap:l.length≤cap) (hg:g<w.heap.size) (hd0:0≤d) (hd1:d≤999)
  (HT:Hid (toks w (.slice (some ⟨g,0,none⟩) l.length cap) l))
  (KX:Hid (∀ z:World,toks z (.slice (some ⟨g,0,none⟩) l.length cap) l→Calls Tryz.prog 107 #[.slice (some ⟨g,0,none⟩) l.length cap,.int .i64 a,.int .i64 b,.int .i64 d] z fun e w'=>∃ v',e=.returned v'∧zB w' 0 v' x∧Below z.heap.size z w'))
  (KY:Hid (∀ z:World,toks z (.slice (some ⟨g,0,none⟩) l.length cap) l→Calls Tryz.prog 107 #[.slice (some ⟨g,0,none⟩) l.length cap,.int .i64 a,.int .i64 b,.int .i64 (d+1)] z fun e w'=>∃ v',e=.returned v'∧zB w' 0 v' y∧Below z.heap.size z w'))
  (FX:Hid (Mt.fit 70000000 x)) (FY:Hid (Mt.fit 70000000 y)) (LX:(x.length:Int)≤10000000) (LY:(y.length:Int)≤10000000)
  (c0:w.cell? ⟨g,b*7,none⟩=some (.int .i64 t.kind)) (c1:w.cell? ⟨g,b*7+1,none⟩=some (.int .i64 t.frm)) (c2:w.cell? ⟨g,b*7+2,none⟩=some (.int .i64 t.to)) (c3:w.cell? ⟨g,b*7+3,none⟩=some (.int .i64 t.n)) (c4:w.cell? ⟨g,b*7+4,none⟩=some (.int .i64 t.m)) (c5:w.cell? ⟨g,b*7+5,none⟩=some (.int .i64 t.how)) (c6:w.cell? ⟨g,b*7+6,none⟩=some (.string ⟨t.set.toArray⟩))
  (t1:0≤t.n) (t2:t.n≤20) (t3:-1≤t.m) (t4:t.m≤20) (t5:0≤t.how) (t6:t.how≤4) (hm:¬ t.m<0) (hmn:¬ t.n<t.m) (hn:0<t.n) (hnb:decide (0<t.n)=true) (hp:(t.how==2)=false) :
  Calls Tryz.prog 106 #[.slice (some ⟨g,0,none⟩) l.length cap,.int .i64 a,.int .i64 b,.int .i64 d] w fun e w'=>∃ v',e=.returned v'∧zB w' 0 v' (Mt.zC x t.n.toNat [])∧Below w.heap.size w w':=by
 have FX9:Hid (Mt.fit 900000000 x):=Mt.zI FX.out (by omega)
 go_enter Tryz.func106,Tryz.ntmps106
 go_wp2_with fail
 refine (KX.out _ (HT.out.alloc _)).mono ?_
 rintro e w1 ⟨vx,rfl,qx,hbx⟩
 obtain ⟨r0,r1,r2,r3⟩:=xR hbx
 have hs1:=r3.size
 have Qx:Hid (zB w1 0 vx x):=qx
 have HT1:Hid (toks w1 (.slice (some ⟨g,0,none⟩) l.length cap) l):=jU HT.out r3
 clear qx hbx HT c0 c1 c2 c3 c4 c5 c6
 go_wp2_with fail
 go_loopw [10,12] (fun u i wr=>∃ (j:Nat) (c:List Mt.Ins),(j:Int)≤t.n∧i=.int .i64 j∧zB wr 0 u c∧Mt.fit 70000300 c∧Below w1.heap.size w1 wr∧Mt.zC x t.n.toNat []=Mt.zC x (t.n.toNat-j) c) (fun _ i _=>t.n.toNat-(intOf i).toNat)
 case atStart=>exact ⟨0,[],by omega,rfl,zB.nil _ _,Mt.zAe (by omega),Below.refl _ _,rfl⟩
 case round =>
  obtain ⟨j,c,hj,rfl,hown,hfc,hbel,hr⟩:=hrel
  have HR:Hid (Mt.zC x t.n.toNat []=Mt.zC x (t.n.toNat-j) c):=hr
  have HO:Hid (zB wr 0 u10 c):=hown
  have FC:Hid (Mt.fit 70000300 c):=hfc
  have QXr:Hid (zB wr 0 vx x):=Qx.out.below hbel
  have HTr:Hid (toks wr (.slice (some ⟨g,0,none⟩) l.length cap) l):=jU HT1.out hbel
  have rr0:=fun o=>(hbel.cell (p:=⟨w.heap.size,o,none⟩) r2).trans (r0 o)
  have hB:Below w.heap.size w wr:=r3.trans (hbel.mono hs1)
  have hsr:=hB.size
  have hgt:w.heap.size<wr.heap.size:=Nat.lt_of_lt_of_le r2 hbel.size
  clear hr hown hfc
  by_cases hlt:(j:Int)<t.n
  ·have HN:Hid (Mt.zC x t.n.toNat []=Mt.zC x (t.n.toNat-(j+1)) (Mt.behind c x)):=HR.out.trans (zAi x t.n.toNat j c (by omega))
   have G1:Hid (Mt.fit 70000300 (Mt.behind c x)):=jK (M:=70000000) FC.out (Mt.zI FX.out (by omega))
   have hs2:=hbel.size
   go_wp2_with fail
   refine (kD c x _ _ _ HO.out QXr.out (Mt.zI FC.out (by omega)) FX9.out).mono ?_
   rintro e w2 ⟨v2,rfl,q2,hb2⟩
   have hB2:Below w1.heap.size w1 w2:=hbel.trans (hb2.mono hs2)
   have Q2:Hid (zB w2 0 v2 (Mt.behind c x)):=q2
   clear q2 hb2 HO QXr HTr hB rr0
   go_wp2_with fail
   go_roundw
   case rel=>exact ⟨j+1,_,by omega,by go_num,Q2.out,G1.out,hB2,HN.out⟩
   case measure=>simp [intOf];omega
  ·have hjn:t.n.toNat-j=0:=by omega
   have HC:Hid (zB wr 0 u10 (Mt.zC x t.n.toNat [])):=by
    show zB _ _ _ _
    rw [HR.out,hjn];exact HO.out
   have FT:Hid (Mt.fit 70000300 (Mt.zC x t.n.toNat [])):=by
    show Mt.fit _ _
    rw [HR.out,hjn];exact FC.out
   clear HR HO FC hjn hbel
   generalize hTT:Mt.zC x t.n.toNat []=T at *
   have HTT:Hid (Mt.zC x t.n.toNat []=T):=hTT
   clear hTT
   go_wp2_with fail
   go_ret
   exact ⟨_,rfl,by rw [HTT.out];exact HC.out,hB⟩
theorem zSK (l:List Mt.Tok) (hl:l.length≤64) (a b:Nat) (d:Int) (t:Mt.Tok) (x y:List Mt.Ins) (g cap:Nat) (w:World) (hb:b<l.length) (hab:a<b) (hcap:l.length≤cap) (hg:g<w.heap.size) (hd0:0≤d) (hd1:d≤999)
  (HT:Hid (toks w (.slice (some ⟨g,0,none⟩) l.length cap) l))
  (KX:Hid (∀ z:World,toks z (.slice (some ⟨g,0,none⟩) l.length cap) l→Calls Tryz.prog 107 #[.slice (some ⟨g,0,none⟩) l.length cap,.int .i64 a,.int .i64 b,.int .i64 d] z fun e w'=>∃ v',e=.returned v'∧zB w' 0 v' x∧Below z.heap.size z w'))
  (KY:Hid (∀ z:World,toks z (.slice (some ⟨g,0,none⟩) l.length cap) l→Calls Tryz.prog 107 #[.slice (some ⟨g,0,none⟩) l.length cap,.int .i64 a,.int .i64 b,.int .i64 (d+1)] z fun e w'=>∃ v',e=.returned v'∧zB w' 0 v' y∧Below z.heap.size z w'))
  (FX:Hid (Mt.fit 70000000 x)) (FY:Hid (Mt.fit 70000000 y)) (LX:(x.length:Int)≤10000000) (LY:(y.length:Int)≤10000000)
  (c0:w.cell? ⟨g,b*7,none⟩=some (.int .i64 t.kind)) (c1:w.cell? ⟨g,b*7+1,none⟩=some (.int .i64 t.frm)) (c2:w.cell? ⟨g,b*7+2,none⟩=some (.int .i64 t.to)) (c3:w.cell? ⟨g,b*7+3,none⟩=some (.int .i64 t.n)) (c4:w.cell? ⟨g,b*7+4,none⟩=some (.int .i64 t.m)) (c5:w.cell? ⟨g,b*7+5,none⟩=some (.int .i64 t.how)) (c6:w.cell? ⟨g,b*7+6,none⟩=some (.string ⟨t.set.toArray⟩))
  (t1:0≤t.n) (t2:t.n≤20) (t3:-1≤t.m) (t4:t.m≤20) (t5:0≤t.how) (t6:t.how≤4) (hm:t.m<0) (hn:0<t.n) (hnb:decide (0<t.n)=true) (hp:(t.how==2)=true) :
  Calls Tryz.prog 106 #[.slice (some ⟨g,0,none⟩) l.length cap,.int .i64 a,.int .i64 b,.int .i64 d] w fun e w'=>∃ v',e=.returned v'∧zB w' 0 v' (Mt.alone 0 (Mt.behind (Mt.zC x t.n.toNat []) (Mt.vI y d (t.how==1))))∧Below w.heap.size w w':=by
 have FX9:Hid (Mt.fit 900000000 x):=Mt.zI FX.out (by omega)
 go_enter Tryz.func106,Tryz.ntmps106
 go_wp2_with fail
 have fl0:Mt.zCh (10000000+900) (70000010+900) (Mt.vI y d (t.how==1)):=Mt.zCr (L:=10000000) (N:=70000010) d (t.how==1) ⟨LY,fun i hi=>Mt.vO (FY.out.2 i hi) (by omega)⟩ (by omega) (by omega) (by omega)
 have FL:Hid (Mt.fit 900000000 (Mt.vI y d (t.how==1))):=Mt.yG fl0 (by omega) (by omega)
 have FLH:Hid (Mt.fit 400000000 (Mt.vI y d (t.how==1))):=Mt.yG fl0 (by omega) (by omega)
 clear fl0
 refine (KX.out _ (HT.out.alloc _)).mono ?_
 rintro e w1 ⟨vx,rfl,qx,hbx⟩
 obtain ⟨r0,r1,r2,r3⟩:=xR hbx
 have hs1:=r3.size
 have Qx:Hid (zB w1 0 vx x):=qx
 have HT1:Hid (toks w1 (.slice (some ⟨g,0,none⟩) l.length cap) l):=jU HT.out r3
 clear qx hbx HT c0 c1 c2 c3 c4 c5 c6
 go_wp2_with fail
 go_loopw [10,12] (fun u i wr=>∃ (j:Nat) (c:List Mt.Ins),(j:Int)≤t.n∧i=.int .i64 j∧zB wr 0 u c∧Mt.fit 70000300 c∧Below w1.heap.size w1 wr∧Mt.zC x t.n.toNat []=Mt.zC x (t.n.toNat-j) c) (fun _ i _=>t.n.toNat-(intOf i).toNat)
 case atStart=>exact ⟨0,[],by omega,rfl,zB.nil _ _,Mt.zAe (by omega),Below.refl _ _,rfl⟩
 case round =>
  obtain ⟨j,c,hj,rfl,hown,hfc,hbel,hr⟩:=hrel
  have HR:Hid (Mt.zC x t.n.toNat []=Mt.zC x (t.n.toNat-j) c):=hr
  have HO:Hid (zB wr 0 u10 c):=hown
  have FC:Hid (Mt.fit 70000300 c):=hfc
  have QXr:Hid (zB wr 0 vx x):=Qx.out.below hbel
  have HTr:Hid (toks wr (.slice (some ⟨g,0,none⟩) l.length cap) l):=jU HT1.out hbel
  have rr0:=fun o=>(hbel.cell (p:=⟨w.heap.size,o,none⟩) r2).trans (r0 o)
  have hB:Below w.heap.size w wr:=r3.trans (hbel.mono hs1)
  have hsr:=hB.size
  have hgt:w.heap.size<wr.heap.size:=Nat.lt_of_lt_of_le r2 hbel.size
  clear hr hown hfc
  by_cases hlt:(j:Int)<t.n
  ·have HN:Hid (Mt.zC x t.n.toNat []=Mt.zC x (t.n.toNat-(j+1)) (Mt.behind c x)):=HR.out.trans (zAi x t.n.toNat j c (by omega))
   have G1:Hid (Mt.fit 70000300 (Mt.behind c x)):=jK (M:=70000000) FC.out (Mt.zI FX.out (by omega))
   have hs2:=hbel.size
   go_wp2_with fail
   refine (kD c x _ _ _ HO.out QXr.out (Mt.zI FC.out (by omega)) FX9.out).mono ?_
   rintro e w2 ⟨v2,rfl,q2,hb2⟩
   have hB2:Below w1.heap.size w1 w2:=hbel.trans (hb2.mono hs2)
   have Q2:Hid (zB w2 0 v2 (Mt.behind c x)):=q2
   clear q2 hb2 HO QXr HTr hB rr0
   go_wp2_with fail
   go_roundw
   case rel=>exact ⟨j+1,_,by omega,by go_num,Q2.out,G1.out,hB2,HN.out⟩
   case measure=>simp [intOf];omega
  ·have hjn:t.n.toNat-j=0:=by omega
   have HC:Hid (zB wr 0 u10 (Mt.zC x t.n.toNat [])):=by
    show zB _ _ _ _
    rw [HR.out,hjn];exact HO.out
   have FT:Hid (Mt.fit 70000300 (Mt.zC x t.n.toNat [])):=by
    show Mt.fit _ _
    rw [HR.out,hjn];exact FC.out
   clear HR HO FC hjn hbel
   generalize hTT:Mt.zC x t.n.toNat []=T at *
   have HTT:Hid (Mt.zC x t.n.toNat []=T):=hTT
   clear hTT
   go_wp2_with fail
   refine (KY.out _ HTr.out).mono ?_
   rintro e w2 ⟨v2,rfl,q2,hb2⟩
   have hB2:Below w.heap.size w w2:=hB.trans (hb2.mono hsr)
   have hs2:=hB2.size
   have hgt2:w.heap.size<w2.heap.size:=Nat.lt_of_lt_of_le hgt hb2.size
   have s0:=fun o=>(hb2.cell (p:=⟨w.heap.size,o,none⟩) hgt).trans (rr0 o)
   have Q2:Hid (zB w2 0 v2 y):=q2
   have HC2:Hid (zB w2 0 u10 T):=HC.out.below hb2
   clear q2 hb2 hB rr0
   go_wp2_with fail
   refine (zEN y d _ _ _ Q2.out (Mt.zI FY.out (by omega)) hd0 (by omega)).mono ?_
   rintro e w3 ⟨v3,rfl,q3,hb3⟩
   have hB3:Below w.heap.size w w3:=hB2.trans (hb3.mono hs2)
   have hs3:=hB3.size
   have zQm:w.heap.size<w3.heap.size:=Nat.lt_of_lt_of_le hgt2 hb3.size
   have s1:=fun o=>(hb3.cell (p:=⟨w.heap.size,o,none⟩) hgt2).trans (s0 o)
   have Q3:Hid (zB w3 0 v3 (Mt.vI y d (t.how==1))):=q3
   have HC3:Hid (zB w3 0 u10 T):=HC2.out.below hb3
   clear q3 hb3 hB2 s0 HC2 Q2
   go_wp2_with fail
   refine (kD T _ _ _ _ HC3.out Q3.out (Mt.zI FT.out (by omega)) FL.out).mono ?_
   rintro e w4 ⟨v4,rfl,q4,hb4⟩
   have hB4:Below w.heap.size w w4:=hB3.trans (hb4.mono hs3)
   have hs4:=hB4.size
   have s2:=fun o=>(hb4.cell (p:=⟨w.heap.size,o,none⟩) zQm).trans (s1 o)
   have Q4:Hid (zB w4 0 v4 (Mt.behind T (Mt.vI y d (t.how==1)))):=q4
   clear q4 hb4 hB3 s1 HC3 Q3
   go_wp2_with fail
   refine (zBe 0 _ _ _ Q4.out (Mt.zI (Mt.yI (Mt.zI FT.out (show (70000300:Int)≤400000000 by omega)) FLH.out) (by omega)) (by omega) (by omega)).mono ?_
   rintro e w9 ⟨v9,rfl,q9,hb9⟩
   have hB9:Below w.heap.size w w9:=hB4.trans (hb9.mono hs4)
   clear hb9
   go_wp2_with fail
   go_ret
   exact ⟨_,rfl,by rw [HTT.out];exact q9,hB9⟩
theorem zSL (l:List Mt.Tok) (hl:l.length≤64) (a b:Nat) (d:Int) (t:Mt.Tok) (x y:List Mt.Ins) (g cap:Nat) (w:World) (hb:b<l.length) (hab:a<b) (hcap:l.length≤cap) (hg:g<w.heap.size) (hd0:0≤d) (hd1:d≤999)
  (HT:Hid (toks w (.slice (some ⟨g,0,none⟩) l.length cap) l))
  (KX:Hid (∀ z:World,toks z (.slice (some ⟨g,0,none⟩) l.length cap) l→Calls Tryz.prog 107 #[.slice (some ⟨g,0,none⟩) l.length cap,.int .i64 a,.int .i64 b,.int .i64 d] z fun e w'=>∃ v',e=.returned v'∧zB w' 0 v' x∧Below z.heap.size z w'))
  (KY:Hid (∀ z:World,toks z (.slice (some ⟨g,0,none⟩) l.length cap) l→Calls Tryz.prog 107 #[.slice (some ⟨g,0,none⟩) l.length cap,.int .i64 a,.int .i64 b,.int .i64 (d+1)] z fun e w'=>∃ v',e=.returned v'∧zB w' 0 v' y∧Below z.heap.size z w'))
  (FX:Hid (Mt.fit 70000000 x)) (FY:Hid (Mt.fit 70000000 y)) (LX:(x.length:Int)≤10000000) (LY:(y.length:Int)≤10000000)
  (c0:w.cell? ⟨g,b*7,none⟩=some (.int .i64 t.kind)) (c1:w.cell? ⟨g,b*7+1,none⟩=some (.int .i64 t.frm)) (c2:w.cell? ⟨g,b*7+2,none⟩=some (.int .i64 t.to)) (c3:w.cell? ⟨g,b*7+3,none⟩=some (.int .i64 t.n)) (c4:w.cell? ⟨g,b*7+4,none⟩=some (.int .i64 t.m)) (c5:w.cell? ⟨g,b*7+5,none⟩=some (.int .i64 t.how)) (c6:w.cell? ⟨g,b*7+6,none⟩=some (.string ⟨t.set.toArray⟩))
  (t1:0≤t.n) (t2:t.n≤20) (t3:-1≤t.m) (t4:t.m≤20) (t5:0≤t.how) (t6:t.how≤4) (hm:t.m<0) (hn:t.n≤0) (hnb:decide (0<t.n)=false) (hmb:decide (0<t.m)=false) (hp:(t.how==2)=true) :
  Calls Tryz.prog 106 #[.slice (some ⟨g,0,none⟩) l.length cap,.int .i64 a,.int .i64 b,.int .i64 d] w fun e w'=>∃ v',e=.returned v'∧zB w' 0 v' (Mt.alone 0 (Mt.behind [] (Mt.vI y d (t.how==1))))∧Below w.heap.size w w':=by
 have FX9:Hid (Mt.fit 900000000 x):=Mt.zI FX.out (by omega)
 go_enter Tryz.func106,Tryz.ntmps106
 go_wp2_with fail
 have fl0:Mt.zCh (10000000+900) (70000010+900) (Mt.vI y d (t.how==1)):=Mt.zCr (L:=10000000) (N:=70000010) d (t.how==1) ⟨LY,fun i hi=>Mt.vO (FY.out.2 i hi) (by omega)⟩ (by omega) (by omega) (by omega)
 have FL:Hid (Mt.fit 900000000 (Mt.vI y d (t.how==1))):=Mt.yG fl0 (by omega) (by omega)
 have FLH:Hid (Mt.fit 400000000 (Mt.vI y d (t.how==1))):=Mt.yG fl0 (by omega) (by omega)
 clear fl0
 refine (KY.out _ (HT.out.alloc _)).mono ?_
 rintro e w2 ⟨v2,rfl,q2,hb2⟩
 obtain ⟨s0,r1,hgt2,hB2⟩:=xR hb2
 have hs2:=hB2.size
 have Q2:Hid (zB w2 0 v2 y):=q2
 clear q2 hb2 HT c0 c1 c2 c3 c4 c5 c6
 go_wp2_with fail
 refine (zEN y d _ _ _ Q2.out (Mt.zI FY.out (by omega)) hd0 (by omega)).mono ?_
 rintro e w3 ⟨v3,rfl,q3,hb3⟩
 have hB3:Below w.heap.size w w3:=hB2.trans (hb3.mono hs2)
 have hs3:=hB3.size
 have zQm:w.heap.size<w3.heap.size:=Nat.lt_of_lt_of_le hgt2 hb3.size
 have s1:=fun o=>(hb3.cell (p:=⟨w.heap.size,o,none⟩) hgt2).trans (s0 o)
 have Q3:Hid (zB w3 0 v3 (Mt.vI y d (t.how==1))):=q3
 clear q3 hb3 hB2 s0 Q2
 go_wp2_with fail
 refine (kD [] _ _ _ _ (zB.nil _ _) Q3.out (Mt.zAe (by omega)) FL.out).mono ?_
 rintro e w4 ⟨v4,rfl,q4,hb4⟩
 have hB4:Below w.heap.size w w4:=hB3.trans (hb4.mono hs3)
 have hs4:=hB4.size
 have s2:=fun o=>(hb4.cell (p:=⟨w.heap.size,o,none⟩) zQm).trans (s1 o)
 have Q4:Hid (zB w4 0 v4 (Mt.behind [] (Mt.vI y d (t.how==1)))):=q4
 clear q4 hb4 hB3 s1 Q3
 go_wp2_with fail
 refine (zBe 0 _ _ _ Q4.out (Mt.zI (Mt.yI (Mt.zAe (by omega)) FLH.out) (by omega)) (by omega) (by omega)).mono ?_
 rintro e w9 ⟨v9,rfl,q9,hb9⟩
 have hB9:Below w.heap.size w w9:=hB4.trans (hb9.mono hs4)
 clear hb9
 go_wp2_with fail
 go_ret
 exact ⟨_,rfl,q9,hB9⟩
theorem zRM (l:List Mt.Tok) (hl:l.length≤64) (a b:Nat) (d:Int) (t:Mt.Tok) (x y:List Mt.Ins) (g cap:Nat) (w:World) (hb:b<l.length) (hab:a<b) (hcap:l.length≤cap) (hg:g<w.heap.size) (hd0:0≤d) (hd1:d≤999)
  (HT:Hid (toks w (.slice (some ⟨g,0,none⟩) l.length cap) l))
  (KX:Hid (∀ z:World,toks z (.slice (some ⟨g,0,none⟩) l.length cap) l→Calls Tryz.prog 107 #[.slice (some ⟨g,0,none⟩) l.length cap,.int .i64 a,.int .i64 b,.int .i64 d] z fun e w'=>∃ v',e=.returned v'∧zB w' 0 v' x∧Below z.heap.size z w'))
  (KY:Hid (∀ z:World,toks z (.slice (some ⟨g,0,none⟩) l.length cap) l→Calls Tryz.prog 107 #[.slice (some ⟨g,0,none⟩) l.length cap,.int .i64 a,.int .i64 b,.int .i64 (d+1)] z fun e w'=>∃ v',e=.returned v'∧zB w' 0 v' y∧Below z.heap.size z w'))
  (FX:Hid (Mt.fit 70000000 x)) (FY:Hid (Mt.fit 70000000 y)) (LX:(x.length:Int)≤10000000) (LY:(y.length:Int)≤10000000)
  (c0:w.cell? ⟨g,b*7,none⟩=some (.int .i64 t.kind)) (c1:w.cell? ⟨g,b*7+1,none⟩=some (.int .i64 t.frm)) (c2:w.cell? ⟨g,b*7+2,none⟩=some (.int .i64 t.to)) (c3:w.cell? ⟨g,b*7+3,none⟩=some (.int .i64 t.n)) (c4:w.cell? ⟨g,b*7+4,none⟩=some (.int .i64 t.m)) (c5:w.cell? ⟨g,b*7+5,none⟩=some (.int .i64 t.how)) (c6:w.cell? ⟨g,b*7+6,none⟩=some (.string ⟨t.set.toArray⟩))
  (t1:0≤t.n) (t2:t.n≤20) (t3:-1≤t.m) (t4:t.m≤20) (t5:0≤t.how) (t6:t.how≤4) (hm:¬ t.m<0) (hn:t.n≤0) (hnb:decide (0<t.n)=false) (hmb:decide (0<t.m)=false) (hp:(t.how==2)=true) :
  Calls Tryz.prog 106 #[.slice (some ⟨g,0,none⟩) l.length cap,.int .i64 a,.int .i64 b,.int .i64 d] w fun e w'=>∃ v',e=.returned v'∧zB w' 0 v' (Mt.alone 0 ([]))∧Below w.heap.size w w':=by
 have FX9:Hid (Mt.fit 900000000 x):=Mt.zI FX.out (by omega)
 go_enter Tryz.func106,Tryz.ntmps106
 go_wp2_with fail
 refine (zBe 0 [] _ _ (zB.nil _ _) (Mt.zAe (by omega)) (by omega) (by omega)).mono ?_
 rintro e w9 ⟨v9,rfl,q9,hb9⟩
 have hB9:Below w.heap.size w w9:=((Below.refl _ _).alloc (Nat.le_refl _) _).trans (hb9.mono (by simp))
 clear hb9
 go_wp2_with fail
 go_ret
 exact ⟨_,rfl,q9,hB9⟩
theorem zSM (l:List Mt.Tok) (hl:l.length≤64) (a b:Nat) (d:Int) (t:Mt.Tok) (x y:List Mt.Ins) (g cap:Nat) (w:World) (hb:b<l.length) (hab:a<b) (hcap:l.length≤cap) (hg:g<w.heap.size) (hd0:0≤d) (hd1:d≤999)
  (HT:Hid (toks w (.slice (some ⟨g,0,none⟩) l.length cap) l))
  (KX:Hid (∀ z:World,toks z (.slice (some ⟨g,0,none⟩) l.length cap) l→Calls Tryz.prog 107 #[.slice (some ⟨g,0,none⟩) l.length cap,.int .i64 a,.int .i64 b,.int .i64 d] z fun e w'=>∃ v',e=.returned v'∧zB w' 0 v' x∧Below z.heap.size z w'))
  (KY:Hid (∀ z:World,toks z (.slice (some ⟨g,0,none⟩) l.length cap) l→Calls Tryz.prog 107 #[.slice (some ⟨g,0,none⟩) l.length cap,.int .i64 a,.int .i64 b,.int .i64 (d+1)] z fun e w'=>∃ v',e=.returned v'∧zB w' 0 v' y∧Below z.heap.size z w'))
  (FX:Hid (Mt.fit 70000000 x)) (FY:Hid (Mt.fit 70000000 y)) (LX:(x.length:Int)≤10000000) (LY:(y.length:Int)≤10000000)
  (c0:w.cell? ⟨g,b*7,none⟩=some (.int .i64 t.kind)) (c1:w.cell? ⟨g,b*7+1,none⟩=some (.int .i64 t.frm)) (c2:w.cell? ⟨g,b*7+2,none⟩=some (.int .i64 t.to)) (c3:w.cell? ⟨g,b*7+3,none⟩=some (.int .i64 t.n)) (c4:w.cell? ⟨g,b*7+4,none⟩=some (.int .i64 t.m)) (c5:w.cell? ⟨g,b*7+5,none⟩=some (.int .i64 t.how)) (c6:w.cell? ⟨g,b*7+6,none⟩=some (.string ⟨t.set.toArray⟩))
  (t1:0≤t.n) (t2:t.n≤20) (t3:-1≤t.m) (t4:t.m≤20) (t5:0≤t.how) (t6:t.how≤4) (hm:¬ t.m<0) (hmn:t.n<t.m) (hnb:decide (0<t.n)=true) (hp:(t.how==2)=true) :
  Calls Tryz.prog 106 #[.slice (some ⟨g,0,none⟩) l.length cap,.int .i64 a,.int .i64 b,.int .i64 d] w fun e w'=>∃ v',e=.returned v'∧zB w' 0 v' (Mt.alone 0 (Mt.behind (Mt.zC x t.n.toNat []) (Mt.upTo x (t.m-t.n).toNat (t.how==1))))∧Below w.heap.size w w':=by
 have FX9:Hid (Mt.fit 900000000 x):=Mt.zI FX.out (by omega)
 go_enter Tryz.func106,Tryz.ntmps106
 go_wp2_with fail
 have fu0:Mt.zCh (10000600) (300000600+300) (Mt.upTo x (t.m-t.n).toNat (t.how==1)):=Mt.jC (Mt.zBC (L:=10000000) (N:=300000000) (t.how==1) ⟨LX,fun i hi=>Mt.vO (FX.out.2 i hi) (by omega)⟩ (by omega) (by omega) (t.m-t.n).toNat [] (by omega) (Mt.zBa (by omega))) (by omega) (by omega)
 have FU:Hid (Mt.fit 900000000 (Mt.upTo x (t.m-t.n).toNat (t.how==1))):=Mt.yG fu0 (by omega) (by omega)
 have FU4:Mt.fit 400000000 (Mt.upTo x (t.m-t.n).toNat (t.how==1)):=Mt.yG fu0 (by omega) (by omega)
 have FUH:Hid (Mt.fit 400000000 (Mt.upTo x (t.m-t.n).toNat (t.how==1))):=FU4
 clear fu0 FU4
 refine (KX.out _ (HT.out.alloc _)).mono ?_
 rintro e w1 ⟨vx,rfl,qx,hbx⟩
 obtain ⟨r0,r1,r2,r3⟩:=xR hbx
 have hs1:=r3.size
 have Qx:Hid (zB w1 0 vx x):=qx
 have HT1:Hid (toks w1 (.slice (some ⟨g,0,none⟩) l.length cap) l):=jU HT.out r3
 clear qx hbx HT c0 c1 c2 c3 c4 c5 c6
 go_wp2_with fail
 go_loopw [10,12] (fun u i wr=>∃ (j:Nat) (c:List Mt.Ins),(j:Int)≤t.n∧i=.int .i64 j∧zB wr 0 u c∧Mt.fit 70000300 c∧Below w1.heap.size w1 wr∧Mt.zC x t.n.toNat []=Mt.zC x (t.n.toNat-j) c) (fun _ i _=>t.n.toNat-(intOf i).toNat)
 case atStart=>exact ⟨0,[],by omega,rfl,zB.nil _ _,Mt.zAe (by omega),Below.refl _ _,rfl⟩
 case round =>
  obtain ⟨j,c,hj,rfl,hown,hfc,hbel,hr⟩:=hrel
  have HR:Hid (Mt.zC x t.n.toNat []=Mt.zC x (t.n.toNat-j) c):=hr
  have HO:Hid (zB wr 0 u10 c):=hown
  have FC:Hid (Mt.fit 70000300 c):=hfc
  have QXr:Hid (zB wr 0 vx x):=Qx.out.below hbel
  have HTr:Hid (toks wr (.slice (some ⟨g,0,none⟩) l.length cap) l):=jU HT1.out hbel
  have rr0:=fun o=>(hbel.cell (p:=⟨w.heap.size,o,none⟩) r2).trans (r0 o)
  have hB:Below w.heap.size w wr:=r3.trans (hbel.mono hs1)
  have hsr:=hB.size
  have hgt:w.heap.size<wr.heap.size:=Nat.lt_of_lt_of_le r2 hbel.size
  clear hr hown hfc
  by_cases hlt:(j:Int)<t.n
  ·have HN:Hid (Mt.zC x t.n.toNat []=Mt.zC x (t.n.toNat-(j+1)) (Mt.behind c x)):=HR.out.trans (zAi x t.n.toNat j c (by omega))
   have G1:Hid (Mt.fit 70000300 (Mt.behind c x)):=jK (M:=70000000) FC.out (Mt.zI FX.out (by omega))
   have hs2:=hbel.size
   go_wp2_with fail
   refine (kD c x _ _ _ HO.out QXr.out (Mt.zI FC.out (by omega)) FX9.out).mono ?_
   rintro e w2 ⟨v2,rfl,q2,hb2⟩
   have hB2:Below w1.heap.size w1 w2:=hbel.trans (hb2.mono hs2)
   have Q2:Hid (zB w2 0 v2 (Mt.behind c x)):=q2
   clear q2 hb2 HO QXr HTr hB rr0
   go_wp2_with fail
   go_roundw
   case rel=>exact ⟨j+1,_,by omega,by go_num,Q2.out,G1.out,hB2,HN.out⟩
   case measure=>simp [intOf];omega
  ·have hjn:t.n.toNat-j=0:=by omega
   have HC:Hid (zB wr 0 u10 (Mt.zC x t.n.toNat [])):=by
    show zB _ _ _ _
    rw [HR.out,hjn];exact HO.out
   have FT:Hid (Mt.fit 70000300 (Mt.zC x t.n.toNat [])):=by
    show Mt.fit _ _
    rw [HR.out,hjn];exact FC.out
   clear HR HO FC hjn hbel
   generalize hTT:Mt.zC x t.n.toNat []=T at *
   have HTT:Hid (Mt.zC x t.n.toNat []=T):=hTT
   clear hTT
   go_wp2_with fail
   refine (zEP x _ _ _ _ QXr.out FX.out LX (by omega) (by omega)).mono ?_
   rintro e w2 ⟨v2,rfl,q2,hb2⟩
   have hB2:Below w.heap.size w w2:=hB.trans (hb2.mono hsr)
   have hs2:=hB2.size
   have hgt2:w.heap.size<w2.heap.size:=Nat.lt_of_lt_of_le hgt hb2.size
   have s0:=fun o=>(hb2.cell (p:=⟨w.heap.size,o,none⟩) hgt).trans (rr0 o)
   have Q2:Hid (zB w2 0 v2 (Mt.upTo x (t.m-t.n).toNat (t.how==1))):=q2
   have HC2:Hid (zB w2 0 u10 T):=HC.out.below hb2
   clear q2 hb2 hB rr0 QXr HTr HC
   go_wp2_with fail
   refine (kD T _ _ _ _ HC2.out Q2.out (Mt.zI FT.out (by omega)) FU.out).mono ?_
   rintro e w3 ⟨v3,rfl,q3,hb3⟩
   have hB3:Below w.heap.size w w3:=hB2.trans (hb3.mono hs2)
   have hs3:=hB3.size
   have s1:=fun o=>(hb3.cell (p:=⟨w.heap.size,o,none⟩) hgt2).trans (s0 o)
   have Q3:Hid (zB w3 0 v3 (Mt.behind T (Mt.upTo x (t.m-t.n).toNat (t.how==1)))):=q3
   clear q3 hb3 hB2 s0 HC2 Q2
   go_wp2_with fail
   refine (zBe 0 _ _ _ Q3.out (Mt.zI (Mt.yI (Mt.zI FT.out (show (70000300:Int)≤400000000 by omega)) FUH.out) (by omega)) (by omega) (by omega)).mono ?_
   rintro e w9 ⟨v9,rfl,q9,hb9⟩
   have hB9:Below w.heap.size w w9:=hB3.trans (hb9.mono hs3)
   clear hb9
   go_wp2_with fail
   go_ret
   exact ⟨_,rfl,by rw [HTT.out];exact q9,hB9⟩
theorem zSN (l:List Mt.Tok) (hl:l.length≤64) (a b:Nat) (d:Int) (t:Mt.Tok) (x y:List Mt.Ins) (g cap:Nat) (w:World) (hb:b<l.length) (hab:a<b) (hcap:l.length≤cap) (hg:g<w.heap.size) (hd0:0≤d) (hd1:d≤999)
  (HT:Hid (toks w (.slice (some ⟨g,0,none⟩) l.length cap) l))
  (KX:Hid (∀ z:World,toks z (.slice (some ⟨g,0,none⟩) l.length cap) l→Calls Tryz.prog 107 #[.slice (some ⟨g,0,none⟩) l.length cap,.int .i64 a,.int .i64 b,.int .i64 d] z fun e w'=>∃ v',e=.returned v'∧zB w' 0 v' x∧Below z.heap.size z w'))
  (KY:Hid (∀ z:World,toks z (.slice (some ⟨g,0,none⟩) l.length cap) l→Calls Tryz.prog 107 #[.slice (some ⟨g,0,none⟩) l.length cap,.int .i64 a,.int .i64 b,.int .i64 (d+1)] z fun e w'=>∃ v',e=.returned v'∧zB w' 0 v' y∧Below z.heap.size z w'))
  (FX:Hid (Mt.fit 70000000 x)) (FY:Hid (Mt.fit 70000000 y)) (LX:(x.length:Int)≤10000000) (LY:(y.length:Int)≤10000000)
  (c0:w.cell? ⟨g,b*7,none⟩=some (.int .i64 t.kind)) (c1:w.cell? ⟨g,b*7+1,none⟩=some (.int .i64 t.frm)) (c2:w.cell? ⟨g,b*7+2,none⟩=some (.int .i64 t.to)) (c3:w.cell? ⟨g,b*7+3,none⟩=some (.int .i64 t.n)) (c4:w.cell? ⟨g,b*7+4,none⟩=some (.int .i64 t.m)) (c5:w.cell? ⟨g,b*7+5,none⟩=some (.int .i64 t.how)) (c6:w.cell? ⟨g,b*7+6,none⟩=some (.string ⟨t.set.toArray⟩))
  (t1:0≤t.n) (t2:t.n≤20) (t3:-1≤t.m) (t4:t.m≤20) (t5:0≤t.how) (t6:t.how≤4) (hm:¬ t.m<0) (hmn:t.n<t.m) (hnb:decide (0<t.n)=false) (hmb:decide (0<t.m)=true) (hp:(t.how==2)=true) :
  Calls Tryz.prog 106 #[.slice (some ⟨g,0,none⟩) l.length cap,.int .i64 a,.int .i64 b,.int .i64 d] w fun e w'=>∃ v',e=.returned v'∧zB w' 0 v' (Mt.alone 0 (Mt.behind (Mt.zC x t.n.toNat []) (Mt.upTo x (t.m-t.n).toNat (t.how==1))))∧Below w.heap.size w w':=by
 have FX9:Hid (Mt.fit 900000000 x):=Mt.zI FX.out (by omega)
 go_enter Tryz.func106,Tryz.ntmps106
 go_wp2_with fail
 have fu0:Mt.zCh (10000600) (300000600+300) (Mt.upTo x (t.m-t.n).toNat (t.how==1)):=Mt.jC (Mt.zBC (L:=10000000) (N:=300000000) (t.how==1) ⟨LX,fun i hi=>Mt.vO (FX.out.2 i hi) (by omega)⟩ (by omega) (by omega) (t.m-t.n).toNat [] (by omega) (Mt.zBa (by omega))) (by omega) (by omega)
 have FU:Hid (Mt.fit 900000000 (Mt.upTo x (t.m-t.n).toNat (t.how==1))):=Mt.yG fu0 (by omega) (by omega)
 have FU4:Mt.fit 400000000 (Mt.upTo x (t.m-t.n).toNat (t.how==1)):=Mt.yG fu0 (by omega) (by omega)
 have FUH:Hid (Mt.fit 400000000 (Mt.upTo x (t.m-t.n).toNat (t.how==1))):=FU4
 clear fu0 FU4
 refine (KX.out _ (HT.out.alloc _)).mono ?_
 rintro e w1 ⟨vx,rfl,qx,hbx⟩
 obtain ⟨r0,r1,r2,r3⟩:=xR hbx
 have hs1:=r3.size
 have Qx:Hid (zB w1 0 vx x):=qx
 have HT1:Hid (toks w1 (.slice (some ⟨g,0,none⟩) l.length cap) l):=jU HT.out r3
 clear qx hbx HT c0 c1 c2 c3 c4 c5 c6
 go_wp2_with fail
 go_loopw [10,12] (fun u i wr=>∃ (j:Nat) (c:List Mt.Ins),(j:Int)≤t.n∧i=.int .i64 j∧zB wr 0 u c∧Mt.fit 70000300 c∧Below w1.heap.size w1 wr∧Mt.zC x t.n.toNat []=Mt.zC x (t.n.toNat-j) c) (fun _ i _=>t.n.toNat-(intOf i).toNat)
 case atStart=>exact ⟨0,[],by omega,rfl,zB.nil _ _,Mt.zAe (by omega),Below.refl _ _,rfl⟩
 case round =>
  obtain ⟨j,c,hj,rfl,hown,hfc,hbel,hr⟩:=hrel
  have HR:Hid (Mt.zC x t.n.toNat []=Mt.zC x (t.n.toNat-j) c):=hr
  have HO:Hid (zB wr 0 u10 c):=hown
  have FC:Hid (Mt.fit 70000300 c):=hfc
  have QXr:Hid (zB wr 0 vx x):=Qx.out.below hbel
  have HTr:Hid (toks wr (.slice (some ⟨g,0,none⟩) l.length cap) l):=jU HT1.out hbel
  have rr0:=fun o=>(hbel.cell (p:=⟨w.heap.size,o,none⟩) r2).trans (r0 o)
  have hB:Below w.heap.size w wr:=r3.trans (hbel.mono hs1)
  have hsr:=hB.size
  have hgt:w.heap.size<wr.heap.size:=Nat.lt_of_lt_of_le r2 hbel.size
  clear hr hown hfc
  by_cases hlt:(j:Int)<t.n
  ·have HN:Hid (Mt.zC x t.n.toNat []=Mt.zC x (t.n.toNat-(j+1)) (Mt.behind c x)):=HR.out.trans (zAi x t.n.toNat j c (by omega))
   have G1:Hid (Mt.fit 70000300 (Mt.behind c x)):=jK (M:=70000000) FC.out (Mt.zI FX.out (by omega))
   have hs2:=hbel.size
   go_wp2_with fail
   refine (kD c x _ _ _ HO.out QXr.out (Mt.zI FC.out (by omega)) FX9.out).mono ?_
   rintro e w2 ⟨v2,rfl,q2,hb2⟩
   have hB2:Below w1.heap.size w1 w2:=hbel.trans (hb2.mono hs2)
   have Q2:Hid (zB w2 0 v2 (Mt.behind c x)):=q2
   clear q2 hb2 HO QXr HTr hB rr0
   go_wp2_with fail
   go_roundw
   case rel=>exact ⟨j+1,_,by omega,by go_num,Q2.out,G1.out,hB2,HN.out⟩
   case measure=>simp [intOf];omega
  ·have hjn:t.n.toNat-j=0:=by omega
   have HC:Hid (zB wr 0 u10 (Mt.zC x t.n.toNat [])):=by
    show zB _ _ _ _
    rw [HR.out,hjn];exact HO.out
   have FT:Hid (Mt.fit 70000300 (Mt.zC x t.n.toNat [])):=by
    show Mt.fit _ _
    rw [HR.out,hjn];exact FC.out
   clear HR HO FC hjn hbel
   generalize hTT:Mt.zC x t.n.toNat []=T at *
   have HTT:Hid (Mt.zC x t.n.toNat []=T):=hTT
   clear hTT
   go_wp2_with fail
   refine (zEP x _ _ _ _ QXr.out FX.out LX (by omega) (by omega)).mono ?_
   rintro e w2 ⟨v2,rfl,q2,hb2⟩
   have hB2:Below w.heap.size w w2:=hB.trans (hb2.mono hsr)
   have hs2:=hB2.size
   have hgt2:w.heap.size<w2.heap.size:=Nat.lt_of_lt_of_le hgt hb2.size
   have s0:=fun o=>(hb2.cell (p:=⟨w.heap.size,o,none⟩) hgt).trans (rr0 o)
   have Q2:Hid (zB w2 0 v2 (Mt.upTo x (t.m-t.n).toNat (t.how==1))):=q2
   have HC2:Hid (zB w2 0 u10 T):=HC.out.below hb2
   clear q2 hb2 hB rr0 QXr HTr HC
   go_wp2_with fail
   refine (kD T _ _ _ _ HC2.out Q2.out (Mt.zI FT.out (by omega)) FU.out).mono ?_
   rintro e w3 ⟨v3,rfl,q3,hb3⟩
   have hB3:Below w.heap.size w w3:=hB2.trans (hb3.mono hs2)
   have hs3:=hB3.size
   have s1:=fun o=>(hb3.cell (p:=⟨w.heap.size,o,none⟩) hgt2).trans (s0 o)
   have Q3:Hid (zB w3 0 v3 (Mt.behind T (Mt.upTo x (t.m-t.n).toNat (t.how==1)))):=q3
   clear q3 hb3 hB2 s0 HC2 Q2
   go_wp2_with fail
   refine (zBe 0 _ _ _ Q3.out (Mt.zI (Mt.yI (Mt.zI FT.out (show (70000300:Int)≤400000000 by omega)) FUH.out) (by omega)) (by omega) (by omega)).mono ?_
   rintro e w9 ⟨v9,rfl,q9,hb9⟩
   have hB9:Below w.heap.size w w9:=hB3.trans (hb9.mono hs3)
   clear hb9
   go_wp2_with fail
   go_ret
   exact ⟨_,rfl,by rw [HTT.out];exact q9,hB9⟩
theorem zSO (l:List Mt.Tok) (hl:l.length≤64) (a b:Nat) (d:Int) (t:Mt.Tok) (x y:List Mt.Ins) (g cap:Nat) (w:World) (hb:b<l.length) (hab:a<b) (hcap:l.length≤cap) (hg:g<w.heap.size) (hd0:0≤d) (hd1:d≤999)
  (HT:Hid (toks w (.slice (some ⟨g,0,none⟩) l.length cap) l))
  (KX:Hid (∀ z:World,toks z (.slice (some ⟨g,0,none⟩) l.length cap) l→Calls Tryz.prog 107 #[.slice (some ⟨g,0,none⟩) l.length cap,.int .i64 a,.int .i64 b,.int .i64 d] z fun e w'=>∃ v',e=.returned v'∧zB w' 0 v' x∧Below z.heap.size z w'))
  (KY:Hid (∀ z:World,toks z (.slice (some ⟨g,0,none⟩) l.length cap) l→Calls Tryz.prog 107 #[.slice (some ⟨g,0,none⟩) l.length cap,.int .i64 a,.int .i64 b,.int .i64 (d+1)] z fun e w'=>∃ v',e=.returned v'∧zB w' 0 v' y∧Below z.heap.size z w'))
  (FX:Hid (Mt.fit 70000000 x)) (FY:Hid (Mt.fit 70000000 y)) (LX:(x.length:Int)≤10000000) (LY:(y.length:Int)≤10000000)
  (c0:w.cell? ⟨g,b*7,none⟩=some (.int .i64 t.kind)) (c1:w.cell? ⟨g,b*7+1,none⟩=some (.int .i64 t.frm)) (c2:w.cell? ⟨g,b*7+2,none⟩=some (.int .i64 t.to)) (c3:w.cell? ⟨g,b*7+3,none⟩=some (.int .i64 t.n)) (c4:w.cell? ⟨g,b*7+4,none⟩=some (.int .i64 t.m)) (c5:w.cell? ⟨g,b*7+5,none⟩=some (.int .i64 t.how)) (c6:w.cell? ⟨g,b*7+6,none⟩=some (.string ⟨t.set.toArray⟩))
  (t1:0≤t.n) (t2:t.n≤20) (t3:-1≤t.m) (t4:t.m≤20) (t5:0≤t.how) (t6:t.how≤4) (hm:¬ t.m<0) (hmn:¬ t.n<t.m) (hn:0<t.n) (hnb:decide (0<t.n)=true) (hp:(t.how==2)=true) :
  Calls Tryz.prog 106 #[.slice (some ⟨g,0,none⟩) l.length cap,.int .i64 a,.int .i64 b,.int .i64 d] w fun e w'=>∃ v',e=.returned v'∧zB w' 0 v' (Mt.alone 0 (Mt.zC x t.n.toNat []))∧Below w.heap.size w w':=by
 have FX9:Hid (Mt.fit 900000000 x):=Mt.zI FX.out (by omega)
 go_enter Tryz.func106,Tryz.ntmps106
 go_wp2_with fail
 refine (KX.out _ (HT.out.alloc _)).mono ?_
 rintro e w1 ⟨vx,rfl,qx,hbx⟩
 obtain ⟨r0,r1,r2,r3⟩:=xR hbx
 have hs1:=r3.size
 have Qx:Hid (zB w1 0 vx x):=qx
 have HT1:Hid (toks w1 (.slice (some ⟨g,0,none⟩) l.length cap) l):=jU HT.out r3
 clear qx hbx HT c0 c1 c2 c3 c4 c5 c6
 go_wp2_with fail
 go_loopw [10,12] (fun u i wr=>∃ (j:Nat) (c:List Mt.Ins),(j:Int)≤t.n∧i=.int .i64 j∧zB wr 0 u c∧Mt.fit 70000300 c∧Below w1.heap.size w1 wr∧Mt.zC x t.n.toNat []=Mt.zC x (t.n.toNat-j) c) (fun _ i _=>t.n.toNat-(intOf i).toNat)
 case atStart=>exact ⟨0,[],by omega,rfl,zB.nil _ _,Mt.zAe (by omega),Below.refl _ _,rfl⟩
 case round =>
  obtain ⟨j,c,hj,rfl,hown,hfc,hbel,hr⟩:=hrel
  have HR:Hid (Mt.zC x t.n.toNat []=Mt.zC x (t.n.toNat-j) c):=hr
  have HO:Hid (zB wr 0 u10 c):=hown
  have FC:Hid (Mt.fit 70000300 c):=hfc
  have QXr:Hid (zB wr 0 vx x):=Qx.out.below hbel
  have HTr:Hid (toks wr (.slice (some ⟨g,0,none⟩) l.length cap) l):=jU HT1.out hbel
  have rr0:=fun o=>(hbel.cell (p:=⟨w.heap.size,o,none⟩) r2).trans (r0 o)
  have hB:Below w.heap.size w wr:=r3.trans (hbel.mono hs1)
  have hsr:=hB.size
  have hgt:w.heap.size<wr.heap.size:=Nat.lt_of_lt_of_le r2 hbel.size
  clear hr hown hfc
  by_cases hlt:(j:Int)<t.n
  ·have HN:Hid (Mt.zC x t.n.toNat []=Mt.zC x (t.n.toNat-(j+1)) (Mt.behind c x)):=HR.out.trans (zAi x t.n.toNat j c (by omega))
   have G1:Hid (Mt.fit 70000300 (Mt.behind c x)):=jK (M:=70000000) FC.out (Mt.zI FX.out (by omega))
   have hs2:=hbel.size
   go_wp2_with fail
   refine (kD c x _ _ _ HO.out QXr.out (Mt.zI FC.out (by omega)) FX9.out).mono ?_
   rintro e w2 ⟨v2,rfl,q2,hb2⟩
   have hB2:Below w1.heap.size w1 w2:=hbel.trans (hb2.mono hs2)
   have Q2:Hid (zB w2 0 v2 (Mt.behind c x)):=q2
   clear q2 hb2 HO QXr HTr hB rr0
   go_wp2_with fail
   go_roundw
   case rel=>exact ⟨j+1,_,by omega,by go_num,Q2.out,G1.out,hB2,HN.out⟩
   case measure=>simp [intOf];omega
  ·have hjn:t.n.toNat-j=0:=by omega
   have HC:Hid (zB wr 0 u10 (Mt.zC x t.n.toNat [])):=by
    show zB _ _ _ _
    rw [HR.out,hjn];exact HO.out
   have FT:Hid (Mt.fit 70000300 (Mt.zC x t.n.toNat [])):=by
    show Mt.fit _ _
    rw [HR.out,hjn];exact FC.out
   clear HR HO FC hjn hbel
   generalize hTT:Mt.zC x t.n.toNat []=T at *
   have HTT:Hid (Mt.zC x t.n.toNat []=T):=hTT
   clear hTT
   go_wp2_with fail
   refine (zBe 0 _ _ _ HC.out (Mt.zI FT.out (by omega)) (by omega) (by omega)).mono ?_
   rintro e w9 ⟨v9,rfl,q9,hb9⟩
   have hB9:Below w.heap.size w w9:=hB.trans (hb9.mono hsr)
   clear hb9
   go_wp2_with fail
   go_ret
   exact ⟨_,rfl,by rw [HTT.out];exact q9,hB9⟩
end Go.Proofs.YtebpgfodelggoabGreat
