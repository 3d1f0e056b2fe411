import Derived.Test.YtebpgfodelggoabGreatC02
import Derived.Test.YtebpgfodelggoabGreatC03
set_option linter.unusedVariables false
set_option linter.unusedSimpArgs false
set_option maxRecDepth 100000
set_option maxHeartbeats 2000000
namespace Go.Proofs.YtebpgfodelggoabGreat
open Go.RowKit
def S0 (l:List Mt.Tok) (f:Nat):Prop:=∀ (a b:Nat) (ai bi d:Int) (v:Value) (w:World),ai=a→bi=b→toks w v l→a≤66→b≤l.length→4*(70-a)+3≤f→0≤d→d+f≤1000 →
 Calls Tryz.prog 39 #[v,.int .i64 ai,.int .i64 bi,.int .i64 d] w fun e w'=>∃ v',e=.returned v'∧zB w' 0 v' (Mt.gen l f 0 a b d)∧Below w.heap.size w w'
def S1 (l:List Mt.Tok) (f:Nat):Prop:=∀ (a b:Nat) (ai bi d:Int) (v:Value) (w:World),ai=a→bi=b→toks w v l→a≤66→b≤l.length→4*(70-a)+2≤f→0≤d→d+f≤1000 →
 Calls Tryz.prog 67 #[v,.int .i64 ai,.int .i64 bi,.int .i64 d] w fun e w'=>∃ v',e=.returned v'∧zB w' 0 v' (Mt.gen l f 1 a b d)∧Below w.heap.size w w'
def S2 (l:List Mt.Tok) (f:Nat):Prop:=∀ (a b:Nat) (ai bi d:Int) (v:Value) (w:World),ai=a→bi=b→toks w v l→a<l.length→a<b→b≤l.length+1→4*(70-a)≤f→0≤d→d+f≤1000 →
 Calls Tryz.prog 107 #[v,.int .i64 ai,.int .i64 bi,.int .i64 d] w fun e w'=>∃ v',e=.returned v'∧zB w' 0 v' (Mt.gen l f 2 a b d)∧Below w.heap.size w w'
def S3 (l:List Mt.Tok) (f:Nat):Prop:=∀ (a b:Nat) (ai bi d:Int) (v:Value) (w:World),ai=a→bi=b→toks w v l→a<l.length→a<b→b<l.length→Mt.jZ l b=8→4*(70-a)+1≤f→0≤d→d+f≤1000 →
 Calls Tryz.prog 106 #[v,.int .i64 ai,.int .i64 bi,.int .i64 d] w fun e w'=>∃ v',e=.returned v'∧zB w' 0 v' (Mt.gen l f 3 a b d)∧Below w.heap.size w w'
theorem zDv {l:List Mt.Tok} (hl:Mt.zAv l) (f tag a b:Nat) (d:Int) (h0:0≤d) (h1:d+f≤1000):Mt.fit 70000000 (Mt.gen l f tag a b d) :=
 Mt.yG (Mt.zJj l hl f tag a b d h0 h1) (by omega) (by omega)
theorem zDY (l:List Mt.Tok) (hl:l.length≤64) (ho:Mt.zAv l) (f:Nat) (h0:S0 l f) (h1:S1 l f):S0 l (f+1):=by
 intro a b ai bi d v w hai hbi ht ha hb hf hd0 hd1
 subst hai hbi
 have HT:Hid (toks w v l):=ht
 clear ht
 have hbl:=Mt.zRF l b (b-a) a (Nat.le_refl _)
 have hbg:=Mt.zRG l b (b-a) a (Nat.le_refl _)
 have os:=zDv ho f 1 a (Mt.bar l a b) d hd0 (by omega)
 have or:=zDv ho f 0 (Mt.bar l a b+1) b d hd0 (by omega)
 cases hk:((Mt.bar l a b:Int)==(b:Int))
 ·have hne:¬ Mt.bar l a b=b:=by simp at hk;omega
  have e:Mt.gen l (f+1) 0 a b d=Mt.behind (Mt.behind (Mt.behind (Mt.jM 1 (((Mt.gen l f 1 a (Mt.bar l a b) d).length:Int)+2) false) (Mt.gen l f 1 a (Mt.bar l a b) d)) (Mt.zED (1+((Mt.gen l f 0 (Mt.bar l a b+1) b d).length:Int)))) (Mt.gen l f 0 (Mt.bar l a b+1) b d):=by
   simp only [Mt.gen];rw [if_neg hne]
  rw [e];clear e
  have H1:=fun x:World=>h1 a (Mt.bar l a b) a (Mt.bar l a b) d v x rfl rfl
  have H0:=fun x:World=>h0 (Mt.bar l a b+1) b ((Mt.bar l a b:Int)+1) b d v x (by omega) rfl
  generalize hS:Mt.gen l f 1 a (Mt.bar l a b) d=s at *
  generalize hR:Mt.gen l f 0 (Mt.bar l a b+1) b d=r at *
  clear hS hR h0 h1
  have ls:=os.1
  have lr:=or.1
  have g1:Mt.fit 70000010 (Mt.jM 1 ((s.length:Int)+2) false):=zFa _ _ _ (by omega) (by omega) (by omega)
  have g2:=Mt.yI g1 (Mt.zI os (show (70000000:Int)≤70000010 by omega))
  have g3:Mt.fit 70000310 (Mt.zED (1+(r.length:Int))):=Mt.zA0 (yJ _ _ _ _ (by omega) (by omega)) (by omega)
  have g4:=Mt.yI g2 (Mt.zI g3 (by omega))
  have F0:Hid (Mt.fit 900000000 s):=Mt.zI os (by omega)
  have F1:Hid (Mt.fit 900000000 r):=Mt.zI or (by omega)
  have F2:Hid (Mt.fit 900000000 (Mt.jM 1 ((s.length:Int)+2) false)):=Mt.zI g1 (by omega)
  have F3:Hid (Mt.fit 900000000 (Mt.behind (Mt.jM 1 ((s.length:Int)+2) false) s)):=Mt.zI g2 (by omega)
  have F4:Hid (Mt.fit 900000000 (Mt.zED (1+(r.length:Int)))):=Mt.zI g3 (by omega)
  have F5:Hid (Mt.fit 900000000 (Mt.behind (Mt.behind (Mt.jM 1 ((s.length:Int)+2) false) s) (Mt.zED (1+(r.length:Int))))):=Mt.zI g4 (by omega)
  have K1:Hid (∀ x:World,toks x v l→Calls Tryz.prog 67 #[v,.int .i64 a,.int .i64 (Mt.bar l a b),.int .i64 d] x fun e w'=>∃ v',e=.returned v'∧zB w' 0 v' s∧Below x.heap.size x w'):=fun x hx=>H1 x hx (by omega) (by omega) (by omega) hd0 (by omega)
  have K0:Hid (∀ x:World,toks x v l→Calls Tryz.prog 39 #[v,.int .i64 ((Mt.bar l a b:Int)+1),.int .i64 b,.int .i64 d] x fun e w'=>∃ v',e=.returned v'∧zB w' 0 v' r∧Below x.heap.size x w'):=fun x hx=>H0 x hx (by omega) (by omega) (by omega) hd0 (by omega)
  clear g1 g2 g3 g4 os or H1 H0 hbg hne
  go_enter Tryz.func39,Tryz.ntmps39
  go_wp2_with (first | (go_at_call 66;refine (zMp l _ _ _ _ HT.out hl (by omega) hb).mono ?_;rintro e w' ⟨rfl,rfl⟩) | fail)
  refine (K1.out _ HT.out).mono ?_
  rintro e w1 ⟨v1,rfl,q1,hb1⟩
  have hs1:=hb1.size
  obtain ⟨ao,cap,rfl⟩:=zCp q1
  have Q1:Hid (zB w1 0 (.slice ao s.length cap) s):=q1
  have HT1:Hid (toks w1 v l):=jU HT.out hb1
  clear q1
  go_wp2_with fail
  refine (K0.out _ HT1.out).mono ?_
  rintro e w2 ⟨v2,rfl,q2,hb2⟩
  have hB2:Below w.heap.size w w2:=hb1.trans (hb2.mono hs1)
  have hs2:=hB2.size
  obtain ⟨ao2,cap2,rfl⟩:=zCp q2
  have Q2:Hid (zB w2 0 (.slice ao2 r.length cap2) r):=q2
  have Q1':Hid (zB w2 0 (.slice ao s.length cap) s):=Q1.out.below hb2
  clear q2 hb1 hb2 Q1 HT HT1
  go_wp2_with fail
  refine (zE9 _ _ _ _).mono ?_
  rintro e w3 ⟨v3,rfl,q3,hb3⟩
  have hB3:Below w.heap.size w w3:=hB2.trans (hb3.mono hs2)
  have hs3:=hB3.size
  have Q3:Hid (zB w3 0 v3 (Mt.jM 1 ((s.length:Int)+2) false)):=q3
  have zTi:Hid (zB w3 0 (.slice ao s.length cap) s):=Q1'.out.below hb3
  have Q2':Hid (zB w3 0 (.slice ao2 r.length cap2) r):=Q2.out.below hb3
  clear q3 hb3 Q1' Q2 hB2
  go_wp2_with fail
  refine (kD _ s _ _ _ Q3.out zTi.out F2.out F0.out).mono ?_
  rintro e w4 ⟨v4,rfl,q4,hb4⟩
  have hB4:Below w.heap.size w w4:=hB3.trans (hb4.mono hs3)
  have hs4:=hB4.size
  have Q4:Hid (zB w4 0 v4 (Mt.behind (Mt.jM 1 ((s.length:Int)+2) false) s)):=q4
  have zTj:Hid (zB w4 0 (.slice ao2 r.length cap2) r):=Q2'.out.below hb4
  clear q4 hb4 zTi Q2' hB3 Q3
  go_wp2_with fail
  refine (kD _ (Mt.zED (1+(r.length:Int))) _ _ _ (Q4.out.below (by go_grown)) (zAu w4 _ rfl ⟨3,1+(r.length:Int),0,[]⟩) F3.out F4.out).mono ?_
  rintro e w5 ⟨v5,rfl,q5,hb5⟩
  have zSI:Below w4.heap.size w4 w5:=((Below.refl _ _).alloc (Nat.le_refl _) _).trans (hb5.mono (by simp))
  have hB5:Below w.heap.size w w5:=hB4.trans (zSI.mono hs4)
  have hs5:=hB5.size
  have Q5:Hid (zB w5 0 v5 (Mt.behind (Mt.behind (Mt.jM 1 ((s.length:Int)+2) false) s) (Mt.zED (1+(r.length:Int))))):=q5
  have Q2e:Hid (zB w5 0 (.slice ao2 r.length cap2) r):=zTj.out.below zSI
  clear q5 hb5 zSI zTj Q4 hB4
  go_wp2_with fail
  refine (kD _ r _ _ _ Q5.out Q2e.out F5.out F1.out).mono ?_
  rintro e w6 ⟨v6,rfl,q6,hb6⟩
  have hB6:Below w.heap.size w w6:=hB5.trans (hb6.mono hs5)
  clear hb6 hB5
  go_wp2_with fail
  go_ret
  exact ⟨_,rfl,q6,hB6⟩
 ·have he:Mt.bar l a b=b:=by simp at hk;omega
  have e:Mt.gen l (f+1) 0 a b d=Mt.gen l f 1 a (Mt.bar l a b) d:=by simp only [Mt.gen];rw [if_pos he]
  rw [e];clear e
  have H1:=fun x:World=>h1 a (Mt.bar l a b) a (Mt.bar l a b) d v x rfl rfl
  generalize hS:Mt.gen l f 1 a (Mt.bar l a b) d=s at *
  clear hS h0 h1
  have K1:Hid (∀ x:World,toks x v l→Calls Tryz.prog 67 #[v,.int .i64 a,.int .i64 (Mt.bar l a b),.int .i64 d] x fun e w'=>∃ v',e=.returned v'∧zB w' 0 v' s∧Below x.heap.size x w'):=fun x hx=>H1 x hx (by omega) (by omega) (by omega) hd0 (by omega)
  clear os or H1 hbg he
  go_enter Tryz.func39,Tryz.ntmps39
  go_wp2_with (first | (go_at_call 66;refine (zMp l _ _ _ _ HT.out hl (by omega) hb).mono ?_;rintro e w' ⟨rfl,rfl⟩) | fail)
  refine (K1.out _ HT.out).mono ?_
  rintro e w1 ⟨v1,rfl,q1,hb1⟩
  go_wp2_with fail
  go_ret
  exact ⟨_,rfl,q1,hb1⟩
theorem zOz (A R:Nat→Nat→List Mt.Ins) (l:List Mt.Tok) (b fu k:Nat) (c:List Mt.Ins) (h:k<b):Mt.yH A R l b (fu+1) k c =
  if Mt.after l k<b∧Mt.jZ l (Mt.after l k)=8 then Mt.yH A R l b fu (Mt.after l k+1) (Mt.behind c (R k (Mt.after l k))) else Mt.yH A R l b fu (Mt.after l k) (Mt.behind c (A k (Mt.after l k))):=by
 simp only [Mt.yH];rw [if_neg (by omega)]
theorem zQl (A R:Nat→Nat→List Mt.Ins) (l:List Mt.Tok) (b fu k:Nat) (c:List Mt.Ins) (h:b≤k):Mt.yH A R l b fu k c=c:=by
 cases fu with
 | zero=>rfl
 | succ fu=>simp only [Mt.yH];rw [if_pos h]
theorem zGU (l:List Mt.Tok) (hl:l.length≤64) (ho:Mt.zAv l) (f:Nat) (h2:S2 l f) (h3:S3 l f):S1 l (f+1):=by
 intro a b ai bi d v w hai hbi ht ha hb hf hd0 hd1
 subst hai hbi
 have HT:Hid (toks w v l):=ht
 clear ht
 have oA:=fun i j=>zDv ho f 2 i j d hd0 (by omega)
 have oR:=fun i j=>zDv ho f 3 i j d hd0 (by omega)
 have e:Mt.gen l (f+1) 1 a b d=Mt.yH (fun i j=>Mt.gen l f 2 i j d) (fun i j=>Mt.gen l f 3 i j d) l b (b-a) a []:=by simp only [Mt.gen]
 rw [e];clear e
 have H2:=fun (i j:Nat) (x:World)=>h2 i j i j d v x rfl rfl
 have H3:=fun (i j:Nat) (x:World)=>h3 i j i j d v x rfl rfl
 generalize hA:(fun i j=>Mt.gen l f 2 i j d)=A at *
 generalize hR:(fun i j=>Mt.gen l f 3 i j d)=R at *
 have eA:∀ i j,Mt.gen l f 2 i j d=A i j:=fun i j=>by rw [← hA]
 have eR:∀ i j,Mt.gen l f 3 i j d=R i j:=fun i j=>by rw [← hR]
 clear hA hR h2 h3
 have K2:Hid (∀ (i j:Nat) (x:World),toks x v l→a≤i→i<l.length→i<j→j≤l.length+1→Calls Tryz.prog 107 #[v,.int .i64 i,.int .i64 j,.int .i64 d] x fun e w'=>∃ v',e=.returned v'∧zB w' 0 v' (A i j)∧Below x.heap.size x w'):=fun i j x hx q1 q2 q3 q4=>by
  have:=H2 i j x hx q2 q3 q4 (by omega) hd0 (by omega)
  rw [eA] at this;exact this
 have K3:Hid (∀ (i j:Nat) (x:World),toks x v l→a≤i→i<l.length→i<j→j<l.length→Mt.jZ l j=8→Calls Tryz.prog 106 #[v,.int .i64 i,.int .i64 j,.int .i64 d] x fun e w'=>∃ v',e=.returned v'∧zB w' 0 v' (R i j)∧Below x.heap.size x w'):=fun i j x hx q1 q2 q3 q4 q5=>by
  have:=H3 i j x hx q2 q3 q4 q5 (by omega) hd0 (by omega)
  rw [eR] at this;exact this
 have FA:Hid (∀ i j,Mt.fit 70000000 (A i j)):=fun i j=>by rw [← eA];exact oA i j
 have FR:Hid (∀ i j,Mt.fit 70000000 (R i j)):=fun i j=>by rw [← eR];exact oR i j
 clear oA oR H2 H3 eA eR
 go_enter Tryz.func67,Tryz.ntmps67
 go_wp2_with fail
 go_loopw [9,10] (fun u i wr=>∃ (k fu:Nat) (c:List Mt.Ins),a≤k∧k≤67∧b-k≤fu∧i=.int .i64 k∧zB wr 0 u c∧Mt.fit 70000300 c∧Below w.heap.size w wr∧Mt.yH A R l b (b-a) a []=Mt.yH A R l b fu k c) (fun _ i _=>100-(intOf i).toNat)
 case atStart=>exact ⟨a,b-a,[],Nat.le_refl _,by omega,Nat.le_refl _,rfl,zB.nil _ _,Mt.zAe (by omega),Below.refl _ _,rfl⟩
 case round =>
  obtain ⟨k,fu,c,hak,hk,hfu,rfl,hown,hfc,hbel,hr⟩:=hrel
  have HO:Hid (zB wr 0 u9 c):=hown
  have FC:Hid (Mt.fit 70000300 c):=hfc
  have HTr:Hid (toks wr v l):=jU HT.out hbel
  have hs0:=hbel.size
  clear hown hfc
  by_cases hlt:k<b
  ·obtain ⟨fu',rfl⟩:∃ fu',fu=fu'+1:=⟨fu-1,by omega⟩
   rw [zOz A R l b fu' k c hlt] at hr
   have hag:=Mt.zOv l k
   have hal:=Mt.zOw l k (by omega)
   by_cases hrep:Mt.after l k<b∧Mt.jZ l (Mt.after l k)=8
   ·rw [if_pos hrep] at hr
    have HR:Hid (Mt.yH A R l b (b-a) a []=Mt.yH A R l b fu' (Mt.after l k+1) (Mt.behind c (R k (Mt.after l k)))):=hr
    have hj:=hrep.1
    have h8:Hid (Mt.jZ l (Mt.after l k)=8):=hrep.2
    have G1:Hid (Mt.fit 70000300 (Mt.behind c (R k (Mt.after l k)))):=jK (M:=70000000) FC.out (FR.out _ _)
    have hcell:Hid (∀ g cap,v=.slice (some ⟨g,0,none⟩) l.length cap→True):=fun _ _ _=>trivial
    rcases vT HTr.out with ⟨hn,_⟩ | ⟨hp,g,cap,rfl,hcap,hg,hc⟩
    ·rw [hn] at hb;simp at hb;omega
    ·have hc0:wr.cell? ⟨g,Mt.after l k*7,none⟩=some (.int .i64 8):=by
      have:=hc (Mt.after l k) 0 (by omega) (by omega)
      rw [Nat.add_zero] at this
      rw [this]
      have e8:(l.getD (Mt.after l k) Mt.jA).kind=8:=h8.out
      show some (Value.int .i64 (l.getD (Mt.after l k) Mt.jA).kind)=_
      rw [e8]
     clear hc hr hrep hcell
     go_wp2_with (first | (go_at_call 105;refine (zFc l _ _ _ HTr.out hl (by omega)).mono ?_;rintro e w' ⟨rfl,rfl⟩) | fail)
     refine (K3.out k (Mt.after l k) _ HTr.out hak (by omega) hag (by omega) h8.out).mono ?_
     rintro e w1 ⟨v1,rfl,q1,hb1⟩
     have hB1:Below w.heap.size w w1:=hbel.trans (hb1.mono hs0)
     have hs1:=hB1.size
     have Q1:Hid (zB w1 0 v1 (R k (Mt.after l k))):=q1
     have HO1:Hid (zB w1 0 u9 c):=HO.out.below hb1
     clear q1 hb1 HO hbel hc0
     go_wp2_with fail
     refine (kD c _ _ _ _ HO1.out Q1.out (Mt.zI FC.out (by omega)) (Mt.zI (FR.out _ _) (by omega))).mono ?_
     rintro e w2 ⟨v2,rfl,q2,hb2⟩
     have hB2:Below w.heap.size w w2:=hB1.trans (hb2.mono hs1)
     have Q2:Hid (zB w2 0 v2 (Mt.behind c (R k (Mt.after l k)))):=q2
     clear q2 hb2 HO1 hB1
     go_wp2_with fail
     go_roundw
     case rel=>exact ⟨Mt.after l k+1,fu',_,by omega,by omega,by omega,by go_num,Q2.out,G1.out,hB2,HR.out⟩
     case measure=>simp [intOf];omega
   ·rw [if_neg hrep] at hr
    have HR:Hid (Mt.yH A R l b (b-a) a []=Mt.yH A R l b fu' (Mt.after l k) (Mt.behind c (A k (Mt.after l k)))):=hr
    have G1:Hid (Mt.fit 70000300 (Mt.behind c (A k (Mt.after l k)))):=jK (M:=70000000) FC.out (FA.out _ _)
    by_cases hj:Mt.after l k<b
    ·have h8:¬ Mt.jZ l (Mt.after l k)=8:=fun x=>hrep ⟨hj,x⟩
     rcases vT HTr.out with ⟨hn,_⟩ | ⟨hp,g,cap,rfl,hcap,hg,hc⟩
     ·rw [hn] at hb;simp at hb;omega
     have hc0:wr.cell? ⟨g,Mt.after l k*7,none⟩=some (.int .i64 (Mt.jZ l (Mt.after l k))):=hc (Mt.after l k) 0 (by omega) (by omega)
     have h8':(Mt.jZ l (Mt.after l k)==8)=false:=by simpa using h8
     clear hc hr hrep h8
     go_wp2_with (first | (go_at_call 105;refine (zFc l _ _ _ HTr.out hl (by omega)).mono ?_;rintro e w' ⟨rfl,rfl⟩) | fail)
     refine (K2.out k (Mt.after l k) _ HTr.out hak (by omega) hag (by omega)).mono ?_
     rintro e w1 ⟨v1,rfl,q1,hb1⟩
     have hB1:Below w.heap.size w w1:=hbel.trans (hb1.mono hs0)
     have hs1:=hB1.size
     have Q1:Hid (zB w1 0 v1 (A k (Mt.after l k))):=q1
     have HO1:Hid (zB w1 0 u9 c):=HO.out.below hb1
     clear q1 hb1 HO hbel
     go_wp2_with fail
     refine (kD c _ _ _ _ HO1.out Q1.out (Mt.zI FC.out (by omega)) (Mt.zI (FA.out _ _) (by omega))).mono ?_
     rintro e w2 ⟨v2,rfl,q2,hb2⟩
     have hB2:Below w.heap.size w w2:=hB1.trans (hb2.mono hs1)
     have Q2:Hid (zB w2 0 v2 (Mt.behind c (A k (Mt.after l k)))):=q2
     clear q2 hb2 HO1 hB1
     go_wp2_with fail
     go_roundw
     case rel=>exact ⟨Mt.after l k,fu',_,by omega,by omega,by omega,by go_num,Q2.out,G1.out,hB2,HR.out⟩
     case measure=>simp [intOf];omega
    ·clear hr hrep
     go_wp2_with (first | (go_at_call 105;refine (zFc l _ _ _ HTr.out hl (by omega)).mono ?_;rintro e w' ⟨rfl,rfl⟩) | fail)
     refine (K2.out k (Mt.after l k) _ HTr.out hak (by omega) hag (by omega)).mono ?_
     rintro e w1 ⟨v1,rfl,q1,hb1⟩
     have hB1:Below w.heap.size w w1:=hbel.trans (hb1.mono hs0)
     have hs1:=hB1.size
     have Q1:Hid (zB w1 0 v1 (A k (Mt.after l k))):=q1
     have HO1:Hid (zB w1 0 u9 c):=HO.out.below hb1
     clear q1 hb1 HO hbel
     go_wp2_with fail
     refine (kD c _ _ _ _ HO1.out Q1.out (Mt.zI FC.out (by omega)) (Mt.zI (FA.out _ _) (by omega))).mono ?_
     rintro e w2 ⟨v2,rfl,q2,hb2⟩
     have hB2:Below w.heap.size w w2:=hB1.trans (hb2.mono hs1)
     have Q2:Hid (zB w2 0 v2 (Mt.behind c (A k (Mt.after l k)))):=q2
     clear q2 hb2 HO1 hB1
     go_wp2_with fail
     go_roundw
     case rel=>exact ⟨Mt.after l k,fu',_,by omega,by omega,by omega,by go_num,Q2.out,G1.out,hB2,HR.out⟩
     case measure=>simp [intOf];omega
  ·have HR:Hid (Mt.yH A R l b (b-a) a []=c):=hr.trans (zQl A R l b fu k c (by omega))
   clear hr
   go_wp2_with fail
   go_ret
   exact ⟨_,rfl,by rw [HR.out];exact HO.out,hbel⟩
theorem zP3 {w:World} {v:Value} {l:List Mt.Tok} (h:toks w v l) {i:Nat} (hi:i<l.length):∃ g cap,v=.slice (some ⟨g,0,none⟩) l.length cap∧l.length≤cap∧g<w.heap.size ∧
  w.cell? ⟨g,i*7,none⟩=some (.int .i64 (l.getD i Mt.jA).kind)∧w.cell? ⟨g,i*7+1,none⟩=some (.int .i64 (l.getD i Mt.jA).frm)∧w.cell? ⟨g,i*7+2,none⟩=some (.int .i64 (l.getD i Mt.jA).to) ∧
  w.cell? ⟨g,i*7+3,none⟩=some (.int .i64 (l.getD i Mt.jA).n)∧w.cell? ⟨g,i*7+4,none⟩=some (.int .i64 (l.getD i Mt.jA).m)∧w.cell? ⟨g,i*7+5,none⟩=some (.int .i64 (l.getD i Mt.jA).how) ∧
  w.cell? ⟨g,i*7+6,none⟩=some (.string ⟨(l.getD i Mt.jA).set.toArray⟩):=by
 rcases vT h with ⟨rfl,_⟩ | ⟨hp,g,cap,rfl,hcap,hg,hc⟩
 ·simp at hi
 ·exact ⟨g,cap,rfl,hcap,hg,hc i 0 hi (by omega),hc i 1 hi (by omega),hc i 2 hi (by omega),hc i 3 hi (by omega),hc i 4 hi (by omega),hc i 5 hi (by omega),hc i 6 hi (by omega)⟩
def zRL (t:Mt.Tok) (s:List Mt.Ins):List Mt.Ins :=
 if t.kind=1 then [⟨1,0,0,t.set⟩]
 else if t.kind=2 then [⟨8,t.n,0,[]⟩]
 else if t.kind=3 then [⟨9,0,0,[]⟩]
 else if t.kind=4 then [⟨10,0,0,[]⟩]
 else if t.how=3 then s
 else if t.how=4 then Mt.behind (Mt.behind [⟨6,t.n,0,[]⟩] s) [⟨7,t.n,0,[]⟩]
 else Mt.alone t.how s
theorem zOA (l:List Mt.Tok) (f a b:Nat) (d:Int):Mt.gen l (f+1) 2 a b d=zRL (l.getD a Mt.jA) (Mt.gen l f 0 (a+1) (b-1) d):=by
 simp only [Mt.gen];rfl
theorem zK7 (l:List Mt.Tok) (f a b:Nat) (d:Int) :
  (((l.getD a Mt.jA).kind==1)=true∧Mt.gen l (f+1) 2 a b d=[⟨1,0,0,(l.getD a Mt.jA).set⟩]) ∨
  (((l.getD a Mt.jA).kind==1)=false∧((l.getD a Mt.jA).kind==2)=true∧Mt.gen l (f+1) 2 a b d=[⟨8,(l.getD a Mt.jA).n,0,[]⟩]) ∨
  (((l.getD a Mt.jA).kind==1)=false∧((l.getD a Mt.jA).kind==2)=false∧((l.getD a Mt.jA).kind==3)=true∧Mt.gen l (f+1) 2 a b d=[⟨9,0,0,[]⟩]) ∨
  (((l.getD a Mt.jA).kind==1)=false∧((l.getD a Mt.jA).kind==2)=false∧((l.getD a Mt.jA).kind==3)=false∧((l.getD a Mt.jA).kind==4)=true∧Mt.gen l (f+1) 2 a b d=[⟨10,0,0,[]⟩]) ∨
  ((
   (l.getD a Mt.jA).kind==1)=false∧((l.getD a Mt.jA).kind==2)=false∧((l.getD a Mt.jA).kind==3)=false∧((l.getD a Mt.jA).kind==4)=false ∧
   (
   (((l.getD a Mt.jA).how==3)=true∧Mt.gen l (f+1) 2 a b d=Mt.gen l f 0 (a+1) (b-1) d) ∨
   (((l.getD a Mt.jA).how==3)=false∧((l.getD a Mt.jA).how==4)=true∧Mt.gen l (f+1) 2 a b d=Mt.behind (Mt.behind [⟨6,(l.getD a Mt.jA).n,0,[]⟩] (Mt.gen l f 0 (a+1) (b-1) d)) [⟨7,(l.getD a Mt.jA).n,0,[]⟩]) ∨
   (((l.getD a Mt.jA).how==3)=false∧((l.getD a Mt.jA).how==4)=false∧Mt.gen l (f+1) 2 a b d=Mt.alone (l.getD a Mt.jA).how (Mt.gen l f 0 (a+1) (b-1) d)))):=by
 rw [zOA]
 generalize l.getD a Mt.jA=t
 generalize Mt.gen l f 0 (a+1) (b-1) d=s
 unfold zRL
 simp only [beq_iff_eq,beq_eq_false_iff_ne]
 by_cases h1:t.kind=1
 ·rw [if_pos h1];simp [h1]
 rw [if_neg h1]
 by_cases h2:t.kind=2
 ·rw [if_pos h2];simp [h2]
 rw [if_neg h2]
 by_cases h3:t.kind=3
 ·rw [if_pos h3];simp [h3]
 rw [if_neg h3]
 by_cases h4:t.kind=4
 ·rw [if_pos h4];simp [h4]
 rw [if_neg h4]
 by_cases h5:t.how=3
 ·rw [if_pos h5];simp [h1,h2,h3,h4,h5]
 rw [if_neg h5]
 by_cases h6:t.how=4
 ·rw [if_pos h6];simp [h1,h2,h3,h4,h6]
 rw [if_neg h6];simp [h1,h2,h3,h4,h5,h6]
theorem zMr (l:List Mt.Tok) (hl:l.length≤64) (ho:Mt.zAv l) (f:Nat) (h0:S0 l f):S2 l (f+1):=by
 intro a b ai bi d v w hai hbi ht ha hab hb hf hd0 hd1
 subst hai hbi
 have HT:Hid (toks w v l):=ht
 have os:=zDv ho f 0 (a+1) (b-1) d hd0 (by omega)
 have tk:=Mt.zEO ho a
 have H0:=fun x:World=>h0 (a+1) (b-1) ((a:Int)+1) ((b:Int)-1) d v x (by omega) (by omega)
 have hcs:=zK7 l f a b d
 obtain ⟨g,cap,rfl,hcap,hg,c0,c1,c2,c3,c4,c5,c6⟩:=zP3 ht ha
 generalize hS:Mt.gen l f 0 (a+1) (b-1) d=s at *
 generalize hT:l.getD a Mt.jA=t at *
 generalize Mt.gen l (f+1) 2 a b d=G at *
 obtain ⟨t1,t2,t3,t4,t5,t6,t7⟩:=tk
 have ls:=os.1
 have K0:Hid (∀ x:World,toks x (.slice (some ⟨g,0,none⟩) l.length cap) l→Calls Tryz.prog 39 #[.slice (some ⟨g,0,none⟩) l.length cap,.int .i64 ((a:Int)+1),.int .i64 ((b:Int)-1),.int .i64 d] x fun e w'=>∃ v',e=.returned v'∧zB w' 0 v' s∧Below x.heap.size x w'):=fun x hx=>H0 x hx (by omega) (by omega) (by omega) hd0 (by omega)
 have FS:Hid (Mt.fit 70000000 s):=os
 clear hS hT H0 h0 ht os t7
 rcases hcs with ⟨a1,e⟩ | ⟨a1,a2,e⟩ | ⟨a1,a2,a3,e⟩ | ⟨a1,a2,a3,a4,e⟩ | ⟨a1,a2,a3,a4,⟨a5,e⟩ | ⟨a5,a6,e⟩ | ⟨a5,a6,e⟩⟩
 ·rw [e];clear e
  go_enter Tryz.func107,Tryz.ntmps107
  go_wp2_with fail
  go_ret
  exact ⟨_,rfl,zAu _ _ (by simp) ⟨1,0,0,t.set⟩,by go_grown⟩
 ·rw [e];clear e
  go_enter Tryz.func107,Tryz.ntmps107
  go_wp2_with fail
  go_ret
  exact ⟨_,rfl,zAu _ _ (by simp) ⟨8,t.n,0,[]⟩,by go_grown⟩
 ·rw [e];clear e
  go_enter Tryz.func107,Tryz.ntmps107
  go_wp2_with fail
  go_ret
  exact ⟨_,rfl,zAu _ _ (by simp) ⟨9,0,0,[]⟩,by go_grown⟩
 ·rw [e];clear e
  go_enter Tryz.func107,Tryz.ntmps107
  go_wp2_with fail
  go_ret
  exact ⟨_,rfl,zAu _ _ (by simp) ⟨10,0,0,[]⟩,by go_grown⟩
 ·rw [e];clear e
  go_enter Tryz.func107,Tryz.ntmps107
  go_wp2_with fail
  refine (K0.out _ (HT.out.alloc _)).mono ?_
  rintro e w1 ⟨v1,rfl,q1,hb1⟩
  obtain ⟨r0,r1,r2,r3⟩:=xR hb1
  clear hb1 c0 c1 c2 c3 c4 c5 c6
  go_wp2_with fail
  go_ret
  exact ⟨_,rfl,q1,r3⟩
 ·rw [e];clear e
  have g1:Mt.fit 70000010 [(⟨6,t.n,0,[]⟩:Mt.Ins)]:=Mt.zA0 (yJ _ _ _ _ (by omega) (by omega)) (by omega)
  have g2:=Mt.yI g1 (Mt.zI FS.out (show (70000000:Int)≤70000010 by omega))
  have F1:Hid (Mt.fit 900000000 [(⟨6,t.n,0,[]⟩:Mt.Ins)]):=Mt.zI g1 (by omega)
  have F2:Hid (Mt.fit 900000000 (Mt.behind [(⟨6,t.n,0,[]⟩:Mt.Ins)] s)):=Mt.zI g2 (by omega)
  have F3:Hid (Mt.fit 900000000 [(⟨7,t.n,0,[]⟩:Mt.Ins)]):=Mt.zA0 (yJ _ _ _ _ (by omega) (by omega)) (by omega)
  clear g1 g2
  go_enter Tryz.func107,Tryz.ntmps107
  go_wp2_with fail
  refine (K0.out _ (HT.out.alloc _)).mono ?_
  rintro e w1 ⟨v1,rfl,q1,hb1⟩
  obtain ⟨r0,r1,r2,r3⟩:=xR hb1
  have hs1:=r3.size
  have Q1:Hid (zB w1 0 v1 s):=q1
  clear hb1 c0 c1 c2 c3 c4 c5 c6 q1
  go_wp2_with fail
  refine (kD [⟨6,t.n,0,[]⟩] s _ _ _ (zAu w1 _ rfl _) (Q1.out.below (by go_grown)) F1.out (Mt.zI FS.out (by omega))).mono ?_
  rintro e w2 ⟨v2,rfl,q2,hb2⟩
  have zOl:Below w1.heap.size w1 w2:=((Below.refl _ _).alloc (Nat.le_refl _) _).trans (hb2.mono (by simp))
  have hB2:Below w.heap.size w w2:=r3.trans (zOl.mono hs1)
  have hs2:=hB2.size
  have Q2:Hid (zB w2 0 v2 (Mt.behind [(⟨6,t.n,0,[]⟩:Mt.Ins)] s)):=q2
  have s0:=fun o=>(zOl.cell (p:=⟨w.heap.size,o,none⟩) r2).trans (r0 o)
  clear q2 hb2 zOl Q1 r3 r0 r1
  go_wp2_with fail
  refine (kD _ [⟨7,t.n,0,[]⟩] _ _ _ (Q2.out.below (by go_grown)) (zAu w2 _ rfl _) F2.out F3.out).mono ?_
  rintro e w3 ⟨v3,rfl,q3,hb3⟩
  have hB3:Below w.heap.size w w3:=(hB2.alloc hs2 _).trans (hb3.mono (by simp;omega))
  clear hb3 s0 hB2
  go_wp2_with fail
  go_ret
  exact ⟨_,rfl,q3,hB3⟩
 ·rw [e];clear e
  go_enter Tryz.func107,Tryz.ntmps107
  go_wp2_with fail
  refine (K0.out _ (HT.out.alloc _)).mono ?_
  rintro e w1 ⟨v1,rfl,q1,hb1⟩
  obtain ⟨r0,r1,r2,r3⟩:=xR hb1
  have hs1:=r3.size
  have Q1:Hid (zB w1 0 v1 s):=q1
  clear hb1 c0 c1 c2 c3 c4 c5 c6 q1
  go_wp2_with fail
  refine (zBe t.how s _ _ Q1.out (Mt.zI FS.out (by omega)) (by omega) (by omega)).mono ?_
  rintro e w2 ⟨v2,rfl,q2,hb2⟩
  have hB2:Below w.heap.size w w2:=r3.trans (hb2.mono hs1)
  clear hb2 r0 r1 r3
  go_wp2_with fail
  go_ret
  exact ⟨_,rfl,q2,hB2⟩
end Go.Proofs.YtebpgfodelggoabGreat
