import Derived.Test.YtebpgfodelggoabGreatKC02
import Derived.Test.YtebpgfodelggoabGreatKC03
set_option linter.unusedVariables false
set_option linter.unusedSimpArgs false
set_option maxRecDepth 100000
set_option maxHeartbeats 2000000
namespace Go.Proofs.YtebpgfodelggoabGreat
open Go.RowKit
def S0(l:List Mt.zTD)(f:Nat):Prop:=∀(a b:Nat) (ai bi d:Int) (v:Value) (w:World),ai=a->bi=b->vN w v l->a<=66->b<=l.length->4*(70-a)+3<=f->0<=d->d+f<=1000 ->
 Calls Tryz.prog 39 #[v,.int .i64 ai,.int .i64 bi,.int .i64 d] w λe w'=>∃v',e=.returned v'/\zF w' 0 v' (Mt.gen l f 0 a b d)/\Below w.heap.size w w'
def S1(l:List Mt.zTD)(f:Nat):Prop:=∀(a b:Nat) (ai bi d:Int) (v:Value) (w:World),ai=a->bi=b->vN w v l->a<=66->b<=l.length->4*(70-a)+2<=f->0<=d->d+f<=1000 ->
 Calls Tryz.prog 67 #[v,.int .i64 ai,.int .i64 bi,.int .i64 d] w λe w'=>∃v',e=.returned v'/\zF w' 0 v' (Mt.gen l f 1 a b d)/\Below w.heap.size w w'
def S2(l:List Mt.zTD)(f:Nat):Prop:=∀(a b:Nat) (ai bi d:Int) (v:Value) (w:World),ai=a->bi=b->vN w v l->a<l.length->a<b->b<=l.length+1->4*(70-a)<=f->0<=d->d+f<=1000 ->
 Calls Tryz.prog 107 #[v,.int .i64 ai,.int .i64 bi,.int .i64 d] w λe w'=>∃v',e=.returned v'/\zF w' 0 v' (Mt.gen l f 2 a b d)/\Below w.heap.size w w'
def S3(l:List Mt.zTD)(f:Nat):Prop:=∀(a b:Nat) (ai bi d:Int) (v:Value) (w:World),ai=a->bi=b->vN w v l->a<l.length->a<b->b<l.length->Mt.yF l b=8->4*(70-a)+1<=f->0<=d->d+f<=1000 ->
 Calls Tryz.prog 106 #[v,.int .i64 ai,.int .i64 bi,.int .i64 d] w λe w'=>∃v',e=.returned v'/\zF w' 0 v' (Mt.gen l f 3 a b d)/\Below w.heap.size w w'
theorem zBE{l:List Mt.zTD}(hl:Mt.bM l)(f tag a b:Nat)(d:Int)(h0:0<=d)(h1:d+f<=1000):Mt.fit 70000000 (Mt.gen l f tag a b d) :=
 Mt.vV (Mt.zHL l hl f tag a b d h0 h1) (by omega) (by omega)
theorem zB8(l:List Mt.zTD)(hl:l.length<=64)(ho:Mt.bM l)(f:Nat)(h0:S0 l f)(h1:S1 l f):S0 l (f+1):=by
 intro a b ai bi d v w hai hbi ht ha hb hf hd0 hd1;subst hai hbi;have HT:Hid (vN w v l):=ht;clear ht;have hbl:=Mt.zQe l b (b-a) a (lG _);have hbg:=Mt.zQf l b (b-a) a (lG _);have os:=zBE ho f 1 a (Mt.bar l a b) d hd0 (by omega);have or:=zBE ho f 0 (Mt.bar l a b+1) b d hd0 (by omega);cases hk:((Mt.bar l a b:Int)==(b:Int))
 ·have hne:¬Mt.bar l a b=b:=by simp at hk;omega
  have e:Mt.gen l (f+1) 0 a b d=Mt.zO (Mt.zO (Mt.zO (Mt.qR 1 (((Mt.gen l f 1 a (Mt.bar l a b) d).length:Int)+2) false) (Mt.gen l f 1 a (Mt.bar l a b) d)) (Mt.zCP (1+((Mt.gen l f 0 (Mt.bar l a b+1) b d).length:Int)))) (Mt.gen l f 0 (Mt.bar l a b+1) b d):=by
   simp only[Mt.gen];rw[if_neg hne]
  rw[e];clear e;have H1:=λx:World=>h1 a (Mt.bar l a b) a (Mt.bar l a b) d v x rfl rfl
  have H0:=λx:World=>h0 (Mt.bar l a b+1) b ((Mt.bar l a b:Int)+1) b d v x (by omega) rfl
  generalize hS:Mt.gen l f 1 a (Mt.bar l a b) d=s at *;generalize hR:Mt.gen l f 0 (Mt.bar l a b+1) b d=r at *;clear hS hR h0 h1;have ls:=os.1;have lr:=or.1;have g1:Mt.fit 70000010 (Mt.qR 1 ((s.length:Int)+2) false):=zDo _ _ _ (by omega) (by omega) (by omega);have g2:=Mt.vY g1 (Mt.zR os (show(70000000:Int)<=70000010 by omega));have g3:Mt.fit 70000310 (Mt.zCP (1+(r.length:Int))):=Mt.mU (vZ _ _ _ _ (by omega) (by omega)) (by omega);have g4:=Mt.vY g2 (Mt.zR g3 (by omega));have F0:Hid (Mt.fit 900000000 s):=Mt.zR os (by omega);have F1:Hid (Mt.fit 900000000 r):=Mt.zR or (by omega);have F2:Hid (Mt.fit 900000000 (Mt.qR 1 ((s.length:Int)+2) false)):=Mt.zR g1 (by omega);have F3:Hid (Mt.fit 900000000 (Mt.zO (Mt.qR 1 ((s.length:Int)+2) false) s)):=Mt.zR g2 (by omega);have F4:Hid (Mt.fit 900000000 (Mt.zCP (1+(r.length:Int)))):=Mt.zR g3 (by omega);have F5:Hid (Mt.fit 900000000 (Mt.zO (Mt.zO (Mt.qR 1 ((s.length:Int)+2) false) s) (Mt.zCP (1+(r.length:Int))))):=Mt.zR g4 (by omega);have K1:Hid (∀x:World,vN x v l->Calls Tryz.prog 67 #[v,.int .i64 a,.int .i64 (Mt.bar l a b),.int .i64 d] x λe w'=>∃v',e=.returned v'/\zF w' 0 v' s/\Below x.heap.size x w'):=λx hx=>H1 x hx (by omega) (by omega) (by omega) hd0 (by omega)
  have K0:Hid (∀x:World,vN x v l->Calls Tryz.prog 39 #[v,.int .i64 ((Mt.bar l a b:Int)+1),.int .i64 b,.int .i64 d] x λe w'=>∃v',e=.returned v'/\zF w' 0 v' r/\Below x.heap.size x w'):=λx hx=>H0 x hx (by omega) (by omega) (by omega) hd0 (by omega)
  clear g1 g2 g3 g4 os or H1 H0 hbg hne;go_enter Tryz.func39,Tryz.ntmps39
  go_wp2_with (first|(go_at_call 66;refine(zKZ l _ _ _ _ HT.out hl (by omega) hb).mono ?_;rintro e w' ⟨rfl,rfl⟩) | fail)
  refine(K1.out _ HT.out).mono ?_;rintro e w1 ⟨v1,rfl,q1,zTH⟩;have hs1:=zTH.size;obtain⟨ao,cap,rfl⟩:=wT q1;have Q1:Hid (zF w1 0 (.slice ao s.length cap) s):=q1;have HT1:Hid (vN w1 v l):=yA HT.out zTH;clear q1;go_wp2_with fail
  refine(K0.out _ HT1.out).mono ?_;rintro e w2 ⟨v2,rfl,q2,zTK⟩;have hB2:Below w.heap.size w w2:=zTH.trans (zTK.mono hs1);have hs2:=hB2.size;obtain⟨ao2,cap2,rfl⟩:=wT q2;have Q2:Hid (zF w2 0 (.slice ao2 r.length cap2) r):=q2;have Q1':Hid (zF w2 0 (.slice ao s.length cap) s):=Q1.out.below zTK;clear q2 zTH zTK Q1 HT HT1;go_wp2_with fail
  refine(zDn _ _ _ _).mono ?_;rintro e w3 ⟨v3,rfl,q3,zTL⟩;have hB3:Below w.heap.size w w3:=hB2.trans (zTL.mono hs2);have hs3:=hB3.size;have Q3:Hid (zF w3 0 v3 (Mt.qR 1 ((s.length:Int)+2) false)):=q3;have zRM:Hid (zF w3 0 (.slice ao s.length cap) s):=Q1'.out.below zTL;have Q2':Hid (zF w3 0 (.slice ao2 r.length cap2) r):=Q2.out.below zTL;clear q3 zTL Q1' Q2 hB2;go_wp2_with fail
  refine(jA _ s _ _ _ Q3.out zRM.out F2.out F0.out).mono ?_;rintro e w4 ⟨v4,rfl,q4,hb4⟩;have hB4:Below w.heap.size w w4:=hB3.trans (hb4.mono hs3);have hs4:=hB4.size;have Q4:Hid (zF w4 0 v4 (Mt.zO (Mt.qR 1 ((s.length:Int)+2) false) s)):=q4;have zRN:Hid (zF w4 0 (.slice ao2 r.length cap2) r):=Q2'.out.below hb4;clear q4 hb4 zRM Q2' hB3 Q3;go_wp2_with fail
  refine(jA _ (Mt.zCP (1+(r.length:Int))) _ _ _ (Q4.out.below (by go_grown)) (bL w4 _ rfl ⟨3,1+(r.length:Int),0,[]⟩) F3.out F4.out).mono ?_;rintro e w5 ⟨v5,rfl,q5,hb5⟩;have zRd:Below w4.heap.size w4 w5:=((Below.refl _ _).alloc (lG _) _).trans (hb5.mono (by simp));have hB5:Below w.heap.size w w5:=hB4.trans (zRd.mono hs4);have hs5:=hB5.size;have Q5:Hid (zF w5 0 v5 (Mt.zO (Mt.zO (Mt.qR 1 ((s.length:Int)+2) false) s) (Mt.zCP (1+(r.length:Int))))):=q5;have Q2e:Hid (zF w5 0 (.slice ao2 r.length cap2) r):=zRN.out.below zRd;clear q5 hb5 zRd zRN Q4 hB4;go_wp2_with fail
  refine(jA _ r _ _ _ Q5.out Q2e.out F5.out F1.out).mono ?_;rintro e w6 ⟨v6,rfl,q6,hb6⟩;have hB6:Below w.heap.size w w6:=hB5.trans (hb6.mono hs5);clear hb6 hB5;go_wp2_with fail
  go_ret;exact⟨_,rfl,q6,hB6⟩
 ·have he:Mt.bar l a b=b:=by simp at hk;omega
  have e:Mt.gen l (f+1) 0 a b d=Mt.gen l f 1 a (Mt.bar l a b) d:=by simp only[Mt.gen];rw[if_pos he]
  rw[e];clear e;have H1:=λx:World=>h1 a (Mt.bar l a b) a (Mt.bar l a b) d v x rfl rfl
  generalize hS:Mt.gen l f 1 a (Mt.bar l a b) d=s at *;clear hS h0 h1;have K1:Hid (∀x:World,vN x v l->Calls Tryz.prog 67 #[v,.int .i64 a,.int .i64 (Mt.bar l a b),.int .i64 d] x λe w'=>∃v',e=.returned v'/\zF w' 0 v' s/\Below x.heap.size x w'):=λx hx=>H1 x hx (by omega) (by omega) (by omega) hd0 (by omega)
  clear os or H1 hbg he;go_enter Tryz.func39,Tryz.ntmps39
  go_wp2_with (first|(go_at_call 66;refine(zKZ l _ _ _ _ HT.out hl (by omega) hb).mono ?_;rintro e w' ⟨rfl,rfl⟩) | fail)
  refine(K1.out _ HT.out).mono ?_;rintro e w1 ⟨v1,rfl,q1,zTH⟩;go_wp2_with fail
  go_ret;exact⟨_,rfl,q1,zTH⟩
theorem zNb(A R:Nat->Nat->List Mt.zTG)(l:List Mt.zTD)(b fu k:Nat)(c:List Mt.zTG)(h:k<b):Mt.vW A R l b (fu+1) k c =
  if Mt.after l k<b/\Mt.yF l (Mt.after l k)=8 then Mt.vW A R l b fu (Mt.after l k+1) (Mt.zO c (R k (Mt.after l k)))else Mt.vW A R l b fu (Mt.after l k) (Mt.zO c (A k (Mt.after l k))):=by
 simp only[Mt.vW];rw[if_neg (by omega)]
theorem zOY(A R:Nat->Nat->List Mt.zTG)(l:List Mt.zTD)(b fu k:Nat)(c:List Mt.zTG)(h:b<=k):Mt.vW A R l b fu k c=c:=by
 cases fu with
 | zero=>rfl
 | succ fu=>simp only[Mt.vW];rw[if_pos h]
theorem zFa(l:List Mt.zTD)(hl:l.length<=64)(ho:Mt.bM l)(f:Nat)(h2:S2 l f)(h3:S3 l f):S1 l (f+1):=by
 intro a b ai bi d v w hai hbi ht ha hb hf hd0 hd1;subst hai hbi;have HT:Hid (vN w v l):=ht;clear ht;have oA:=λi j=>zBE ho f 2 i j d hd0 (by omega)
 have oR:=λi j=>zBE ho f 3 i j d hd0 (by omega)
 have e:Mt.gen l (f+1) 1 a b d=Mt.vW (λi j=>Mt.gen l f 2 i j d) (λi j=>Mt.gen l f 3 i j d) l b (b-a) a []:=by simp only[Mt.gen]
 rw[e];clear e;have H2:=λ(i j:Nat) (x:World)=>h2 i j i j d v x rfl rfl
 have H3:=λ(i j:Nat) (x:World)=>h3 i j i j d v x rfl rfl
 generalize hA:(λi j=>Mt.gen l f 2 i j d)=A at *;generalize hR:(λi j=>Mt.gen l f 3 i j d)=R at *;have eA:∀i j,Mt.gen l f 2 i j d=A i j:=λi j=>by rw[<-hA]
 have eR:∀i j,Mt.gen l f 3 i j d=R i j:=λi j=>by rw[<-hR]
 clear hA hR h2 h3
 have K2:Hid (∀(i j:Nat) (x:World),vN x v l->a<=i->i<l.length->i<j->j<=l.length+1->Calls Tryz.prog 107 #[v,.int .i64 i,.int .i64 j,.int .i64 d] x λe w'=>∃v',e=.returned v'/\zF w' 0 v' (A i j)/\Below x.heap.size x w'):=λi j x hx q1 q2 q3 q4=>by
  have:=H2 i j x hx q2 q3 q4 (by omega) hd0 (by omega);rw[eA]at this;exact this
 have K3:Hid (∀(i j:Nat) (x:World),vN x v l->a<=i->i<l.length->i<j->j<l.length->Mt.yF l j=8->Calls Tryz.prog 106 #[v,.int .i64 i,.int .i64 j,.int .i64 d] x λe w'=>∃v',e=.returned v'/\zF w' 0 v' (R i j)/\Below x.heap.size x w'):=λi j x hx q1 q2 q3 q4 q5=>by
  have:=H3 i j x hx q2 q3 q4 q5 (by omega) hd0 (by omega);rw[eR]at this;exact this
 have FA:Hid (∀i j,Mt.fit 70000000 (A i j)):=λi j=>by rw[<-eA];exact oA i j
 have FR:Hid (∀i j,Mt.fit 70000000 (R i j)):=λi j=>by rw[<-eR];exact oR i j
 clear oA oR H2 H3 eA eR;go_enter Tryz.func67,Tryz.ntmps67
 go_wp2_with fail
 go_loopw [9,10] (λu i wr=>∃(k fu:Nat) (c:List Mt.zTG),a<=k/\k<=67/\b-k<=fu/\i=.int .i64 k/\zF wr 0 u c/\Mt.fit 70000300 c/\Below w.heap.size w wr/\Mt.vW A R l b (b-a) a []=Mt.vW A R l b fu k c) (λ_ i _=>100-(intOf i).toNat)
 case atStart=>exact⟨a,b-a,[],lG _,by omega,lG _,rfl,zF.nil _ _,Mt.fO (by omega),Below.refl _ _,rfl⟩
 case round =>
  obtain⟨k,fu,c,hak,hk,hfu,rfl,jS,hfc,qV,hr⟩:=hrel;have HO:Hid (zF wr 0 u9 c):=jS;have FC:Hid (Mt.fit 70000300 c):=hfc;have HTr:Hid (vN wr v l):=yA HT.out qV;have hs0:=qV.size;clear jS hfc;by_cases zTI:k<b
  ·obtain⟨fu',rfl⟩:∃fu',fu=fu'+1:=⟨fu-1,by omega⟩
   rw[zNb A R l b fu' k c zTI]at hr;have hag:=Mt.zM7 l k;have hal:=Mt.zM8 l k (by omega);by_cases hrep:Mt.after l k<b/\Mt.yF l (Mt.after l k)=8
   ·rw[if_pos hrep]at hr;have HR:Hid (Mt.vW A R l b (b-a) a []=Mt.vW A R l b fu' (Mt.after l k+1) (Mt.zO c (R k (Mt.after l k)))):=hr;have hj:=hrep.1;have h8:Hid (Mt.yF l (Mt.after l k)=8):=hrep.2;have G1:Hid (Mt.fit 70000300 (Mt.zO c (R k (Mt.after l k)))):=qN (M:=70000000) FC.out (FR.out _ _);have hcell:Hid (∀g cap,v=.slice (some ⟨g,0,none⟩) l.length cap->True):=λ_ _ _=>trivial
    rcases dA HTr.out with ⟨hn,_⟩ | ⟨hp,g,cap,rfl,hcap,hg,hc⟩
    ·rw[hn]at hb;simp at hb;omega
    ·have hc0:wr.cell? ⟨g,Mt.after l k*7,none⟩=some (.int .i64 8):=by
      have:=hc (Mt.after l k) 0 (by omega) (by omega);rw[Nat.add_zero]at this;rw[this];have e8:(l.getD (Mt.after l k) Mt.jZ).kind=8:=h8.out;show some (Value.int .i64 (l.getD (Mt.after l k) Mt.jZ).kind)=_;rw[e8]
     clear hc hr hrep hcell;go_wp2_with (first|(go_at_call 105;refine(zDq l _ _ _ HTr.out hl (by omega)).mono ?_;rintro e w' ⟨rfl,rfl⟩) | fail)
     refine(K3.out k (Mt.after l k) _ HTr.out hak (by omega) hag (by omega) h8.out).mono ?_;rintro e w1 ⟨v1,rfl,q1,zTH⟩;have hB1:Below w.heap.size w w1:=qV.trans (zTH.mono hs0);have hs1:=hB1.size;have Q1:Hid (zF w1 0 v1 (R k (Mt.after l k))):=q1;have HO1:Hid (zF w1 0 u9 c):=HO.out.below zTH;clear q1 zTH HO qV hc0;go_wp2_with fail
     refine(jA c _ _ _ _ HO1.out Q1.out (Mt.zR FC.out (by omega)) (Mt.zR (FR.out _ _) (by omega))).mono ?_;rintro e w2 ⟨v2,rfl,q2,zTK⟩;have hB2:Below w.heap.size w w2:=hB1.trans (zTK.mono hs1);have Q2:Hid (zF w2 0 v2 (Mt.zO c (R k (Mt.after l k)))):=q2;clear q2 zTK HO1 hB1;go_wp2_with fail
     go_roundw
     case rel=>exact⟨Mt.after l k+1,fu',_,by omega,by omega,by omega,by go_num,Q2.out,G1.out,hB2,HR.out⟩
     case measure=>simp[intOf];omega
   ·rw[if_neg hrep]at hr;have HR:Hid (Mt.vW A R l b (b-a) a []=Mt.vW A R l b fu' (Mt.after l k) (Mt.zO c (A k (Mt.after l k)))):=hr;have G1:Hid (Mt.fit 70000300 (Mt.zO c (A k (Mt.after l k)))):=qN (M:=70000000) FC.out (FA.out _ _);by_cases hj:Mt.after l k<b
    ·have h8:¬Mt.yF l (Mt.after l k)=8:=λx=>hrep ⟨hj,x⟩
     rcases dA HTr.out with ⟨hn,_⟩ | ⟨hp,g,cap,rfl,hcap,hg,hc⟩
     ·rw[hn]at hb;simp at hb;omega
     have hc0:wr.cell? ⟨g,Mt.after l k*7,none⟩=some (.int .i64 (Mt.yF l (Mt.after l k))):=hc (Mt.after l k) 0 (by omega) (by omega);have h8':(Mt.yF l (Mt.after l k)==8)=false:=by simpa using h8
     clear hc hr hrep h8;go_wp2_with (first|(go_at_call 105;refine(zDq l _ _ _ HTr.out hl (by omega)).mono ?_;rintro e w' ⟨rfl,rfl⟩) | fail)
     refine(K2.out k (Mt.after l k) _ HTr.out hak (by omega) hag (by omega)).mono ?_;rintro e w1 ⟨v1,rfl,q1,zTH⟩;have hB1:Below w.heap.size w w1:=qV.trans (zTH.mono hs0);have hs1:=hB1.size;have Q1:Hid (zF w1 0 v1 (A k (Mt.after l k))):=q1;have HO1:Hid (zF w1 0 u9 c):=HO.out.below zTH;clear q1 zTH HO qV;go_wp2_with fail
     refine(jA c _ _ _ _ HO1.out Q1.out (Mt.zR FC.out (by omega)) (Mt.zR (FA.out _ _) (by omega))).mono ?_;rintro e w2 ⟨v2,rfl,q2,zTK⟩;have hB2:Below w.heap.size w w2:=hB1.trans (zTK.mono hs1);have Q2:Hid (zF w2 0 v2 (Mt.zO c (A k (Mt.after l k)))):=q2;clear q2 zTK HO1 hB1;go_wp2_with fail
     go_roundw
     case rel=>exact⟨Mt.after l k,fu',_,by omega,by omega,by omega,by go_num,Q2.out,G1.out,hB2,HR.out⟩
     case measure=>simp[intOf];omega
    ·clear hr hrep;go_wp2_with (first|(go_at_call 105;refine(zDq l _ _ _ HTr.out hl (by omega)).mono ?_;rintro e w' ⟨rfl,rfl⟩) | fail)
     refine(K2.out k (Mt.after l k) _ HTr.out hak (by omega) hag (by omega)).mono ?_;rintro e w1 ⟨v1,rfl,q1,zTH⟩;have hB1:Below w.heap.size w w1:=qV.trans (zTH.mono hs0);have hs1:=hB1.size;have Q1:Hid (zF w1 0 v1 (A k (Mt.after l k))):=q1;have HO1:Hid (zF w1 0 u9 c):=HO.out.below zTH;clear q1 zTH HO qV;go_wp2_with fail
     refine(jA c _ _ _ _ HO1.out Q1.out (Mt.zR FC.out (by omega)) (Mt.zR (FA.out _ _) (by omega))).mono ?_;rintro e w2 ⟨v2,rfl,q2,zTK⟩;have hB2:Below w.heap.size w w2:=hB1.trans (zTK.mono hs1);have Q2:Hid (zF w2 0 v2 (Mt.zO c (A k (Mt.after l k)))):=q2;clear q2 zTK HO1 hB1;go_wp2_with fail
     go_roundw
     case rel=>exact⟨Mt.after l k,fu',_,by omega,by omega,by omega,by go_num,Q2.out,G1.out,hB2,HR.out⟩
     case measure=>simp[intOf];omega
  ·have HR:Hid (Mt.vW A R l b (b-a) a []=c):=hr.trans (zOY A R l b fu k c (by omega));clear hr;go_wp2_with fail
   go_ret;exact⟨_,rfl,by rw[HR.out];exact HO.out,qV⟩
theorem zOF{w:World}{v:Value}{l:List Mt.zTD}(h:vN w v l){i:Nat}(hi:i<l.length):∃g cap,v=.slice (some ⟨g,0,none⟩) l.length cap/\l.length<=cap/\g<w.heap.size /\
  w.cell? ⟨g,i*7,none⟩=some (.int .i64 (l.getD i Mt.jZ).kind)/\w.cell? ⟨g,i*7+1,none⟩=some (.int .i64 (l.getD i Mt.jZ).zTE)/\w.cell? ⟨g,i*7+2,none⟩=some (.int .i64 (l.getD i Mt.jZ).to) /\
  w.cell? ⟨g,i*7+3,none⟩=some (.int .i64 (l.getD i Mt.jZ).n)/\w.cell? ⟨g,i*7+4,none⟩=some (.int .i64 (l.getD i Mt.jZ).m)/\w.cell? ⟨g,i*7+5,none⟩=some (.int .i64 (l.getD i Mt.jZ).zTF) /\
  w.cell? ⟨g,i*7+6,none⟩=some (.string ⟨(l.getD i Mt.jZ).set.toArray⟩):=by
 rcases dA h with ⟨rfl,_⟩ | ⟨hp,g,cap,rfl,hcap,hg,hc⟩
 ·simp at hi
 ·exact⟨g,cap,rfl,hcap,hg,hc i 0 hi (by omega),hc i 1 hi (by omega),hc i 2 hi (by omega),hc i 3 hi (by omega),hc i 4 hi (by omega),hc i 5 hi (by omega),hc i 6 hi (by omega)⟩
def zQk(t:Mt.zTD)(s:List Mt.zTG):List Mt.zTG :=
 if t.kind=1 then[⟨1,0,0,t.set⟩]
 else if t.kind=2 then[⟨8,t.n,0,[]⟩]
 else if t.kind=3 then[⟨9,0,0,[]⟩]
 else if t.kind=4 then[⟨10,0,0,[]⟩]
 else if t.zTF=3 then s
 else if t.zTF=4 then Mt.zO (Mt.zO [⟨6,t.n,0,[]⟩] s) [⟨7,t.n,0,[]⟩]
 else Mt.alone t.zTF s
theorem zNc(l:List Mt.zTD)(f a b:Nat)(d:Int):Mt.gen l (f+1) 2 a b d=zQk (l.getD a Mt.jZ) (Mt.gen l f 0 (a+1) (b-1) d):=by
 simp only[Mt.gen];rfl
theorem zJC(l:List Mt.zTD)(f a b:Nat)(d:Int) :
  (((l.getD a Mt.jZ).kind==1)=true/\Mt.gen l (f+1) 2 a b d=[⟨1,0,0,(l.getD a Mt.jZ).set⟩]) \/
  (((l.getD a Mt.jZ).kind==1)=false/\((l.getD a Mt.jZ).kind==2)=true/\Mt.gen l (f+1) 2 a b d=[⟨8,(l.getD a Mt.jZ).n,0,[]⟩]) \/
  (((l.getD a Mt.jZ).kind==1)=false/\((l.getD a Mt.jZ).kind==2)=false/\((l.getD a Mt.jZ).kind==3)=true/\Mt.gen l (f+1) 2 a b d=[⟨9,0,0,[]⟩]) \/
  (((l.getD a Mt.jZ).kind==1)=false/\((l.getD a Mt.jZ).kind==2)=false/\((l.getD a Mt.jZ).kind==3)=false/\((l.getD a Mt.jZ).kind==4)=true/\Mt.gen l (f+1) 2 a b d=[⟨10,0,0,[]⟩]) \/
  ((
   (l.getD a Mt.jZ).kind==1)=false/\((l.getD a Mt.jZ).kind==2)=false/\((l.getD a Mt.jZ).kind==3)=false/\((l.getD a Mt.jZ).kind==4)=false /\
   (
   (((l.getD a Mt.jZ).zTF==3)=true/\Mt.gen l (f+1) 2 a b d=Mt.gen l f 0 (a+1) (b-1) d) \/
   (((l.getD a Mt.jZ).zTF==3)=false/\((l.getD a Mt.jZ).zTF==4)=true/\Mt.gen l (f+1) 2 a b d=Mt.zO (Mt.zO [⟨6,(l.getD a Mt.jZ).n,0,[]⟩] (Mt.gen l f 0 (a+1) (b-1) d)) [⟨7,(l.getD a Mt.jZ).n,0,[]⟩]) \/
   (((l.getD a Mt.jZ).zTF==3)=false/\((l.getD a Mt.jZ).zTF==4)=false/\Mt.gen l (f+1) 2 a b d=Mt.alone (l.getD a Mt.jZ).zTF (Mt.gen l f 0 (a+1) (b-1) d)))):=by
 rw[zNc];generalize l.getD a Mt.jZ=t;generalize Mt.gen l f 0 (a+1) (b-1) d=s;unfold zQk;simp only[beq_iff_eq,beq_eq_false_iff_ne];by_cases h1:t.kind=1
 ·rw[if_pos h1];simp[h1]
 rw[if_neg h1];by_cases h2:t.kind=2
 ·rw[if_pos h2];simp[h2]
 rw[if_neg h2];by_cases h3:t.kind=3
 ·rw[if_pos h3];simp[h3]
 rw[if_neg h3];by_cases h4:t.kind=4
 ·rw[if_pos h4];simp[h4]
 rw[if_neg h4];by_cases h5:t.zTF=3
 ·rw[if_pos h5];simp[h1,h2,h3,h4,h5]
 rw[if_neg h5];by_cases h6:t.zTF=4
 ·rw[if_pos h6];simp[h1,h2,h3,h4,h6]
 rw[if_neg h6];simp[h1,h2,h3,h4,h5,h6]
theorem zK1(l:List Mt.zTD)(hl:l.length<=64)(ho:Mt.bM l)(f:Nat)(h0:S0 l f):S2 l (f+1):=by
 intro a b ai bi d v w hai hbi ht ha hab hb hf hd0 hd1;subst hai hbi;have HT:Hid (vN w v l):=ht;have os:=zBE ho f 0 (a+1) (b-1) d hd0 (by omega);have tk:=Mt.zC1 ho a;have H0:=λx:World=>h0 (a+1) (b-1) ((a:Int)+1) ((b:Int)-1) d v x (by omega) (by omega)
 have hcs:=zJC l f a b d;obtain⟨g,cap,rfl,hcap,hg,c0,c1,c2,c3,c4,c5,c6⟩:=zOF ht ha;generalize hS:Mt.gen l f 0 (a+1) (b-1) d=s at *;generalize hT:l.getD a Mt.jZ=t at *;generalize Mt.gen l (f+1) 2 a b d=G at *;obtain⟨t1,t2,t3,t4,t5,t6,t7⟩:=tk;have ls:=os.1;have K0:Hid (∀x:World,vN x (.slice (some ⟨g,0,none⟩) l.length cap) l->Calls Tryz.prog 39 #[.slice (some ⟨g,0,none⟩) l.length cap,.int .i64 ((a:Int)+1),.int .i64 ((b:Int)-1),.int .i64 d] x λe w'=>∃v',e=.returned v'/\zF w' 0 v' s/\Below x.heap.size x w'):=λx hx=>H0 x hx (by omega) (by omega) (by omega) hd0 (by omega)
 have FS:Hid (Mt.fit 70000000 s):=os;clear hS hT H0 h0 ht os t7;rcases hcs with ⟨a1,e⟩ | ⟨a1,a2,e⟩ | ⟨a1,a2,a3,e⟩ | ⟨a1,a2,a3,a4,e⟩ | ⟨a1,a2,a3,a4,⟨a5,e⟩ | ⟨a5,a6,e⟩ | ⟨a5,a6,e⟩⟩
 ·rw[e];clear e;go_enter Tryz.func107,Tryz.ntmps107
  go_wp2_with fail
  go_ret;exact⟨_,rfl,bL _ _ (by simp) ⟨1,0,0,t.set⟩,by go_grown⟩
 ·rw[e];clear e;go_enter Tryz.func107,Tryz.ntmps107
  go_wp2_with fail
  go_ret;exact⟨_,rfl,bL _ _ (by simp) ⟨8,t.n,0,[]⟩,by go_grown⟩
 ·rw[e];clear e;go_enter Tryz.func107,Tryz.ntmps107
  go_wp2_with fail
  go_ret;exact⟨_,rfl,bL _ _ (by simp) ⟨9,0,0,[]⟩,by go_grown⟩
 ·rw[e];clear e;go_enter Tryz.func107,Tryz.ntmps107
  go_wp2_with fail
  go_ret;exact⟨_,rfl,bL _ _ (by simp) ⟨10,0,0,[]⟩,by go_grown⟩
 ·rw[e];clear e;go_enter Tryz.func107,Tryz.ntmps107
  go_wp2_with fail
  refine(K0.out _ (HT.out.alloc _)).mono ?_;rintro e w1 ⟨v1,rfl,q1,zTH⟩;obtain⟨r0,r1,r2,r3⟩:=fB zTH;clear zTH c0 c1 c2 c3 c4 c5 c6;go_wp2_with fail
  go_ret;exact⟨_,rfl,q1,r3⟩
 ·rw[e];clear e;have g1:Mt.fit 70000010 [(⟨6,t.n,0,[]⟩:Mt.zTG)]:=Mt.mU (vZ _ _ _ _ (by omega) (by omega)) (by omega);have g2:=Mt.vY g1 (Mt.zR FS.out (show(70000000:Int)<=70000010 by omega));have F1:Hid (Mt.fit 900000000 [(⟨6,t.n,0,[]⟩:Mt.zTG)]):=Mt.zR g1 (by omega);have F2:Hid (Mt.fit 900000000 (Mt.zO [(⟨6,t.n,0,[]⟩:Mt.zTG)] s)):=Mt.zR g2 (by omega);have F3:Hid (Mt.fit 900000000 [(⟨7,t.n,0,[]⟩:Mt.zTG)]):=Mt.mU (vZ _ _ _ _ (by omega) (by omega)) (by omega);clear g1 g2;go_enter Tryz.func107,Tryz.ntmps107
  go_wp2_with fail
  refine(K0.out _ (HT.out.alloc _)).mono ?_;rintro e w1 ⟨v1,rfl,q1,zTH⟩;obtain⟨r0,r1,r2,r3⟩:=fB zTH;have hs1:=r3.size;have Q1:Hid (zF w1 0 v1 s):=q1;clear zTH c0 c1 c2 c3 c4 c5 c6 q1;go_wp2_with fail
  refine(jA [⟨6,t.n,0,[]⟩] s _ _ _ (bL w1 _ rfl _) (Q1.out.below (by go_grown)) F1.out (Mt.zR FS.out (by omega))).mono ?_;rintro e w2 ⟨v2,rfl,q2,zTK⟩;have zMX:Below w1.heap.size w1 w2:=((Below.refl _ _).alloc (lG _) _).trans (zTK.mono (by simp));have hB2:Below w.heap.size w w2:=r3.trans (zMX.mono hs1);have hs2:=hB2.size;have Q2:Hid (zF w2 0 v2 (Mt.zO [(⟨6,t.n,0,[]⟩:Mt.zTG)] s)):=q2;have s0:=λo=>(zMX.cell (p:=⟨w.heap.size,o,none⟩) r2).trans (r0 o)
  clear q2 zTK zMX Q1 r3 r0 r1;go_wp2_with fail
  refine(jA _ [⟨7,t.n,0,[]⟩] _ _ _ (Q2.out.below (by go_grown)) (bL w2 _ rfl _) F2.out F3.out).mono ?_;rintro e w3 ⟨v3,rfl,q3,zTL⟩;have hB3:Below w.heap.size w w3:=(hB2.alloc hs2 _).trans (zTL.mono (by simp;omega));clear zTL s0 hB2;go_wp2_with fail
  go_ret;exact⟨_,rfl,q3,hB3⟩
 ·rw[e];clear e;go_enter Tryz.func107,Tryz.ntmps107
  go_wp2_with fail
  refine(K0.out _ (HT.out.alloc _)).mono ?_;rintro e w1 ⟨v1,rfl,q1,zTH⟩;obtain⟨r0,r1,r2,r3⟩:=fB zTH;have hs1:=r3.size;have Q1:Hid (zF w1 0 v1 s):=q1;clear zTH c0 c1 c2 c3 c4 c5 c6 q1;go_wp2_with fail
  refine(nN t.zTF s _ _ Q1.out (Mt.zR FS.out (by omega)) (by omega) (by omega)).mono ?_;rintro e w2 ⟨v2,rfl,q2,zTK⟩;have hB2:Below w.heap.size w w2:=r3.trans (zTK.mono hs1);clear zTK r0 r1 r3;go_wp2_with fail
  go_ret;exact⟨_,rfl,q2,hB2⟩
