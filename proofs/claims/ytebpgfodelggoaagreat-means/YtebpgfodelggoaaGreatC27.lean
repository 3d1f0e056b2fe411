import Derived.Test.YtebpgfodelggoaaGreatC11
set_option linter.all false
namespace Mt
theorem Jz{F c C}(j:Bd F c C):∀n h w,300000<w->(qC F n h w).1.length+(qC F n h w).2<=w+h.length
 | 0,h,w,hw=>by simp only[qC];omega
 | n+1,h,w,hw=>by
  have a:=fM j h [] w hw;have u:=dK j.up h [] w;have G:=Jz j n (bindM F [] h w).1 (bindM F [] h w).2 (by omega);simp only[qC];rw[a.1]at G |-;simp only[lV]at G;omega
theorem zD5{c m}(j:c<=120400)(h:m<=40):(300000+c)*(300001+m*(300000+c+1)+(300000+c)+1)+1000000<=10000000000000:=by
 have a:m*(300000+c+1)<=40*420401:=sZ h (by omega);have b:(300000+c)*(300001+m*(300000+c+1)+(300000+c)+1)<=420400*17600000:=sZ (by omega) (by omega);omega
theorem zA9{c}(h:c<=120400):(300000+c)*(2*(300000+c)+2)<=360000000000:=by
 have b:(300000+c)*(2*(300000+c)+2)<=420400*840802:=sZ (by omega) (by omega);omega
theorem Si{f c C}(j:Bd f c C)(G:1000000<=C)(I:c<=120400)(O:64<=c) late k:Bd (bT f late k) c (C+320000000000000):=by
 have t:=LK (D:=10000000000000) j G late 32 (by omega) (λm J=>zD5 I J);refine⟨uj j.up late k,λo w h=>?_,λo w h=>?_,λo w h=>?_⟩
 ·have:=t.few k o ([],[],w) h;unfold bT;dsimp only at this;simp only[lV]at this;omega
 ·have:=(t.cost k o ([],[],w) h (by simp)).2;unfold bT;omega
 ·have:=t.kI k o ([],[],w) h;unfold bT;dsimp only at this;simp only[lV]at this;exact⟨this.1,by omega⟩
theorem zDd{f c C}(h:Bd f c C)(J:1000000<=C)(I:c<=120400)(O:64<=c) r:Bd (wm f r) c (C+1000000000000000):=by
 have t:=Si h J I O (decide (r.jB=1)) (pW r);have W:=zA9 I
 have U:∀(l:List Oc),(if r.jB=2 then l.take 1 else l).length<=l.length:=λl=>by
  split
  ·rw[uM];omega
  ·exact lF _
 refine⟨Fz h.up r,λo w G=>?_,λo w G=>?_,λo w G=>?_⟩
 ·unfold wm;dsimp only;have g:=ji h.up r.n.toNat [o] w;have x:=U (bindM (bT f (decide (r.jB=1)) (pW r)) [] (qC f r.n.toNat [o] w).1 (qC f r.n.toNat [o] w).2).1;by_cases j:(qC f r.n.toNat [o] w).2<=300000
  ·have:=EA t (qC f r.n.toNat [o] w).1 [] _ j;simp only[lV]at this;omega
  ·have:=(fM t (qC f r.n.toNat [o] w).1 [] _ (aU.1 j)).1;rw[this]at x |-;simp only[lV]at x;omega
 ·unfold wm;dsimp only;have g:=(Og h (by omega) r.n.toNat [o] w).2 (by simp;omega);have Y:=g.1;have Z:=g.2 G;by_cases j:(qC f r.n.toNat [o] w).2<=300000
  ·have:=FI t (by omega) (qC f r.n.toNat [o] w).1 [] _ j (by simp);omega
  ·have:=(fM t (qC f r.n.toNat [o] w).1 [] _ (aU.1 j)).2;omega
 ·unfold wm;dsimp only;have g:=Jz h r.n.toNat [o] w G;have u:=ji h.up r.n.toNat [o] w;have:=fM t (qC f r.n.toNat [o] w).1 [] (qC f r.n.toNat [o] w).2 (by omega);simp only[lU,lV]at g;rw[this.1];exact⟨by split <;> rfl,by omega⟩
theorem UW{at' pt}{c C}(Y:∀i j,Bd (at' i j) c C)(a0:∀i j,Bd (pt i j) c C)(W:300000<=C)(l)(b):∀(g i) (h) (w),
  (300000<w->(bW at' pt l b g i h w).1.length+(bW at' pt l b g i h w).2<=w+h.length)/\
  (∀w0,w0<=w->w0<=300000->h.length+w0<=300000+c->(bW at' pt l b g i h w).1.length+w0<=300000+c)/\
  (w<=300000->h.length<=300000+c->(bW at' pt l b g i h w).2<=C+(300000+c)*(2*(300000+c)+2)+2*(300000+c))/\
  ((bW at' pt l b g i h w).1.length+w<=(bW at' pt l b g i h w).2+h.length)
 | 0,i,h,w=>by
  simp only[bW];exact⟨λ_=>by omega,λw0 J I O=>O,λJ I=>by omega,by omega⟩
 | g+1,i,h,w=>by
  unfold bW;by_cases Z:b<=i
  ·rw[lG Z];exact⟨λ_=>by dsimp only;omega,λw0 J I O=>O,λJ I=>by dsimp only;omega,by dsimp only;omega⟩
  ·rw[lC Z]
   have key:∀(F:Oc->Nat->OW) (G:Nat),Bd F c C->(300000<w->(bW at' pt l b g G (bindM F [] h w).1 (bindM F [] h w).2).1.length+(bW at' pt l b g G (bindM F [] h w).1 (bindM F [] h w).2).2<=w+h.length)/\
     (∀w0,w0<=w->w0<=300000->h.length+w0<=300000+c->(bW at' pt l b g G (bindM F [] h w).1 (bindM F [] h w).2).1.length+w0<=300000+c)/\
     (w<=300000->h.length<=300000+c->(bW at' pt l b g G (bindM F [] h w).1 (bindM F [] h w).2).2<=C+(300000+c)*(2*(300000+c)+2)+2*(300000+c))/\
     ((bW at' pt l b g G (bindM F [] h w).1 (bindM F [] h w).2).1.length+w<=(bW at' pt l b g G (bindM F [] h w).1 (bindM F [] h w).2).2+h.length):=by
    intro F G hF;have a6:=UW Y a0 W l b g G (bindM F [] h w).1 (bindM F [] h w).2;have u:=dK hF.up h [] w;simp only[lV]at u;obtain⟨a1,a4,a5,a7⟩:=a6;refine⟨λU=>?_,λw0 J I O=>?_,λJ I=>?_,by omega⟩
    ·have a:=fM hF h [] w U;have:=a1 (by omega);have e:(bindM F [] h w).1.length=0:=by rw[a.1];rfl
     omega
    ·refine a4 w0 (by omega) I ?_;by_cases U:w<=300000
     ·have:=EA hF h [] w U;simp only[lV]at this;omega
     ·have e:(bindM F [] h w).1.length=0:=by rw[(fM hF h [] w (by omega)).1];rfl
      omega
    ·have k:=LG hF W h w I J;have a2:=Bz hF h w;by_cases a3:(bindM F [] h w).2<=300000
     ·exact a5 a3 a2
     ·have:=a1 (by omega);omega
   split
   ·exact key _ _ (a0 _ _)
   ·exact key _ _ (Y _ _)
theorem zBa{c x y}(h:c<=120400)(j:x<=300000+c)(G:y<=2*(300000+c)+2):x*y<=360000000000:=gX (sZ j G) (zA9 h)
theorem zBb{at' pt}{c C}(G:∀i j,Bd (at' i j) c C)(J:∀i j,Bd (pt i j) c C)(h:300000<=C)(I:c<=120400)(l)(b g i)(o)(w)(O:w<=300000):(bW at' pt l b g i [o] w).2<=C+400000000000:=by
 have W:=(UW G J h l b g i [o] w).2.2.1 O (by simp;omega);have U:=zA9 I;omega
structure B1 (F:Oc->Nat->OW) (c C:Nat):Prop where
 few:∀o w,w<=300000->(F o w).1.length+w<=300000+c
 cost:∀o w,w<=300000->(F o w).2<=C
 kI:∀o w,300000<w->(F o w).1.length<=1/\(F o w).2<=w+1
 one:∀o w,(F o w).1.length+w<=(F o w).2+1
structure B0 (F:Oc->Nat->OW) (c C e X:Nat):Prop where
 few:∀o w,w<=300000->(F o w).1.length+w<=300000+c
 cost:∀o w,w<=300000->(F o w).2<=C
 kI:∀o w,300000<w->(F o w).1.length<=e/\(F o w).2<=w+X
theorem zBc s o l:(DF s o l).length<=max l.length 1:=by
 unfold DF;split
 ·rw[uM];omega
 ·split
  ·rw[uD,uM];omega
  ·split <;> simp;omega
theorem Yi t k o:(jg t k o).length<=1:=by
 unfold jg
 repeat' split
 all_goals simp
def zDe(l:List zU)(t:BA)(f c C e X:Nat):Prop:=(∀a b,B0 (mM l t f 0 a b) c C e X)/\(∀a b,B1 (mM l t f 1 a b) c C)/\(∀a b,Bd (mM l t f 2 a b) c C)/\(∀n a b,Bd (mM l t f (n+3) a b) c C)
theorem zDf l t:zDe l t 0 400 1000000 1 1000000:=by
 have G:∀(o:Oc) (w:Nat),(if 300000<w then([]:List Oc)else[o]).length<=1:=λo w=>by split <;> simp
 have e:∀j a b o w,mM l t 0 j a b o w=(if 300000<w then[]else[o],w):=λj a b o w=>by unfold mM;rfl
 refine⟨λa b=>⟨λo w h=>?_,λo w h=>?_,λo w h=>?_⟩,λa b=>⟨λo w h=>?_,λo w h=>?_,λo w h=>?_,λo w=>?_⟩,λa b=>⟨λo w=>?_,λo w h=>?_,λo w h=>?_,λo w h=>?_⟩,λn a b=>⟨λo w=>?_,λo w h=>?_,λo w h=>?_,λo w h=>?_⟩⟩
 all_goals
  rw[e];have:=G o w;dsimp only
  first
   | omega
   | exact⟨by omega,by omega⟩
   | exact⟨lG h,by omega⟩
theorem zDg l t f c C e X(b2:400<=c)(b1:c<=120400)(a9:1000000<=C)(b3:1<=e)(b4:e<=400)(b0:X<=1000000000)(a5:zDe l t f c C e X):zDe l t (f+1) (c+400) (C+1000000000000000) (e+1) (X+1000000):=by
 obtain⟨I,U,J,W⟩:=a5;refine⟨λa b=>?_,λa b=>?_,λa b=>?_,λn a b=>?_⟩
 ·by_cases a2:bar l a b=b
  ·have e:∀o w,mM l t (f+1) 0 a b o w=mM l t f 1 a (bar l a b) o w:=λo w=>by rw[mM,lG a2]
   have g:=U a (bar l a b);refine⟨λo w j=>?_,λo w j=>?_,λo w j=>?_⟩
   ·rw[e];have O:=g.few o w j;clear e g I U J W;generalize mM l t f 1 a (bar l a b) o w=S at *;omega
   ·rw[e];have O:=g.cost o w j;clear e g I U J W;generalize mM l t f 1 a (bar l a b) o w=S at *;omega
   ·rw[e];have O:=g.kI o w j;clear e g I U J W;generalize mM l t f 1 a (bar l a b) o w=S at *;exact⟨by omega,by omega⟩
  ·have e:∀o w,mM l t (f+1) 0 a b o w=kT (mM l t f 1 a (bar l a b) o w).1 (mM l t f 0 (bar l a b+1) b o (mM l t f 1 a (bar l a b) o w).2).1 (mM l t f 0 (bar l a b+1) b o (mM l t f 1 a (bar l a b) o w).2).2:=λo w=>by rw[mM,lC a2]
   have g:=U a (bar l a b);have r:=I (bar l a b+1) b;refine⟨λo w j=>?_,λo w j=>?_,λo w j=>?_⟩
   ·rw[e];have a1:=g.few o w j;have a4:=g.one o w;generalize mM l t f 1 a (bar l a b) o w=S at *;have Z:=vB (mM l t f 0 (bar l a b+1) b o S.2).1 S.1 (mM l t f 0 (bar l a b+1) b o S.2).2;by_cases G:S.2<=300000
    ·have:=r.few o S.2 G;omega
    ·have:=r.kI o S.2 (by omega);omega
   ·rw[e];have a1:=g.few o w j;have a4:=g.cost o w j;generalize mM l t f 1 a (bar l a b) o w=S at *;have Y:=uq (mM l t f 0 (bar l a b+1) b o S.2).1 S.1 (mM l t f 0 (bar l a b+1) b o S.2).2;by_cases G:S.2<=300000
    ·have a0:=r.few o S.2 G;have a6:=r.cost o S.2 G;have m:(mM l t f 0 (bar l a b+1) b o S.2).1.length*(S.1.length+(mM l t f 0 (bar l a b+1) b o S.2).1.length+1)<=360000000000:=zBa (c:=c) (by omega) (by omega) (by omega);omega
    ·have a0:=r.kI o S.2 (by omega);have m:(mM l t f 0 (bar l a b+1) b o S.2).1.length*(S.1.length+(mM l t f 0 (bar l a b+1) b o S.2).1.length+1)<=360000000000:=zBa (c:=c) (by omega) (by omega) (by omega);omega
   ·rw[e];have a1:=g.kI o w j;have a7:=xY l t f 1 a (bar l a b) o w;generalize mM l t f 1 a (bar l a b) o w=S at *;have Z:=vB (mM l t f 0 (bar l a b+1) b o S.2).1 S.1 (mM l t f 0 (bar l a b+1) b o S.2).2;have Y:=uq (mM l t f 0 (bar l a b+1) b o S.2).1 S.1 (mM l t f 0 (bar l a b+1) b o S.2).2;have a0:=r.kI o S.2 (by omega);have m:(mM l t f 0 (bar l a b+1) b o S.2).1.length*(S.1.length+(mM l t f 0 (bar l a b+1) b o S.2).1.length+1)<=400*402:=sZ (by omega) (by omega);omega
 ·have e:∀o w,mM l t (f+1) 1 a b o w=bW (λi h=>mM l t f 2 i h) (λi h=>mM l t f 3 i h) l b (b-a) a [o] w:=λo w=>by rw[mM]
  have g:=λo w=>UW (at':=λi h=>mM l t f 2 i h) (pt:=λi h=>mM l t f 3 i h) (λi h=>J i h) (λi h=>W 0 i h) (by omega) l b (b-a) a [o] w
  refine⟨λo w j=>?_,λo w j=>?_,λo w j=>?_,λo w=>?_⟩
  ·rw[e];have O:=(g o w).2.1 w (lF _) j (by simp;omega);clear e g;generalize bW (λi h=>mM l t f 2 i h) (λi h=>mM l t f 3 i h) l b (b-a) a [o] w=S at *;omega
  ·rw[e];have:=zBb (at':=λi h=>mM l t f 2 i h) (pt:=λi h=>mM l t f 3 i h) (λi h=>J i h) (λi h=>W 0 i h) (by omega) (by omega) l b (b-a) a o w j;clear e g;generalize bW (λi h=>mM l t f 2 i h) (λi h=>mM l t f 3 i h) l b (b-a) a [o] w=S at *;omega
  ·rw[e];have:=(g o w).1 j;have u:=qg (at':=λi h=>mM l t f 2 i h) (pt:=λi h=>mM l t f 3 i h) (λi h=>xY l t f 2 i h) (λi h=>xY l t f 3 i h) l b (b-a) a [o] w;simp only[lU,lV]at this;clear e g;generalize bW (λi h=>mM l t f 2 i h) (λi h=>mM l t f 3 i h) l b (b-a) a [o] w=S at *;exact⟨by omega,by omega⟩
  ·rw[e];have:=(g o w).2.2.2;simp only[lU,lV]at this;clear e g;generalize bW (λi h=>mM l t f 2 i h) (λi h=>mM l t f 3 i h) l b (b-a) a [o] w=S at *;omega
 ·have a3:∀o w,w+1<=300000->(mM l t (f+1) 2 a b o w).1.length+w<=300000+(c+400)/\(mM l t (f+1) 2 a b o w).2<=C+1000000000000000:=λo w j=>by
   rw[mM,lC (by omega)];have a8:=Yi t (l.getD a zZ).n.toNat o;split
   ·dsimp only;split <;> simp only[lU,lV] <;> omega
   ·split
    ·dsimp only;omega
    ·split
     ·dsimp only;split <;> simp only[lU,lV] <;> omega
     ·split
      ·dsimp only;split <;> simp only[lU,lV] <;> omega
      ·have a0:=(I (a+1) (b-1)).few o (w+1) j;have a6:=(I (a+1) (b-1)).cost o (w+1) j;generalize mM l t f 0 (a+1) (b-1) o (w+1)=R at *;unfold JR;split
       ·omega
       ·split
        ·have Z:=vB (R.1.map (fZ (l.getD a zZ).n.toNat o)) [] R.2;have Y:=uq (R.1.map (fZ (l.getD a zZ).n.toNat o)) [] R.2;simp only[uD,lV]at Z Y;have m:R.1.length*(0+R.1.length+1)<=360000000000:=zBa (c:=c) (by omega) (by omega) (by omega);omega
        ·have:=zBc (l.getD a zZ).jB o R.1;dsimp only;omega
  refine⟨xY l t (f+1) 2 a b,λo w j=>?_,λo w j=>?_,λo w j=>?_⟩
  ·by_cases G:w+1<=300000
   ·exact(a3 o w G).1
   ·rw[mM,lG (by omega)];simp only[lV];omega
  ·by_cases G:w+1<=300000
   ·exact(a3 o w G).2
   ·rw[mM,lG (by omega)];dsimp only;omega
  ·rw[mM,lG (by omega)];exact⟨rfl,lF _⟩
 ·have g:=zDd (J a b) (by omega) (by omega) (by omega) (l.getD b zZ);have e:∀o w,mM l t (f+1) (n+3) a b o w=wm (mM l t f 2 a b) (l.getD b zZ) o w:=λo w=>by rw[mM]
  refine⟨xY l t (f+1) (n+3) a b,λo w j=>?_,λo w j=>?_,λo w j=>?_⟩
  ·rw[e];have O:=g.few o w j;clear e g;generalize wm (mM l t f 2 a b) (l.getD b zZ) o w=S at *;omega
  ·rw[e];have O:=g.cost o w j;clear e g;generalize wm (mM l t f 2 a b) (l.getD b zZ) o w=S at *;omega
  ·rw[e];exact g.none o w j
def cF:Nat->Nat
 | 0=>400
 | f+1=>cF f+400
def wF:Nat->Nat
 | 0=>1000000
 | f+1=>wF f+1000000000000000
def eF:Nat->Nat
 | 0=>1
 | f+1=>eF f+1
def xF:Nat->Nat
 | 0=>1000000
 | f+1=>xF f+1000000
theorem zBd:∀f,cF f=f*400+400/\wF f=f*1000000000000000+1000000/\eF f=f+1/\xF f=f*1000000+1000000
 | 0=>⟨rfl,rfl,rfl,rfl⟩
 | f+1=>by
  have:=zBd f;simp only[cF,wF,eF,xF];omega
theorem Sj l t:∀f,f<=300->zDe l t f (cF f) (wF f) (eF f) (xF f)
 | 0,_=>zDf l t
 | f+1,hf=>by
  have h:=Sj l t f (by omega);have k:=zBd f;exact zDg l t f _ _ _ _ (by omega) (by omega) (by omega) (by omega) (by omega) (by omega) h
theorem DL l t f G a b o w(W:f<=300):(mM l t f G a b o w).1.length<=500000:=by
 obtain⟨I,J,O,U⟩:=Sj l t f W;have k:=zBd f;generalize cF f=c at *;generalize wF f=C at *;generalize eF f=e at *;generalize xF f=X at *;by_cases j:w<=300000
 ·match G with
  | 0=>have h:=(I a b).few o w j;generalize mM l t f 0 a b o w=S at *;omega
  | 1=>have h:=(J a b).few o w j;generalize mM l t f 1 a b o w=S at *;omega
  | 2=>have h:=(O a b).few o w j;generalize mM l t f 2 a b o w=S at *;omega
  | n+3=>have h:=(U n a b).few o w j;generalize mM l t f (n+3) a b o w=S at *;omega
 ·match G with
  | 0=>have h:=(I a b).kI o w (by omega);generalize mM l t f 0 a b o w=S at *;omega
  | 1=>have h:=(J a b).kI o w (by omega);generalize mM l t f 1 a b o w=S at *;omega
  | 2=>rw[((O a b).none o w (by omega)).1];simp
  | n+3=>rw[((U n a b).none o w (by omega)).1];simp
theorem zEz l t f a b o w(h:f<=300)(j:w<=300000):(mM l t f 0 a b o w).2<=2 ^ 60:=by
 have G:=((Sj l t f h).1 a b).cost o w j;have k:=zBd f;generalize mM l t f 0 a b o w=S at *;generalize wF f=C at *;omega
variable {t:BA}
theorem PW{k o x}(G:kV t o)(h:kV t x)(I:o.1<=x.1):kV t (fZ k o x):=by
 by_cases j:k<10
 ·exact Uz j G h I
 ·have J:=h.len
  have e:fZ k o x=x:=by
   unfold fZ;rw[List.set_eq_of_length_le (by rw[gY];omega),List.set_eq_of_length_le (by omega)]
  rw[e];exact h
theorem Oh k o(j:kV t o):iq t o (jg t k o):=by
 by_cases J:k<10
 ·have:=nM t (.back (k:Int)) ⟨by omega,by omega⟩ o j;simpa[outs]using this
 ·have O:=j.len;have G:o.2.getD (2*k) 0=0:=by rw[lH,gQ (by omega)];rfl
  have I:o.2.getD (2*k+1) 0=0:=by rw[lH,gQ (by omega)];rfl
  unfold jg;rw[G,I];split
  ·intro x h;simp at h
  ·split
   ·intro x h;simp at h
   ·split
    ·intro x h;simp at h;subst h;exact⟨⟨j.pos,j.len,j.at'⟩,by simp⟩
    ·intro x h;simp at h
theorem Sk{s o l}(j:kV t o)(g:iq t o l):iq t o (DF s o l):=by
 unfold DF;split
 ·exact λx h=>g x (oW h)
 ·split
  ·intro y G;rw[uY]at G;obtain⟨x,h,rfl⟩:=G;have:=g x (oW h);exact⟨⟨j.pos,this.1.len,this.1.at'⟩,lF _⟩
  ·split
   ·exact xS j
   ·intro x h;simp at h
theorem Oi{s o}(h:kV t o):iq t o (if nL t o.1 s then[(o.1+1,o.2)]else[]):=by
 have:=nM t (.one s) trivial o h;simpa[outs]using this
theorem BD{o}:iq t o []:=λx h=>by simp at h
theorem dD:∀r o,kV t o->iq t o (outs t r o)
 | .qb,o,h=>xS h
 | .one s,o,h=>Oi h
 | .back k,o,h=>Oh _ o h
 | .head,o,h=>by
  unfold outs;split
  ·exact xS h
  ·exact BD
 | .tail,o,h=>by
  unfold outs;split
  ·exact xS h
  ·exact BD
 | .cat a b,o,h=>Ig (dD a o h) (λx j=>dD b x j)
 | .alt a b,o,h=>DI (dD a o h) (dD b o h)
 | .cap k a,o,h=>by
  intro y G;unfold outs at G;rw[uY]at G;obtain⟨x,j,rfl⟩:=G;have:=dD a o h x j;exact⟨PW h this.1 this.2,this.2⟩
 | .sub s a,o,h=>Sk h (dD a o h)
 | .opt late a,o,h=>by
  have g:=dD a o h;unfold outs;split
  ·exact λx j=>by
    rw[oH]at j;exact j.elim (λe=>by subst e;exact⟨h,lF _⟩) (g x)
  ·exact DI g (xS h)
 | .loop late a,o,h=>Ih (λx j=>dD a x j) _ o h
def qM(P:Oc->Prop)(l:List Oc):Prop:=∀x∈l,P x
variable {P:Oc->Prop}
theorem Ac{l o} w(h:qM P l)(G:P o):qM P (yQ l o w).1:=by
 unfold yQ;split
 ·exact h
 ·intro x j;rw[gV]at j;exact j.elim (h x) (λe=>by simp at e;subst e;exact G)
theorem Ad:∀xs l w,qM P l->qM P xs->qM P (kT l xs w).1
 | [],l,w,h,_=>h
 | x::xs,l,w,h,hx=>Ad xs _ _ (Ac w h (hx x (by simp))) (λy j=>hx y (by simp[j]))
theorem yw{f}(G:∀o,P o->∀w,qM P (f o w).1):∀(j next) (w),qM P next->qM P j->qM P (bindM f next j w).1
 | [],next,w,h,_=>h
 | x::j,next,w,h,hn=>yw G j _ _ (Ad _ _ _ h (G x (hn x (by simp)) w)) (λy I=>hn y (by simp[I]))
theorem tH:qM P []:=λx h=>by simp at h
theorem LM{f}(G:∀o,P o->∀w,qM P (f o w).1):∀(n) (j) (w),qM P j->qM P (qC f n j w).1
 | 0,j,w,h=>h
 | n+1,j,w,h=>LM G n _ _ (yw G j [] w tH h)
theorem Oj{g}(G:∀k o s,P o->qM P s.2.1->qM P (g k o s).2.1)(k)(I):∀(j) (s),qM P j->qM P s.2.1->qM P (pJ g k I j s).2.1
 | [],s,_,h=>h
 | y::j,s,hy,h=>by
  simp only[pJ];refine Oj G k I j _ (λz hz=>hy z (by simp[hz])) ?_;split
  ·exact G _ _ _ (hy y (by simp)) h
  ·split
   ·exact G _ _ _ (hy y (by simp)) h
   ·exact h
theorem ql late{o out} w(j:P o)(h:qM P out):qM P (tailA late o out w).1:=by
 unfold tailA;split
 ·exact Ac w h j
 ·exact h
theorem Ol{f}(j:∀o,P o->∀w,qM P (f o w).1)(late):∀(n) (k) (o) (s),P o->qM P s.2.1->qM P (jL f late n k o s).2.1
 | 0,k,o,s,_,h=>h
 | n+1,k,o,s,ho,h=>by
  unfold jL;split
  ·exact h
  ·split
   ·exact h
   ·dsimp only;refine ql _ _ ho ?_;unfold dZ;split
    ·exact ql _ _ ho h
    ·exact Oj (λk o s=>Ol j late n k o s) k o.1 _ _ (j o ho _) (ql _ _ ho h)
theorem Yj{f}(I:∀o,P o->∀w,qM P (f o w).1)(r)(o)(w)(j:P o):qM P (wm f r o w).1:=by
 have one:qM P [o]:=λx h=>by simp at h;subst h;exact j
 have G:=yw (f:=bT f (decide (r.jB=1)) (pW r)) (λo j w=>Ol I _ 32 _ o ([],[],w) j tH) (qC f r.n.toNat [o] w).1 [] (qC f r.n.toNat [o] w).2 tH (LM I _ _ _ one);unfold wm;dsimp only;split
 ·exact λx h=>G x (oW h)
 ·exact G
theorem LP{at' pt}(I:∀i j o,P o->∀w,qM P (at' i j o w).1)(J:∀i j o,P o->∀w,qM P (pt i j o w).1)(l)(b):∀(g i) (G) (w),qM P G->qM P (bW at' pt l b g i G w).1
 | 0,i,G,w,h=>h
 | g+1,i,G,w,h=>by
  unfold bW;split
  ·exact h
  ·split
   ·exact LP I J l b g _ _ _ (yw (J _ _) _ _ _ tH h)
   ·exact LP I J l b g _ _ _ (yw (I _ _) _ _ _ tH h)
def Pp(t:BA)(p:Nat)(x:Oc):Prop:=kV t x/\p<=x.1
theorem PX{f:Oc->Nat->OW}(j:∀o w,kV t o->iq t o (f o w).1)(p):∀o,Pp t p o->∀w,qM (Pp t p) (f o w).1:=λo h w x G=>by
 have:=j o w h.1 x G;exact⟨this.1,gX h.2 this.2⟩
theorem EX l:∀f J a b o w,kV t o->iq t o (mM l t f J a b o w).1
 | 0,_,_,_,o,w,h=>by
  unfold mM;dsimp only;split
  ·exact BD
  ·exact xS h
 | f+1,0,a,b,o,w,h=>by
  unfold mM;split
  ·exact EX l f 1 a _ o w h
  ·exact Ad (P:=Pp t o.1) _ _ _ (EX l f 1 a _ o w h) (EX l f 0 _ b o _ h)
 | f+1,1,a,b,o,w,h=>by
  unfold mM;exact LP (P:=Pp t o.1) (λi G=>PX (λo w=>EX l f 2 i G o w) o.1) (λi G=>PX (λo w=>EX l f 3 i G o w) o.1) l b _ _ _ _ (xS h)
 | f+1,2,a,b,o,w,h=>by
  unfold mM;split
  ·exact BD
  ·split
   ·exact Oi h
   ·split
    ·exact Oh _ o h
    ·split
     ·dsimp only;split
      ·exact xS h
      ·exact BD
     ·split
      ·dsimp only;split
       ·exact xS h
       ·exact BD
      ·have r:=EX l f 0 (a+1) (b-1) o (w+1) h;generalize mM l t f 0 (a+1) (b-1) o (w+1)=R at *;unfold JR;split
       ·exact r
       ·split
        ·refine Ad (P:=Pp t o.1) _ _ _ tH (λy I=>?_);rw[uY]at I;obtain⟨x,j,rfl⟩:=I;exact⟨PW h (r x j).1 (r x j).2,(r x j).2⟩
        ·exact Sk h r
 | f+1,n+3,a,b,o,w,h=>by
  unfold mM;exact Yj (P:=Pp t o.1) (PX (λo w=>EX l f 2 a b o w) o.1) _ o w ⟨h,lF _⟩
end Mt
namespace Mt
theorem WK{f}(h:f<=300):cF f<=120400/\64<=cF f/\1000000<=wF f:=by
 have:=zBd f;omega
theorem PY l t{f}(h:f<=300) a b:Bd (mM l t f 2 a b) (cF f) (wF f):=(Sj l t f h).2.2.1 a b
theorem zEA l t{f}(h:f<=300) a b:Bd (mM l t f 3 a b) (cF f) (wF f):=(Sj l t f h).2.2.2 0 a b
theorem Om l t{f}(h:f<=300) a b j w:(bindM (mM l t f 2 a b) [] j w).1.length<=500000:=by
 have:=Bz (PY l t h a b) j w;have:=(WK h).1;omega
theorem zBe l t{f}(h:f<=300) a b j w:(bindM (mM l t f 3 a b) [] j w).1.length<=500000:=by
 have:=Bz (zEA l t h a b) j w;have:=(WK h).1;omega
theorem UY l t{f}(j:f<=300) a b late k G w:(bindM (bT (mM l t f 2 a b) late k) [] G w).1.length<=500000:=by
 have h:=WK j;have:=Bz (Si (PY l t j a b) h.2.2 h.1 h.2.1 late k) G w;omega
theorem UZ l t{f}(J:f<=300) a b late k o w:(jL (mM l t f 2 a b) late 32 k o ([],[],w)).1.length<=20000000/\(jL (mM l t f 2 a b) late 32 k o ([],[],w)).2.1.length<=500000:=by
 have I:=WK J;have G:=LK (D:=10000000000000) (PY l t J a b) I.2.2 late 32 (by omega) (λm U=>zD5 I.1 U);by_cases O:w<=300000
 ·have h:=(G.cost k o ([],[],w) O (by simp)).1;have j:=G.few k o ([],[],w) O;simp only[lV]at j;omega
 ·have h:=G.kI k o ([],[],w) (by show 300000<w;omega);rw[h.1];have j:=h.2.1;simp only[lV]at j;exact⟨by omega,by simp⟩
theorem Ir l{t} f h a b{o} w(j:kV t o):qM (kV t) (mM l t f h a b o w).1:=λx G=>(EX l f h a b o w j x G).1
theorem jm{L X:List Oc}{k n}(h:k<L.length):kT X (L.drop k) n=kT (yQ X (L.getD k (0,List.replicate 20 0)) n).1 (L.drop (k+1)) (yQ X (L.getD k (0,List.replicate 20 0)) n).2:=by
 rw[wO h,kT,lH,lN h];rfl
theorem Ae{L X:List Oc}{k n}(h:L.length<=k):kT X (L.drop k) n=(X,n):=by
 rw[uL h];rfl
theorem Cq{F}{L X:List Oc}{k n}(h:k<L.length):bindM F X (L.drop k) n=bindM F (kT X (F (L.getD k (0,List.replicate 20 0)) n).1 (F (L.getD k (0,List.replicate 20 0)) n).2).1 (L.drop (k+1)) (kT X (F (L.getD k (0,List.replicate 20 0)) n).1 (F (L.getD k (0,List.replicate 20 0)) n).2).2:=by
 rw[wO h,bindM,lH,lN h];rfl
theorem Iu{F}{L X:List Oc}{k n}(h:L.length<=k):bindM F X (L.drop k) n=(X,n):=by
 rw[uL h];rfl
theorem DN{L X:List Oc}{k n M}{R}(e:kT X (L.drop k) n=R)(j:k<L.length)(G:R.2<=M):n+X.length+1<=M/\X.length<=R.1.length:=by
 have g:=vB (L.drop k) X n;have h:=vB (L.drop (k+1)) (yQ X (L.getD k (0,List.replicate 20 0)) n).1 (yQ X (L.getD k (0,List.replicate 20 0)) n).2;rw[<-jm j,e,jh]at h;rw[e]at g;omega
theorem Iw{F}(up:∀o w,w<=(F o w).2){L X:List Oc}{k n M}{R}(e:bindM F X (L.drop k) n=R)(j:k<L.length)(I:R.2<=M):
  (F (L.getD k (0,List.replicate 20 0)) n).2<=M/\(kT X (F (L.getD k (0,List.replicate 20 0)) n).1 (F (L.getD k (0,List.replicate 20 0)) n).2).2<=M/\(kT X (F (L.getD k (0,List.replicate 20 0)) n).1 (F (L.getD k (0,List.replicate 20 0)) n).2).1.length<=R.1.length:=by
 rw[Cq j]at e;have G:=vB (F (L.getD k (0,List.replicate 20 0)) n).1 X (F (L.getD k (0,List.replicate 20 0)) n).2;have h:=dK up (L.drop (k+1)) (kT X (F (L.getD k (0,List.replicate 20 0)) n).1 (F (L.getD k (0,List.replicate 20 0)) n).2).1 (kT X (F (L.getD k (0,List.replicate 20 0)) n).1 (F (L.getD k (0,List.replicate 20 0)) n).2).2;rw[e]at h;omega
variable {t:BA}
def vS:List Oc->List Oc->List Oc
 | acc,[]=>acc
 | acc,x::l=>vS (if x∈acc then acc else acc++[x]) l
theorem AU:∀a b h,vS h (a++b)=vS (vS h a) b
 | [],b,h=>rfl
 | x::a,b,h=>by rw[rR,vS,vS,AU a b]
theorem DR:∀l j y,y∈vS j l↔y∈j\/y∈l
 | [],j,y=>by simp[vS]
 | x::l,j,y=>by
  rw[vS,DR l];split
  ·rename_i G
   rw[oH];constructor
   ·rintro(h | h)
    ·exact gG h
    ·exact lZ (lZ h)
   ·rintro(h | h | h)
    ·exact gG h
    ·subst h;exact gG G
    ·exact lZ h
  ·rw[gV,wL,oH,or_assoc]
theorem zBi:∀l j,(∀x∈l,x∈j)->vS j l=j
 | [],j,_=>rfl
 | x::l,j,h=>by rw[vS,lG (h x (by simp))];exact zBi l j (λy G=>h y (by simp[G]))
def jr(a b:List Oc):Prop:=∀acc,vS acc a=vS acc b
theorem jr.refl a:jr a a:=λ_=>rfl
theorem jr.symm{a b}(h:jr a b):jr b a:=λx=>(h x).symm
theorem jr.trans{a b c}(h:jr a b)(g:jr b c):jr a c:=λx=>(h x).trans (g x)
theorem jr.of_eq{a b}(h:a=b):jr a b:=h ▸ jr.refl a
theorem jr.app{a b c d}(h:jr a b)(g:jr c d):jr (a++c) (b++d):=λx=>by rw[AU,AU,h x,g]
theorem jr.mem{a b}(G:jr a b) x:x∈a↔x∈b:=by
 have h:=DR a [] x;have j:=DR b [] x;rw[G []]at h;simp only[sS,false_or]at h j;exact h.symm.trans j
theorem LU{p x r}(j:∀y∈x,y∈p):jr (p++x++r) (p++r):=λh=>by
 rw[AU,AU,AU,zBi x (vS h p) (λy G=>(DR p h y).2 (lZ (j y G)))]
theorem PZ:∀l a,jr (vS a l) (a++l)
 | [],a=>by rw[vS,uJ];exact jr.refl a
 | x::l,a=>by
  rw[vS];split
  ·rename_i j
   refine(PZ l a).trans (jr.symm ?_);have:=LU (p:=a) (x:=[x]) (r:=l) (λy h=>by simp at h;subst h;exact j);simpa using this
  ·have:=PZ l (a++[x]);simpa using this
theorem Kr F:∀l a,jr ((vS a l).flatMap F) ((a++l).flatMap F)
 | [],a=>by rw[vS,uJ];exact jr.refl _
 | x::l,a=>by
  rw[vS];split
  ·rename_i h
   refine(Kr F l a).trans (jr.symm ?_);have:=LU (p:=a.flatMap F) (x:=F x) (r:=l.flatMap F) (λy j=>eO.2 ⟨x,h,j⟩);simpa[wU,gT]using this
  ·have:=Kr F l (a++[x]);simpa using this
theorem jr.zJ{a b} F(j:jr a b):jr (a.flatMap F) (b.flatMap F):=by
 have h:=Kr F a [];have G:=Kr F b [];rw[j []]at h;exact h.symm.trans G
theorem Kt:∀l a,(vS a l).head?=(a++l).head?
 | [],a=>by rw[vS,uJ]
 | x::l,a=>by
  rw[vS];split
  ·rename_i h
   rw[Kt l a];cases a with
   | nil=>simp at h
   | cons y a=>rfl
  ·rw[Kt l];simp
theorem jr.head{a b}(j:jr a b):a.head?=b.head?:=by
 have h:=Kt a [];have G:=Kt b [];rw[j []]at h;simpa using h.symm.trans G
theorem Oo(a:List Oc):a.take 1=a.head?.toList:=by cases a <;> rfl
theorem LV(a:List Oc):a.isEmpty=a.head?.isNone:=by cases a <;> rfl
theorem jr.sub{a b} s o(h:jr a b):DF s o a=DF s o b:=by
 unfold DF;rw[Oo,Oo,LV,LV,h.head]
theorem jr.map{a b} g(h:jr a b):jr (a.map g) (b.map g):=by
 have e:∀l:List Oc,l.map g=l.flatMap (λx=>[g x]):=λl=>by induction l <;> simp_all
 rw[e,e];exact h.zJ _
theorem WL{l}{o}{w}(j:(yQ l o w).2<=300000):(yQ l o w).1=vS l [o]:=by
 rw[jh]at j;unfold yQ;rw[vS,vS];by_cases h:o∈l
 ·rw[lG ⟨j,h⟩,lG h]
 ·rw[lC (λG=>h G.2),lC h]
theorem Oq:∀xs l w,(kT l xs w).2<=300000->(kT l xs w).1=vS l xs
 | [],l,w,_=>rfl
 | x::xs,l,w,h=>by
  rw[kT]at h |-;have g:=vB xs (yQ l x w).1 (yQ l x w).2;rw[Oq xs _ _ h,WL (by omega),<-AU];rfl
theorem FJ{xs l}{w}(h:(kT l xs w).2<=300000):jr (kT l xs w).1 (l++xs):=by
 rw[Oq xs l w h];exact PZ xs l
structure AV (t:BA) (f:Oc->Nat->OW) (F:Oc->List Oc):Prop where
 up:∀o w,w<=(f o w).2
 eq:∀o w,kV t o->(f o w).2<=300000->jr (f o w).1 (F o)
 ok:∀o,kV t o->iq t o (F o)
theorem BF{f F}(G:AV t f F):∀j next w,qM (kV t) j->(bindM f next j w).2<=300000->jr (bindM f next j w).1 (next++j.flatMap F)
 | [],next,w,_,_=>by rw[bindM];simp;exact jr.refl _
 | x::j,next,w,hn,h=>by
  rw[bindM]at h |-;have g:=dK G.up j (kT next (f x w).1 (f x w).2).1 (kT next (f x w).1 (f x w).2).2;have W:=vB (f x w).1 next (f x w).2
  have I:=G.eq x w (hn x (by simp)) (by omega);have J:=FJ (xs:=(f x w).1) (l:=next) (w:=(f x w).2) (by omega);have O:=BF G j _ _ (λy U=>hn y (by simp[U])) h;refine O.trans ?_;rw[gT,<-gZ];exact(J.trans ((jr.refl next).app I)).app (jr.refl _)
theorem Gx{P a b}(h:jr a b)(g:qM P b):qM P a:=λx j=>g x ((h.mem x).1 j)
theorem Iz{F}(hF:∀o,kV t o->iq t o (F o)){l}(j:qM (kV t) l):qM (kV t) (l.flatMap F):=λy h=>by
 rw[eO]at h;obtain⟨x,G,h⟩:=h;exact(hF x (j x G) y h).1
theorem LW{f}{X}(G:AV t f (outs t X)):∀(n) (j) (w),qM (kV t) j->(qC f n j w).2<=300000->jr (qC f n j w).1 (j.flatMap (outs t (kM X n)))
 | 0,j,w,_,_=>jr.of_eq (by simp[qC,kM,outs])
 | n+1,j,w,hn,h=>by
  rw[qC]at h |-;have g:=ji G.up n (bindM f [] j w).1 (bindM f [] j w).2;have I:=BF G j [] w hn (by omega);rw[sN]at I;have J:=LW G n _ _ (Gx I (Iz G.ok hn)) h;refine J.trans ((I.zJ _).trans (jr.of_eq ?_));rw[aI];rfl
end Mt
namespace Mt
variable {t:BA}
def jo(t:BA)(X:Re)(late:Bool)(k:Int)(o:Oc):List Oc:=if k<0 then fI (outs t X) late (t.size-o.1) o else outs t (fF X late k.toNat) o
def JW(t:BA)(k:Int)(o:Oc):Nat:=if k<0 then t.size-o.1 else k.toNat
def chG(t:BA)(X:Re)(late:Bool)(k:Int)(pos:Nat)(y:Oc):List Oc:=if 0<k then jo t X late (k-1) y else if y.1≠pos then jo t X late k y else[]
theorem zEB X late o:jo t X late 0 o=[o]:=rfl
theorem DT{F:Oc->List Oc} p:∀l:List Oc,(l.filter p).flatMap F=l.flatMap (λx=>if p x then F x else[])
 | []=>rfl
 | x::l=>by
  rw[wG,gT];split
  ·rw[gT,DT p l]
  ·rw[DT p l];rfl
theorem Gy{F j:Oc->List Oc}:∀{l:List Oc},(∀x∈l,F x=j x)->l.flatMap F=l.flatMap j
 | [],_=>rfl
 | x::l,h=>by rw[gT,gT,h x (by simp),Gy λy G=>h y (by simp[G])]
theorem zEC X late{k o}(Y:k≠0)(J:kV t o):jo t X late k o=if late then o::(outs t X o).flatMap (chG t X late k o.1)else(outs t X o).flatMap (chG t X late k o.1)++[o]:=by
 have h:=dD X o J;by_cases I:k<0
 ·have e:jo t X late k o=fI (outs t X) late (t.size-o.1+1) o:=by
   unfold jo;rw[lG I];exact Ij (λx h=>dD X x h) _ _ o J (by omega) (by omega)
  rw[e,Lu,DT]
  have j:(outs t X o).flatMap (λx=>if(x.1 != o.1)=true then fI (outs t X) late (t.size-o.1) x else[])=(outs t X o).flatMap (chG t X late k o.1):=by
   refine Gy λy O=>?_
   have W:=h y O;unfold chG;rw[lC (show ¬0<k by omega)];by_cases G:y.1=o.1
   ·simp[G]
   ·rw[lG (by simpa using G),lG G];unfold jo;rw[lG I];exact Ij (λx h=>dD X x h) _ _ y W.1 (by omega) (by omega)
  rw[j]
 ·obtain⟨m,U⟩:∃m:Nat,k=(m:Int)+1:=⟨(k-1).toNat,by omega⟩
  subst U
  have e:jo t X late ((m:Int)+1) o=outs t (.opt late (.cat X (fF X late m))) o:=by
   unfold jo;rw[lC (by omega),show((m:Int)+1).toNat=m+1 by omega];rfl
  have j:(outs t X o).flatMap (chG t X late ((m:Int)+1) o.1)=(outs t X o).flatMap (outs t (fF X late m)):=by
   refine Gy λy O=>?_
   unfold chG jo;rw[lG (by omega),lC (by omega),show((m:Int)+1-1).toNat=m by omega]
  rw[e,j];simp only[outs]
theorem zED X late k o(h:kV t o):iq t o (jo t X late k o):=by
 unfold jo;split
 ·exact dD (.loop late X) o h
 ·exact dD _ o h
def zDj(t:BA)(X:Re)(late:Bool)(s:Tr)(x:Oc × Int):Prop:=∀y∈jo t X late x.2 x.1,y∈s.2.1
structure ni (t:BA) (X:Re) (late:Bool) (s s':Tr) (L:List Oc):Prop where
 out:s'.2.1=vS s.2.1 L
 seen:∀x∈s'.1,x∈s.1\/zDj t X late s' x
variable {X:Re} {late:Bool}
theorem ni.sub{s s' L}(h:ni t X late s s' L) y(j:y∈s.2.1):y∈s'.2.1:=by
 rw[h.out,DR];exact gG j
theorem ni.comp{s s' L}(h:ni t X late s s' L){x}(j:zDj t X late s x):zDj t X late s' x:=λy G=>h.sub y (j y G)
theorem ni.refl s:ni t X late s s []:=⟨rfl,λx h=>gG h⟩
theorem ni.trans{a b c L M}(h:ni t X late a b L)(g:ni t X late b c M):ni t X late a c (L++M):=
 ⟨by rw[g.out,h.out,AU],λx I=>(g.seen x I).elim (λj=>(h.seen x j).elim gG (λG=>lZ (g.comp G))) lZ⟩
def MZ(t:BA)(X:Re)(late:Bool)(M:Nat)(s:Tr):Prop:=∀x∈s.1,JW t x.2 x.1<M->zDj t X late s x
theorem MZ.post{M s s' L}(h:MZ t X late M s)(g:ni t X late s s' L):MZ t X late M s':=λx I j=>(g.seen x I).elim (λG=>g.comp (h x G j)) id
theorem MZ.less{M N s}(h:MZ t X late M s)(I:N<=M):MZ t X late N s:=λx j G=>h x j (by omega)
theorem Ot{g}(up:∀k o s,Tr.up s (g k o s))(M)(k)(h)
  (J:∀k' y s,kV t y->JW t k' y<M->MZ t X late M s->(g k' y s).2.2<=300000->ni t X late s (g k' y s) (jo t X late k' y)):
  ∀(G) (s),(∀y∈G,kV t y/\(0<k->JW t (k-1) y<M)/\(¬0<k->y.1≠h->JW t k y<M))->MZ t X late M s->(pJ g k h G s).2.2<=300000->ni t X late s (pJ g k h G s) (G.flatMap (chG t X late k h))
 | [],s,_,_,_=>ni.refl s
 | y::G,s,hy,hi,j=>by
  have I:=hy y (by simp)
  have step:(if 0<k then g (k-1) y s else if y.1≠h then g k y s else s).2.2<=300000->ni t X late s (if 0<k then g (k-1) y s else if y.1≠h then g k y s else s) (chG t X late k h y):=by
   unfold chG;split
   ·rename_i O
    exact λj=>J _ _ _ I.1 (I.2.1 O) hi j
   ·rename_i O
    split
    ·rename_i W
     exact λj=>J _ _ _ I.1 (I.2.2 O W) hi j
    ·exact λ_=>ni.refl s
  rw[pJ]at j |-;generalize (if 0<k then g (k-1) y s else if y.1≠h then g k y s else s)=s1 at *;have u:=qd up k h G s1;have U:=step (gX u.1 j);rw[gT];exact U.trans (Ot up M k h J G s1 (λz hz=>hy z (by simp[hz])) (hi.post U) j)
theorem LX{l}{o}{out}{w}(h:(tailA l o out w).2<=300000):(tailA l o out w).1=vS out (if l then[o]else[]):=by
 unfold tailA at h |-;split
 ·rename_i j
  rw[lG j]at h;exact WL h
 ·rfl
theorem Ou{f}(J:AV t f (outs t X)):∀(n) (k) (o) (s),kV t o->JW t k o<n->MZ t X late (JW t k o+1) s->(jL f late n k o s).2.2<=300000->ni t X late s (jL f late n k o s) (jo t X late k o)
 | 0,k,o,s,_,hm,_,_=>absurd hm (by omega)
 | n+1,k,o,s,ho,hm,hi,h=>by
  unfold jL at h |-;by_cases W:(o,k)∈s.1
  ·rw[lG W]at h |-;have c:=hi (o,k) W (by show JW t k o<_;omega);exact⟨(zBi _ _ c).symm,λx G=>gG G⟩
  ·rw[lC W]at h |-;by_cases a1:300000<s.2.2+s.1.length+1
   ·rw[lG a1]at h;dsimp only at h;omega
   ·rw[lC a1]at h |-;dsimp only at h |-;generalize O:tailA late o s.2.1 (s.2.2+s.1.length+1)=A at h |-;have a4:=Ch J.up (dL J.up late n) k o (s.1++[(o,k)],A)
    have a7:(dZ f (jL f late n) k o (s.1++[(o,k)],A)).2.2<=300000->ni t X late (s.1++[(o,k)],A) (dZ f (jL f late n) k o (s.1++[(o,k)],A)) (if k=0 then[]else(outs t X o).flatMap (chG t X late k o.1)):=by
     unfold dZ;split
     ·exact λ_=>ni.refl _
     ·rename_i U
      dsimp only;intro a0;have u:=qd (dL J.up late n) k o.1 (f o A.2).1 (s.1++[(o,k)],A.1,(f o A.2).2);have e:=J.eq o A.2 ho (gX u.1 a0)
      have b0:∀y∈(f o A.2).1,kV t y/\(0<k->JW t (k-1) y<JW t k o)/\(¬0<k->y.1≠o.1->JW t k y<JW t k o):=λy j=>by
       have q:=J.ok o ho y ((e.mem y).1 j);have b5:=q.1.pos;refine⟨q.1,λa5=>?_,λa5 b4=>?_⟩
       ·unfold JW;rw[lC (by omega),lC (by omega)];omega
       ·unfold JW;rw[lG (by omega),lG (by omega)];omega
      have inv:MZ t X late (JW t k o) (s.1++[(o,k)],A.1,(f o A.2).2):=λx G a9=>by
       rw[gV,wL]at G;cases G with
       | inl G =>
        have c:=hi x G (by omega);intro y j
        have a6:A.1=vS s.2.1 (if late then[o]else[]):=by
         have q:(tailA late o s.2.1 (s.2.2+s.1.length+1)).2<=300000:=by
          rw[O];have:=J.up o A.2;have:=u.1;dsimp only at this;omega
         rw[<-O];exact LX q
        show y∈A.1;rw[a6,DR];exact gG (c y j)
       | inr G=>subst G;exact absurd a9 (by dsimp only;omega)
      have p:=Ot (X:=X) (late:=late) (dL J.up late n) (JW t k o) k o.1 (λb1 y s j b3 a8 h=>Ou J n b1 y s j (by omega) (a8.less (by omega)) h) (f o A.2).1 (s.1++[(o,k)],A.1,(f o A.2).2) b0 inv a0;refine⟨?_,p.seen⟩;have:=p.out;dsimp only at this |-;rw[this];exact(e.zJ _) _
    generalize dZ f (jL f late n) k o (s.1++[(o,k)],A)=B at *;have b2:=mY (!late) o B.2.1 B.2.2;have p:=a7 (by omega)
    have a3:A.1=vS s.2.1 (if late then[o]else[]):=by
     rw[<-O];exact LX (by rw[O];have:=a4.1;dsimp only at this;omega)
    have Y:=LX (l:=!late) (o:=o) (out:=B.2.1) (w:=B.2.2) h;have Z:=p.out;dsimp only at Z
    have a2:(tailA (!late) o B.2.1 B.2.2).1=vS s.2.1 (jo t X late k o):=by
     rw[Y,Z,a3,<-AU,<-AU];congr 1;by_cases U:k=0
     ·subst U;rw[zEB,lG rfl];cases late <;> rfl
     ·rw[zEC X late U ho,lC U];cases late <;> simp
    refine⟨a2,λx G=>?_⟩;have sub:∀y∈B.2.1,y∈(tailA (!late) o B.2.1 B.2.2).1:=λy j=>by rw[Y,DR];exact gG j
    rcases p.seen x G with I | I
    ·rw[gV,wL]at I;rcases I with I | I
     ·exact gG I
     ·right;subst I;intro y j;show y∈(tailA (!late) o B.2.1 B.2.2).1;rw[a2,DR];exact lZ j
    ·exact lZ (λy j=>sub y (I y j))
theorem Qa{f}(h:AV t f (outs t X))(late)(k)(J:k<32)(O:t.size<32):AV t (bT f late k) (jo t X late k) where
 up:=uj h.up late k
 eq:=λo w j G=>by
  have:=Ou (X:=X) (late:=late) h 32 k o ([],[],w) j (by unfold JW;split <;> omega) (λx I=>by simp at I) G;exact(jr.of_eq this.out).trans ((PZ _ _).trans (jr.refl _))
 ok:=zED X late k
def zD6(r:zU):Prop:=0<=r.n/\(r.m<0\/r.n<=r.m)/\r.m<32
theorem Sm{f}(I:AV t f (outs t X)){r}(a4:zD6 r)(a5:t.size<32):AV t (wm f r) (outs t (Db X r)) where
 up:=Fz I.up r
 ok:=λo h=>dD _ o h
 eq:=λo w h J=>by
  obtain⟨a8,a9,b0⟩:=a4;have a3:pW r<32:=by unfold pW;split <;> omega
  have W:=Qa I (decide (r.jB=1)) (pW r) a3 a5;have one:qM (kV t) [o]:=λx j=>by simp at j;subst j;exact h
  unfold wm at J |-;dsimp only at J |-;have g:=dK W.up (qC f r.n.toNat [o] w).1 [] (qC f r.n.toNat [o] w).2;have G:=LW I r.n.toNat [o] w one (by omega);rw[gT,aP,uJ]at G;have a7:qM (kV t) (qC f r.n.toNat [o] w).1:=Gx G (λx j=>(dD _ o h x j).1);have U:=BF W _ [] _ a7 J;rw[sN]at U;have a1:=U.trans (G.zJ _);have key:jr (bindM (bT f (decide (r.jB=1)) (pW r)) [] (qC f r.n.toNat [o] w).1 (qC f r.n.toNat [o] w).2).1 (outs t (let O:=if 0<r.n\/0<r.m then(if r.n<r.m then Re.cat (kM X r.n.toNat) (fF X (decide (r.jB=1)) (r.m-r.n).toNat)else kM X r.n.toNat)else Re.qb
 if r.m<0 then Re.cat O (.loop (decide (r.jB=1)) X)else O) o):=by
   refine a1.trans (jr.of_eq ?_)
   have z:∀{R:Re},(¬(0<r.n\/0<r.m)->True)->(if 0<r.n\/0<r.m then(kM X r.n.toNat)else Re.qb)=kM X r.n.toNat:=λ_=>by
    by_cases a2:0<r.n
    ·rw[lG (gG a2)]
    ·have e:r.n.toNat=0:=by omega
     rw[e];split <;> rfl
   by_cases Z:r.m<0
   ·dsimp only;rw[lG Z]
    have e:(if 0<r.n\/0<r.m then(if r.n<r.m then Re.cat (kM X r.n.toNat) (fF X (decide (r.jB=1)) (r.m-r.n).toNat)else kM X r.n.toNat)else Re.qb)=kM X r.n.toNat:=by
     rw[lC (show ¬r.n<r.m by omega)];exact z (R:=.qb) (λ_=>trivial)
    rw[e];show _=(outs t (kM X r.n.toNat) o).flatMap (outs t (.loop (decide (r.jB=1)) X));refine Gy λy a6=>?_
    unfold jo pW;rw[lC (show ¬0<=r.m by omega),lG (by omega)];rfl
   ·dsimp only;rw[lC Z];by_cases Y:r.n<r.m
    ·rw[lG (lZ (by omega)),lG Y];show _=(outs t (kM X r.n.toNat) o).flatMap (outs t (fF X (decide (r.jB=1)) (r.m-r.n).toNat));refine Gy λy a6=>?_
     unfold jo pW;rw[lG (show 0<=r.m by omega),lC (by omega)]
    ·rw[lC Y,z (R:=.qb) (λ_=>trivial)];have a0:pW r=0:=by unfold pW;rw[lG (show 0<=r.m by omega)];omega
     rw[a0];have:(λy=>jo t X (decide (r.jB=1)) 0 y)=λy=>[y]:=rfl
     show(outs t (kM X r.n.toNat) o).flatMap (λy=>[y])=_;simp
  unfold Db;dsimp only at key |-;split
  ·have:=key.sub 0 o;unfold DF at this;rw[lG rfl]at this;rw[this];exact jr.refl _
  ·exact key
def IB(l:List zU):Prop:=∀i,jX l i=8->zD6 (l.getD i zZ)
theorem FK{at' pt}{A P}{l}(W:∀i j,AV t (at' i j) (outs t (A i j)))(Z:∀i j,jX l j=8->AV t (pt i j) (outs t (P i j)))(up:∀i j o w,w<=(pt i j o w).2)(b):∀(f i) (G) (w),qM (kV t) G->(bW at' pt l b f i G w).2<=300000->jr (bW at' pt l b f i G w).1 (G.flatMap (outs t (Fh A P l b f i)))
 | 0,i,G,w,_,_=>jr.of_eq (by simp[bW,Fh,outs])
 | f+1,i,G,w,hn,h=>by
  unfold bW Fh at *;by_cases O:b<=i
  ·rw[lG O,lG O];exact jr.of_eq (by simp[outs])
  ·rw[lC O]at h;rw[lC O,lC O];by_cases J:after l i<b/\jX l (after l i)=8
   ·rw[lG J]at h;rw[lG J,lG J];have U:=Z i (after l i) J.2;have g:=qg (λi j=>(W i j).up) up l b f (after l i+1) (bindM (pt i (after l i)) [] G w).1 (bindM (pt i (after l i)) [] G w).2;have I:=BF U G [] w hn (by omega);rw[sN]at I;have Y:=FK W Z up b f _ _ _ (Gx I (Iz U.ok hn)) h;refine Y.trans ((I.zJ _).trans (jr.of_eq ?_));rw[aI];rfl
   ·rw[lC J]at h;rw[lC J,lC J];have U:=W i (after l i);have g:=qg (λi j=>(W i j).up) up l b f (after l i) (bindM (at' i (after l i)) [] G w).1 (bindM (at' i (after l i)) [] G w).2;have I:=BF U G [] w hn (by omega);rw[sN]at I;have Y:=FK W Z up b f _ _ _ (Gx I (Iz U.ok hn)) h;refine Y.trans ((I.zJ _).trans (jr.of_eq ?_));rw[aI];rfl
theorem zBj l(a7:IB l)(a8:t.size<32):∀f G a b,(3<=G->jX l b=8)->AV t (mM l t f G a b) (outs t (tree l f G a b)):=by
 intro f;induction f with
 | zero =>
  intro G a b _;refine⟨xY l t 0 G a b,λo w j h=>?_,λo j=>dD _ o j⟩;unfold mM at h |-;dsimp only at h |-;rw[lC (by omega)];exact jr.refl _
 | succ f I =>
  intro G a b a9;refine⟨xY l t (f+1) G a b,λo w j h=>?_,λo j=>dD _ o j⟩
  match G with
  | 0 =>
   unfold mM at h |-;unfold tree;split
   ·rename_i a1
    rw[lG a1]at h;exact(I 1 a (bar l a b) (by omega)).eq o w j h
   ·rename_i a1
    rw[lC a1]at h;have b0:=vB (mM l t f 0 (bar l a b+1) b o (mM l t f 1 a (bar l a b) o w).2).1 (mM l t f 1 a (bar l a b) o w).1 (mM l t f 0 (bar l a b+1) b o (mM l t f 1 a (bar l a b) o w).2).2;have b1:=xY l t f 0 (bar l a b+1) b o (mM l t f 1 a (bar l a b) o w).2;have a4:=(I 1 a (bar l a b) (by omega)).eq o w j (by omega);have a5:=(I 0 (bar l a b+1) b (by omega)).eq o (mM l t f 1 a (bar l a b) o w).2 j (by omega);exact(FJ h).trans (a4.app a5)
  | 1 =>
   unfold mM at h |-;unfold tree;have one:qM (kV t) [o]:=λx a3=>by simp at a3;subst a3;exact j
   have:=FK (λi a0=>I 2 i a0 (by omega)) (λi a0 a6=>I 3 i a0 (λ_=>a6)) (λi a0=>xY l t f 3 i a0) b (b-a) a [o] w one h;simpa using this
  | 2 =>
   unfold mM at h |-;unfold tree;by_cases a2:300000<w+1
   ·rw[lG a2]at h;dsimp only at h;omega
   rw[lC a2]at h |-;by_cases J:jX l a=1
   ·rw[lG J,lG J];exact jr.refl _
   rw[lC J]at h;rw[lC J,lC J];by_cases O:jX l a=2
   ·rw[lG O,lG O];exact jr.refl _
   rw[lC O]at h;rw[lC O,lC O];by_cases U:jX l a=3
   ·rw[lG U,lG U];exact jr.refl _
   rw[lC U]at h;rw[lC U,lC U];by_cases W:jX l a=4
   ·rw[lG W,lG W];exact jr.refl _
   rw[lC W]at h;rw[lC W,lC W];have r:=(I 0 (a+1) (b-1) (by omega)).eq o (w+1) j;generalize mM l t f 0 (a+1) (b-1) o (w+1)=R at *;have g:=Ew (l.getD a zZ).jB (l.getD a zZ).n o R;have r:=r (by omega);unfold JR at h |-;by_cases Y:(l.getD a zZ).jB=3
   ·rw[lG Y,lG Y];exact r
   rw[lC Y]at h;rw[lC Y,lC Y];by_cases Z:(l.getD a zZ).jB=4
   ·rw[lG Z]at h;rw[lG Z,lG Z];exact(FJ h).trans (r.map _)
   ·rw[lC Z,lC Z];exact jr.of_eq (r.sub _ o)
  | G+3 =>
   unfold mM at h |-;unfold tree;exact(Sm (I 2 a b (by omega)) (a7 b (a9 (by omega))) a8).eq o w j h
end Mt
namespace Mt
variable {t:BA}
def FL(t:BA)(s:Tr):Prop:=qM (kV t) (s.1.map (·.1))/\qM (kV t) s.2.1
def WM(s:Tr):Prop:=s.1.length<=20000000/\s.2.1.length<=1000000/\s.2.2<=2 ^ 60
theorem WM.up{s s'}(h:Tr.up s s')(b:WM s'):WM s:=by
 obtain⟨u1,u2,u3,u4⟩:=h;obtain⟨j,G,I⟩:=b;exact⟨by omega,by omega,by omega⟩
theorem EB{S}{o}{k:Int}(j:qM (kV t) (S.map (·.1)))(G:kV t o):qM (kV t) ((S++[(o,k)]).map (·.1)):=λx h=>by
 rw[rW,gV]at h;rcases h with h | h
 ·exact j x h
 ·simp at h;subst h;exact G
theorem LY{g}(G:∀k o s,kV t o->FL t s->FL t (g k o s))(k)(I):∀(j) (s),qM (kV t) j->FL t s->FL t (pJ g k I j s)
 | [],s,_,h=>h
 | y::j,s,hy,h=>by
  simp only[pJ];refine LY G k I j _ (λz hz=>hy z (by simp[hz])) ?_;split
  ·exact G _ _ _ (hy y (by simp)) h
  ·split
   ·exact G _ _ _ (hy y (by simp)) h
   ·exact h
theorem DU{f}(G:∀o,kV t o->∀w,qM (kV t) (f o w).1)(late):∀(n) (k) (o) (s),kV t o->FL t s->FL t (jL f late n k o s)
 | 0,k,o,s,_,h=>h
 | n+1,k,o,s,ho,h=>by
  unfold jL;split
  ·exact h
  ·split
   ·exact⟨EB h.1 ho,h.2⟩
   ·dsimp only
    have j:FL t (dZ f (jL f late n) k o (s.1++[(o,k)],tailA late o s.2.1 (s.2.2+s.1.length+1))):=by
     unfold dZ;split
     ·exact⟨EB h.1 ho,ql _ _ ho h.2⟩
     ·exact LY (λk o s=>DU G late n k o s) k o.1 _ _ (G o ho _) ⟨EB h.1 ho,ql _ _ ho h.2⟩
    exact⟨j.1,ql _ _ ho j.2⟩
theorem Ym{f}(G:∀o,kV t o->∀w,qM (kV t) (f o w).1)(late)(n)(k)(o)(S)(A:OW)(I:kV t o)(j:qM (kV t) (S.map (·.1)))(h:qM (kV t) A.1):FL t (dZ f (jL f late n) k o (S,A)):=by
 unfold dZ;split
 ·exact⟨j,h⟩
 ·exact LY (λk o s=>DU G late n k o s) k o.1 _ _ (G o I _) ⟨j,h⟩
def DV(g:Int->Oc->Tr->Tr)(k:Int)(pos:Nat)(y:Oc)(s:Tr):Tr:=if 0<k then g (k-1) y s else if y.1≠pos then g k y s else s
theorem Va{g k h}{X:List Oc}{q s}(j:q<X.length):pJ g k h (X.drop q) s=pJ g k h (X.drop (q+1)) (DV g k h (X.getD q (0,List.replicate 20 0)) s):=by
 rw[wO j,pJ,lH,lN j];rfl
theorem Yn{g k j}{X:List Oc}{q s}(h:X.length<=q):pJ g k j (X.drop q) s=s:=by
 rw[uL h];rfl
theorem Sn{f late n k o s}(h:(o,k)∈s.1):jL f late (n+1) k o s=(s.1,s.2.1,s.2.2+s.1.length+1):=by
 unfold jL;rw[lG h]
theorem Sq{f late n k o s}(h:(o,k)∉s.1)(j:300000<s.2.2+s.1.length+1):jL f late (n+1) k o s=(s.1++[(o,k)],s.2.1,s.2.2+s.1.length+1):=by
 unfold jL;rw[lC h,lG j]
theorem Sr{f late n k o s}(h:(o,k)∉s.1)(j:¬300000<s.2.2+s.1.length+1):jL f late (n+1) k o s=((dZ f (jL f late n) k o (s.1++[(o,k)],tailA late o s.2.1 (s.2.2+s.1.length+1))).1,tailA (!late) o (dZ f (jL f late n) k o (s.1++[(o,k)],tailA late o s.2.1 (s.2.2+s.1.length+1))).2.1 (dZ f (jL f late n) k o (s.1++[(o,k)],tailA late o s.2.1 (s.2.2+s.1.length+1))).2.2):=by
 unfold jL;rw[lC h,lC j]
theorem zDk{f g k o s}(h:k=0):dZ f g k o s=s:=by unfold dZ;rw[lG h]
theorem zDl{f g k o s}(h:k≠0):dZ f g k o s=pJ g k o.1 (f o s.2.2).1 (s.1,s.2.1,(f o s.2.2).2):=by unfold dZ;rw[lC h]
theorem Vb{f}(j:∀o w,w<=(f o w).2)(late)(n)(k)(o)(s):s.2.2+s.1.length+1<=(jL f late (n+1) k o s).2.2:=by
 by_cases h:(o,k)∈s.1
 ·rw[Sn h];exact lF _
 ·by_cases G:300000<s.2.2+s.1.length+1
  ·rw[Sq h G];exact lF _
  ·rw[Sr h G];have a:=mY late o s.2.1 (s.2.2+s.1.length+1);have b:=Ch j (dL j late n) k o (s.1++[(o,k)],tailA late o s.2.1 (s.2.2+s.1.length+1));have c:=mY (!late) o (dZ f (jL f late n) k o (s.1++[(o,k)],tailA late o s.2.1 (s.2.2+s.1.length+1))).2.1 (dZ f (jL f late n) k o (s.1++[(o,k)],tailA late o s.2.1 (s.2.2+s.1.length+1))).2.2;have I:=b.1;dsimp only at I |-;omega
theorem zBk{f}(j:∀o w,w<=(f o w).2){late}{n}{k}{o}{S}{A R}(e:dZ f (jL f late n) k o (S,A)=R)(G:WM (R.1,tailA (!late) o R.2.1 R.2.2)):WM R/\WM (S,A):=by
 have c:=mY (!late) o R.2.1 R.2.2;have h:WM R:=WM.up (s':=(R.1,tailA (!late) o R.2.1 R.2.2)) ⟨c.1,lF _,c.2.1,by dsimp only;omega⟩ G;refine⟨h,?_⟩;have b:=Ch j (dL j late n) k o (S,A);rw[e]at b;exact WM.up b h
theorem zBl{k o y n}(h:JW t k o<n+1)(j:0<k):JW t (k-1) y<n:=by
 unfold JW at *;rw[lC (by omega)]at h;rw[lC (by omega)];omega
theorem zBm{k o y n}(h:JW t k o<n+1)(j:k<0)(G:o.1<=y.1)(I:y.1≠o.1)(J:y.1<=t.size):JW t k y<n:=by
 unfold JW at *;rw[lG j]at h |-;omega
end Mt
namespace Mt
variable {t:BA}
theorem ak:∀(r:Re) n,r.inc n->r.fine->0<=n->∀k∈r.caps,n<(k)
 | .qb,n,_,_,_,k,G=>by simp[Re.caps]at G
 | .one _,n,_,_,_,k,G=>by simp[Re.caps]at G
 | .back _,n,_,_,_,k,G=>by simp[Re.caps]at G
 | .head,n,_,_,_,k,G=>by simp[Re.caps]at G
 | .tail,n,_,_,_,k,G=>by simp[Re.caps]at G
 | .cat a b,n,h,hf,h0,k,G=>by
  simp only[Re.caps,gV]at G;exact G.elim (ak a n h.1 hf.1 h0 k) (ak b n h.2 hf.2 h0 k)
 | .alt a b,n,h,hf,h0,k,G=>by
  simp only[Re.caps,gV]at G;exact G.elim (ak a n h.1 hf.1 h0 k) (ak b n h.2 hf.2 h0 k)
 | .cap j a,n,h,hf,h0,k,G=>by
  simp only[Re.caps,oH]at G;have I:=h.1;rcases G with G | G
  ·subst G;omega
  ·have:=ak a j h.2 hf.2 (by omega) k G;omega
 | .sub _ a,n,h,hf,h0,k,G=>ak a n h hf.2 h0 k G
 | .opt _ a,n,h,hf,h0,k,G=>ak a n h hf h0 k G
 | .loop _ a,n,h,hf,h0,k,G=>ak a n h hf h0 k G
theorem yc:∀(r:Re) n,r.inc n->r.fine->0<=n->r.Ie
 | .qb,n,_,_,_=>trivial
 | .one _,n,_,_,_=>trivial
 | .back _,n,_,hf,_=>by have:=hf.1;have:=hf.2;exact⟨by omega,by omega⟩
 | .head,n,_,_,_=>trivial
 | .tail,n,_,_,_=>trivial
 | .cat a b,n,h,hf,h0=>⟨yc a n h.1 hf.1 h0,yc b n h.2 hf.2 h0⟩
 | .alt a b,n,h,hf,h0=>⟨yc a n h.1 hf.1 h0,yc b n h.2 hf.2 h0⟩
 | .cap j a,n,h,hf,h0=>by
  have I:=hf.1;have J:=h.1;refine⟨by omega,by omega,λG=>?_,yc a j h.2 hf.2 (by omega)⟩;have:=ak a j h.2 hf.2 (by omega) _ G;omega
 | .sub s a,n,h,hf,h0=>⟨by have:=hf.1;omega,yc a n h hf.2 h0⟩
 | .opt _ a,n,h,hf,h0=>yc a n h hf h0
 | .loop _ a,n,h,hf,h0=>yc a n h hf h0
theorem nk:∀r:Re,r.tC=r.deep
 | .qb=>rfl
 | .one _=>rfl
 | .back _=>rfl
 | .head=>rfl
 | .tail=>rfl
 | .cat a b=>by simp only[Re.tC,Re.deep,nk a,nk b]
 | .alt a b=>by simp only[Re.tC,Re.deep,nk a,nk b]
 | .cap _ a=>nk a
 | .sub _ a=>nk a
 | .opt _ a=>nk a
 | .loop _ a=>by simp only[Re.tC,Re.deep,nk a]
theorem GI(p)(h:(qW p).1=0):IB (zP p).1/\∃r,gy (zP p).1=r/\r.Ie/\r.tC<=12/\(jA p).1=r.code 0 0++[⟨13,0,0,[]⟩]:=by
 have W:(zP p).2.1=0:=by
  unfold qW at h;by_cases I:(zP p).2.1=0
  ·exact I
  ·rw[lG I]at h;exact h
 have a5:=ko p W;have a3:=Ji p W;have U:=(bG p)
 obtain⟨f,Y,e,a1,a8,a9,a0,_⟩:=kr p h;have Z:BR (zP p).1:=λa6 a2=>(a5.1 a6 a2).2.2
 have hnd:=Er (zP p).1 [] (by simpa using Z);have a4:=Dk f Y (by rw[<-e];exact U.2);refine⟨λi j=>?_,f.re,by rw[e];exact a4,?_,by rw[nk];omega,a0⟩
 ·have G:i<(zP p).1.length:=by
   by_cases G:i<(zP p).1.length
   ·exact G
   ·exfalso;unfold jX at j;rw[lH,gQ (by omega)]at j;simp[zZ]at j
  have O:(zP p).1.getD i zZ∈(zP p).1:=by
   rw[lH,lN G];exact uK G
  have J:=U.1 _ O;have a7:=a3 _ O j;unfold dG at J;exact⟨J.1,by omega,by omega⟩
 ·rw[e]at hnd;exact yc f.re 0 (Ca (Bn f 0 Y (by simpa[kD]using hnd))) a1 (by omega)
def nP(l:List zU)(t:BA):Nat->Nat->Nat->(Bool × List Int) × Bool
 | 0,_,_=>((false,nowhere),true)
 | f+1,i,w =>
  if 300000<(mM l t 283 0 0 l.length (i,nowhere) w).2 then((false,List.replicate 20 0),false)
  else match (mM l t 283 0 0 l.length (i,nowhere) w).1 with
   | x::_=>((true,(i:Int)::(x.1:Int)::x.2.drop 2),true)
   | []=>nP l t f (i+1) (mM l t 283 0 0 l.length (i,nowhere) w).2
theorem GJ{i}(h:i<=t.size):kV t (i,nowhere):=by
 refine⟨h,by simp[nowhere],λk j=>gG ?_⟩;show nowhere.getD (2*k) 0<0;unfold nowhere;rw[lH,oJ,lG (by omega)];decide
theorem Ma{l}(W:IB l)(Y:t.size<32):∀f i w F,i+f<=t.size+1->nP l t f i w=(F,true)->
  (∃j x,j<f/\(∀q,i<=q->q<i+j->outs t (gy l) (q,nowhere)=[])/\(outs t (gy l) (i+j,nowhere)).head?=some x/\F=(true,((i+j:Nat):Int)::(x.1:Int)::x.2.drop 2))
  \/ ((∀q,i<=q->q<i+f->outs t (gy l) (q,nowhere)=[])/\F=(false,nowhere))
 | 0,i,w,F,_,h=>lZ ⟨λq I G=>by omega,by simp[nP]at h;exact h.symm⟩
 | f+1,i,w,F,hi,h=>by
  have g:=(zBj l W Y 283 0 0 l.length (by omega)).eq (i,nowhere) w (GJ (by omega));rw[nP]at h;by_cases Z:300000<(mM l t 283 0 0 l.length (i,nowhere) w).2
  ·rw[lG Z]at h;simp at h
  ·rw[lC Z]at h;have g:=(g (by omega)).head;change _=(outs t (gy l) (i,nowhere)).head? at g;split at h
   ·rename_i x xs e
    rw[e]at g;refine gG ⟨0,x,by omega,λq I G=>by omega,by rw[wE];exact g.symm,?_⟩;rw[wE];exact(rJ Prod.fst h).symm
   ·rename_i e
    rw[e]at g
    have U:outs t (gy l) (i,nowhere)=[]:=by
     cases G:outs t (gy l) (i,nowhere)with
     | nil=>rfl
     | cons y a2=>rw[G]at g;simp at g
    rcases Ma W Y f (i+1) _ F (by omega) h with ⟨j,x,a1,J,a0,hF⟩ | ⟨J,hF⟩
    ·refine gG ⟨j+1,x,by omega,λq I G=>?_,by rw[show i+(j+1)=i+1+j by omega];exact a0,by rw[show i+(j+1)=i+1+j by omega];exact hF⟩;by_cases O:q=i
     ·subst O;exact U
     ·exact J q (by omega) (by omega)
    ·refine lZ ⟨λq I G=>?_,hF⟩;by_cases O:q=i
     ·subst O;exact U
     ·exact J q (by omega) (by omega)
theorem Mc{P:Nat->Nat->Prop}(j:∀q K L,P q K->K<=L->P q L):∀n,(∀q,q<n->∃K,P q K)->∃K,∀q,q<n->P q K
 | 0,_=>⟨0,λq h=>by omega⟩
 | n+1,h=>by
  obtain⟨K,G⟩:=Mc j n (λq J=>h q (by omega));obtain⟨L,I⟩:=h n (by omega);refine⟨K+L,λq J=>?_⟩;by_cases e:q<n
  ·exact j q K _ (G q e) (by omega)
  ·have:q=n:=by omega
   subst this;exact j q L _ I (by omega)
theorem YL{E r}(J:r.Ie)(U:r.tC<=12)(I:E.c=r.code 0 0++[⟨13,0,0,[]⟩]){q}(O:q<=E.t.size):
  vo E (λ(x) u=>∃R',R'.take 20=x.2/\u=((r.len:Nat):Int)::(x.1:Int)::R') 0 (q,nowhere) free ((outs E.t r (q,nowhere)).head?):=by
 have j:=XL (r.code 0 0) [⟨13,0,0,[]⟩];have h:=XO (r.code 0 0) ⟨13,0,0,[]⟩;rw[Re.zH]at h;rw[<-I]at j h;rw[<-Wx];refine mh r J (λ(x:Oc) u=>∃R',R'.take 20=x.2/\u=((r.len:Nat):Int)::(x.1:Int)::R') 0 0 (q,nowhere) free (λx=>some x) j (GJ O) (by omega) (by decide) (show free.take 20=nowhere by decide) (λx R' W _ G _=>?_);rw[rO];exact⟨1,_,zAA h (.inl rfl),R',G,rfl⟩
theorem YM{p t}(h:(qW p).1=0)(c1:t.size<=10)(G j zA I)(b7:Uv zA)(b2:0<=I){jK}(c2:jK<=t.size){F}
  (U:(xB (jA p).1 t G j zA I jK).2=false) (b5:nP (zP p).1 t (t.size+1-jK) jK 0=(F,true)):
  (xB (jA p).1 t G j zA I jK).1.ok=F.1/\(xB (jA p).1 t G j zA I jK).1.at'=F.2:=by
 obtain⟨A,b0⟩:=Us p h;obtain⟨b8,r,b9,b6,b4,b3⟩:=GI p h;obtain⟨E,W⟩:∃E,E=uh (jA p).1 t G j:=⟨_,rfl⟩
 have a9:E.c=r.code 0 0++[⟨13,0,0,[]⟩]:=by rw[W];exact b3
 have a2:E.t=t:=by rw[W];rfl
 have run:∀q,q<=t.size->vo E (λ(x:Oc) u=>∃R',R'.take 20=x.2/\u=((r.len:Nat):Int)::(x.1:Int)::R') 0 (q,nowhere) free ((outs t r (q,nowhere)).head?):=λq J=>by
  have:=YL (E:=E) b6 b4 a9 (q:=q) (by rw[a2];exact J);rw[a2]at this;exact this
 have a5:∀q,q<=t.size->outs t r (q,nowhere)=[]->∃K,Within E K (kL (q:Nat)) none:=λq J a6=>by
  have:=run q J;rw[a6]at this;exact this
 have plain:∀{n:Nat} {ok:Bool} {l:List Int} {k:Int},search E 0 (t.size+1-jK) jK n [] 0=(⟨ok,l,k⟩,false)->(xB (jA p).1 t G j zA I jK).1.ok=ok/\(xB (jA p).1 t G j zA I jK).1.at'=l:=λ{n ok l k} h=>by
  have a1:(search (uh (jA p).1 t G j) 0 (t.size+1-jK) jK n [] 0).2=false:=by rw[<-W,h]
  obtain⟨x,y⟩:=RL b0 t G j zA I jK n (by omega) b7 b2 a1 U;rw[<-W,h]at x y;exact⟨x,y⟩
 have a3:=Ma b8 (by omega) (t.size+1-jK) jK 0 F (by omega) b5;rw[b9]at a3;rcases a3 with ⟨O,x,c3,J,a1,hF⟩ | ⟨J,hF⟩
 ·obtain⟨K,Y⟩:=Mc (P:=λq K=>Within E K (kL ((jK+q:Nat):Int)) none) (λq K L h a0=>h.mono a0) O (λq h=>a5 (jK+q) (by omega) (J (jK+q) (by omega) (by omega)));have a4:=run (jK+O) (by omega);rw[a1]at a4;obtain⟨H,u,Z,R',b1,c0⟩:=a4;have Z:=Z
  obtain⟨k,U⟩:=Jp (E:=E) (K:=K) (H:=H) (b:=0) O jK (t.size+1-jK) (O*K+H) (by omega) (λq a7 a8=>by
   have:=Y (q-jK) (by omega);rw[show jK+(q-jK)=q by omega]at this;exact this) Z (lF _)
  obtain⟨a,b⟩:=plain U;subst hF;refine⟨a,?_⟩;rw[b,c0];show((jK+O:Nat):Int)::(x.1:Int)::(R'.drop 2).take 18=((jK+O:Nat):Int)::(x.1:Int)::x.2.drop 2;rw[<-b1,List.drop_take]
 ·obtain⟨K,Y⟩:=Mc (P:=λq K=>Within E K (kL ((jK+q:Nat):Int)) none) (λq K L h a0=>h.mono a0) (t.size+1-jK) (λq h=>a5 (jK+q) (by omega) (J (jK+q) (by omega) (by omega)))
  obtain⟨k,U⟩:=Jo (E:=E) (K:=K) (b:=0) (t.size+1-jK) jK ((t.size+1-jK)*K) (λq a7 a8=>by
   have:=Y (q-jK) (by omega);rw[show jK+(q-jK)=q by omega]at this;exact this) (lF _)
  subst hF;exact plain U
