import Derived.Test.YtebpgfodelggoaaGreatC04
set_option linter.all false
namespace Mt
theorem Dq t:∀x n h,jI (x++[t]) n h=if jI x n h<h+x.length then jI x n h else if n+kE x+jV t=0 then h+x.length else h+x.length+1
 | [],n,h=>by simp[jI,kE]
 | a::r,n,h=>by
  have j:∀s:List zU,jI (a::s) n h=if n+jV a=0 then h else jI s (n+jV a) (h+1):=λ_=>rfl
  rw[rR,j,j,kE,lU];by_cases G:n+jV a=0
  ·simp only[lG G];rw[lG (by omega)]
  ·simp only[lC G];rw[Dq t r];rw[show n+jV a+kE r+jV t=n+(jV a+kE r)+jV t by omega,show h+1+r.length=h+(r.length+1) by omega]
theorem tQ l t j(h:j<=l.length):jO (l++[t]) j=if jO l j<l.length then jO l j else if kE (l.drop j)+jV t=0 then l.length else l.length+1:=by
 unfold jO;rw[wB h,Dq,wW,show j+(l.length-j)=l.length by omega];rw[show(0:Int)+kE (l.drop j)+jV t=kE (l.drop j)+jV t by omega]
theorem Jg l t(h:jV t≠0):jO (l++[t]) l.length=l.length+1:=by
 unfold jO;rw[eB];simp only[jI];rw[lC (by omega)]
def BR(l:List zU):Prop:=∀j,j<l.length->jD (l.getD j zZ)=true->(l.getD j zZ).n=kD (l.take j)+1
theorem AO(l:List zU):∀i d,i+d<=l.length->kD (l.take i)<=kD (l.take (i+d))
 | i,0,_=>oL _
 | i,d+1,h=>by
  have:=AO l i d (by omega);rw[show i+(d+1)=i+d+1 by omega,ru l (i+d) (by omega)];split <;> omega
theorem zAf{l}(U:BR l){i h}(I:i<l.length)(O:h<l.length)(j:jD (l.getD i zZ)=true)(J:jD (l.getD h zZ)=true)(e:(l.getD i zZ).n=(l.getD h zZ).n):i=h:=by
 have key:∀i h,i<h->i<l.length->h<l.length->jD (l.getD i zZ)=true->jD (l.getD h zZ)=true->(l.getD i zZ).n≠(l.getD h zZ).n:=by
  intro i h W I O j J e;have a:=U i I j;have b:=U h O J;have c:=ru l i I;rw[lG j]at c;have d:=AO l (i+1) (h-(i+1)) (by omega);rw[show i+1+(h-(i+1))=h by omega]at d;omega
 rcases Nat.lt_trichotomy i h with G | G | G
 ·exact absurd e (key i h G I O j J)
 ·exact G
 ·exact absurd e.symm (key h i G O I J j)
theorem gB{l}(I:BR l) k:closed l k=true↔∃h,h<l.length/\jD (l.getD h zZ)=true/\(l.getD h zZ).n=k/\jO l h<l.length:=by
 have key:∀(m h:Nat),h+m=l.length->(pE l k (l.drop h) h=true↔∃i,h<=i/\i<l.length/\jD (l.getD i zZ)=true/\(l.getD i zZ).n=k/\jO l i<l.length):=by
  intro m;induction m with
  | zero=>intro h Y;rw[uL (by omega)];simp only[pE];exact⟨λe=>by simp at e,λ⟨i,U,G,_⟩=>by omega⟩
  | succ m Z =>
   intro h Y;rw[CW l k h (by omega)];by_cases j:jD (l.getD h zZ)=true/\(l.getD h zZ).n=k
   ·rw[lG j,gM];constructor
    ·intro e;exact⟨h,lF _,by omega,j.1,j.2,e⟩
    ·rintro⟨i,U,G,J,O,W⟩;have:i=h:=zAf I G (by omega) J j.1 (by rw[O,j.2]);subst this;exact W
   ·rw[lC j,Z (h+1) (by omega)];constructor
    ·rintro⟨i,U,G⟩;exact⟨i,by omega,G⟩
    ·rintro⟨i,U,G,J,O,W⟩;refine⟨i,?_,G,J,O,W⟩;by_cases e:i=h
     ·subst e;exact absurd ⟨J,O⟩ j
     ·omega
 have:=key l.length 0 (by omega);unfold closed;rw[show pE l k l 0=pE l k (l.drop 0) 0 from rfl,this];exact⟨λ⟨i,_,I⟩=>⟨i,I⟩,λ⟨i,I⟩=>⟨i,gD _,I⟩⟩
structure PB.Rel (b:PB) (l:List zU) (stk:List Nat):Prop where
 sq:b.seq<b.zK.length
 la:b.last=-1\/∃k:Nat,b.last=k/\k<b.zC.length
 homes:∀k,k<b.zC.length->∃h:Nat,(b.qI k).home=h/\h<b.zK.length
 nums:∀k,k<b.zC.length->0<=(b.qI k).num/\(b.qI k).num<=9
 len:b.opn.length=stk.length
 op:(stk.length:Int)=kE l
 gr:(b.kG:Int)=kD l
 Pt:∀i,i<stk.length->b.opn.getD i 0<b.zC.length/\(b.qI (b.opn.getD i 0)).num=(if jD (l.getD (stk.getD i 0) zZ)then(l.getD (stk.getD i 0) zZ).n else 0)/\(b.qI (b.opn.getD i 0)).rep.kind=0/\(b.opn.getD i 0:Int)≠b.last
 MQ:∀i,i<stk.length->stk.getD i 0<l.length/\(l.getD (stk.getD i 0) zZ).kind=6/\jO l (stk.getD i 0)=l.length/\kE (l.drop (stk.getD i 0))=(stk.length:Int)-i
 Uk:∀j,j<l.length->(l.getD j zZ).kind=6->(∀i,i<stk.length->stk.getD i 0≠j)->jO l j<l.length
 inj:∀i j,i<j->j<stk.length->b.opn.getD i 0<b.opn.getD j 0
 BH:∀k:Nat,1<=k->k<=9->b.BH.getD k false=closed l k
 cl:b.BH.length=10
 en:(b.last≠-1/\(b.qI b.last.toNat).rep.kind=0)↔pV l=true
 al:b.zC.length<=l.length
 sl:b.zK.length<=l.length+1
theorem Xt:PB.start.Rel [] []:=by
 refine⟨by decide,gG rfl,λk G=>by simp[PB.start]at G,λk G=>by simp[PB.start]at G,rfl,rfl,rfl,λi h=>by simp at h,λi h=>by simp at h,λI j=>by simp at j,λi I _ j=>by simp at j,λk J O=>?_,rfl,?_,by simp[PB.start],by simp[PB.start]⟩
 ·show(List.replicate 10 false).getD k false=closed [] k;rw[lH,oJ,lG (by omega)];rfl
 ·simp[PB.start,pV]
theorem AP l t:pV (l++[t])=AL t:=by unfold pV AL;simp
theorem jd l t:kE (l++[t])=kE l+jV t:=by rw[pO];simp[kE]
theorem rz l t:kD (l++[t])=kD l+if jD t then 1 else 0:=by rw[dn];simp[kD]
theorem La{b c:PB}{l}{Y}{t}(j:b.Rel l Y)(b8:BR l)(b9:BR (l++[t]))(a3:jV t=0)(a6:t.kind≠6)
  (a8:c.seq<c.zK.length) (b1:c.last=-1\/∃k:Nat,c.last=k/\k<c.zC.length) (b2:∀k,k<c.zC.length->∃j:Nat,(c.qI k).home=j/\j<c.zK.length) (b3:∀k,k<c.zC.length->0<=(c.qI k).num/\(c.qI k).num<=9)
  (a1:c.opn=b.opn) (b4:c.kG=b.kG) (a5:c.BH=b.BH) (c7:b.zC.length<=c.zC.length)
  (b5:∀i,i<Y.length->(c.qI (b.opn.getD i 0)).num=(b.qI (b.opn.getD i 0)).num/\(c.qI (b.opn.getD i 0)).rep.kind=0/\(b.opn.getD i 0:Int)≠c.last)
  (a9:(c.last≠-1/\(c.qI c.last.toNat).rep.kind=0)↔AL t=true) (b0:c.zC.length<=l.length+1) (c6:c.zK.length<=l.length+2):c.Rel (l++[t]) Y:=by
 have a7:jD t=false:=by unfold jD;simp[a6]
 have O:∀h,h<l.length->(l++[t]).getD h zZ=l.getD h zZ:=λh U=>by rw[yB,lC (by omega)]
 have a2:∀h,h<l.length->(l.getD h zZ).kind=6->(jO (l++[t]) h<l.length+1↔jO l h<l.length):=by
  intro h U G;rw[tQ l t h (by omega)];by_cases e:jO l h<l.length
  ·rw[lG e];exact⟨λ_=>e,λ_=>by omega⟩
  ·rw[lC e,a3]
   have:∃i,i<Y.length/\Y.getD i 0=h:=by
    refine wP λc1=>e (j.Uk h U G (λi J c0=>c1 ⟨i,J,c0⟩))
   obtain⟨i,J,rfl⟩:=this;have:=(j.MQ i J).2.2.2;rw[lC (by omega)];exact⟨λx=>by omega,λx=>absurd x e⟩
 refine⟨a8,b1,b2,b3,by rw[a1];exact j.len,by rw[jd,a3,j.op];omega,by rw[b4,j.gr,rz,a7];simp,λi J=>?_,λi J=>?_,λh U G c3=>?_,λi h c2 U=>by rw[a1];exact j.inj i h c2 U,λk b6 b7=>?_,by rw[a5];exact j.cl,by rw[AP];exact a9,by simp;exact b0,by simp;omega⟩
 ·have c4:=j.Pt i J;have a4:=b5 i J;have c5:=(j.MQ i J).1;rw[a1,O _ c5];exact⟨by omega,by rw[a4.1];exact c4.2.1,a4.2.1,a4.2.2⟩
 ·obtain⟨s1,s2,s3,s4⟩:=j.MQ i J;rw[O _ s1];refine⟨by simp only[lQ,lU,lV];omega,s2,?_,?_⟩
  ·rw[tQ l t _ (by omega),lC (by omega),lC (by omega)];simp
  ·rw[wB (by omega),jd,s4,a3];omega
 ·simp only[lQ,lU,lV]at U |-;by_cases e:h=l.length
  ·subst e;rw[yB,lG rfl]at G;exact absurd G a6
  ·rw[O h (by omega)]at G;exact(a2 h (by omega) G).2 (j.Uk h (by omega) G c3)
 ·rw[a5,j.BH k b6 b7];have a:=gB b8 (k:Int);have b':=gB b9 (k:Int);apply uE.2;rw[a,b'];constructor
  ·rintro⟨h,W,I,Z,a0⟩;refine⟨h,by simp;omega,by rw[O h W];exact I,by rw[O h W];exact Z,?_⟩;have G:(l.getD h zZ).kind=6:=by simp[jD]at I;exact I.1
   simp only[lQ,lU,lV];exact(a2 h W G).2 a0
  ·rintro⟨h,W,I,Z,a0⟩;simp only[lQ,lU,lV]at W a0;by_cases e:h=l.length
   ·subst e;rw[yB,lG rfl,a7]at I;simp at I
   ·rw[O h (by omega)]at I Z;have G:(l.getD h zZ).kind=6:=by simp[jD]at I;exact I.1
    exact⟨h,by omega,I,Z,(a2 h (by omega) G).1 a0⟩
theorem BS{b:PB} t(O:b.seq<b.zK.length)(h:b.last=-1\/∃k:Nat,b.last=k/\k<b.zC.length):
  (b.zO t).zC.length=b.zC.length+1/\(b.zO t).zK.length=b.zK.length/\(b.zO t).last=b.zC.length/\(b.zO t).seq=b.seq/\(b.zO t).opn=b.opn/\(b.zO t).kG=b.kG/\(b.zO t).BH=b.BH/\
  (b.zO t).qI b.zC.length=⟨t,0,mJ,-1,b.seq,-1⟩/\(∀k,k<b.zC.length->((b.zO t).qI k).num=(b.qI k).num/\((b.zO t).qI k).rep=(b.qI k).rep/\((b.zO t).qI k).home=(b.qI k).home):=by
 unfold PB.zO;by_cases j:b.last=-1
 ·rw[lG j];refine⟨by simp,by simp,rfl,rfl,rfl,rfl,rfl,?_,λk I=>?_⟩
  ·show(b.zC++[_]).getD _ pa0=_;rw[yB,lG rfl]
  ·have:({ b with zC:=b.zC++[(⟨t,0,mJ,-1,b.seq,-1⟩:PA)],zK:=b.zK.set b.seq ⟨b.zC.length,(b.xQ b.seq).next⟩,last:=b.zC.length }:PB).qI k=b.qI k:=by
    show(b.zC++[_]).getD _ pa0=_;rw[yB,lC (by omega)];rfl
   rw[this];exact⟨rfl,rfl,rfl⟩
 ·rw[lC j];rcases h with h | ⟨m,J,U⟩
  ·exact absurd h j
  have G:∀k,({ b with zC:=(b.zC++[(⟨t,0,mJ,-1,b.seq,-1⟩:PA)]).set b.last.toNat { b.qI b.last.toNat with next:=b.zC.length },last:=b.zC.length }:PB).qI k=if m=k then { b.qI m with next:=b.zC.length } else if k=b.zC.length then⟨t,0,mJ,-1,b.seq,-1⟩else b.qI k:=λk=>by
   unfold PB.qI;dsimp only;rw[fB,yB,J,gW];by_cases e:m=k
   ·subst e;rw[lG ⟨rfl,by simp;omega⟩,lG rfl]
   ·rw[lC (by omega),lC e]
  refine⟨by simp,by simp,rfl,rfl,rfl,rfl,rfl,?_,λk I=>?_⟩
  ·rw[G,lC (by omega),lG rfl]
  ·rw[G];by_cases e:m=k
   ·subst e;rw[lG rfl];exact⟨rfl,rfl,rfl⟩
   ·rw[lC e,lC (by omega)];exact⟨rfl,rfl,rfl⟩
theorem zAg{b:PB}{l}{U}{t}(h:b.Rel l U)(a2:BR l)(a3:BR (l++[t]))(J:jy t)(p):(b.zO p).Rel (l++[t]) U:=by
 obtain⟨a8,a9,j,b0,Y,Z,a0,G,I⟩:=BS p h.sq h.la;have a4:jV t=0:=by unfold jV;rcases J with e | e | e | e <;> simp[e]
 have a1:t.kind≠6:=by rcases J with e | e | e | e <;> omega
 have b1:=h.al;have b3:=h.sl;have b2:=h.sq;refine La h a2 a3 a4 a1 (by omega) (lZ ⟨b.zC.length,j,by omega⟩) (λk a6=>?_) (λk a6=>?_) Y Z a0 (by omega) (λi a5=>?_) ?_ (by omega) (by omega)
 ·by_cases e:k=b.zC.length
  ·subst e;rw[G];exact⟨b.seq,rfl,by omega⟩
  ·obtain⟨x,a7,b4⟩:=h.homes k (by omega);exact⟨x,by rw[(I k (by omega)).2.2];exact a7,by omega⟩
 ·by_cases e:k=b.zC.length
  ·subst e;rw[G];simp
  ·rw[(I k (by omega)).1];exact h.nums k (by omega)
 ·have O:=h.Pt i a5;have W:=I _ O.1;exact⟨W.1,by rw[W.2.1];exact O.2.2.1,by rw[j];have:=O.1;omega⟩
 ·rw[j];constructor
  ·intro _;unfold AL;rcases J with e | e | e | e <;> simp[e]
  ·intro _;refine⟨by omega,?_⟩;rw[gW,G];rfl
theorem zCL{b:PB}{l}{U}{t}(h:b.Rel l U)(Z:BR l)(a0:BR (l++[t]))(O:t.kind=8)(p)(a8:p.kind=4)(a3:b.last≠-1):(b.repeated p).Rel (l++[t]) U:=by
 have a7:=h.al;have b0:=h.sl;rcases h.la with Y | ⟨m,I,a4⟩
 ·exact absurd Y a3
 have G:∀j,(b.repeated p).qI j=if m=j then { b.qI m with rep:=p } else b.qI j:=λj=>by
  unfold PB.repeated PB.qI;dsimp only;rw[fB,I,gW];by_cases e:m=j
  ·subst e;rw[lG ⟨rfl,a4⟩,lG rfl]
  ·rw[lC (by omega),lC e]
 have a9:(b.repeated p).zC.length=b.zC.length:=by simp[PB.repeated]
 refine La h Z a0 (by unfold jV;simp[O]) (by omega) h.sq (lZ ⟨m,I,by omega⟩) (λk a2=>?_) (λk a2=>?_) rfl rfl rfl (by omega) (λi a1=>?_) ?_ (by omega) (show b.zK.length<=_ by omega)
 ·obtain⟨x,W,a6⟩:=h.homes k (by omega);refine⟨x,?_,a6⟩;rw[G];split
  ·rename_i e;subst e;exact W
  ·exact W
 ·have:=h.nums k (by omega);rw[G];split
  ·rename_i e;subst e;exact this
  ·exact this
 ·have J:=h.Pt i a1;have a5:m≠b.opn.getD i 0:=by have:=J.2.2.2;omega
  rw[G,lC a5];exact⟨rfl,J.2.2.1,J.2.2.2⟩
 ·constructor
  ·intro⟨_,x⟩;have e:(b.repeated p).last=m:=I;rw[e,gW,G,lG rfl]at x;simp only at x;omega
  ·intro x;unfold AL at x;simp[O]at x
theorem zCM{b:PB}{l}{I}{t}(h:b.Rel l I)(J:BR l)(O:BR (l++[t]))(G:t.kind=5):b.bar.Rel (l++[t]) I:=by
 have a0:=h.al;have a1:=h.sl;have W:b.bar.zK.length=b.zK.length+1:=by simp[PB.bar]
 refine La h J O (by unfold jV;simp[G]) (by omega) (by rw[W];exact eH _) (gG rfl) (λk j=>?_) (λk j=>h.nums k j) rfl rfl rfl (lF _) (λi U=>?_) ?_ (show b.zC.length<=_ by omega) (by omega)
 ·obtain⟨x,Z,a2⟩:=h.homes k j;exact⟨x,Z,by omega⟩
 ·have Y:=h.Pt i U;exact⟨rfl,Y.2.2.1,by show _≠(-1:Int);omega⟩
 ·constructor
  ·intro⟨x,_⟩;exact absurd rfl x
  ·intro x;unfold AL at x;simp[G]at x
theorem zAh{b:PB}{l}{G}{t}(j:b.Rel l G)(d2:BR l)(b1:BR (l++[t]))(W:t.kind=6)(b3:0<=t.jB/\t.jB<=4)(d1:jD t=true->kD l<9):(b.kU (jQ t)).Rel (l++[t]) (G++[l.length]):=by
 obtain⟨b9,c7,e5,e6,c0,a8,c1,c2,c8⟩:=BS (jQ t) j.sq j.la;have e7:=j.al;have f1:=j.sl;have f0:=j.sq;have U:=Gf W b3;have a4:jV t=1:=by unfold jV;simp[W]
 have e8:=nU l;have e9:=j.gr
 have d5:∀cap:Bool,((b.zO (jQ t)).number b.zC.length cap).zC.length=b.zC.length+1/\((b.zO (jQ t)).number b.zC.length cap).zK=(b.zO (jQ t)).zK/\((b.zO (jQ t)).number b.zC.length cap).opn=b.opn/\((b.zO (jQ t)).number b.zC.length cap).BH=b.BH/\((b.zO (jQ t)).number b.zC.length cap).kG=b.kG+(if cap then 1 else 0)/\
   ((b.zO (jQ t)).number b.zC.length cap).qI b.zC.length=⟨jQ t,if cap then(b.kG:Int)+1 else 0,mJ,-1,b.seq,-1⟩/\(∀k,k<b.zC.length->((b.zO (jQ t)).number b.zC.length cap).qI k=(b.zO (jQ t)).qI k):=by
  intro cap;generalize b.zO (jQ t)=d at *;cases cap with
  | false=>exact⟨b9,rfl,c0,c1,a8,c2,λ_ _=>rfl⟩
  | true =>
   refine⟨by simp[PB.number,b9],rfl,c0,c1,by simp[PB.number,a8],?_,λk W=>?_⟩
   ·show(d.zC.set b.zC.length { d.qI b.zC.length with num:=(d.kG:Int)+1 }).getD b.zC.length pa0=_;rw[fB,lG ⟨rfl,by omega⟩,c2,a8];rfl
   ·show(d.zC.set b.zC.length _).getD k pa0=_;rw[fB,lC (by omega)];rfl
 obtain⟨d6,d7,d9,c4,e0,b8,e1⟩:=d5 (decide ((jQ t).group=1));unfold PB.kU;have a6:∀k,k<b.zC.length->(((b.zO (jQ t)).number b.zC.length (decide ((jQ t).group=1))).qI k).num=(b.qI k).num/\(((b.zO (jQ t)).number b.zC.length (decide ((jQ t).group=1))).qI k).rep=(b.qI k).rep/\(((b.zO (jQ t)).number b.zC.length (decide ((jQ t).group=1))).qI k).home=(b.qI k).home:=λk W=>by rw[e1 k W];exact c8 k W
 have d8:((b.zO (jQ t)).number b.zC.length (decide ((jQ t).group=1))).zK.length=b.zK.length:=by rw[d7,c7]
 generalize (b.zO (jQ t)).number b.zC.length (decide ((jQ t).group=1))=e at *
 have a3:∀k,(e.into b.zC.length).qI k=if b.zC.length=k then { e.qI b.zC.length with body:=e.zK.length } else e.qI k:=λk=>by
  show(e.zC.set b.zC.length _).getD k pa0=_;rw[fB];by_cases x:b.zC.length=k
  ·rw[lG ⟨x,by omega⟩,lG x]
  ·rw[lC (by omega),lC x];rfl
 have b6:(e.into b.zC.length).zC.length=b.zC.length+1:=by simp[PB.into,d6]
 have c3:(e.into b.zC.length).zK.length=b.zK.length+1:=by simp[PB.into,d8]
 have b7:(e.into b.zC.length).opn=b.opn++[b.zC.length]:=by show e.opn++_=_;rw[d9]
 have num:(if decide ((jQ t).group=1)=true then(b.kG:Int)+1 else 0)=if jD t=true then t.n else 0:=by
  cases J:jD t
  ·rw[J]at U;rw[lC (by simpa using U),lC (by simp)]
  ·rw[J]at U;rw[lG (by simpa using U),lG rfl];have:=b1 l.length (by simp) (by rw[yB,lG rfl];exact J);rw[yB,lG rfl,aH]at this;omega
 have Z:∀h,h<l.length->(l++[t]).getD h zZ=l.getD h zZ:=λh a0=>by rw[yB,lC (by omega)]
 have c5:(G++[l.length]).getD G.length 0=l.length:=by rw[yB,lG rfl]
 have e2:(b.opn++[b.zC.length]).getD G.length 0=b.zC.length:=by rw[yB,lG j.len.symm]
 have c6:(l++[t]).getD l.length zZ=t:=by rw[yB,lG rfl]
 have b0:∀i,i<G.length->(G++[l.length]).getD i 0=G.getD i 0:=λi I=>by rw[yB,lC (by omega)]
 have go:∀i,i<G.length->(b.opn++[b.zC.length]).getD i 0=b.opn.getD i 0:=λi I=>by rw[yB,lC (by rw[j.len];omega)]
 have b2:∀h,h<l.length->(l.getD h zZ).kind=6->(jO (l++[t]) h<l.length+1↔jO l h<l.length):=by
  intro h a0 O;rw[tQ l t h (by omega)];by_cases x:jO l h<l.length
  ·rw[lG x];exact⟨λ_=>x,λ_=>by omega⟩
  ·rw[lC x,a4]
   have:∃i,i<G.length/\G.getD i 0=h:=by
    refine wP λb3=>x (j.Uk h a0 O (λi I d3=>b3 ⟨i,I,d3⟩))
   obtain⟨i,I,rfl⟩:=this;have:=(j.MQ i I).2.2.2;rw[lC (by omega)];exact⟨λy=>by omega,λy=>absurd y x⟩
 refine⟨by rw[c3];show e.zK.length<_;omega,gG rfl,λk O=>?_,λk O=>?_,by rw[b7];simp[j.len],by rw[jd,a4,<-j.op];simp,?_,λi I=>?_,λi I=>?_,λh a0 b4 b5=>?_,λi h d4 a0=>?_,λk c9 d0=>?_,by show e.BH.length=10;rw[c4];exact j.cl,?_,by rw[b6];simp;omega,by rw[c3];simp;omega⟩
 ·rw[b6]at O;rw[a3];split
  ·rw[b8];exact⟨b.seq,rfl,by omega⟩
  ·obtain⟨x,e4,f2⟩:=j.homes k (by omega);exact⟨x,by rw[(a6 k (by omega)).2.2];exact e4,by omega⟩
 ·rw[b6]at O;rw[a3];split
  ·rw[b8];dsimp only;rw[num];split
   ·rename_i J
    have:=b1 l.length (by simp) (by rw[yB,lG rfl];exact J);rw[yB,lG rfl,aH]at this;have:=d1 J;omega
   ·omega
  ·rw[(a6 k (by omega)).1];exact j.nums k (by omega)
 ·show(e.kG:Int)=_;rw[e0,rz];cases J:jD t
  ·rw[J]at U;rw[lC (by simpa using U)];simp;omega
  ·rw[J]at U;rw[lG (by simpa using U)];simp;omega
 ·simp only[lQ,lU,lV]at I;rw[b7];by_cases x:i<G.length
  ·have a7:=j.Pt i x;have e3:=(j.MQ i x).1;rw[go i x,b0 i x,Z _ e3,a3,lC (by omega)];exact⟨by omega,by rw[(a6 _ a7.1).1];exact a7.2.1,by rw[(a6 _ a7.1).2.1];exact a7.2.2.1,by show _≠(-1:Int);omega⟩
  ·have a9:i=G.length:=by omega
   subst a9;rw[e2,c5,c6,a3,lG rfl,b8];exact⟨by omega,num,rfl,by show _≠(-1:Int);omega⟩
 ·simp only[lQ,lU,lV]at I |-;by_cases x:i<G.length
  ·obtain⟨s1,s2,s3,s4⟩:=j.MQ i x;rw[b0 i x,Z _ s1];refine⟨by omega,s2,?_,?_⟩
   ·rw[tQ l t _ (by omega),lC (by omega),lC (by omega)]
   ·rw[wB (by omega),jd,s4,a4];omega
  ·have a9:i=G.length:=by omega
   subst a9;rw[c5,c6];refine⟨by omega,W,Jg l t (by omega),?_⟩;rw[eB];simp[kE,a4];omega
 ·simp only[lQ,lU,lV]at a0 b5 |-;by_cases x:h=l.length
  ·subst x;have:=b5 G.length (by omega);rw[yB,lG rfl]at this;exact absurd rfl this
  ·rw[Z h (by omega)]at b4;exact(b2 h (by omega) b4).2 (j.Uk h (by omega) b4 (λi I=>by have:=b5 i (by omega);rwa [b0 i I]at this))
 ·simp only[lQ,lU,lV]at a0;rw[b7,go i (by omega)];by_cases x:h<G.length
  ·rw[go h x];exact j.inj i h d4 x
  ·rw[yB,lG (by rw[j.len];omega)];exact(j.Pt i (by omega)).1
 ·show e.BH.getD k false=_;rw[c4,j.BH k c9 d0];have a:=gB d2 (k:Int);have b':=gB b1 (k:Int);apply uE.2;rw[a,b'];constructor
  ·rintro⟨h,a1,Y,a5,a2⟩;refine⟨h,by simp;omega,by rw[Z h a1];exact Y,by rw[Z h a1];exact a5,?_⟩;have O:(l.getD h zZ).kind=6:=by simp[jD]at Y;exact Y.1
   simp only[lQ,lU,lV];exact(b2 h a1 O).2 a2
  ·rintro⟨h,a1,Y,a5,a2⟩;simp only[lQ,lU,lV]at a1 a2;by_cases x:h=l.length
   ·subst x;rw[Jg l t (by omega)]at a2;omega
   ·rw[Z h (by omega)]at Y a5;have O:(l.getD h zZ).kind=6:=by simp[jD]at Y;exact Y.1
    exact⟨h,by omega,Y,a5,(b2 h (by omega) O).1 a2⟩
 ·rw[AP];constructor
  ·intro⟨x,_⟩;exact absurd rfl x
  ·intro x;unfold AL at x;simp[W]at x
theorem EO{α:Type}(l:List α) i d(h:i+1<l.length):l.dropLast.getD i d=l.getD i d:=by
 rw[lH,lH,List.getElem?_dropLast,lG (by omega)]
theorem Dr{α:Type}(l:List α) d(h:0<l.length):l.getLastD d=l.getD (l.length-1) d:=by
 rw[List.getLastD_eq_getLast?,List.getLast?_eq_getElem?,lH]
theorem Xu{b:PB}{l}{j}{t}(G:b.Rel l j)(b6:BR l)(b7:BR (l++[t]))(a9:t.kind=7)(c9:0<j.length):b.close.Rel (l++[t]) j.dropLast:=by
 have c6:=G.al;have d1:=G.sl;have a8:jV t=-1:=by unfold jV;simp[a9]
 have b1:jD t=false:=by unfold jD;simp[a9]
 have b2:=G.len;have b3:b.top=b.opn.getD (j.length-1) 0:=by unfold PB.top;rw[Dr _ _ (by omega),b2]
 have T:=G.Pt (j.length-1) (by omega);have S:=G.MQ (j.length-1) (by omega);rw[<-b3]at T;obtain⟨c7,c1,c2⟩:=G.homes b.top T.1;have O:∀h,h<l.length->(l++[t]).getD h zZ=l.getD h zZ:=λh Y=>by rw[yB,lC (by omega)]
 have U:j.dropLast.length=j.length-1:=by simp
 have a6:∀i,i<j.length-1->j.dropLast.getD i 0=j.getD i 0:=λi I=>EO _ _ _ (by omega)
 have go:∀i,i<j.length-1->b.opn.dropLast.getD i 0=b.opn.getD i 0:=λi I=>EO _ _ _ (by omega)
 have W:∀h,h<l.length->(l.getD h zZ).kind=6->(jO (l++[t]) h<l.length+1↔jO l h<l.length\/h=j.getD (j.length-1) 0):=by
  intro h Y Z;rw[tQ l t h (by omega)];by_cases x:jO l h<l.length
  ·rw[lG x];exact⟨λ_=>gG x,λ_=>by omega⟩
  ·rw[lC x,a8]
   have:∃i,i<j.length/\j.getD i 0=h:=by
    refine wP λb9=>x (G.Uk h Y Z (λi I b8=>b9 ⟨i,I,b8⟩))
   obtain⟨i,I,rfl⟩:=this;have o:=(G.MQ i I).2.2.2;by_cases z:i=j.length-1
   ·subst z;rw[lG (by omega)];exact⟨λ_=>lZ rfl,λ_=>by omega⟩
   ·rw[lC (by omega)];refine⟨λy=>by omega,λy=>?_⟩;rcases y with y | y
    ·exact absurd y x
    ·have c4:=S.2.2.2;rw[<-y]at c4;omega
 have c8:(b.qI b.top).num.toNat<10:=by have:=G.nums b.top T.1;omega
 have d0:=G.sq;refine⟨?_,lZ ⟨b.top,rfl,T.1⟩,G.homes,G.nums,by show b.opn.dropLast.length=_;simp[b2],?_,by show(b.kG:Int)=_;rw[G.gr,rz,b1];simp,λi I=>?_,λi I=>?_,λh Y a3 c3=>?_,λi h c0 Y=>?_,λk b4 b5=>?_,by show(b.BH.set _ _).length=10;rw[gY];exact G.cl,?_,by show b.zC.length<=_;simp;omega,by show b.zK.length<=_;simp;omega⟩
 ·show(b.qI b.top).home.toNat<b.zK.length;rw[c1];simpa using c2
 ·rw[jd,a8,<-G.op,U];omega
 ·rw[U]at I;show b.opn.dropLast.getD i 0<_/\(b.qI (b.opn.dropLast.getD i 0)).num=_/\(b.qI (b.opn.dropLast.getD i 0)).rep.kind=0/\(b.opn.dropLast.getD i 0:Int)≠b.top;have b0:=G.Pt i (by omega);have c5:=(G.MQ i (by omega)).1;rw[go i I,a6 i I,O _ c5];refine⟨b0.1,b0.2.1,b0.2.2.1,?_⟩;have:=G.inj i (j.length-1) (by omega) (by omega);rw[<-b3]at this;omega
 ·rw[U]at I;obtain⟨s1,s2,s3,s4⟩:=G.MQ i (by omega);rw[a6 i I,O _ s1];refine⟨by simp only[lQ,lU,lV];omega,s2,?_,?_⟩
  ·rw[tQ l t _ (by omega),lC (by omega),lC (by omega)];simp
  ·rw[wB (by omega),jd,s4,a8,U];omega
 ·simp only[lQ,lU,lV]at Y |-;by_cases x:h=l.length
  ·subst x;rw[yB,lG rfl]at a3;omega
  ·rw[O h (by omega)]at a3;refine(W h (by omega) a3).2 ?_;by_cases y:h=j.getD (j.length-1) 0
   ·exact lZ y
   ·refine gG (G.Uk h (by omega) a3 (λi I=>?_));by_cases z:i=j.length-1
    ·subst z;exact iB y
    ·have:=c3 i (by rw[U];omega)
     rwa [a6 i (by omega)]at this
 ·rw[U]at Y;show b.opn.dropLast.getD i 0<b.opn.dropLast.getD h 0;rw[go i (by omega),go h (by omega)];exact G.inj i h c0 (by omega)
 ·show(b.BH.set (b.qI b.top).num.toNat true).getD k false=_;rw[fB];have a:=gB b6 (k:Int);have b':=gB b7 (k:Int);have a7:=G.BH k b4 b5
  have a2:closed (l++[t]) (k:Int)=true↔(closed l (k:Int)=true\/(b.qI b.top).num=k):=by
   rw[a,b'];constructor
   ·rintro⟨h,a0,J,a1,a4⟩;simp only[lQ,lU,lV]at a0 a4;by_cases x:h=l.length
    ·subst x;rw[yB,lG rfl,b1]at J;simp at J
    ·rw[O h (by omega)]at J a1;have Z:(l.getD h zZ).kind=6:=by simp[jD]at J;exact J.1
     rcases(W h (by omega) Z).1 a4 with y | y
     ·exact gG ⟨h,by omega,J,a1,y⟩
     ·right;rw[T.2.1,<-y,lG J,a1]
   ·rintro(⟨h,a0,J,a1,a4⟩ | y)
    ·refine⟨h,by simp;omega,by rw[O h a0];exact J,by rw[O h a0];exact a1,?_⟩;have Z:(l.getD h zZ).kind=6:=by simp[jD]at J;exact J.1
     simp only[lQ,lU,lV];exact(W h a0 Z).2 (gG a4)
    ·rw[T.2.1]at y;by_cases z:jD (l.getD (j.getD (j.length-1) 0) zZ)=true
     ·rw[lG z]at y;refine⟨j.getD (j.length-1) 0,by simp only[lQ,lU,lV];have:=S.1;omega,by rw[O _ S.1];exact z,by rw[O _ S.1];exact y,?_⟩;simp only[lQ,lU,lV];exact(W _ S.1 S.2.1).2 (lZ rfl)
     ·rw[lC z]at y;omega
  by_cases z:(b.qI b.top).num=k
  ·have a5:(b.qI b.top).num.toNat=k/\k<10:=by clear a b' a2 W a7;omega
   rw[lG ⟨a5.1,by rw[G.cl];exact a5.2⟩,(a2.2 (lZ z))]
  ·have:=G.nums b.top T.1;have a5:¬(b.qI b.top).num.toNat=k:=by clear a b' a2 W a7;omega
   rw[lC (λx=>a5 x.1),a7];apply uE.2;rw[a2];exact⟨gG,λx=>by rcases x with x | x;exact x;exact absurd x z⟩
 ·rw[AP];show((b.top:Int)≠-1/\(b.qI (b.top:Int).toNat).rep.kind=0)↔_;rw[gW];exact⟨λ_=>by unfold AL;simp[a9],λ_=>⟨by omega,T.2.2.1⟩⟩
theorem Rx{b:PB}{l a7 t}(I:b.Rel l a7)(O:BR l)(a4:vg t):b.err (jQ t)=may l t:=by
 obtain⟨⟨b6,b7⟩,a9,a1,a2,b0⟩:=a4;have a5:t.kind=1\/t.kind=2\/t.kind=3\/t.kind=4\/t.kind=5\/t.kind=6\/t.kind=7\/t.kind=8:=by omega
 have b3:=I.op;have b2:=I.len;have b1:=I.gr;rcases a5 with e | e | e | e | e | e | e | e
 ·unfold PB.err may;rw[qH,e];simp[Nt]
 ·obtain⟨b8,b9⟩:=a1 e;have a6:(jQ t).number=t.n:=by simp[jQ,e]
  have h:b.err (jQ t)=if(b.kG:Int)<t.n\/b.BH.getD t.n.toNat false=false then 6 else 0:=by
   unfold PB.err;rw[qH,e,lC (by decide),lC (by decide),lC (by decide),lC (by decide),lG (by decide),a6]
  have j:may l t=if closed l t.n then 0 else 6:=by unfold may;rw[lG e]
  rw[h,j];have W:=I.BH t.n.toNat (by omega) (by omega);rw[show((t.n.toNat:Nat):Int)=t.n by omega]at W;rw[W];cases a3:closed l t.n
  ·rw[lG (lZ rfl)];rfl
  ·have:=(gB O t.n).1 a3;obtain⟨G,Z,a0,b4,b5⟩:=this;have a:=O G Z a0;have c:=ru l G Z;rw[lG a0]at c;have d:=AO l (G+1) (l.length-(G+1)) (by omega);rw[show G+1+(l.length-(G+1))=l.length by omega,rT]at d;rw[lC (by simp;omega)];rfl
 ·unfold PB.err may;rw[qH,e];simp[Nt]
 ·unfold PB.err may;rw[qH,e];simp[Nt]
 ·unfold PB.err may;rw[qH,e];simp[Nt]
 ·have Y:=Gf e (a2 e)
  have h:b.err (jQ t)=if 10<=b.opn.length then 8 else if(jQ t).group=1/\9<=b.kG then 9 else 0:=by
   unfold PB.err;rw[qH,e,lC (by decide),lG (by decide)]
  have j:may l t=if 10<=kE l then 8 else if t.jB=4/\9<=kD l then 9 else 0:=by unfold may;rw[lC (by omega),lC (by omega),lG e]
  rw[h,j];by_cases x:10<=kE l
  ·rw[lG x,lG (by omega)]
  ·rw[lC x,lC (by omega)];by_cases y:t.jB=4/\9<=kD l
   ·rw[lG y,lG ⟨Y.2 (by unfold jD;simp[e,y.1]),by omega⟩]
   ·rw[lC y,lC];rintro⟨a8,c0⟩;have:=Y.1 a8;simp[jD]at this;exact y ⟨this.2,by omega⟩
 ·have h:b.err (jQ t)=if b.opn.length=0 then 10 else 0:=by
   unfold PB.err;rw[qH,e,lC (by decide),lC (by decide),lG (by decide)]
  have j:may l t=if kE l=0 then 10 else 0:=by unfold may;rw[lC (by omega),lC (by omega),lC (by omega),lG e]
  rw[h,j];by_cases x:kE l=0
  ·rw[lG x,lG (by omega)]
  ·rw[lC x,lC (by omega)]
 ·have h:b.err (jQ t)=if b.last=-1\/(b.qI b.last.toNat).rep.kind≠0 then 7 else 0:=by
   unfold PB.err;rw[qH,e,lC (by decide),lC (by decide),lC (by decide),lG (by decide)]
  have j:may l t=if pV l then 0 else 7:=by unfold may;rw[lC (by omega),lG e]
  rw[h,j];have J:=I.en;cases U:pV l
  ·rw[U]at J;rw[lG]
   ·rfl
   ·by_cases x:b.last=-1
    ·exact gG x
    ·exact lZ λy=>by simpa using J.1 ⟨x,y⟩
  ·rw[U]at J;have:=J.2 rfl;rw[lC (by rintro(x | x);exact this.1 x;exact x this.2)];rfl
theorem BU{l}(h:Valid l):BR l:=λI G j=>(h I G).2.2 j
theorem Jh l t:jQ (yU l t)=jQ t:=by
 unfold yU;split
 ·rename_i h
  have:t.kind=6:=by simp[jD]at h;exact h.1
  unfold jQ;simp[this]
 ·rfl
theorem zAi{b:PB}{l J t}(j:b.Rel l J)(a1:Valid l)(Y:vg t)(h:may l t=0):∃zEa,(b.next (jQ t)).Rel (l++[yU l t]) zEa:=by
 have I:=BU a1;have O:=BU (Fq a1 Y h);have G:=ug l t;have W:=Rx j I Y;rw[h]at W;obtain⟨⟨a9,b0⟩,a5,a6,a2,a7⟩:=Y;have a4:t.kind=1\/t.kind=2\/t.kind=3\/t.kind=4\/t.kind=5\/t.kind=6\/t.kind=7\/t.kind=8:=by omega
 have U:jy t->∃zEa,(b.next (jQ t)).Rel (l++[yU l t]) zEa:=λa0=>by
  rw[NM b a0];exact⟨J,zAg j I O (by unfold jy at *;rw[G.1];exact a0) _⟩
 rcases a4 with e | e | e | e | e | e | e | e
 ·exact U (gG e)
 ·exact U (lZ (gG e))
 ·exact U (lZ (lZ (gG e)))
 ·exact U (lZ (lZ (lZ e)))
 ·rw[Gd b e];exact⟨J,zCM j I O (by rw[G.1];exact e)⟩
 ·rw[En b e,<-Jh l t];refine⟨J++[l.length],zAh j I O (by rw[G.1];exact e) (by rw[G.2.1];exact a2 e) (λZ=>?_)⟩;have a3:t.jB=4:=by simp[jD]at Z;rw[<-G.2.1];exact Z.2
  unfold may at h;rw[lC (by omega),lC (by omega),lG e]at h;by_cases x:10<=kE l
  ·rw[lG x]at h;omega
  ·rw[lC x]at h;by_cases y:t.jB=4/\9<=kD l
   ·rw[lG y]at h;omega
   ·have:¬9<=kD l:=λz=>y ⟨a3,z⟩
    omega
 ·rw[BQ b e]
  have a8:¬kE l=0:=λx=>by
   unfold may at h;rw[lC (by omega),lC (by omega),lC (by omega),lG e,lG x]at h;omega
  have:=j.op;exact⟨J.dropLast,Xu j I O (by rw[G.1];exact e) (by omega)⟩
 ·rw[Rw b e];refine⟨J,zCL j I O (by rw[G.1];exact e) _ (by rw[qH,e];decide) (λx=>?_)⟩;unfold PB.err at W;rw[qH,e,lC (by decide),lC (by decide),lC (by decide),lG (by decide),lG (gG x)]at W;omega
theorem gJ x:∀n,(kM x n).len=n*x.len
 | 0=>by simp[kM,Re.len]
 | n+1=>by rw[kM,Re.len,gJ x n,oV];omega
def Hu(q:zU):Prop:=0<=q.n/\q.n<=20/\-1<=q.m/\q.m<=20/\0<=q.jB/\q.jB<=2/\(q.m=-1\/q.n<=q.m)
def AQ(o:Nat)(q:zU):Nat:=q.n.toNat*o+(if q.m=-1 then o+3 else(q.m-q.n).toNat*(o+1))+(if q.jB=2 then 2 else 0)
theorem zAj x q(G:Hu q):(Db x q).len=AQ x.len q:=by
 obtain⟨I,J,O,U,W,Y,Z⟩:=G;unfold Db AQ;dsimp only
 have h:(if 0<q.n\/0<q.m then(if q.n<q.m then Re.cat (kM x q.n.toNat) (fF x (decide (q.jB=1)) (q.m-q.n).toNat)else kM x q.n.toNat)else Re.qb).len=q.n.toNat*x.len+(if q.m=-1 then 0 else(q.m-q.n).toNat*(x.len+1)):=by
  by_cases a:0<q.n\/0<q.m
  ·rw[lG a];by_cases b:q.n<q.m
   ·rw[lG b,lC (by omega),Re.len,gJ,Bf]
   ·rw[lC b,gJ];by_cases c:q.m=-1
    ·rw[lG c];omega
    ·rw[lC c,show(q.m-q.n).toNat=0 by omega];simp
  ·rw[lC a,show q.n.toNat=0 by omega];by_cases c:q.m=-1
   ·rw[lG c];simp[Re.len]
   ·rw[lC c,show(q.m-q.n).toNat=0 by omega];simp[Re.len]
 generalize (if 0<q.n\/0<q.m then(if q.n<q.m then Re.cat (kM x q.n.toNat) (fF x (decide (q.jB=1)) (q.m-q.n).toNat)else kM x q.n.toNat)else Re.qb)=z at *
 have j:(if q.m<0 then Re.cat z (.loop (decide (q.jB=1)) x)else z).len=q.n.toNat*x.len+(if q.m=-1 then x.len+3 else(q.m-q.n).toNat*(x.len+1)):=by
  by_cases c:q.m=-1
  ·rw[lG (by omega),lG c,Re.len,Re.len,h,lG c];omega
  ·rw[lC (by omega),lC c,h,lC c]
 generalize (if q.m<0 then Re.cat z (.loop (decide (q.jB=1)) x)else z)=a0 at *;by_cases e:q.jB=2
 ·rw[lG e,lG e,Re.len,j]
 ·rw[lC e,lC e,j];omega
def lim(n:Nat):Nat:=min n 301
theorem BX n:lim n<=301:=Nat.min_le_right _ _
theorem zCN o q(h:Hu q):lim (AQ (lim o) q)=lim (AQ o q):=by
 obtain⟨I,J,O,U,W,Y,Z⟩:=h;by_cases a:o<=301
 ·have:lim o=o:=by unfold lim;omega
  rw[this]
 ·have:lim o=301:=by unfold lim;omega
  rw[this];unfold AQ lim
  have key:∀(n c:Nat),0<n->301<=n*(301+c)/\301<=n*(o+c):=λn c a0=>by
   have j:1*(301+c)<=n*(301+c):=oO _ (by omega);have G:1*(o+c)<=n*(o+c):=oO _ (by omega);omega
  by_cases b:0<q.n.toNat
  ·have:=key q.n.toNat 0 b;simp only[wE]at this;omega
  ·have e:q.n.toNat=0:=by omega
   rw[e];simp only[aT,rO];by_cases c:q.m=-1
   ·rw[lG c,lG c];omega
   ·rw[lC c,lC c];by_cases d:0<(q.m-q.n).toNat
    ·have:=key (q.m-q.n).toNat 1 d;omega
    ·rw[show(q.m-q.n).toNat=0 by omega];simp
def rG(o:Nat)(r:Option zU):Nat:=match r with
 | none=>o
 | some q=>AQ o q
def BZ(r:Option zU):Prop:=∀q,r=some q->Hu q
theorem zAk x r(h:BZ r):(part r x).len=rG x.len r:=by
 cases r with
 | none=>rfl
 | some q=>exact zAj x q (h q rfl)
theorem zAl o r(h:BZ r):lim (rG (lim o) r)=lim (rG o r):=by
 cases r with
 | none=>show lim (lim o)=lim o;unfold lim;omega
 | some q=>exact zCN o q (h q rfl)
def Fs.ok:Fs->Prop
 | .nil=>True
 | .bar _ r=>r.ok
 | .leaf t r s=>BZ r/\s.ok
 | .Dh t i c r s=>BZ r/\(0<=t.jB/\t.jB<=4)/\i.ok/\s.ok
theorem Ul t:(fV t).len=1:=by
 unfold fV;split
 ·rfl
 split
 ·rfl
 split
 ·rfl
 ·rfl
theorem Xv t x:(iy t x).len=x.len+if t.jB=3 then 0 else 2:=by
 unfold iy;by_cases h:t.jB=3
 ·rw[lG h,lG h];rfl
 ·rw[lC h,lC h];split <;> rfl
theorem zEb(f:Fs):f.re.len=f.both.1.len+(match f.rs with | none=>0 | some r=>2+r.re.len):=by
 have h:=f.NA;unfold Fs.re;generalize f.both=G at *;obtain⟨x,y⟩:=G;simp only at h;cases j:f.rs with
 | none=>rw[j]at h;simp at h;subst h;rfl
 | some r=>rw[j]at h;simp at h;subst h;show x.len+r.re.len+2=x.len+(2+r.re.len);omega
theorem Ep{b}:∀f a n,yO b 0 0 f a n->(f.rs=none/\n=-1)\/∃(r:Fs) (k:Nat),f.rs=some r/\n=k/\k<b.zK.length/\yO b 0 0 r (b.xQ k).first (b.xQ k).next
 | .nil,a,n,h=>gG ⟨rfl,h.2⟩
 | .bar t r,a,n,⟨_,k,h1,_,h2,h3⟩=>lZ ⟨r,k,rfl,h1,h2,h3⟩
 | .leaf t r s,a,n,⟨k,_,_,_,_,_,_,h⟩=>Ep s _ _ h
 | .Dh t i c r s,a,n,⟨k,_,_,_,_,_,_,_,h⟩=>Ep s _ _ h
theorem Km:∀(f r:Fs),f.rs=some r->r.zJ.length<f.zJ.length/\(f.wf->r.wf)/\(f.ok->r.ok)
 | .nil,r,h=>by simp[Fs.rs]at h
 | .bar t s,r,h=>by simp only[Fs.rs,oP]at h;subst h;exact⟨by simp[Fs.zJ],λh=>h.2,λh=>h⟩
 | .leaf t q s,r,h=>by have:=Km s r h;exact⟨by simp[Fs.zJ];omega,λj=>this.2.1 j.2.2,λj=>this.2.2 j.2⟩
 | .Dh t i c q s,r,h=>by have:=Km s r h;exact⟨by simp[Fs.zJ];omega,λj=>this.2.1 j.2.2.2.2,λj=>this.2.2 j.2.2.2⟩
theorem count_le(p)(i)(Z:(count p i).2.2.2=true):(count p i).2.1=-1\/(count p i).1<=(count p i).2.1:=by
 rcases Ja p i with ⟨I,e⟩ | ⟨I,O,e⟩ | ⟨I,O,⟨J,e⟩ | ⟨J,U,e⟩ | ⟨J,U,⟨W,e⟩ | ⟨W,⟨h,e⟩ | ⟨h,j,e⟩ | ⟨h,j,G,e⟩ | ⟨h,j,G,Y,e⟩ | ⟨h,j,G,Y,e⟩⟩⟩⟩
 ·rw[e];exact lZ (oL _)
 ·rw[e];exact lZ (oL _)
 ·rw[e];exact lZ (oL _)
 ·rw[e];exact lZ (oL _)
 ·rw[e];exact gG rfl
 ·rw[e];exact lZ (oL _)
 ·rw[e];exact lZ (oL _)
 ·rw[e];exact lZ (oL _)
 ·rw[e];exact lZ (oL _)
 ·rw[e];simp only[lW]at G;exact lZ (by show(number p (i+1)).1<=(number p (i+1+(number p (i+1)).2+1)).1;omega)
theorem Xw(p)(i)(h:(jN p i).2=true):(jN p i).1.m=-1\/(jN p i).1.n<=(jN p i).1.m:=by
 unfold jN at h |-;by_cases j:zI p i=43
 ·rw[lG j];exact gG rfl
 ·rw[lC j]at h |-;by_cases G:zI p i=63
  ·rw[lG G];exact lZ (by simp)
  ·rw[lC G]at h |-;by_cases I:zI p i=123
   ·rw[lG I]at h |-;cases J:(count p i).2.2.2
    ·rw[J]at h;simp at h
    ·rw[lG rfl];exact count_le p i J
   ·rw[lC I];exact gG rfl
theorem Ry p i:(vM p i).1.kind≠8:=by
 rcases BK p i with ⟨G,e⟩ | ⟨J,G,⟨h,e⟩ | ⟨h,j,e⟩ | ⟨h,j,I,O,U,W,e⟩ | ⟨h,j,I,e⟩⟩ <;> rw[e] <;> simp
theorem Pv p i:(kU p i).1.kind≠8:=by
 rcases qz p i with ⟨I,e⟩ | ⟨I,⟨h,e⟩ | ⟨h,j,e⟩ | ⟨h,j,G,e⟩ | ⟨h,j,G,J,e⟩ | ⟨h,j,G,J,e⟩⟩ <;> rw[e] <;> simp
theorem Um p i:(yI p i).1.kind≠8:=by
 unfold yI;split <;> simp
theorem Xx(p)(i)(j:(kS p i).2=0)(h:(kS p i).1.kind=8):(kS p i).1.m=-1\/(kS p i).1.n<=(kS p i).1.m:=by
 unfold kS at j h |-;by_cases G:zI p i=124
 ·rw[lG G]at h;simp at h
 rw[lC G]at j h |-;by_cases I:zI p i=41
 ·rw[lG I]at h;simp at h
 rw[lC I]at j h |-;by_cases J:zI p i=94
 ·rw[lG J]at h;simp at h
 rw[lC J]at j h |-;by_cases O:zI p i=36
 ·rw[lG O]at h;simp at h
 rw[lC O]at j h |-;by_cases U:zI p i=92
 ·rw[lG U]at h;exact absurd h (Ry p i)
 rw[lC U]at j h |-;by_cases W:zI p i=91
 ·rw[lG W]at h;exact absurd h (Um p i)
 rw[lC W]at j h |-;by_cases Y:zI p i=40
 ·rw[lG Y]at h;exact absurd h (Pv p i)
 rw[lC Y]at j h |-;by_cases Z:zI p i=42\/zI p i=43\/zI p i=63\/zI p i=123
 ·rw[lG Z]at j |-;exact Xw p i (by cases x:(jN p i).2 <;> simp[x]at j |-)
 rw[lC Z]at j h |-;by_cases a0:zI p i=46
 ·rw[lG a0]at h;simp at h
 ·rw[lC a0]at h;simp at h
def Un(l:List zU):Prop:=∀t∈l,t.kind=8->t.m=-1\/t.n<=t.m
theorem Rz p:∀(f:Nat) l(i:Int),0<=i->i<=p.size->(p.size:Int)-i<f->Un l->Un (vP p l i).1:=by
 intro f;induction f with
 | zero=>intro l i G I U;omega
 | succ f W =>
  intro l i G I U J;rw[dW p l i G I];by_cases a:(p.size:Int)<=i
  ·rw[lG a];exact J
  rw[lC a];by_cases b:(kS p i).2≠0
  ·rw[lG b];intro t h;simp at h
  rw[lC b];by_cases c:may l (kS p i).1≠0
  ·rw[lG c];intro t h;simp at h
  rw[lC c];have Y:=tq p i G (by omega) (by omega);refine W _ _ (by omega) (by omega) (by omega) (λt h j=>?_);rcases gV.1 h with h | h
  ·exact J t h j
  ·simp at h;have O:=ug l (kS p i).1;subst h;rw[O.1]at j;have e:yU l (kS p i).1=(kS p i).1:=O.2.2.2.2.1 (by unfold jD;simp[j]);rw[e];exact Xx p i (by omega) j
theorem Ji(p)(h:(zP p).2.1=0):Un (zP p).1:=by
 by_cases I:p.size<=64
 ·have J:=Rz p ((p.size:Int)+1).toNat [] 0 (by omega) (by omega) (by omega) (by intro t j;simp at j);unfold zP at h |-;rw[lC (by omega),dP p I]at h |-;split
  ·rename_i G;rw[lG G]at h;exact absurd h G
  ·split
   ·intro t j;simp at j
   ·exact J
 ·unfold zP at h;rw[lG (by omega)]at h;simp at h
theorem RA:∀f:Fs,f.wf->(∀t∈f.zJ,t.kind=8->Hu t)->(∀t∈f.zJ,t.kind=6->0<=t.jB/\t.jB<=4)->f.ok
 | .nil,_,_,_=>trivial
 | .bar t r,hw,h1,h2=>RA r hw.2 (λu h=>h1 u (by simp[Fs.zJ,h])) (λu h=>h2 u (by simp[Fs.zJ,h]))
 | .leaf t r s,hw,h1,h2=>⟨λq j=>h1 q (by simp[Fs.zJ,j]) (hw.2.1 q j),RA s hw.2.2 (λu h=>h1 u (by simp[Fs.zJ,h])) (λu h=>h2 u (by simp[Fs.zJ,h]))⟩
 | .Dh t i c r s,hw,h1,h2=>⟨λq j=>h1 q (by simp[Fs.zJ,j]) (hw.2.2.2.1 q j),h2 t (by simp[Fs.zJ]) hw.1,RA i hw.2.2.1 (λu h=>h1 u (by simp[Fs.zJ,h])) (λu h=>h2 u (by simp[Fs.zJ,h])),RA s hw.2.2.2.2 (λu h=>h1 u (by simp[Fs.zJ,h])) (λu h=>h2 u (by simp[Fs.zJ,h]))⟩
theorem Er:∀m l,BR (l++m)->Fu (kD l) m
 | [],l,h=>trivial
 | t::r,l,h=>by
  have e:l++t::r=(l++[t])++r:=by simp
  refine⟨λj=>?_,?_⟩
  ·have:=h l.length (by simp) (by rw[lH,gL (lF _)];simpa using j);rw[lH,gL (lF _)]at this;simpa using this
  ·have:=Er r (l++[t]) (by rw[<-e];exact h)
   rwa [rz]at this
theorem zAm(b:PB) t:(b.next t).zC.length<=b.zC.length+1/\(b.next t).zK.length<=b.zK.length+1:=by
 have h:∀t,(b.zO t).zC.length=b.zC.length+1/\(b.zO t).zK.length=b.zK.length:=λt=>by
  unfold PB.zO;split <;> simp
 unfold PB.next
 split
 ·simp[PB.bar]
 split
 ·have:=h t;unfold PB.kU PB.into PB.number;cases decide (t.group=1) <;> simp[this.1,this.2]
 split
 ·simp[PB.close]
 split
 ·simp[PB.repeated]
 ·have:=h t;omega
theorem Wp:∀l(b:PB),(b.run l).zC.length<=b.zC.length+l.length/\(b.run l).zK.length<=b.zK.length+l.length
 | [],b=>by simp[PB.run]
 | t::r,b=>by
  have h:=zAm b (jQ t);have j:=Wp r (b.next (jQ t));rw[PB.Dn];simp only[lU];omega
theorem zAn:PB.start.At:=⟨by decide,gG rfl,λ_=>rfl,rfl⟩
theorem zAo(p)(U:(zP p).2.1=0):∃f,f.wf/\f.ok/\(zP p).1=f.zJ/\yO (PB.start.run (zP p).1) 0 0 f ((PB.start.run (zP p).1).xQ 0).first ((PB.start.run (zP p).1).xQ 0).next/\0<(PB.start.run (zP p).1).zK.length/\
  (PB.start.run (zP p).1).zC.length<=64/\(PB.start.run (zP p).1).zK.length<=65/\(300<(coded (zP p).1).length↔300<f.re.len+1)/\(f.re.len+1<=300->coded (zP p).1=f.re.code 0 0++[⟨13,0,0,[]⟩]):=by
 have I:=ko p U;have a1:=Ji p U;have a2:=(bG p).2;obtain⟨f,J,e⟩:=Jd I.1 I.2;have Y:=BU I.1
 have G:∀t∈(zP p).1,vg t:=by
  intro t h;obtain⟨k,j,rfl⟩:=iJ.1 h;have:=(I.1 k j).2.1;rw[lH,lN j]at this;exact this
 rw[e]at a1 a2 Y G |-
 have a6:=RA f J (λt h j=>by
  obtain⟨_,_,_,_,a5⟩:=G t h;have:=a5 j;have:=a1 t h j;exact⟨by omega,by omega,by omega,by omega,by omega,by omega,this⟩) (λt h j=>(G t h).2.2.2.1 j)
 have Z:=zm f J (λt h j=>(G t h).2.2.2.1 j) PB.start zAn (Er f.zJ [] (by simpa using Y));have a0:=Wp f.zJ PB.start;have h:=Dk f J a2;have O:=Nz f.zJ;rw[h]at O;have a3:=Z.stands;have a4:PB.start.last=-1:=rfl;rw[lG a4]at a3;refine⟨f,J,a6,rfl,dR (gD _) (gD _) (λ_ _ _=>rfl) (λ_ _ _=>rfl) (lF _) (lF _) _ _ _ a3,?_,?_,?_,?_,λW=>?_⟩
 ·have:=Z.sl;exact rF (by decide) this
 ·have:=a0.1;simp[PB.start]at this |-;omega
 ·have:=a0.2;simp[PB.start]at this |-;omega
 ·constructor
  ·intro x;omega
  ·intro x;exact O.2 x
 ·have:=(KN f.zJ (by rw[O.1 W];exact W)).1
  rwa [h]at this
structure Hz where
 ok:Bool
 at':List Int
 steps:Int
def nowhere:List Int:=List.replicate 20 (-1)
def yD:Hz:=⟨false,List.replicate 20 0,0⟩
def kL(p:Int):qL:=0::p::(nowhere++List.replicate 22 0)
theorem Aj p:(kL p).length=44:=by simp[kL,nowhere]
theorem ku L T p(I:0<L)(J:p<=T):Good L T (kL p):=by
 have j:gt (kL p) 0=0:=rfl;have G:gt (kL p) 1=p:=rfl;refine⟨Aj _,by omega,by omega,by omega,by omega,λk h=>?_,λk h=>?_⟩
 ·left
  have:gt (kL p) (2+2*k)=-1:=by
   unfold gt kL nowhere;rw[lH,show 2+2*k=(2*k)+1+1 by omega,gI,gI,gK (by simp;omega),oJ,lG (by omega)];rfl
  omega
 ·have:gt (kL p) (22+k)=0:=by
   unfold gt kL nowhere;rw[lH,show 22+k=(20+k)+1+1 by omega,gI,gI,gL (by simp),oJ,lG (by simp;omega)];rfl
  omega
def vN(p:Int)(r:qL):List Int:=p::gt r 1::(r.drop 4).take 18
theorem Jj p r(h:r.length=44):(vN p r).length=20:=by simp[vN,h]
def search(E:Env)(zD:Int):Nat->Nat->Nat->List Bool->Int->Hz × Bool
 | 0,_,n,_,_=>(⟨false,nowhere,zD-n⟩,false)
 | f+1,p,n,kn,zA =>
  if(zS E n (kL p) kn zA).kI then(yD,true)
  else if(zS E n (kL p) kn zA).ok then(⟨true,vN p (zS E n (kL p) kn zA).st,zD-(zS E n (kL p) kn zA).n⟩,false)
  else search E zD f (p+1) (zS E n (kL p) kn zA).n (zS E n (kL p) kn zA).kn (zS E n (kL p) kn zA).zA
def uh(c:List zT)(zL:BA)(kZ vK:Int):Env:=⟨c,zL,qO c kZ vK,(List.range c.length).map λp=>(jY c p:Int)⟩
def xB(c:List zT)(zL:BA)(kZ vK zA zD:Int)(jK:Nat):Hz × Bool:=
 search (uh c zL kZ vK) zD (zL.size+1-jK) jK zD.toNat (List.replicate (c.length*(zL.size+1)*12) false) zA
def mV(T:Nat)(jK kZ vK zA zD:Int):Int:=
 if 60<T then 1
 else if jW kZ vK=true/\0<=jK/\jK<=T/\0<=zA/\zA<=5000/\0<=zD/\zD<=10000 then 0 else 13
def pI(p zL:BA)(jK kZ vK zA zD:Int):Hz × Int:=
 if(jA p).2≠0 then(yD,(jA p).2)
 else if mV zL.size jK kZ vK zA zD≠0 then(yD,mV zL.size jK kZ vK zA zD)
 else if(xB (jA p).1 zL kZ vK zA zD jK.toNat).2 then(yD,14)
 else((xB (jA p).1 zL kZ vK zA zD jK.toNat).1,0)
structure fO where
 G:List Int
 d:Int
 y:Int
 B:List Int
def nQ(A:Int->fO):Re->Int->fO->Prop
 | .qb,p,a=>A p=a
 | .one _,p,a=>A p=a/\A (p+1)=a
 | .back _,p,a=>A p=a/\A (p+1)=a
 | .head,p,a=>A p=a/\A (p+1)=a
 | .tail,p,a=>A p=a/\A (p+1)=a
 | .cat x y,p,a=>nQ A x p a/\nQ A y (p+x.len) a
 | .alt x y,p,a=>A p=a/\nQ A x (p+1) a/\nQ A y (p+x.len+2) a
 | .cap k x,p,a=>A p=a/\nQ A x (p+1) ⟨k::a.G,a.d,a.y,a.B⟩/\A (p+x.len+2)=a
 | .sub _ x,p,a=>A p=a/\nQ A x (p+1) ⟨a.G,a.d,p+x.len+2,a.G⟩/\A (p+x.len+2)=a
 | .opt _ x,p,a=>A p=a/\nQ A x (p+1) a
 | .loop _ x,p,a=>A p=a/\A (p+1)=a/\nQ A x (p+2) ⟨a.G,a.d+1,a.y,a.B⟩/\A (p+x.len+3)=a
theorem nQ.first{A}:∀{r} {p} {a},nQ A r p a->A p=a
 | .qb,p,a,h=>h
 | .one _,p,a,h=>h.1
 | .back _,p,a,h=>h.1
 | .head,p,a,h=>h.1
 | .tail,p,a,h=>h.1
 | .cat x y,p,a,h=>nQ.first h.1
 | .alt x y,p,a,h=>h.1
 | .cap k x,p,a,h=>h.1
 | .sub _ x,p,a,h=>h.1
 | .opt _ x,p,a,h=>h.1
 | .loop _ x,p,a,h=>h.1
theorem nQ.last{A}:∀{r} {p} {a},nQ A r p a->A (p+r.len)=a
 | .qb,p,a,h=>by
  have j:=h;rw[<-j];congr 1;simp only[Re.len];omega
 | .one _,p,a,h=>h.2
 | .back _,p,a,h=>h.2
 | .head,p,a,h=>h.2
 | .tail,p,a,h=>h.2
 | .cat x y,p,a,h=>by have:=nQ.last h.2;simp only[Re.len];rw[<-this];congr 1;omega
 | .alt x y,p,a,h=>by have:=nQ.last h.2.2;simp only[Re.len];rw[<-this];congr 1;omega
 | .cap k x,p,a,h=>by have:=h.2.2;simp only[Re.len];rw[<-this];congr 1;omega
 | .sub _ x,p,a,h=>by have:=h.2.2;simp only[Re.len];rw[<-this];congr 1;omega
 | .opt _ x,p,a,h=>by have:=nQ.last h.2;simp only[Re.len];rw[<-this];congr 1;omega
 | .loop _ x,p,a,h=>by have:=h.2.2.2;simp only[Re.len];rw[<-this];congr 1;omega
theorem nQ.congr{A B}:∀{r} {p:Int} {a},(∀q,p<=q->q<=p+r.len->A q=B q)->nQ A r p a->nQ B r p a
 | .qb,p,a,e,h=>by show B p=a;rw[<-e p (by omega) (by omega)];exact h
 | .one _,p,a,e,h=>⟨by rw[<-e p (by omega) (by omega)];exact h.1,by rw[<-e (p+1) (by omega) (by simp only[Re.len];omega)];exact h.2⟩
 | .back _,p,a,e,h=>⟨by rw[<-e p (by omega) (by omega)];exact h.1,by rw[<-e (p+1) (by omega) (by simp only[Re.len];omega)];exact h.2⟩
 | .head,p,a,e,h=>⟨by rw[<-e p (by omega) (by omega)];exact h.1,by rw[<-e (p+1) (by omega) (by simp only[Re.len];omega)];exact h.2⟩
 | .tail,p,a,e,h=>⟨by rw[<-e p (by omega) (by omega)];exact h.1,by rw[<-e (p+1) (by omega) (by simp only[Re.len];omega)];exact h.2⟩
 | .cat x y,p,a,e,h=>⟨nQ.congr (λq j G=>e q (by omega) (by simp only[Re.len];omega)) h.1,nQ.congr (λq j G=>e q (by omega) (by simp only[Re.len];omega)) h.2⟩
 | .alt x y,p,a,e,h=>⟨by rw[<-e p (by omega) (by omega)];exact h.1,nQ.congr (λq j G=>e q (by omega) (by simp only[Re.len];omega)) h.2.1,nQ.congr (λq j G=>e q (by omega) (by simp only[Re.len];omega)) h.2.2⟩
 | .cap k x,p,a,e,h=>⟨by rw[<-e p (by omega) (by omega)];exact h.1,nQ.congr (λq j G=>e q (by omega) (by simp only[Re.len];omega)) h.2.1,by rw[<-e _ (by omega) (by simp only[Re.len];omega)];exact h.2.2⟩
 | .sub _ x,p,a,e,h=>⟨by rw[<-e p (by omega) (by omega)];exact h.1,nQ.congr (λq j G=>e q (by omega) (by simp only[Re.len];omega)) h.2.1,by rw[<-e _ (by omega) (by simp only[Re.len];omega)];exact h.2.2⟩
 | .opt _ x,p,a,e,h=>⟨by rw[<-e p (by omega) (by omega)];exact h.1,nQ.congr (λq j G=>e q (by omega) (by simp only[Re.len];omega)) h.2⟩
 | .loop _ x,p,a,e,h=>⟨by rw[<-e p (by omega) (by omega)];exact h.1,by rw[<-e (p+1) (by omega) (by simp only[Re.len];omega)];exact h.2.1,nQ.congr (λq j G=>e q (by omega) (by simp only[Re.len];omega)) h.2.2.1,by rw[<-e _ (by omega) (by simp only[Re.len];omega)];exact h.2.2.2⟩
theorem tV:∀r p a,∃A,nQ A r p a
 | .qb,p,a=>⟨λ_=>a,rfl⟩
 | .one _,p,a=>⟨λ_=>a,rfl,rfl⟩
 | .back _,p,a=>⟨λ_=>a,rfl,rfl⟩
 | .head,p,a=>⟨λ_=>a,rfl,rfl⟩
 | .tail,p,a=>⟨λ_=>a,rfl,rfl⟩
 | .cat x y,p,a=>by
  obtain⟨A,h⟩:=tV x p a;obtain⟨B,J⟩:=tV y (p+x.len) a;refine⟨λq=>if q<p+x.len then A q else B q,h.congr (λq j I=>?_),J.congr (λq j I=>?_)⟩
  ·(try dsimp only);split
   ·rfl
   ·have e:q=p+x.len:=by omega
    subst e;rw[h.last,J.first]
  ·(try dsimp only);rw[lC (by omega)]
 | .alt x y,p,a=>by
  obtain⟨A,h⟩:=tV x (p+1) a;obtain⟨B,J⟩:=tV y (p+x.len+2) a;refine⟨λq=>if q<=p then a else if q<p+x.len+2 then A q else B q,?_,h.congr (λq j I=>?_),J.congr (λq j I=>?_)⟩
  ·(try dsimp only);rw[lG (by omega)]
  ·(try dsimp only);rw[lC (by omega),lG (by omega)]
  ·(try dsimp only);rw[lC (by omega),lC (by omega)]
 | .cap k x,p,a=>by
  obtain⟨A,h⟩:=tV x (p+1) ⟨k::a.G,a.d,a.y,a.B⟩;refine⟨λq=>if q<=p then a else if q<p+x.len+2 then A q else a,?_,h.congr (λq j I=>?_),?_⟩
  ·(try dsimp only);rw[lG (by omega)]
  ·(try dsimp only);rw[lC (by omega),lG (by omega)]
  ·(try dsimp only);rw[lC (by omega),lC (by omega)]
 | .sub _ x,p,a=>by
  obtain⟨A,h⟩:=tV x (p+1) ⟨a.G,a.d,p+x.len+2,a.G⟩;refine⟨λq=>if q<=p then a else if q<p+x.len+2 then A q else a,?_,h.congr (λq j I=>?_),?_⟩
  ·(try dsimp only);rw[lG (by omega)]
  ·(try dsimp only);rw[lC (by omega),lG (by omega)]
  ·(try dsimp only);rw[lC (by omega),lC (by omega)]
 | .opt _ x,p,a=>by
  obtain⟨A,h⟩:=tV x (p+1) a;refine⟨λq=>if q<=p then a else A q,?_,h.congr (λq j I=>?_)⟩
  ·(try dsimp only);rw[lG (by omega)]
  ·(try dsimp only);rw[lC (by omega)]
 | .loop _ x,p,a=>by
  obtain⟨A,h⟩:=tV x (p+2) ⟨a.G,a.d+1,a.y,a.B⟩;refine⟨λq=>if q<=p+1 then a else if q<p+x.len+3 then A q else a,?_,?_,h.congr (λq j I=>?_),?_⟩
  ·(try dsimp only);rw[lG (by omega)]
  ·(try dsimp only);rw[lG (by omega)]
  ·(try dsimp only);rw[lC (by omega),lG (by omega)]
  ·(try dsimp only);rw[lC (by omega),lC (by omega)]
def Re.inc:Re->Int->Prop
 | .cat a b,n=>a.inc n/\b.inc n
 | .alt a b,n=>a.inc n/\b.inc n
 | .cap k a,n=>n<k/\a.inc k
 | .sub _ a,n=>a.inc n
 | .opt _ a,n=>a.inc n
 | .loop _ a,n=>a.inc n
 | _,_=>True
theorem Re.nZ:∀(r:Re) m n,m<=n->r.inc n->r.inc m
 | .qb,_,_,_,_=>trivial
 | .one _,_,_,_,_=>trivial
 | .back _,_,_,_,_=>trivial
 | .head,_,_,_,_=>trivial
 | .tail,_,_,_,_=>trivial
 | .cat a b,m,n,h,i=>⟨Re.nZ a m n h i.1,Re.nZ b m n h i.2⟩
 | .alt a b,m,n,h,i=>⟨Re.nZ a m n h i.1,Re.nZ b m n h i.2⟩
 | .cap k a,m,n,h,i=>⟨by have:=i.1;omega,i.2⟩
 | .sub _ a,m,n,h,i=>Re.nZ a m n h i
 | .opt _ a,m,n,h,i=>Re.nZ a m n h i
 | .loop _ a,m,n,h,i=>Re.nZ a m n h i
theorem Ld{x m}(h:x.inc m):∀n,(kM x n).inc m
 | 0=>trivial
 | n+1=>⟨h,Ld h n⟩
theorem RB{x m} late(h:x.inc m):∀n,(fF x late n).inc m
 | 0=>trivial
 | n+1=>⟨h,RB late h n⟩
theorem zAq{x m}(h:x.inc m) r:(Db x r).inc m:=by
 unfold Db;dsimp only;have t:=Ld h r.n.toNat;have o:=RB (decide (r.jB=1)) h (r.m-r.n).toNat
 have j:(if 0<r.n\/0<r.m then(if r.n<r.m then Re.cat (kM x r.n.toNat) (fF x (decide (r.jB=1)) (r.m-r.n).toNat)else kM x r.n.toNat)else Re.qb).inc m:=by
  split
  ·split
   ·exact⟨t,o⟩
   ·exact t
  ·trivial
 generalize (if 0<r.n\/0<r.m then(if r.n<r.m then Re.cat (kM x r.n.toNat) (fF x (decide (r.jB=1)) (r.m-r.n).toNat)else kM x r.n.toNat)else Re.qb)=z at *
 have G:(if r.m<0 then Re.cat z (.loop (decide (r.jB=1)) x)else z).inc m:=by
  split
  ·exact⟨j,h⟩
  ·exact j
 split
 ·exact G
 ·exact G
theorem RD{x m}(h:x.inc m) r:(part r x).inc m:=by
 cases r with
 | none=>exact h
 | some q=>exact zAq h q
theorem Ca{b m}(h:b.1.inc m/\∀a,b.2=some a->a.inc m):(BL b).inc m:=by
 obtain⟨x,y⟩:=b;cases y with
 | none=>exact h.1
 | some a=>exact⟨h.1,h.2 a rfl⟩
theorem Bn:∀(f:Fs) n,f.wf->Fu n f.zJ->f.both.1.inc n/\∀a,f.both.2=some a->a.inc n
 | .nil,n,_,_=>⟨trivial,λa e=>(by cases e)⟩
 | .bar t r,n,h,hn=>by
  have W:jD t=false:=by have:=h.1;unfold jD;simp;omega
  simp only[Fs.zJ,Fu,W]at hn;have G:=Bn r n h.2 (by simpa using hn.2);refine⟨trivial,λa e=>?_⟩;simp only[Fs.both,oP]at e;subst e;exact Ca G
 | .leaf t r s,n,h,hn=>by
  simp only[Fs.zJ,Fu,KY h.1,Dp,Eo h.2.1]at hn;have G:=Bn s n h.2.2 (by simpa using hn.2.2);refine⟨⟨RD ?_ r,G.1⟩,G.2⟩;unfold fV
  repeat' split
  all_goals trivial
 | .Dh t i c r s,n,h,hn=>by
  have Y:jD c=false:=by have:=h.2.1;unfold jD;simp;omega
  simp only[Fs.zJ,Fu,Dp,Y,Eo h.2.2.2.1]at hn;obtain⟨I,J,a1,O⟩:=hn;have a3:=nU i.zJ;have a0:=Bn i _ h.2.2.1 J;have is:=Bn s _ h.2.2.2.2 O.2;refine⟨⟨RD ?_ r,Re.nZ _ n _ ?_ is.1⟩,λa e=>Re.nZ _ n _ ?_ (is.2 a e)⟩
  ·have j:=Ca a0;unfold iy;split
   ·exact Re.nZ _ n _ (by split <;> omega) j
   split
   ·rename_i a2 U
    have Z:jD t=true:=by have:=h.1;unfold jD;simp[U,this]
    rw[Z]at j I;have e:=I rfl;simp only[wS]at j;exact⟨by omega,by rw[e];exact j⟩
   ·exact Re.nZ _ n _ (by split <;> omega) j
  ·simp;split <;> omega
  ·simp;split <;> omega
