import Derived.Test.YtebpgfodelggoaaGreatC00
set_option linter.all false
namespace Mt
structure ZL (p p':BA) (s:Int):Prop where
 lo:0<=s
 hi:(p.size:Int)+s<p'.size
 at':∀j:Int,0<=j->j<p.size->zI p' (j+s)=zI p j
 stop:zI p' (p.size+s)=41
section
variable {p p':BA} {s:Int}
theorem ZL.cases(j:ZL p p' s)(h:Int)(G:0<=h)(I:h<=p.size):(h<p.size/\zI p' (h+s)=zI p h/\0<=zI p h)\/(h=p.size/\zI p' (h+s)=41/\zI p h=-1):=by
 by_cases e:h<p.size
 ·exact gG ⟨e,j.at' h G e,by rw[KC p h G e];omega⟩
 ·have:h=p.size:=by omega
  subst this;exact lZ ⟨rfl,j.stop,BJ p _ (lZ (oL _))⟩
def mv(s:Int)(t:zU):zU:={ t with jK:=t.jK+s,to:=t.to+s }
end
def gu(L N:Int)(c:List zT):Prop:=(c.length:Int)<=L/\∀i∈c,Ho N i
theorem yY{L N h j c}(G:gu L N c)(O:L<=h)(I:N<=j):gu h j c:=⟨by have:=G.1;omega,λi J=>yh (G.2 i J) I⟩
theorem AZ{L N M c}(h:gu L N c)(I:L<=M)(j:N<=M):fit M c:=⟨by have:=h.1;omega,λi G=>yh (h.2 i G) j⟩
theorem bF{L N i}(j:Ho N i)(G:1<=L):gu L N [i]:=⟨by simpa using G,λI h=>by simp at h;rw[h];exact j⟩
theorem Ba{L N}(h:0<=L):gu L N []:=⟨by simpa using h,λG j=>by simp at j⟩
theorem Fe{L N} x y late(h:-N<=x/\x<=N)(j:-N<=y/\y<=N)(G:1<=L):gu L N (vI x y late):=by
 unfold vI;cases late
 ·exact bF ⟨h.1,h.2,j.1,j.2⟩ G
 ·exact bF ⟨j.1,j.2,h.1,h.2⟩ G
theorem Bb{L N}{a b}(G:gu (L+300) (N+300) a)(I:gu L N b):gu (L+300) (N+300) (kF a b):=by
 unfold kF;by_cases j:300<a.length
 ·rw[lG j];exact G
 ·rw[lC j];refine⟨?_,λi h=>?_⟩
  ·rw[lQ,vJ];have:=I.1;omega
  ·rcases gV.1 h with h | h
   ·exact G.2 i h
   ·unfold vZ at h;obtain⟨O,J,rfl⟩:=uY.1 h;exact Fb (I.2 O J) (by omega) (by omega)
theorem vR{L N a b}(h:gu L N a)(j:gu L N b):gu (L+300) (N+300) (kF a b):=
 Bb (yY h (by omega) (by omega)) j
theorem KI{L N} s{c}(h:gu L N c)(U:0<=s/\s<=10)(J:L+2<=N)(I:10<=L):gu (L+600) (N+600) (alone s c):=by
 have O:=h.1;have G:(0:Int)<=c.length:=by omega
 have g:=vR (bF (L:=L) (N:=N) (i:=⟨11,s,(c.length:Int)+2,[]⟩) ⟨by simp only;omega,by simp only;omega,by simp only;omega,by simp only;omega⟩ (by omega)) h;have j:=vR g (bF (L:=L+300) (N:=N+300) (i:=⟨12,0,0,[]⟩) ⟨by simp only;omega,by simp only;omega,by simp only;omega,by simp only;omega⟩ (by omega));exact yY j (by omega) (by omega)
theorem Nu{L N} d late{y}(h:gu L N y)(W:0<=d/\d<=N)(U:L+3<=N)(O:10<=L):gu (L+900) (N+900) (CX y d late):=by
 have Y:=h.1;have J:(0:Int)<=y.length:=by omega
 have j:=vR (Fe (L:=L) (N:=N) 1 ((y.length:Int)+3) late (by omega) (by omega) (by omega)) (bF (L:=L) (N:=N) (i:=⟨4,d,0,[]⟩) ⟨by simp only;omega,by simp only;omega,by simp only;omega,by simp only;omega⟩ (by omega));have G:=vR j (yY h (show L<=L+300 by omega) (show N<=N+300 by omega));have I:=vR G (bF (L:=L+300+300) (N:=N+300+300) (i:=⟨5,-(y.length:Int)-2,d,[]⟩) ⟨by simp only;omega,by simp only;omega,by simp only;omega,by simp only;omega⟩ (by omega));exact yY I (by omega) (by omega)
theorem KJ{L N x}(j:gu L N x):∀n c,gu (L+300) (N+300) c->gu (L+300) (N+300) (qN x n c)
 | 0,c,h=>h
 | n+1,c,h=>KJ j n _ (Bb h j)
theorem Xi(n:Nat) k(j:n<20)(h:0<=k):0<=((n:Int)+1)*(k+1)/\((n)+1)*(k+1)<=20*(k+1):=by
 refine⟨aF (by omega) (by omega),?_⟩;exact Int.mul_le_mul_of_nonneg_right (by omega) (by omega)
theorem Hq{L N x} late(j:gu L N x)(I:20*(L+1)<=N)(G:10<=L):∀n c,n<=20->gu (L+600) (N+600) c->gu (L+600) (N+600) (mD x late n c)
 | 0,c,_,h=>h
 | n+1,c,hn,h=>by
  have J:=j.1;have m:=Xi n (x.length:Int) (by omega) (by omega);have g:=vR (Fe (L:=L) (N:=N) 1 (((n:Int)+1)*((x.length:Int)+1)) late (by omega) (by omega) (by omega)) j;exact Hq late j I G n _ (by omega) (yY (Bb (L:=L+300) (N:=N+300) (yY h (by omega) (by omega)) g) (by omega) (by omega))
theorem KL{L N}(at' rp)(l)(b)(G:∀i j,gu L N (at' i j))(I:∀i j,gu L N (rp i j)):∀(f i) (c),gu (L+300) (N+300) c->gu (L+300) (N+300) (dQ at' rp l b f i c)
 | 0,i,c,h=>h
 | f+1,i,c,h=>by
  simp only[dQ];split
  ·exact h
  ·split
   ·exact KL at' rp l b G I f _ _ (Bb h (I _ _))
   ·exact KL at' rp l b G I f _ _ (Bb h (G _ _))
def dG(t:zU):Prop:=0<=t.n/\t.n<=100/\-1<=t.m/\t.m<=20/\0<=t.jB/\t.jB<=4/\(t.kind=8->t.n<=20)
def bR(l:List zU):Prop:=∀t∈l,dG t
theorem Bc{l}(j:bR l) k:dG (l.getD k zZ):=by
 rw[lH];by_cases h:k<l.length
 ·rw[lN h];exact j _ (uK h)
 ·rw[gQ (by omega)];simp[dG,zZ]
theorem Pe l(a0:bR l):∀(f h a b:Nat)(d:Int),0<=d->d+f<=1000->gu (2000*((f)+1)) (60000*((f)+1)) (gen l f h a b d):=by
 intro f;induction f with
 | zero=>intro h a b d Z a8;simp only[gen];exact Ba (by omega)
 | succ f a4 =>
  intro h a b d Z a8;have j:=λh a b=>a4 h a b d Z (by omega)
  have a6:=λh a b=>a4 h a b (d+1) (by omega) (by omega)
  match h with
  | 0 =>
   simp only[gen];split
   ·exact yY (j 1 a _) (by omega) (by omega)
   ·have a2:=j 1 a (bar l a b);have a1:=j 0 (bar l a b+1) b;generalize gen l f 1 a (bar l a b) d=s at *;generalize gen l f 0 (bar l a b+1) b d=r at *;have b9:=a2.1;have b8:=a1.1;have G:=vR (Fe (L:=2000*((f:Int)+1)) (N:=60000*((f:Int)+1)) 1 ((s.length:Int)+2) false (by omega) (by omega) (by omega)) a2;have I:=vR G (bF (L:=2000*((f:Int)+1)+300) (N:=60000*((f:Int)+1)+300) (i:=⟨3,1+(r.length:Int),0,[]⟩) ⟨by simp only;omega,by simp only;omega,by simp only;omega,by simp only;omega⟩ (by omega));have a7:=vR I (yY a1 (show _<=2000*((f:Int)+1)+300+300 by omega) (show _<=60000*((f:Int)+1)+300+300 by omega));exact yY a7 (by omega) (by omega)
  | 1 =>
   simp only[gen];exact yY (KL _ _ l b (λi U=>j 2 i U) (λi U=>j 3 i U) (b-a) a [] (Ba (by omega))) (by omega) (by omega)
  | 2 =>
   simp only[gen];have J:=j 0 (a+1) (b-1);have O:=Bc a0 a;generalize gen l f 0 (a+1) (b-1) d=s at *;generalize l.getD a zZ=t at *;obtain⟨b1,b2,b3,b4,b5,b6,b7⟩:=O;split
   ·exact bF ⟨by simp only;omega,by simp only;omega,by simp only;omega,by simp only;omega⟩ (by omega)
   split
   ·exact bF ⟨by simp only;omega,by simp only;omega,by simp only;omega,by simp only;omega⟩ (by omega)
   split
   ·exact bF ⟨by simp only;omega,by simp only;omega,by simp only;omega,by simp only;omega⟩ (by omega)
   split
   ·exact bF ⟨by simp only;omega,by simp only;omega,by simp only;omega,by simp only;omega⟩ (by omega)
   split
   ·exact yY J (by omega) (by omega)
   split
   ·have G:=vR (bF (L:=2000*((f:Int)+1)) (N:=60000*((f:Int)+1)) (i:=⟨6,t.n,0,[]⟩) ⟨by simp only;omega,by simp only;omega,by simp only;omega,by simp only;omega⟩ (by omega)) J;have I:=vR G (bF (L:=2000*((f:Int)+1)+300) (N:=60000*((f:Int)+1)+300) (i:=⟨7,t.n,0,[]⟩) ⟨by simp only;omega,by simp only;omega,by simp only;omega,by simp only;omega⟩ (by omega));exact yY I (by omega) (by omega)
   ·exact yY (KI t.jB J (by omega) (by omega) (by omega)) (by omega) (by omega)
  | n+3 =>
   simp only[gen];have a3:=j 2 a b;have a9:=a6 2 a b;have O:=Bc a0 b;generalize gen l f 2 a b d=x at *;generalize gen l f 2 a b (d+1)=y at *;generalize l.getD b zZ=t at *;obtain⟨b1,b2,b3,b4,b5,b6,b7⟩:=O
   have W:gu (2000*((f:Int)+1)+900) (60000*((f:Int)+1)+900) (if 0<t.n\/0<t.m then(if t.n<t.m then kF (qN x t.n.toNat []) (upTo x (t.m-t.n).toNat (decide (t.jB=1)))else qN x t.n.toNat [])else[]):=by
    have a5:=KJ a3 t.n.toNat [] (Ba (by omega));split
    ·split
     ·have b0:=Hq (decide (t.jB=1)) a3 (by omega) (by omega) (t.m-t.n).toNat [] (by omega) (Ba (by omega));exact yY (vR (yY a5 (show _<=2000*((f:Int)+1)+600 by omega) (show _<=60000*((f:Int)+1)+600 by omega)) b0) (by omega) (by omega)
     ·exact yY a5 (by omega) (by omega)
    ·exact Ba (by omega)
   generalize (if 0<t.n\/0<t.m then(if t.n<t.m then kF (qN x t.n.toNat []) (upTo x (t.m-t.n).toNat (decide (t.jB=1)))else qN x t.n.toNat [])else[])=c at *
   have Y:gu (2000*((f:Int)+1)+1200) (60000*((f:Int)+1)+1200) (if t.m<0 then kF c (CX y d (decide (t.jB=1)))else c):=by
    split
    ·exact yY (vR W (Nu d (decide (t.jB=1)) a9 (by omega) (by omega) (by omega))) (by omega) (by omega)
    ·exact yY W (by omega) (by omega)
   split
   ·exact yY (KI 0 Y (by omega) (by omega) (by omega)) (by omega) (by omega)
   ·exact yY Y (by omega) (by omega)
inductive Re where
 | qb
 | one (s:List UInt8)
 | back (k:Int)
 | head
 | tail
 | cat (a b:Re)
 | alt (a b:Re)
 | cap (k:Int) (a:Re)
 | sub (s:Int) (a:Re)
 | opt (late:Bool) (a:Re)
 | loop (late:Bool) (a:Re)
def Re.len:Re->Nat
 | .qb=>0
 | .one _=>1
 | .back _=>1
 | .head=>1
 | .tail=>1
 | .cat a b=>a.len+b.len
 | .alt a b=>a.len+b.len+2
 | .cap _ a=>a.len+2
 | .sub _ a=>a.len+2
 | .opt _ a=>a.len+1
 | .loop _ a=>a.len+3
def spl(x y:Int)(late:Bool):zT:=if late then⟨2,y,x,[]⟩else⟨2,x,y,[]⟩
def Re.code:Re->Int->Int->List zT
 | .qb,_,_=>[]
 | .one s,_,_=>[⟨1,0,0,s⟩]
 | .back k,_,_=>[⟨8,k,0,[]⟩]
 | .head,_,_=>[⟨9,0,0,[]⟩]
 | .tail,_,_=>[⟨10,0,0,[]⟩]
 | .cat a b,p,d=>a.code p d++b.code (p+a.len) d
 | .alt a b,p,d=>⟨2,p+1,p+a.len+2,[]⟩::(a.code (p+1) d++⟨3,p+a.len+2+b.len,0,[]⟩::b.code (p+a.len+2) d)
 | .cap k a,p,d=>⟨6,k,0,[]⟩::(a.code (p+1) d++[⟨7,k,0,[]⟩])
 | .sub s a,p,d=>⟨11,s,p+a.len+2,[]⟩::(a.code (p+1) d++[⟨12,0,0,[]⟩])
 | .opt late a,p,d=>spl (p+1) (p+a.len+1) late::a.code (p+1) d
 | .loop late a,p,d=>spl (p+1) (p+a.len+3) late::⟨4,d,0,[]⟩::(a.code (p+2) (d+1)++[⟨5,p,d,[]⟩])
theorem Re.zH:∀(r:Re) p d,(r.code p d).length=r.len
 | .qb,_,_=>rfl
 | .one _,_,_=>rfl
 | .back _,_,_=>rfl
 | .head,_,_=>rfl
 | .tail,_,_=>rfl
 | .cat a b,p,d=>by simp[Re.code,Re.len,Re.zH a,Re.zH b]
 | .alt a b,p,d=>by simp[Re.code,Re.len,Re.zH a,Re.zH b];omega
 | .cap _ a,p,d=>by simp[Re.code,Re.len,Re.zH a]
 | .sub _ a,p,d=>by simp[Re.code,Re.len,Re.zH a]
 | .opt _ a,p,d=>by simp[Re.code,Re.len,Re.zH a]
 | .loop _ a,p,d=>by simp[Re.code,Re.len,Re.zH a]
theorem yj a b n:vZ (a++b) n=vZ a n++vZ b n:=by simp[vZ]
theorem nW i b n:vZ (i::b) n=cO i n::vZ b n:=rfl
theorem yt n:vZ [] n=[]:=rfl
theorem Fg x y late n:cO (spl x y late) n=spl (x+n) (y+n) late:=by cases late <;> rfl
theorem Re.yJ:∀(r:Re) p d n,vZ (r.code p d) n=r.code (p+n) d
 | .qb,_,_,_=>rfl
 | .one _,_,_,_=>rfl
 | .back _,_,_,_=>rfl
 | .head,_,_,_=>rfl
 | .tail,_,_,_=>rfl
 | .cat a b,p,d,n=>by
  simp only[Re.code,yj,Re.yJ a,Re.yJ b];rw[show p+a.len+n=p+n+a.len by omega]
 | .alt a b,p,d,n=>by
  simp only[Re.code,yj,nW,Re.yJ a,Re.yJ b];rw[show p+a.len+2+n=p+n+a.len+2 by omega,show p+1+n=p+n+1 by omega];simp only[cO];simp;omega
 | .cap _ a,p,d,n=>by
  simp only[Re.code,yj,nW,yt,Re.yJ a];rw[show p+1+n=p+n+1 by omega];rfl
 | .sub _ a,p,d,n=>by
  simp only[Re.code,yj,nW,yt,Re.yJ a];rw[show p+1+n=p+n+1 by omega];simp only[cO];simp;omega
 | .opt _ a,p,d,n=>by
  simp only[Re.code,nW,Re.yJ a,Fg];rw[show p+1+n=p+n+1 by omega,show p+a.len+1+n=p+n+a.len+1 by omega]
 | .loop _ a,p,d,n=>by
  simp only[Re.code,yj,nW,yt,Re.yJ a,Fg];rw[show p+1+n=p+n+1 by omega,show p+2+n=p+n+2 by omega,show p+a.len+3+n=p+n+a.len+3 by omega];rfl
theorem dI a b:(kF a b).length=if 300<a.length then a.length else a.length+b.length:=by
 unfold kF;split
 ·rfl
 ·simp[vJ]
theorem mU a b(h:a.length<=300):kF a b=a++vZ b a.length:=by unfold kF;rw[lC (by omega)]
def oz(c L:List zT):Prop:=(L.length<=300->c=L)/\(300<L.length->300<c.length)
theorem oz.refl c:oz c c:=⟨λ_=>rfl,id⟩
theorem oz.len{c L}(h:oz c L):(L.length<=300->c.length=L.length)/\(300<L.length->300<c.length):=⟨λj=>by rw[h.1 j],h.2⟩
theorem oz.kF{a A b B:List zT}(j:oz a A)(G:oz b B):oz (kF a b) (A++vZ B A.length):=by
 have I:=j.len;have J:=G.len;refine⟨λh=>?_,λh=>?_⟩
 ·rw[lQ,vJ]at h;rw[j.1 (by omega),G.1 (by omega),mU _ _ (by omega)]
 ·rw[lQ,vJ]at h;rw[dI];split <;> omega
theorem oz.alone{c L:List zT}(s:Int)(j:oz c L):oz (alone s c) (⟨11,s,L.length+2,[]⟩::(vZ L 1++[⟨12,0,0,[]⟩])):=by
 have G:=j.len;refine⟨λh=>?_,λh=>?_⟩
 ·simp only[lU,lQ,vJ,lV]at h;rw[j.1 (by omega)];unfold Mt.alone;rw[mU [_] L (by simp),mU _ _ (by simp[vJ];omega)];rfl
 ·simp only[lU,lQ,vJ,lV]at h;unfold Mt.alone;rw[dI,dI];simp only[lU,lV]
  repeat' split
  all_goals omega
theorem oz.loop{c L} d late(j:oz c L):oz (CX c d late) (spl 1 (L.length+3) late::⟨4,d,0,[]⟩::(vZ L 2++[⟨5,0,d,[]⟩])):=by
 have J:=j.len;refine⟨λh=>?_,λh=>?_⟩
 ·simp only[lU,lQ,vJ,lV]at h;rw[j.1 (by omega)];unfold Mt.CX;have e:∀x y,vI x y late=[spl x y late]:=λx y=>by cases late <;> rfl
  rw[e,mU [_] [_] (by simp)];have G:([spl 1 ((L.length:Int)+3) late]++vZ [(⟨4,d,0,[]⟩:zT)] ([spl 1 ((L.length:Int)+3) late].length:Int))=[spl 1 ((L.length:Int)+3) late,⟨4,d,0,[]⟩]:=rfl;rw[G,mU [_,_] L (by simp),mU _ _ (by simp[vJ];omega)];simp only[lQ,lU,lV,vJ,nW,yt]
  have I:cO ⟨5,-(L.length:Int)-2,d,[]⟩ ((0+1+1+L.length:Nat):Int)=⟨5,0,d,[]⟩:=by
   show(⟨5,(-(L.length:Int)-2)+((0+1+1+L.length:Nat):Int),d,[]⟩:zT)=_;congr 1;omega
  rw[I];rfl
 ·simp only[lU,lQ,vJ,lV]at h;unfold Mt.CX;rw[dI,dI,dI];have e:(vI 1 ((c.length:Int)+3) late).length=1:=by unfold vI;split <;> rfl
  rw[e];simp only[lU,lV]
  repeat' split
  all_goals omega
theorem oz.alts{s S r R}(J:oz s S)(I:oz r R):oz (Mt.kF (Mt.kF (Mt.kF (vI 1 ((s.length:Int)+2) false) s) (Df (1+(r.length:Int)))) r) (⟨2,1,S.length+2,[]⟩::(vZ S 1++⟨3,S.length+2+R.length,0,[]⟩::vZ R (S.length+2))):=by
 have U:=J.len;have O:=I.len;refine⟨λG=>?_,λG=>?_⟩
 ·simp only[lU,lQ,vJ]at G;rw[J.1 (by omega),I.1 (by omega)];rw[mU (vI _ _ _) S (by simp[vI]),mU _ (Df _) (by simp[vI,vJ];omega),mU _ R (by simp[vI,Df,vJ];omega)];have h:vI 1 ((S.length:Int)+2) false=[⟨2,1,(S.length:Int)+2,[]⟩]:=rfl;simp only[h,Df,lQ,lU,lV,vJ,nW,yt]
  have j:cO ⟨3,1+(R.length:Int),0,[]⟩ ((0+1+S.length:Nat):Int)=⟨3,S.length+2+R.length,0,[]⟩:=by
   show(⟨3,(1+(R.length:Int))+((0+1+S.length:Nat):Int),0,[]⟩:zT)=_;congr 1;omega
  rw[j,show((0+1+S.length+(0+1):Nat):Int)=(S.length:Int)+2 by omega];simp
 ·simp only[lU,lQ,vJ]at G;rw[dI,dI,dI];have h:(vI 1 ((s.length:Int)+2) false).length=1:=rfl;have j:(Df (1+(r.length:Int))).length=1:=rfl;rw[h,j]
  repeat' split
  all_goals omega
def kM(x:Re):Nat->Re
 | 0=>.qb
 | n+1=>.cat x (kM x n)
def fF(x:Re)(late:Bool):Nat->Re
 | 0=>.qb
 | n+1=>.opt late (.cat x (fF x late n))
theorem Bf x late:∀n,(fF x late n).len=n*(x.len+1)
 | 0=>by simp[fF,Re.len]
 | n+1=>by rw[fF,Re.len,Re.len,Bf x late n,oV];omega
theorem Nv{x}{X}{d}(j:oz x (X.code 0 d)):∀(n) (c C),oz c C->oz (qN x n c) (C++(kM X n).code C.length d)
 | 0,c,C,h=>by simpa[qN,kM,Re.code]using h
 | n+1,c,C,h=>by
  have:=Nv j n _ _ (h.kF j);simp only[qN,kM,Re.code];rw[Re.yJ,uV,lQ,Re.zH,gZ]at this;simpa using this
theorem Nw x late:∀n c,c.length<=(mD x late n c).length
 | 0,c=>lF _
 | n+1,c=>by
  refine gX ?_ (Nw x late n _);rw[dI];split <;> omega
theorem KM{X d} late:∀n c C,oz c C->oz (mD (X.code 0 d) late n c) (C++(fF X late n).code C.length d)
 | 0,c,C,h=>by simpa[mD,fF,Re.code]using h
 | n+1,c,C,h=>by
  have e:∀x y,vI x y late=[spl x y late]:=λx y=>by cases late <;> rfl
  have k:=KM (X:=X) (d:=d) late n _ _ (h.kF (oz.kF (oz.refl (vI 1 (((n:Int)+1)*((X.code 0 d).length+1)) late)) (oz.refl (X.code 0 d))));simp only[mD,fF,Re.code];rw[e]at k;simp only[lU,lV,yj,nW,yt,Fg,Re.yJ,lQ,Re.zH,Re.len,Bf]at k |-;rw[e];have j:(1:Int)+(C.length:Int)=C.length+1:=by omega
  have G:(((n:Int)+1)*((X.len:Int)+1))+(C.length:Int)=(C.length:Int)+((X.len+n*(X.len+1):Nat):Int)+1:=by
   rw[Int.natCast_add,Int.natCast_mul,Int.add_mul];simp;omega
  have I:(0:Int)+((0+1:Nat):Int)+(C.length:Int)=C.length+1:=by omega
  have J:((C.length+(0+1+X.len):Nat):Int)=(C.length:Int)+1+(X.len:Int):=by omega
  rw[j,G,I,J]at k;simpa using k
theorem ZR{x}{X}{d}(late)(j:oz x (X.code 0 d))(n)(c C)(h:oz c C):oz (mD x late n c) (C++(fF X late n).code C.length d):=by
 have I:=j.len;rw[Re.zH]at I;by_cases J:X.len<=300
 ·rw[j.1 (by rw[Re.zH];omega)];exact KM late n c C h
 ·match n with
  | 0=>simpa[mD,fF,Re.code]using h
  | n+1 =>
   have U:300<(C++(fF X late (n+1)).code C.length d).length:=by
    rw[lQ,Re.zH,Bf,oV];omega
   refine⟨λO=>by omega,λ_=>?_⟩;refine rF ?_ (Nw x late n _);have G:(vI 1 (((n:Int)+1)*(x.length+1)) late).length=1:=by unfold vI;split <;> rfl
   rw[dI,dI,G]
   repeat' split
   all_goals omega
def Fh(at' rp:Nat->Nat->Re)(l:List zU)(b:Nat):Nat->Nat->Re
 | 0,_=>.qb
 | f+1,i =>
  if b<=i then .qb
  else if after l i<b/\jX l (after l i)=8 then .cat (rp i (after l i)) (Fh at' rp l b f (after l i+1))
  else .cat (at' i (after l i)) (Fh at' rp l b f (after l i))
def Db(x:Re)(r:zU):Re:=
 let c1:=if 0<r.n\/0<r.m then(if r.n<r.m then .cat (kM x r.n.toNat) (fF x (decide (r.jB=1)) (r.m-r.n).toNat)else kM x r.n.toNat)else .qb
 let c2:=if r.m<0 then .cat c1 (.loop (decide (r.jB=1)) x)else c1
 if r.jB=2 then .sub 0 c2 else c2
def tree(l:List zU):Nat->Nat->Nat->Nat->Re
 | 0,_,_,_=>.qb
 | f+1,0,a,b=>if bar l a b=b then tree l f 1 a (bar l a b)else .alt (tree l f 1 a (bar l a b)) (tree l f 0 (bar l a b+1) b)
 | f+1,1,a,b=>Fh (λi j=>tree l f 2 i j) (λi j=>tree l f 3 i j) l b (b-a) a
 | f+1,2,a,b =>
  if jX l a=1 then .one (l.getD a zZ).set
  else if jX l a=2 then .back (l.getD a zZ).n
  else if jX l a=3 then .head
  else if jX l a=4 then .tail
  else if(l.getD a zZ).jB=3 then tree l f 0 (a+1) (b-1)
  else if(l.getD a zZ).jB=4 then .cap (l.getD a zZ).n (tree l f 0 (a+1) (b-1))
  else .sub (l.getD a zZ).jB (tree l f 0 (a+1) (b-1))
 | f+1,_+3,a,b=>Db (tree l f 2 a b) (l.getD b zZ)
theorem Pf{at' rp}{At J}{d}(l)(b)(G:∀i j,oz (at' i j) ((At i j).code 0 d))(I:∀i j,oz (rp i j) ((J i j).code 0 d)):
  ∀(f i) (c C),oz c C->oz (dQ at' rp l b f i c) (C++(Fh At J l b f i).code C.length d)
 | 0,i,c,C,h=>by simpa[dQ,Fh,Re.code]using h
 | f+1,i,c,C,h=>by
  simp only[dQ,Fh];split
  ·simpa[Re.code]using h
  split
  ·have:=Pf l b G I f (after l i+1) _ _ (h.kF (I i (after l i)));rw[Re.yJ,uV,lQ,Re.zH,gZ]at this;simp only[Re.code];simpa using this
  ·have:=Pf l b G I f (after l i) _ _ (h.kF (G i (after l i)));rw[Re.yJ,uV,lQ,Re.zH,gZ]at this;simp only[Re.code];simpa using this
theorem ZT{x y}{X}{d}(J:oz x (X.code 0 d))(O:oz y (X.code 0 (d+1)))(r):
  oz (let h:=if 0<r.n\/0<r.m then(if r.n<r.m then kF (qN x r.n.toNat []) (upTo x (r.m-r.n).toNat (decide (r.jB=1)))else qN x r.n.toNat [])else[]
   let j:=if r.m<0 then kF h (CX y d (decide (r.jB=1)))else h
   if r.jB=2 then alone 0 j else j) ((Db X r).code 0 d):=by
 unfold Db;dsimp only;have t0:oz (qN x r.n.toNat []) ((kM X r.n.toNat).code 0 d):=Nv J r.n.toNat [] [] (oz.refl _);have u0:oz (upTo x (r.m-r.n).toNat (decide (r.jB=1))) ((fF X (decide (r.jB=1)) (r.m-r.n).toNat).code 0 d):=ZR _ J _ [] [] (oz.refl _)
 have h:oz (if 0<r.n\/0<r.m then(if r.n<r.m then kF (qN x r.n.toNat []) (upTo x (r.m-r.n).toNat (decide (r.jB=1)))else qN x r.n.toNat [])else[])
   ((if 0<r.n\/0<r.m then(if r.n<r.m then Re.cat (kM X r.n.toNat) (fF X (decide (r.jB=1)) (r.m-r.n).toNat)else kM X r.n.toNat)else Re.qb).code 0 d):=by
  split
  ·split
   ·have:=t0.kF u0;rw[Re.yJ,Re.zH]at this;exact this
   ·exact t0
  ·exact oz.refl _
 generalize (if 0<r.n\/0<r.m then(if r.n<r.m then kF (qN x r.n.toNat []) (upTo x (r.m-r.n).toNat (decide (r.jB=1)))else qN x r.n.toNat [])else[])=I at *;generalize (if 0<r.n\/0<r.m then(if r.n<r.m then Re.cat (kM X r.n.toNat) (fF X (decide (r.jB=1)) (r.m-r.n).toNat)else kM X r.n.toNat)else Re.qb)=G at *
 have j:oz (if r.m<0 then kF I (CX y d (decide (r.jB=1)))else I) ((if r.m<0 then Re.cat G (.loop (decide (r.jB=1)) X)else G).code 0 d):=by
  split
  ·have:=h.kF (O.loop d (decide (r.jB=1)))
   have e:(spl 1 (((X.code 0 (d+1)).length:Int)+3) (decide (r.jB=1))::⟨4,d,0,[]⟩::(vZ (X.code 0 (d+1)) 2++[⟨5,0,d,[]⟩]))=(Re.loop (decide (r.jB=1)) X).code 0 d:=by
    simp only[Re.code,Re.yJ,Re.zH];rw[uV,uV,uV]
   rw[e,Re.yJ,Re.zH]at this;exact this
  ·exact h
 generalize (if r.m<0 then kF I (CX y d (decide (r.jB=1)))else I)=W at *;generalize (if r.m<0 then Re.cat G (.loop (decide (r.jB=1)) X)else G)=U at *;split
 ·have:=j.alone 0;rw[Re.yJ,Re.zH]at this;simp only[Re.code];rw[uV]at this |-;exact this
 ·exact j
theorem Pg l:∀f j a b d,oz (gen l f j a b d) ((tree l f j a b).code 0 d):=by
 intro f;induction f with
 | zero=>intro j a b d;simp only[gen,tree];exact oz.refl _
 | succ f h =>
  intro j a b d
  match j with
  | 0 =>
   simp only[gen,tree];split
   ·exact h 1 a _ d
   ·have:=(h 1 a (bar l a b) d).alts (h 0 (bar l a b+1) b d);simp only[Re.code];rw[Re.yJ,Re.yJ,Re.zH,Re.zH]at this;simp only[uV]at this |-;exact this
  | 1 =>
   simp only[gen,tree];exact Pf l b (λi G=>h 2 i G d) (λi G=>h 3 i G d) (b-a) a [] [] (oz.refl _)
  | 2 =>
   simp only[gen,tree];split
   ·exact oz.refl _
   split
   ·exact oz.refl _
   split
   ·exact oz.refl _
   split
   ·exact oz.refl _
   split
   ·exact h 0 (a+1) (b-1) d
   split
   ·have:=(oz.kF (oz.kF (oz.refl [(⟨6,(l.getD a zZ).n,0,[]⟩:zT)]) (h 0 (a+1) (b-1) d)) (oz.refl [(⟨7,(l.getD a zZ).n,0,[]⟩:zT)]))
    rw[Re.yJ]at this;simp only[Re.code];simpa[vZ,cO]using this
   ·have:=(h 0 (a+1) (b-1) d).alone (l.getD a zZ).jB;rw[Re.yJ,Re.zH]at this;simp only[Re.code];simp only[uV]at this |-;exact this
  | j+3 =>
   simp only[gen,tree];exact ZT (h 2 a b d) (h 2 a b (d+1)) (l.getD b zZ)
def gy(l:List zU):Re:=tree l 283 0 0 l.length
theorem Ny l:oz (coded l) ((gy l).code 0 0++[⟨13,0,0,[]⟩]):=by
 have:=(Pg l 283 0 0 l.length 0).kF (oz.refl [(⟨13,0,0,[]⟩:zT)]);exact this
theorem Nz l:((gy l).len+1<=300->(coded l).length=(gy l).len+1)/\(300<(gy l).len+1->300<(coded l).length):=by
 have:=(Ny l).len;rw[lQ,Re.zH]at this;exact this
theorem KN(l)(j:(coded l).length<=300):coded l=(gy l).code 0 0++[⟨13,0,0,[]⟩]/\(gy l).len+1<=300:=by
 have G:=Nz l;have h:(gy l).len+1<=300:=by omega
 exact⟨(Ny l).1 (by rw[lQ,Re.zH];exact h),h⟩
theorem Bg p t:0<=(vY p t).1/\(vY p t).1<=2:=by
 unfold vY;split
 ·simp
 ·split <;> simp
theorem Rl p i:0<=(count p i).1/\(count p i).1<=20/\-1<=(count p i).2.1/\(count p i).2.1<=20:=by
 have h:=cK p (i+1);have j:=cK p (i+1+(number p (i+1)).2+1);unfold count;split
 ·simp
 ·split
  ·simp only;omega
  ·split
   ·simp
   ·split
    ·simp only;omega
    ·split
     ·simp
     ·simp only;omega
theorem Xj p i:dG (jN p i).1:=by
 have h:=Bg p (i+1);have j:=Bg p (count p i).2.2.1;have c:=Rl p i;unfold jN;split
 ·simp only[dG];omega
 ·split
  ·simp only[dG];omega
  ·split
   ·split
    ·simp only[dG];omega
    ·simp[dG]
   ·simp only[dG];omega
theorem Xk p i:dG (vM p i).1:=by
 unfold vM;split
 ·simp[dG]
 ·split
  ·simp[dG]
  ·split
   ·simp only[dG];omega
   ·simp[dG]
theorem Uf p i:dG (kU p i).1:=by
 unfold kU;split
 ·simp[dG]
 ·split
  ·simp[dG]
  ·split
   ·simp[dG]
   ·split
    ·simp[dG]
    ·split <;> simp[dG]
theorem ZU p i:dG (yI p i).1:=by
 unfold yI;split <;> simp[dG]
theorem zCB p i:dG (kS p i).1:=by
 unfold kS;split
 ·simp[dG]
 split
 ·simp[dG]
 split
 ·simp[dG]
 split
 ·simp[dG]
 split
 ·exact Xk p i
 split
 ·exact ZU p i
 split
 ·exact Uf p i
 split
 ·exact Xj p i
 split
 ·simp[dG]
 ·simp[dG]
theorem Xl{l t}(j:dG t)(I:l.length<=64):dG (yU l t):=by
 unfold yU;split
 ·rename_i h
  have G:t.kind=6:=by simp[jD]at h;exact h.1
  have:=nU l;simp only[dG]at *;omega
 ·exact j
theorem Xm p(W:p.size<=64):∀(f:Nat) l(i:Int),0<=i->i<=p.size->(p.size:Int)-i<f->bR l->(l.length:Int)<=i->bR (vP p l i).1/\((vP p l i).1.length:Int)<=p.size:=by
 intro f;induction f with
 | zero=>intro l i j G J;omega
 | succ f O =>
  intro l i j G J I U;rw[dW p l i j G];split
  ·exact⟨I,by simp only;omega⟩
  ·split
   ·exact⟨by simp[bR],by simp⟩
   ·split
    ·exact⟨by simp[bR],by simp⟩
    ·rename_i a b c
     have Y:=tq p i j (by omega) (by omega);refine O _ _ (by omega) (by omega) (by omega) ?_ ?_
     ·intro t h;rcases gV.1 h with h | h
      ·exact I t h
      ·simp at h;rw[h];exact Xl (zCB p i) (by omega)
     ·rw[lQ];simp;omega
theorem bG p:bR (zP p).1/\(zP p).1.length<=64:=by
 unfold zP;split
 ·exact⟨by simp[bR],by simp⟩
 ·rename_i j
  have h:=Xm p (by omega) ((p.size:Int)+1).toNat [] 0 (by omega) (by omega) (by omega) (by simp[bR]) (by simp);rw[dP p (by omega)];split
  ·exact⟨h.1,by have:=h.2;omega⟩
  ·split
   ·exact⟨by simp[bR],by simp⟩
   ·exact⟨h.1,by have:=h.2;simp only;omega⟩
def qW(p:BA):Int × Int:=
 if(zP p).2.1≠0 then(zP p).2
 else if 300<(coded (zP p).1).length then(12,0)
 else(0,0)
def jA(p:BA):List zT × Int:=if(qW p).1≠0 then([],(qW p).1)else(coded (zP p).1,0)
def xV(p:Int)(i:zT):Bool:=decide (i.op=5/\i.x+1<p)
def tN(c:List zT)(p k:Nat):Nat:=((c.drop p).take (k-p)).countP (xV p)
def jY(c:List zT)(p:Nat):Nat:=tN c p c.length
theorem Ph c p k(j:p<=k)(h:k<c.length):tN c p (k+1)=tN c p k+if xV p (c.getD k kC)then 1 else 0:=by
 unfold tN;rw[show k+1-p=(k-p)+1 by omega,sP (by rw[wW];omega),sI]
 have e:(c.drop p)[k-p]'(by rw[wW];omega)=c.getD k kC:=by
  rw[List.getElem_drop,lH,lN h];simp only[uS];congr 1;omega
 rw[e];simp[sQ]
theorem MP c p:tN c p p=0:=by unfold tN;simp
theorem KQ c p k:tN c p k<=k:=by
 unfold tN;refine gX wN ?_;rw[uM];omega
theorem Fj c p:jY c p<=c.length:=KQ _ _ _
theorem Xo p:fit 100000000 (coded (zP p).1):=by
 have g:=Pe (zP p).1 (bG p).1 283 0 0 (zP p).1.length 0 (by omega) (by omega);have h:gu (2000*((283:Nat)+1:Int)) (60000*((283:Nat)+1:Int)) [(⟨13,0,0,[]⟩:zT)]:=bF ⟨by simp only;omega,by simp only;omega,by simp only;omega,by simp only;omega⟩ (by omega);exact AZ (vR g h) (by omega) (by omega)
theorem KR(p)(h:(qW p).1=0):(coded (zP p).1).length<=300:=by
 unfold qW at h;split at h
 ·rename_i g;exact absurd h g
 ·split at h
  ·simp at h
  ·omega
theorem NG p:fit 100000000 (jA p).1/\(jA p).1.length<=300:=by
 unfold jA;split
 ·exact⟨El (by omega),by simp⟩
 ·rename_i h
  exact⟨Xo p,KR p (by simpa using h)⟩
def aY(p:Int)(i:zT):Bool:=decide (i.op=11/\p<i.y)
def vw(c:List zT)(p:Nat):Bool:=(c.take p).any (aY p)
def mE(x:zT)(q p:Int):Bool:=
 if x.op=2 then(x.x==p||x.y==p)
 else if x.op=3\/x.op=5 then x.x==p
 else if x.op=11 then x.y==p
 else if x.op=12\/x.op=13 then false
 else q+1==p
def leads(c:List zT)(q:Nat)(p:Int):Bool:=mE (c.getD q kC) q p
def xW(p:Int)(i:zT):Bool:=decide (i.op=5/\i.x=p)
def kN(c:List zT)(p:Int)(k:Nat):Nat:=(List.range k).countP λq=>leads c q p
theorem Ga c p k:kN c p (k+1)=kN c p k+if leads c k p then 1 else 0:=by
 unfold kN;rw[rE,sI];simp[sQ]
theorem KS c p k:kN c p k<=k:=by
 unfold kN;refine gX wN ?_;simp
def tu(vK:Int)(k:Nat):Bool:=((vK/(2:Int) ^ k).tmod 2==1)
def picked(c:List zT)(p:Nat)(kZ vK:Int):Bool:=
 if kZ=2/\c.any (xW p)=true then true
 else if kZ=1 then true
 else if kZ=3 then decide (1<kN c p c.length)
 else if kZ=4 then tu vK (p % 32)
 else false
def tO(c:List zT):Bool:=c.any λi=>decide (i.op=8)
def kg(c:List zT)(kZ vK:Int)(p:Nat):Bool:=if vw c p then false else picked c p kZ vK
def qO(c:List zT)(kZ vK:Int):List Bool:=if tO c then List.replicate c.length false else(List.range c.length).map (kg c kZ vK)
def jW(kZ vK:Int):Bool:=decide (0<=kZ/\kZ<=4/\0<=vK/\vK<=4294967295)
def qE(b:List Bool)(k:Nat):List Int:=((List.range k).filter λi=>b.getD i false).map λi:Nat=>(i:Int)
theorem bH b k:qE b (k+1)=qE b k++if b.getD k false then[(k:Int)]else[]:=by
 unfold qE;rw[rE,wI,rW];congr 1;rw[wG];cases h:b.getD k false <;> simp
theorem KT b k:(qE b k).length<=k:=by
 unfold qE;rw[uD];exact gX (iF _ _) (by simp)
theorem Bh(c:List zT) f k(h:k<c.length):(c.take (k+1)).any f=((c.take k).any f||f (c.getD k kC)):=by
 rw[sP h,List.any_append,lH,lN h];simp
theorem uf(c:List zT)(f)(k n)(j:k<n)(G:n<=c.length)(h:f (c.getD k kC)=true):(c.take n).any f=true:=by
 rw[aN];refine⟨c.getD k kC,?_,h⟩;rw[lH,lN (by omega)];simp only[uS];rw[iR];exact⟨k,by omega,rfl⟩
theorem KU c j h:(qO c j h).length=c.length:=by
 unfold qO;split <;> simp
abbrev qL:=List Int
def gt(s:qL)(i:Nat):Int:=s.getD i 0
def Gb(p:BA)(c:Int)(k:Nat):Bool:=(p.data.toList.take k).any λb=>(b.toNat:Int)==c
def hasB(p:BA)(c:Int):Bool:=p.data.toList.any λb=>(b.toNat:Int)==c
theorem KV p c k(h:k<p.size):Gb p c (k+1)=(Gb p c k||((p[k]'h).toNat:Int)==c):=by
 unfold Gb;have j:k<p.data.toList.length:=by simpa using h
 rw[sP j,List.any_append];simp only[List.any_cons,List.any_nil,aL];rfl
theorem NH p c:Gb p c p.size=hasB p c:=by
 unfold Gb hasB;rw[oG (by simp)]
theorem Rp p c k(h:k<p.size)(G:(((p[k]'h).toNat:Int)==c)=true):hasB p c=true:=by
 unfold hasB;rw[aN];refine⟨p[k]'h,?_,G⟩;have j:k<p.data.toList.length:=by simpa using h
 exact uK j
def kR(s:qL)(k:Nat):Nat:=(List.range k).countP λj=>gt s (32+j)==gt s 1
theorem BM s k:kR s (k+1)=kR s k+if gt s (32+k)==gt s 1 then 1 else 0:=by
 unfold kR;rw[rE,sI];simp[sQ]
theorem BN s k:kR s k<=k:=by
 unfold kR;refine gX wN ?_;simp
def ZW(s:qL)(a:Nat):Nat:=kR s (min a 12)
theorem Pj s a:ZW s a<=12/\ZW s a<=a:=by
 have:=BN s (min a 12);unfold ZW;omega
def keyOf(s:qL)(pc pos T a:Nat):Nat:=(pc*(T+1)+pos)*12+ZW s a
def yV(kn:List Bool)(zA:Int)(i:Nat):List Bool:=if kn.getD i false=true then kn else if 0<zA then kn.set i true else kn
def qB(kn:List Bool)(zA:Int)(i:Nat):Int:=if kn.getD i false=true then zA else if 0<zA then zA-1 else zA
def xG(i:zT):Bool:=decide (i.op=4)
def dS(i:zT):Bool:=decide (i.op=5)
theorem jH q n x(l:List zT):((x::l).take n).countP q=(if 0<n/\q x=true then 1 else 0)+(l.take (n-1)).countP q:=by
 cases n with
 | zero=>simp
 | succ n =>
  rw[uH,sQ,Nat.add_sub_cancel];cases h:q x <;> simp <;> omega
theorem xR q n(a b:List zT):((a++b).take n).countP q=(a.take n).countP q+(b.take (n-a.length)).countP q:=by
 rw[rX,sI]
theorem mW:∀(r:Re) p d t,((r.code p d).take (t-p).toNat).countP xG=(r.code p d).countP (xV t)
 | .qb,p,d,t=>by simp[Re.code]
 | .one s,p,d,t=>by rw[Re.code,jH];simp[xG,xV]
 | .back k,p,d,t=>by rw[Re.code,jH];simp[xG,xV]
 | .head,p,d,t=>by rw[Re.code,jH];simp[xG,xV]
 | .tail,p,d,t=>by rw[Re.code,jH];simp[xG,xV]
 | .cat a b,p,d,t=>by
  rw[Re.code,xR,sI,mW a,Re.zH,show(t-p).toNat-a.len=(t-(p+a.len)).toNat by omega,mW b]
 | .alt a b,p,d,t=>by
  rw[Re.code,jH,xR,jH,Re.zH,sQ,sI,sQ,show(t-p).toNat-1=(t-(p+1)).toNat by omega,mW a,show(t-(p+1)).toNat-a.len-1=(t-(p+a.len+2)).toNat by omega,mW b];simp[xG,xV]
 | .cap k a,p,d,t=>by
  rw[Re.code,jH,xR,jH,sQ,sI,show(t-p).toNat-1=(t-(p+1)).toNat by omega,mW a];simp[xG,xV]
 | .sub s a,p,d,t=>by
  rw[Re.code,jH,xR,jH,sQ,sI,show(t-p).toNat-1=(t-(p+1)).toNat by omega,mW a];simp[xG,xV]
 | .opt late a,p,d,t=>by
  rw[Re.code,jH,sQ,show(t-p).toNat-1=(t-(p+1)).toNat by omega,mW a];cases late <;> simp[xG,xV,spl]
 | .loop late a,p,d,t=>by
  rw[Re.code,jH,jH,xR,jH,sQ,sQ,sI,show(t-p).toNat-1-1=(t-(p+2)).toNat by omega,mW a];have e:(0<(t-p).toNat-1)↔p+1<t:=by omega
  cases late <;> simp[xG,xV,spl,sQ] <;> split <;> split <;> omega
theorem tT:∀(r:Re) p d t x,x∈(r.code p d).take (t-p).toNat->x.op=5->x.x+1<t
 | .qb,p,d,t,x,h,h5=>by simp[Re.code]at h
 | .one s,p,d,t,x,h,h5=>by have:=oW h;simp[Re.code]at this;subst this;simp at h5
 | .back k,p,d,t,x,h,h5=>by have:=oW h;simp[Re.code]at this;subst this;simp at h5
 | .head,p,d,t,x,h,h5=>by have:=oW h;simp[Re.code]at this;subst this;simp at h5
 | .tail,p,d,t,x,h,h5=>by have:=oW h;simp[Re.code]at this;subst this;simp at h5
 | .cat a b,p,d,t,x,h,h5=>by
  rw[Re.code,rX,gV,Re.zH,show(t-p).toNat-a.len=(t-(p+a.len)).toNat by omega]at h;rcases h with h | h
  ·exact tT a _ _ _ x h h5
  ·exact tT b _ _ _ x h h5
 | .alt a b,p,d,t,x,h,h5=>by
  rw[Re.code]at h;rcases qc h with rfl | h
  ·simp at h5
  rw[rX,gV,Re.zH,show(t-p).toNat-1=(t-(p+1)).toNat by omega]at h;rcases h with h | h
  ·exact tT a _ _ _ x h h5
  rcases qc h with rfl | h
  ·simp at h5
  rw[show(t-(p+1)).toNat-a.len-1=(t-(p+a.len+2)).toNat by omega]at h;exact tT b _ _ _ x h h5
 | .cap k a,p,d,t,x,h,h5=>by
  rw[Re.code]at h;rcases qc h with rfl | h
  ·simp at h5
  rw[rX,gV,show(t-p).toNat-1=(t-(p+1)).toNat by omega]at h;rcases h with h | h
  ·exact tT a _ _ _ x h h5
  ·have:=oW h;simp at this;subst this;simp at h5
 | .sub s a,p,d,t,x,h,h5=>by
  rw[Re.code]at h;rcases qc h with rfl | h
  ·simp at h5
  rw[rX,gV,show(t-p).toNat-1=(t-(p+1)).toNat by omega]at h;rcases h with h | h
  ·exact tT a _ _ _ x h h5
  ·have:=oW h;simp at this;subst this;simp at h5
 | .opt late a,p,d,t,x,h,h5=>by
  rw[Re.code]at h;rcases qc h with rfl | h
  ·cases late <;> simp[spl]at h5
  rw[show(t-p).toNat-1=(t-(p+1)).toNat by omega]at h;exact tT a _ _ _ x h h5
 | .loop late a,p,d,t,x,h,h5=>by
  rw[Re.code]at h;rcases qc h with rfl | h
  ·cases late <;> simp[spl]at h5
  rcases qc h with rfl | h
  ·simp at h5
  rw[rX,gV,Re.zH,show(t-p).toNat-1-1=(t-(p+2)).toNat by omega]at h;rcases h with h | h
  ·exact tT a _ _ _ x h h5
  ·have j:=oW h;simp at j;subst j
   have:0<(t-(p+2)).toNat-a.len:=by
    rcases Nat.eq_zero_or_pos ((t-(p+2)).toNat-a.len)with e | e
    ·rw[e]at h;simp at h
    ·exact e
   show p+1<t;omega
 where
 qc {x y:zT} {l:List zT} {n:Nat} (h:x∈(y::l).take n):x=y\/x∈l.take (n-1):=by
  cases n with
  | zero=>simp at h
  | succ n=>rw[uH,oH]at h;exact h
theorem Lb(r:Re) c(G:c=r.code 0 0++[⟨13,0,0,[]⟩]) k:(c.take k).countP xG=(c.take k).countP dS+jY c k:=by
 have m:=mW r 0 0 k;rw[show((k:Int)-0).toNat=k by omega]at m
 have I:(c.take k).countP xG=((r.code 0 0).take k).countP xG:=by
  rw[G,xR,jH];simp[xG]
 have J:c.countP (xV k)=(r.code 0 0).countP (xV k):=by
  rw[G,sI];simp[xV]
 have O:(c.take k).countP (xV k)=(c.take k).countP dS:=by
  refine aK (λx h=>?_);unfold xV dS;simp only[gM];constructor
  ·exact λj=>j.1
  ·intro j;refine⟨j,?_⟩;rw[G,rX,gV]at h;rcases h with h | h
   ·exact tT r 0 0 k x (by rw[show((k:Int)-0).toNat=k by omega];exact h) j
   ·have:=oW h;simp at this;subst this;simp at j
 have U:c.countP (xV k)=(c.take k).countP (xV k)+(c.drop k).countP (xV k):=by
  rw[<-sI,List.take_append_drop]
 have W:jY c k=(c.drop k).countP (xV k):=by
  unfold jY tN;rw[oG (by rw[wW];exact lF _)]
 omega
theorem Lc q(c:List zT) k(h:k<c.length):(c.take (k+1)).countP q=(c.take k).countP q+if q (c.getD k kC)=true then 1 else 0:=by
 rw[sP h,sI,lH,lN h];simp[sQ]
def ou(x:Re)(d:Int)(f:Nat->zT):Nat->Nat->Int->List zT
 | 0,_,_=>[]
 | n+1,i,p=>f i::(x.code (p+1) d++ou x d f n (i+1) (p+((x.len+1:Nat):Int)))
theorem MB x d f:∀n i p,(ou x d f n i p).length=n*(x.len+1)
 | 0,_,_=>by simp[ou]
 | n+1,i,p=>by rw[ou,lU,lQ,Re.zH,MB x d f n,oV];omega
theorem CQ x d f j:∀n i p,(∀m,i<=m->m<i+n->f m=j m)->ou x d f n i p=ou x d j n i p
 | 0,_,_,_=>rfl
 | n+1,i,p,h=>by rw[ou,ou,h i (lF _) (by omega),CQ x d f j n (i+1) _ (λm G I=>h m (by omega) (by omega))]
theorem OQ x d f:∀n i p,ou x d f (n+1) i p=ou x d f n i p++[f (i+n)]++x.code (p+((n*(x.len+1):Nat):Int)+1) d
 | 0,i,p=>by simp[ou]
 | n+1,i,p=>by
  rw[ou,OQ x d f n (i+1),ou,oV];simp only[rR,gZ];rw[show i+1+n=i+(n+1) by omega,show p+((x.len+1:Nat):Int)+((n*(x.len+1):Nat):Int)+1=p+((n*(x.len+1)+1*(x.len+1):Nat):Int)+1 by push_cast;omega]
theorem TD x d f v:∀n j i p,j<n->(ou x d f n i p).set (j*(x.len+1)) v=ou x d (λm=>if m=i+j then v else f m) n i p
 | 0,_,_,_,h=>by omega
 | n+1,0,i,p,h=>by
  rw[ou,ou,aT,lJ,lG (by omega),CQ x d f (λm=>if m=i+0 then v else f m) n (i+1) _ (λm G I=>by rw[lC (by omega)])]
 | n+1,j+1,i,p,h=>by
  rw[ou,ou,lC (by omega),oV,iY,show j*(x.len+1)+(x.len+1)=(x.len+j*(x.len+1))+1 by omega,lI,sU _ _ (by rw[Re.zH];omega),Re.zH,
   show x.len+j*(x.len+1)-x.len=j*(x.len+1) by omega,TD x d f v n j (i+1) _ (by omega)]
  rw[show i+1+j=i+(j+1) by omega]
theorem OT x d late f:∀n i p,(∀m,m<n->f (i+m)=spl (p+((m*(x.len+1):Nat):Int)+1) (p+((n*(x.len+1):Nat):Int)) late)->ou x d f n i p=(fF x late n).code p d
 | 0,_,_,_=>rfl
 | n+1,i,p,h=>by
  rw[ou,fF,Re.code,Re.code];have j:=h 0 (by omega);rw[wE]at j;rw[j,Re.len,Bf];have G:p+((0*(x.len+1):Nat):Int)+1=p+1:=by simp
  have I:p+(((n+1)*(x.len+1):Nat):Int)=p+((x.len+n*(x.len+1):Nat):Int)+1:=by rw[oV];push_cast;omega
  have J:p+((x.len+1:Nat):Int)=p+1+(x.len:Int):=by push_cast;omega
  rw[G,I,OT x d late f n (i+1) _ (λm W=>?_),J];have:=h (m+1) (by omega);rw[show i+1+m=i+(m+1) by omega,this];have O:p+(((m+1)*(x.len+1):Nat):Int)=p+((x.len+1:Nat):Int)+((m*(x.len+1):Nat):Int):=by rw[oV];push_cast;omega
  have U:p+(((n+1)*(x.len+1):Nat):Int)=p+((x.len+1:Nat):Int)+((n*(x.len+1):Nat):Int):=by rw[oV];push_cast;omega
  rw[O,U]
def gq(p m:Nat)(k:Nat):List Nat:=(List.range k).map λi=>p+i*m
theorem Ea p m k:(gq p m k).length=k:=by simp[gq]
theorem QI p m k:gq p m (k+1)=gq p m k++[p+k*m]:=by simp[gq,rE]
theorem VX p m k j(h:j<k):(gq p m k)[j]?=some (p+j*m):=by simp[gq,h]
