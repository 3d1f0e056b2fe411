import Derived.Test.YtebpgfodelggoabGreatKC03
import Derived.Test.YtebpgfodelggoabGreatKC07
import Derived.Test.YtebpgfodelggoabGreatKC09
import Derived.Test.YtebpgfodelggoabGreatKC15
set_option linter.unusedVariables false
set_option linter.unusedSimpArgs false
namespace Mt
inductive Re where
 | eps
 | one (s:List UInt8)
 | back (k:Int)
 | head
 | tail
 | cat (a b:Re)
 | alt (a b:Re)
 | cap (k:Int) (a:Re)
 | sub (s:Int) (a:Re)
 | opt (late:Bool) (a:Re)
 | loop (late:Bool) (a:Re)
def Re.len:Re->Nat
 | .eps=>0
 | .one _=>1
 | .back _=>1
 | .head=>1
 | .tail=>1
 | .cat a b=>a.len+b.len
 | .alt a b=>a.len+b.len+2
 | .cap _ a=>a.len+2
 | .sub _ a=>a.len+2
 | .opt _ a=>a.len+1
 | .loop _ a=>a.len+3
def spl(x y:Int)(late:Bool):zTG:=if late then⟨2,y,x,[]⟩else⟨2,x,y,[]⟩
def Re.code:Re->Int->Int->List zTG
 | .eps,_,_=>[]
 | .one s,_,_=>[⟨1,0,0,s⟩]
 | .back k,_,_=>[⟨8,k,0,[]⟩]
 | .head,_,_=>[⟨9,0,0,[]⟩]
 | .tail,_,_=>[⟨10,0,0,[]⟩]
 | .cat a b,p,d=>a.code p d++b.code (p+a.len) d
 | .alt a b,p,d=>⟨2,p+1,p+a.len+2,[]⟩::(a.code (p+1) d++⟨3,p+a.len+2+b.len,0,[]⟩::b.code (p+a.len+2) d)
 | .cap k a,p,d=>⟨6,k,0,[]⟩::(a.code (p+1) d++[⟨7,k,0,[]⟩])
 | .sub s a,p,d=>⟨11,s,p+a.len+2,[]⟩::(a.code (p+1) d++[⟨12,0,0,[]⟩])
 | .opt late a,p,d=>spl (p+1) (p+a.len+1) late::a.code (p+1) d
 | .loop late a,p,d=>spl (p+1) (p+a.len+3) late::⟨4,d,0,[]⟩::(a.code (p+2) (d+1)++[⟨5,p,d,[]⟩])
theorem Re.zQ:∀(r:Re) (p d:Int),(r.code p d).length=r.len
 | .eps,_,_=>rfl
 | .one _,_,_=>rfl
 | .back _,_,_=>rfl
 | .head,_,_=>rfl
 | .tail,_,_=>rfl
 | .cat a b,p,d=>by simp[Re.code,Re.len,Re.zQ a,Re.zQ b]
 | .alt a b,p,d=>by simp[Re.code,Re.len,Re.zQ a,Re.zQ b];omega
 | .cap _ a,p,d=>by simp[Re.code,Re.len,Re.zQ a]
 | .sub _ a,p,d=>by simp[Re.code,Re.len,Re.zQ a]
 | .opt _ a,p,d=>by simp[Re.code,Re.len,Re.zQ a]
 | .loop _ a,p,d=>by simp[Re.code,Re.len,Re.zQ a]
theorem wE(a b:List zTG)(n:Int):vF (a++b) n=vF a n++vF b n:=by simp[vF]
theorem bC(i:zTG)(b:List zTG)(n:Int):vF (i::b) n=fU i n::vF b n:=rfl
theorem wF(n:Int):vF [] n=[]:=rfl
theorem zCc(x y:Int)(late:Bool)(n:Int):fU (spl x y late) n=spl (x+n) (y+n) late:=by cases late <;> rfl
theorem Re.qJ:∀(r:Re) (p d n:Int),vF (r.code p d) n=r.code (p+n) d
 | .eps,_,_,_=>rfl
 | .one _,_,_,_=>rfl
 | .back _,_,_,_=>rfl
 | .head,_,_,_=>rfl
 | .tail,_,_,_=>rfl
 | .cat a b,p,d,n=>by
  simp only[Re.code,wE,Re.qJ a,Re.qJ b];rw[show p+a.len+n=p+n+a.len by omega]
 | .alt a b,p,d,n=>by
  simp only[Re.code,wE,bC,Re.qJ a,Re.qJ b];rw[show p+a.len+2+n=p+n+a.len+2 by omega,show p+1+n=p+n+1 by omega];simp only[fU];simp;omega
 | .cap _ a,p,d,n=>by
  simp only[Re.code,wE,bC,wF,Re.qJ a];rw[show p+1+n=p+n+1 by omega];rfl
 | .sub _ a,p,d,n=>by
  simp only[Re.code,wE,bC,wF,Re.qJ a];rw[show p+1+n=p+n+1 by omega];simp only[fU];simp;omega
 | .opt _ a,p,d,n=>by
  simp only[Re.code,bC,Re.qJ a,zCc];rw[show p+1+n=p+n+1 by omega,show p+a.len+1+n=p+n+a.len+1 by omega]
 | .loop _ a,p,d,n=>by
  simp only[Re.code,wE,bC,wF,Re.qJ a,zCc];rw[show p+1+n=p+n+1 by omega,show p+2+n=p+n+2 by omega,show p+a.len+3+n=p+n+a.len+3 by omega];rfl
theorem xA(a b:List zTG):(zO a b).length=if 300<a.length then a.length else a.length+b.length:=by
 unfold zO;split
 ·rfl
 ·simp[yE]
theorem dU(a b:List zTG)(h:a.length<=300):zO a b=a++vF b a.length:=by unfold zO;rw[if_neg (by omega)]
def Rep(c L:List zTG):Prop:=(L.length<=300->c=L)/\(300<L.length->300<c.length)
theorem Rep.refl(c:List zTG):Rep c c:=⟨λ_=>rfl,id⟩
theorem Rep.len{c L:List zTG}(h:Rep c L):(L.length<=300->c.length=L.length)/\(300<L.length->300<c.length):=⟨λhl=>by rw[h.1 hl],h.2⟩
theorem Rep.zO{a A b B:List zTG}(ha:Rep a A)(hb:Rep b B):Rep (zO a b) (A++vF B A.length):=by
 have la:=ha.len;have lb:=hb.len;refine⟨λh=>?_,λh=>?_⟩
 ·rw[lM,yE]at h;rw[ha.1 (by omega),hb.1 (by omega),dU _ _ (by omega)]
 ·rw[lM,yE]at h;rw[xA];split <;> omega
theorem Rep.alone{c L:List zTG}(s:Int)(h:Rep c L):Rep (alone s c) (⟨11,s,L.length+2,[]⟩::(vF L 1++[⟨12,0,0,[]⟩])):=by
 have hl:=h.len;refine⟨λhh=>?_,λhh=>?_⟩
 ·simp only[List.length_cons,lM,yE,List.length_nil]at hh;rw[h.1 (by omega)];unfold Mt.alone;rw[dU [_] L (by simp),dU _ _ (by simp[yE];omega)];rfl
 ·simp only[List.length_cons,lM,yE,List.length_nil]at hh;unfold Mt.alone;rw[xA,xA];simp only[List.length_cons,List.length_nil]
  repeat' split
  all_goals omega
theorem Rep.loop{c L:List zTG}(d:Int)(late:Bool)(h:Rep c L):Rep (pG c d late) (spl 1 (L.length+3) late::⟨4,d,0,[]⟩::(vF L 2++[⟨5,0,d,[]⟩])):=by
 have hl:=h.len;refine⟨λhh=>?_,λhh=>?_⟩
 ·simp only[List.length_cons,lM,yE,List.length_nil]at hh;rw[h.1 (by omega)];unfold Mt.pG;have e:∀x y,qR x y late=[spl x y late]:=λx y=>by cases late <;> rfl
  rw[e,dU [_] [_] (by simp)];have e2:([spl 1 ((L.length:Int)+3) late]++vF [(⟨4,d,0,[]⟩:zTG)] ([spl 1 ((L.length:Int)+3) late].length:Int))=[spl 1 ((L.length:Int)+3) late,⟨4,d,0,[]⟩]:=rfl;rw[e2,dU [_,_] L (by simp),dU _ _ (by simp[yE];omega)];simp only[lM,List.length_cons,List.length_nil,yE,bC,wF]
  have e3:fU ⟨5,-(L.length:Int)-2,d,[]⟩ ((0+1+1+L.length:Nat):Int)=⟨5,0,d,[]⟩:=by
   show(⟨5,(-(L.length:Int)-2)+((0+1+1+L.length:Nat):Int),d,[]⟩:zTG)=_;congr 1;omega
  rw[e3];rfl
 ·simp only[List.length_cons,lM,yE,List.length_nil]at hh;unfold Mt.pG;rw[xA,xA,xA];have e:(qR 1 ((c.length:Int)+3) late).length=1:=by unfold qR;split <;> rfl
  rw[e];simp only[List.length_cons,List.length_nil]
  repeat' split
  all_goals omega
theorem Rep.alts{s S r R:List zTG}(hs:Rep s S)(hr:Rep r R):Rep (Mt.zO (Mt.zO (Mt.zO (qR 1 ((s.length:Int)+2) false) s) (zCP (1+(r.length:Int)))) r) (⟨2,1,S.length+2,[]⟩::(vF S 1++⟨3,S.length+2+R.length,0,[]⟩::vF R (S.length+2))):=by
 have ls:=hs.len;have lr:=hr.len;refine⟨λhh=>?_,λhh=>?_⟩
 ·simp only[List.length_cons,lM,yE]at hh;rw[hs.1 (by omega),hr.1 (by omega)];rw[dU (qR _ _ _) S (by simp[qR]),dU _ (zCP _) (by simp[qR,yE];omega),dU _ R (by simp[qR,zCP,yE];omega)];have e1:qR 1 ((S.length:Int)+2) false=[⟨2,1,(S.length:Int)+2,[]⟩]:=rfl;simp only[e1,zCP,lM,List.length_cons,List.length_nil,yE,bC,wF]
  have e2:fU ⟨3,1+(R.length:Int),0,[]⟩ ((0+1+S.length:Nat):Int)=⟨3,S.length+2+R.length,0,[]⟩:=by
   show(⟨3,(1+(R.length:Int))+((0+1+S.length:Nat):Int),0,[]⟩:zTG)=_;congr 1;omega
  rw[e2,show((0+1+S.length+(0+1):Nat):Int)=(S.length:Int)+2 by omega];simp
 ·simp only[List.length_cons,lM,yE]at hh;rw[xA,xA,xA];have e1:(qR 1 ((s.length:Int)+2) false).length=1:=rfl;have e2:(zCP (1+(r.length:Int))).length=1:=rfl;rw[e1,e2]
  repeat' split
  all_goals omega
def jE(x:Re):Nat->Re
 | 0=>.eps
 | n+1=>.cat x (jE x n)
def wG(x:Re)(late:Bool):Nat->Re
 | 0=>.eps
 | n+1=>.opt late (.cat x (wG x late n))
theorem zAU(x:Re)(late:Bool):∀n,(wG x late n).len=n*(x.len+1)
 | 0=>by simp[wG,Re.len]
 | n+1=>by rw[wG,Re.len,Re.len,zAU x late n,Nat.add_mul];omega
theorem zGF{x:List zTG}{X:Re}{d:Int}(hx:Rep x (X.code 0 d)):∀(n:Nat) (c C:List zTG),Rep c C->Rep (zH x n c) (C++(jE X n).code C.length d)
 | 0,c,C,h=>by simpa[zH,jE,Re.code]using h
 | n+1,c,C,h=>by
  have:=zGF hx n _ _ (h.zO hx);simp only[zH,jE,Re.code];rw[Re.qJ,Int.zero_add,lM,Re.zQ,List.append_assoc]at this;simpa using this
theorem zGG(x:List zTG)(late:Bool):∀(n:Nat) (c:List zTG),c.length<=(pI x late n c).length
 | 0,c=>lG _
 | n+1,c=>by
  refine Nat.le_trans ?_ (zGG x late n _);rw[xA];split <;> omega
theorem zEJ{X:Re}{d:Int}(late:Bool):∀(n:Nat) (c C:List zTG),Rep c C->Rep (pI (X.code 0 d) late n c) (C++(wG X late n).code C.length d)
 | 0,c,C,h=>by simpa[pI,wG,Re.code]using h
 | n+1,c,C,h=>by
  have e:∀x y,qR x y late=[spl x y late]:=λx y=>by cases late <;> rfl
  have k:=zEJ (X:=X) (d:=d) late n _ _ (h.zO (Rep.zO (Rep.refl (qR 1 (((n:Int)+1)*((X.code 0 d).length+1)) late)) (Rep.refl (X.code 0 d))));simp only[pI,wG,Re.code];rw[e]at k;simp only[List.length_cons,List.length_nil,wE,bC,wF,zCc,Re.qJ,lM,Re.zQ,Re.len,zAU]at k |-;rw[e];have a1:(1:Int)+(C.length:Int)=C.length+1:=by omega
  have a2:(((n:Int)+1)*((X.len:Int)+1))+(C.length:Int)=(C.length:Int)+((X.len+n*(X.len+1):Nat):Int)+1:=by
   rw[Int.natCast_add,Int.natCast_mul,Int.add_mul];simp;omega
  have a3:(0:Int)+((0+1:Nat):Int)+(C.length:Int)=C.length+1:=by omega
  have a4:((C.length+(0+1+X.len):Nat):Int)=(C.length:Int)+1+(X.len:Int):=by omega
  rw[a1,a2,a3,a4]at k;simpa using k
theorem zNC{x:List zTG}{X:Re}{d:Int}(late:Bool)(hx:Rep x (X.code 0 d))(n:Nat)(c C:List zTG)(h:Rep c C):Rep (pI x late n c) (C++(wG X late n).code C.length d):=by
 have lx:=hx.len;rw[Re.zQ]at lx;by_cases hX:X.len<=300
 ·rw[hx.1 (by rw[Re.zQ];omega)];exact zEJ late n c C h
 ·match n with
  | 0=>simpa[pI,wG,Re.code]using h
  | n+1 =>
   have hl:300<(C++(wG X late (n+1)).code C.length d).length:=by
    rw[lM,Re.zQ,zAU,Nat.add_mul];omega
   refine⟨λhh=>by omega,λ_=>?_⟩;refine Nat.lt_of_lt_of_le ?_ (zGG x late n _);have e1:(qR 1 (((n:Int)+1)*(x.length+1)) late).length=1:=by unfold qR;split <;> rfl
   rw[xA,xA,e1]
   repeat' split
   all_goals omega
def zKM(at' rp:Nat->Nat->Re)(l:List zTD)(b:Nat):Nat->Nat->Re
 | 0,_=>.eps
 | f+1,i =>
  if b<=i then .eps
  else if after l i<b/\yF l (after l i)=8 then .cat (rp i (after l i)) (zKM at' rp l b f (after l i+1))
  else .cat (at' i (after l i)) (zKM at' rp l b f (after l i))
def zF7(x:Re)(r:zTD):Re :=
 let c1:=if 0<r.n\/0<r.m then(if r.n<r.m then .cat (jE x r.n.toNat) (wG x (decide (r.zTF=1)) (r.m-r.n).toNat)else jE x r.n.toNat)else .eps
 let c2:=if r.m<0 then .cat c1 (.loop (decide (r.zTF=1)) x)else c1
 if r.zTF=2 then .sub 0 c2 else c2
def tree(l:List zTD):Nat->Nat->Nat->Nat->Re
 | 0,_,_,_=>.eps
 | f+1,0,a,b=>if bar l a b=b then tree l f 1 a (bar l a b)else .alt (tree l f 1 a (bar l a b)) (tree l f 0 (bar l a b+1) b)
 | f+1,1,a,b=>zKM (λi j=>tree l f 2 i j) (λi j=>tree l f 3 i j) l b (b-a) a
 | f+1,2,a,b =>
  if yF l a=1 then .one (l.getD a jZ).set
  else if yF l a=2 then .back (l.getD a jZ).n
  else if yF l a=3 then .head
  else if yF l a=4 then .tail
  else if(l.getD a jZ).zTF=3 then tree l f 0 (a+1) (b-1)
  else if(l.getD a jZ).zTF=4 then .cap (l.getD a jZ).n (tree l f 0 (a+1) (b-1))
  else .sub (l.getD a jZ).zTF (tree l f 0 (a+1) (b-1))
 | f+1,_+3,a,b=>zF7 (tree l f 2 a b) (l.getD b jZ)
theorem zH1{at' rp:Nat->Nat->List zTG}{At Rp:Nat->Nat->Re}{d:Int}(l:List zTD)(b:Nat)(h1:∀i j,Rep (at' i j) ((At i j).code 0 d))(h2:∀i j,Rep (rp i j) ((Rp i j).code 0 d)) :
  ∀(f i:Nat) (c C:List zTG),Rep c C->Rep (vW at' rp l b f i c) (C++(zKM At Rp l b f i).code C.length d)
 | 0,i,c,C,h=>by simpa[vW,zKM,Re.code]using h
 | f+1,i,c,C,h=>by
  simp only[vW,zKM];split
  ·simpa[Re.code]using h
  split
  ·have:=zH1 l b h1 h2 f (after l i+1) _ _ (h.zO (h2 i (after l i)));rw[Re.qJ,Int.zero_add,lM,Re.zQ,List.append_assoc]at this;simp only[Re.code];simpa using this
  ·have:=zH1 l b h1 h2 f (after l i) _ _ (h.zO (h1 i (after l i)));rw[Re.qJ,Int.zero_add,lM,Re.zQ,List.append_assoc]at this;simp only[Re.code];simpa using this
theorem zND{x y:List zTG}{X:Re}{d:Int}(hx:Rep x (X.code 0 d))(hy:Rep y (X.code 0 (d+1)))(r:zTD) :
  Rep (let c1:=if 0<r.n\/0<r.m then(if r.n<r.m then zO (zH x r.n.toNat []) (upTo x (r.m-r.n).toNat (decide (r.zTF=1)))else zH x r.n.toNat [])else[]
   let c2:=if r.m<0 then zO c1 (pG y d (decide (r.zTF=1)))else c1
   if r.zTF=2 then alone 0 c2 else c2) ((zF7 X r).code 0 d):=by
 unfold zF7;dsimp only;have t0:Rep (zH x r.n.toNat []) ((jE X r.n.toNat).code 0 d):=zGF hx r.n.toNat [] [] (Rep.refl _);have u0:Rep (upTo x (r.m-r.n).toNat (decide (r.zTF=1))) ((wG X (decide (r.zTF=1)) (r.m-r.n).toNat).code 0 d):=zNC _ hx _ [] [] (Rep.refl _)
 have c1:Rep (if 0<r.n\/0<r.m then(if r.n<r.m then zO (zH x r.n.toNat []) (upTo x (r.m-r.n).toNat (decide (r.zTF=1)))else zH x r.n.toNat [])else[])
   ((if 0<r.n\/0<r.m then(if r.n<r.m then Re.cat (jE X r.n.toNat) (wG X (decide (r.zTF=1)) (r.m-r.n).toNat)else jE X r.n.toNat)else Re.eps).code 0 d):=by
  split
  ·split
   ·have:=t0.zO u0;rw[Re.qJ,Re.zQ]at this;exact this
   ·exact t0
  ·exact Rep.refl _
 generalize (if 0<r.n\/0<r.m then(if r.n<r.m then zO (zH x r.n.toNat []) (upTo x (r.m-r.n).toNat (decide (r.zTF=1)))else zH x r.n.toNat [])else[])=z1 at *;generalize (if 0<r.n\/0<r.m then(if r.n<r.m then Re.cat (jE X r.n.toNat) (wG X (decide (r.zTF=1)) (r.m-r.n).toNat)else jE X r.n.toNat)else Re.eps)=Z1 at *
 have c2:Rep (if r.m<0 then zO z1 (pG y d (decide (r.zTF=1)))else z1) ((if r.m<0 then Re.cat Z1 (.loop (decide (r.zTF=1)) X)else Z1).code 0 d):=by
  split
  ·have:=c1.zO (hy.loop d (decide (r.zTF=1)))
   have e:(spl 1 (((X.code 0 (d+1)).length:Int)+3) (decide (r.zTF=1))::⟨4,d,0,[]⟩::(vF (X.code 0 (d+1)) 2++[⟨5,0,d,[]⟩]))=(Re.loop (decide (r.zTF=1)) X).code 0 d:=by
    simp only[Re.code,Re.qJ,Re.zQ];rw[Int.zero_add,Int.zero_add,Int.zero_add]
   rw[e,Re.qJ,Re.zQ]at this;exact this
  ·exact c1
 generalize (if r.m<0 then zO z1 (pG y d (decide (r.zTF=1)))else z1)=z2 at *;generalize (if r.m<0 then Re.cat Z1 (.loop (decide (r.zTF=1)) X)else Z1)=Z2 at *;split
 ·have:=c2.alone 0;rw[Re.qJ,Re.zQ]at this;simp only[Re.code];rw[Int.zero_add]at this |-;exact this
 ·exact c2
theorem zHM(l:List zTD):∀(f tag a b:Nat) (d:Int),Rep (gen l f tag a b d) ((tree l f tag a b).code 0 d):=by
 intro f;induction f with
 | zero=>intro tag a b d;simp only[gen,tree];exact Rep.refl _
 | succ f ih =>
  intro tag a b d
  match tag with
  | 0 =>
   simp only[gen,tree];split
   ·exact ih 1 a _ d
   ·have:=(ih 1 a (bar l a b) d).alts (ih 0 (bar l a b+1) b d);simp only[Re.code];rw[Re.qJ,Re.qJ,Re.zQ,Re.zQ]at this;simp only[Int.zero_add]at this |-;exact this
  | 1 =>
   simp only[gen,tree];exact zH1 l b (λi j=>ih 2 i j d) (λi j=>ih 3 i j d) (b-a) a [] [] (Rep.refl _)
  | 2 =>
   simp only[gen,tree];split
   ·exact Rep.refl _
   split
   ·exact Rep.refl _
   split
   ·exact Rep.refl _
   split
   ·exact Rep.refl _
   split
   ·exact ih 0 (a+1) (b-1) d
   split
   ·have:=(Rep.zO (Rep.zO (Rep.refl [(⟨6,(l.getD a jZ).n,0,[]⟩:zTG)]) (ih 0 (a+1) (b-1) d)) (Rep.refl [(⟨7,(l.getD a jZ).n,0,[]⟩:zTG)]))
    rw[Re.qJ]at this;simp only[Re.code];simpa[vF,fU]using this
   ·have:=(ih 0 (a+1) (b-1) d).alone (l.getD a jZ).zTF;rw[Re.qJ,Re.zQ]at this;simp only[Re.code];simp only[Int.zero_add]at this |-;exact this
  | tag+3 =>
   simp only[gen,tree];exact zND (ih 2 a b d) (ih 2 a b (d+1)) (l.getD b jZ)
def zCC(l:List zTD):Re:=tree l 283 0 0 l.length
theorem zGH(l:List zTD):Rep (coded l) ((zCC l).code 0 0++[⟨13,0,0,[]⟩]):=by
 have:=(zHM l 283 0 0 l.length 0).zO (Rep.refl [(⟨13,0,0,[]⟩:zTG)]);exact this
theorem zGI(l:List zTD):((zCC l).len+1<=300->(coded l).length=(zCC l).len+1)/\(300<(zCC l).len+1->300<(coded l).length):=by
 have:=(zGH l).len;rw[lM,Re.zQ]at this;exact this
theorem zEK(l:List zTD)(h:(coded l).length<=300):coded l=(zCC l).code 0 0++[⟨13,0,0,[]⟩]/\(zCC l).len+1<=300:=by
 have h1:=zGI l;have h2:(zCC l).len+1<=300:=by omega
 exact⟨(zGH l).1 (by rw[lM,Re.zQ];exact h2),h2⟩
inductive Fs where
 | nil
 | bar (t:zTD) (rest:Fs)
 | leaf (t:zTD) (r:Option zTD) (rest:Fs)
 | grp (t:zTD) (inner:Fs) (c:zTD) (r:Option zTD) (rest:Fs)
def Fs.kL:Fs->List zTD
 | .nil=>[]
 | .bar t rest=>t::rest.kL
 | .leaf t r rest=>t::(r.toList++rest.kL)
 | .grp t inner c r rest=>t::(inner.kL++c::(r.toList++rest.kL))
def wY(t:zTD):Prop:=t.kind=1\/t.kind=2\/t.kind=3\/t.kind=4
def zJW(r:Option zTD):Prop:=∀q,r=some q->q.kind=8
def Fs.wf:Fs->Prop
 | .nil=>True
 | .bar t rest=>t.kind=5/\rest.wf
 | .leaf t r rest=>wY t/\zJW r/\rest.wf
 | .grp t inner c r rest=>t.kind=6/\c.kind=7/\inner.wf/\zJW r/\rest.wf
def fA(t:zTD):Re:=if t.kind=1 then .one t.set else if t.kind=2 then .back t.n else if t.kind=3 then .head else .tail
def wH(t:zTD)(x:Re):Re:=if t.zTF=3 then x else if t.zTF=4 then .cap t.n x else .sub t.zTF x
def part(r:Option zTD)(x:Re):Re:=match r with
 | none=>x
 | some q=>zF7 x q
def zBJ:Re × Option Re->Re
 | (s,none)=>s
 | (s,some a)=>.alt s a
def Fs.both:Fs->Re × Option Re
 | .nil=>(.eps,none)
 | .bar _ rest=>(.eps,some (zBJ rest.both))
 | .leaf t r rest=>(.cat (part r (fA t)) rest.both.1,rest.both.2)
 | .grp t inner _ r rest=>(.cat (part r (wH t (zBJ inner.both))) rest.both.1,rest.both.2)
def Fs.re(f:Fs):Re:=zBJ f.both
def Fs.sq:Fs->Fs
 | .nil=>.nil
 | .bar _ _=>.nil
 | .leaf t r rest=>.leaf t r rest.sq
 | .grp t inner c r rest=>.grp t inner c r rest.sq
def Fs.rs:Fs->Option Fs
 | .nil=>none
 | .bar _ rest=>some rest
 | .leaf _ _ rest=>rest.rs
 | .grp _ _ _ _ rest=>rest.rs
theorem Fs.zJX:∀f:Fs,f.both.2=f.rs.map Fs.re
 | .nil=>rfl
 | .bar _ rest=>rfl
 | .leaf _ _ rest=>by simp only[Fs.both,Fs.rs];exact Fs.zJX rest
 | .grp _ _ _ _ rest=>by simp only[Fs.both,Fs.rs];exact Fs.zJX rest
theorem Fs.zFq:∀f:Fs,f.rs=none->f.sq=f
 | .nil,_=>rfl
 | .bar _ rest,h=>by simp[Fs.rs]at h
 | .leaf _ _ rest,h=>by simp only[Fs.sq];rw[Fs.zFq rest h]
 | .grp _ _ _ _ rest,h=>by simp only[Fs.sq];rw[Fs.zFq rest h]
theorem Fs.zDA:∀(f g:Fs),f.wf->f.rs=some g->g.wf/\∃t:zTD,t.kind=5/\f.kL=f.sq.kL++t::g.kL
 | .nil,g,_,h=>by simp[Fs.rs]at h
 | .bar t rest,g,hw,h=>by simp[Fs.rs]at h;subst h;exact⟨hw.2,t,hw.1,rfl⟩
 | .leaf t r rest,g,hw,h=>by
  obtain⟨a,u,k,e⟩:=Fs.zDA rest g hw.2.2 h;exact⟨a,u,k,by simp only[Fs.kL,Fs.sq,e];simp⟩
 | .grp t inner c r rest,g,hw,h=>by
  obtain⟨a,u,k,e⟩:=Fs.zDA rest g hw.2.2.2.2 h;exact⟨a,u,k,by simp only[Fs.kL,Fs.sq,e];simp⟩
theorem drop_cons{l:List zTD}{a:Nat}{t:zTD}{s:List zTD}(h:l.drop a=t::s):l.getD a jZ=t/\l.drop (a+1)=s/\a<l.length:=by
 have hl:a<l.length:=by
  rcases Nat.lt_or_ge a l.length with h1 | h1
  ·exact h1
  ·rw[List.drop_eq_nil_of_le h1]at h;cases h
 rw[zBB l a hl]at h;simp only[List.cons.injEq]at h;exact⟨h.1,h.2,hl⟩
theorem zFr{l:List zTD}{a:Nat}{x s:List zTD}(h:l.drop a=x++s):l.drop (a+x.length)=s:=by
 rw[Nat.add_comm,<-List.drop_drop];have:∀n,List.drop n (l.drop a)=List.drop n (x++s):=λn=>by rw[h]
 rw[List.drop_drop,Nat.add_comm,<-List.drop_drop,h,List.drop_left]
theorem zGJ{r:Option zTD}(h:zJW r):∀(n:Int) (rest:List zTD) (j:Nat),1<=n->jB (r.toList++rest) n j=jB rest n (j+r.toList.length):=by
 intro n rest j hn;cases r with
 | none=>rfl
 | some q =>
  have:=h q rfl;have hd:jW q=0:=by unfold jW;rw[if_neg (by omega),if_neg (by omega)]
  show jB (q::rest) n j=_;rw[jB,hd,if_neg (by omega),Int.add_zero];rfl
theorem wI:∀(f:Fs),f.wf->∀(n:Int) (rest:List zTD) (j:Nat),1<=n->jB (f.kL++rest) n j=jB rest n (j+f.kL.length)
 | .nil,_,n,rest,j,hn=>rfl
 | .bar t r,hw,n,rest,j,hn=>by
  have hd:jW t=0:=by have:=hw.1;unfold jW;rw[if_neg (by omega),if_neg (by omega)]
  show jB (t::(r.kL++rest)) n j=_;rw[jB,hd,if_neg (by omega),Int.add_zero,wI r hw.2 n rest (j+1) hn];simp only[Fs.kL,List.length_cons];rw[show j+1+r.kL.length=j+(r.kL.length+1) by omega]
 | .leaf t r s,hw,n,rest,j,hn=>by
  have hd:jW t=0:=by have:=hw.1;unfold wY at this;unfold jW;rw[if_neg (by omega),if_neg (by omega)]
  show jB (t::((r.toList++s.kL)++rest)) n j=_;rw[jB,hd,if_neg (by omega),Int.add_zero,List.append_assoc,zGJ hw.2.1 _ _ _ hn,wI s hw.2.2 n rest _ hn];simp only[Fs.kL,List.length_cons,lM];congr 1;omega
 | .grp t i c r s,hw,n,rest,j,hn=>by
  have hd:jW t=1:=by have:=hw.1;unfold jW;rw[if_pos (by omega)]
  have hc:jW c=-1:=by have:=hw.2.1;unfold jW;rw[if_neg (by omega),if_pos (by omega)]
  have e:(Fs.grp t i c r s).kL++rest=t::(i.kL++(c::(r.toList++(s.kL++rest)))):=by simp[Fs.kL]
  rw[e,jB,hd,if_neg (by omega),wI i hw.2.2.1 (n+1) _ _ (by omega),jB,hc,if_neg (by omega)];rw[show n+1+-1=n by omega,zGJ hw.2.2.2.1 _ _ _ hn,wI s hw.2.2.2.2 n rest _ hn];simp only[Fs.kL,List.length_cons,lM];congr 1;omega
theorem zDB{l:List zTD}{i:Nat}{t c:zTD}{inner:Fs}{tl:List zTD}(h:l.drop i=t::(inner.kL++c::tl))(ht:t.kind=6)(hc:c.kind=7)(hw:inner.wf):jH l i=i+inner.kL.length+1:=by
 have hd:jW t=1:=by unfold jW;rw[if_pos (by omega)]
 have hd2:jW c=-1:=by unfold jW;rw[if_neg (by omega),if_pos (by omega)]
 unfold jH;rw[h,jB,hd,if_neg (by omega),wI inner hw _ _ _ (by omega),jB,hd2,if_pos (by omega)];omega
theorem zFs{r:Option zTD}:r.toList.length=0/\r=none\/∃q,r=some q/\r.toList=[q]:=by
 cases r with
 | none=>exact .inl ⟨rfl,rfl⟩
 | some q=>exact .inr ⟨q,rfl,rfl⟩
theorem zBK:∀(f:Fs),f.wf->∀(l:List zTD) (i:Nat) (post:List zTD),l.drop i=f.kL++post->bar l i (i+f.kL.length)=i+f.sq.kL.length
 | .nil,_,l,i,post,h=>by rw[dR,if_pos (by simp[Fs.kL])];rfl
 | .bar t r,hw,l,i,post,h=>by
  have h1:=drop_cons (t:=t) (s:=r.kL++post) h;rw[dR,if_neg (by simp[Fs.kL]),if_pos (by unfold yF;rw[h1.1];exact hw.1)];rfl
 | .leaf t r s,hw,l,i,post,h=>by
  have h1:=drop_cons (t:=t) (s:=(r.toList++s.kL)++post) h;have hk:=hw.1;unfold wY at hk;have hl:(Fs.leaf t r s).kL.length=1+r.toList.length+s.kL.length:=by simp[Fs.kL];omega
  have hq:(Fs.leaf t r s).sq.kL.length=1+r.toList.length+s.sq.kL.length:=by simp[Fs.kL,Fs.sq];omega
  rw[hl,hq];rw[dR,if_neg (by omega),if_neg (by unfold yF;rw[h1.1];omega),if_neg (by unfold yF;rw[h1.1];omega)];have h2:=h1.2.1;rw[List.append_assoc]at h2;rcases zFs (r:=r)with ⟨e0,e⟩ | ⟨q,e,e1⟩
  ·subst e;have:=zBK s hw.2.2 l (i+1) post h2;simp only[Option.toList]at *;simpa[Nat.add_assoc,Nat.add_comm,Nat.add_left_comm]using this
  ·subst e;have h3:=drop_cons (t:=q) (s:=s.kL++post) h2;have hq8:=hw.2.1 q rfl;simp only[Option.toList,List.length_cons,List.length_nil];rw[dR,if_neg (by omega),if_neg (by unfold yF;rw[h3.1];omega),if_neg (by unfold yF;rw[h3.1];omega)];have:=zBK s hw.2.2 l (i+1+1) post h3.2.1;simpa[Nat.add_assoc,Nat.add_comm,Nat.add_left_comm]using this
 | .grp t inner c r s,hw,l,i,post,h=>by
  have h0:l.drop i=t::(inner.kL++c::(r.toList++(s.kL++post))):=by rw[h];simp[Fs.kL]
  have h1:=drop_cons h0;have hk:=hw.1;have hl:(Fs.grp t inner c r s).kL.length=2+inner.kL.length+r.toList.length+s.kL.length:=by simp[Fs.kL];omega
  have hq:(Fs.grp t inner c r s).sq.kL.length=2+inner.kL.length+r.toList.length+s.sq.kL.length:=by simp[Fs.kL,Fs.sq];omega
  rw[hl,hq,dR,if_neg (by omega),if_neg (by unfold yF;rw[h1.1];omega),if_pos (by unfold yF;rw[h1.1];omega)];rw[zDB h0 hk hw.2.1 hw.2.2.1];have h2:=zFr h1.2.1;have h3:=(drop_cons h2).2.1;rcases zFs (r:=r)with ⟨e0,e⟩ | ⟨q,e,e1⟩
  ·subst e;have:=zBK s hw.2.2.2.2 l (i+1+inner.kL.length+1) post h3;simp only[Option.toList,List.length_nil];rw[show i+inner.kL.length+1+1=i+1+inner.kL.length+1 by omega,show i+(2+inner.kL.length+0+s.kL.length)=i+1+inner.kL.length+1+s.kL.length by omega,this];omega
  ·subst e;have h4:=drop_cons (t:=q) (s:=s.kL++post) h3;have hq8:=hw.2.2.2.1 q rfl;simp only[Option.toList,List.length_cons,List.length_nil];rw[show i+inner.kL.length+1+1=i+1+inner.kL.length+1 by omega];rw[dR,if_neg (by omega),if_neg (by unfold yF;rw[h4.1];omega),if_neg (by unfold yF;rw[h4.1];omega)];have:=zBK s hw.2.2.2.2 l (i+1+inner.kL.length+1+1) post h4.2.1;rw[show i+(2+inner.kL.length+(0+1)+s.kL.length)=i+1+inner.kL.length+1+1+s.kL.length by omega,this];omega
theorem zPf:∀(f:Fs),f.wf->∀(t:zTD) (s:List zTD),f.sq.kL=t::s->t.kind≠8
 | .nil,_,t,s,h=>by simp[Fs.sq,Fs.kL]at h
 | .bar _ _,_,t,s,h=>by simp[Fs.sq,Fs.kL]at h
 | .leaf u r rest,hw,t,s,h=>by
  simp only[Fs.sq,Fs.kL,List.cons.injEq]at h;have:=hw.1;unfold wY at this;rw[<-h.1];omega
 | .grp u i c r rest,hw,t,s,h=>by
  simp only[Fs.sq,Fs.kL,List.cons.injEq]at h;have:=hw.1;rw[<-h.1];omega
theorem zPg(f:Fs)(hw:f.wf):∃s,f.kL=f.sq.kL++s:=by
 cases h:f.rs with
 | none=>exact⟨[],by rw[Fs.zFq f h];simp⟩
 | some g=>obtain⟨_,t,_,e⟩:=Fs.zDA f g hw h;exact⟨_,e⟩
theorem zEL{l:List zTD}{f:Fs}(hw:f.wf){i:Nat}{post:List zTD}(h:l.drop i=f.kL++post)(hl:0<f.sq.kL.length):yF l i≠8:=by
 obtain⟨s,e⟩:=zPg f hw;cases hq:f.sq.kL with
 | nil=>rw[hq]at hl;simp at hl
 | cons t u =>
  rw[e,hq]at h;have:=drop_cons (t:=t) (s:=(u++s)++post) (by rw[h];simp);unfold yF;rw[this.1];exact zPf f hw t u hq
theorem zGK{l:List zTD}{i j f:Nat}{t:zTD}(h:l.getD i jZ=t)(hk:wY t):tree l (f+1) 2 i j=fA t:=by
 simp only[tree];unfold yF fA;rw[h];unfold wY at hk;by_cases h1:t.kind=1
 ·rw[if_pos h1,if_pos h1]
 rw[if_neg h1,if_neg h1];by_cases h2:t.kind=2
 ·rw[if_pos h2,if_pos h2]
 rw[if_neg h2,if_neg h2];by_cases h3:t.kind=3
 ·rw[if_pos h3,if_pos h3]
 rw[if_neg h3,if_neg h3,if_pos (by omega)]
theorem zIU{l:List zTD}{i j f:Nat}{t:zTD}(h:l.getD i jZ=t)(hk:t.kind=6):tree l (f+1) 2 i j=wH t (tree l f 0 (i+1) (j-1)):=by
 simp only[tree];unfold yF wH;rw[h];rw[if_neg (by omega),if_neg (by omega),if_neg (by omega),if_neg (by omega)]
theorem zIV{l:List zTD}{i j f:Nat}:tree l (f+1) 3 i j=zF7 (tree l f 2 i j) (l.getD j jZ):=by simp only[tree]
def zQw(N:Nat):Prop:=∀g:Fs,g.wf->g.kL.length<N->∀(l:List zTD) (a:Nat) (post:List zTD) (f:Nat),l.drop a=g.kL++post->2*g.kL.length+4<=f->tree l f 0 a (a+g.kL.length)=g.re
theorem zBL(N:Nat)(hA:zQw N)(l:List zTD)(f':Nat)(hf:2*N+2<=f'):∀(f:Fs),f.wf->f.kL.length<=N->∀(i:Nat) (post:List zTD) (g:Nat),l.drop i=f.kL++post->f.sq.kL.length<=g ->
  zKM (λi j=>tree l f' 2 i j) (λi j=>tree l f' 3 i j) l (i+f.sq.kL.length) g i=f.both.1
 | .nil,_,_,i,post,g,h,hg=>by
  cases g with
  | zero=>rfl
  | succ g=>simp only[zKM];rw[if_pos (by simp[Fs.sq,Fs.kL])];rfl
 | .bar _ _,_,_,i,post,g,h,hg=>by
  cases g with
  | zero=>rfl
  | succ g=>simp only[zKM];rw[if_pos (by simp[Fs.sq,Fs.kL])];rfl
 | .leaf t r s,hw,hN,i,post,g,h,hg=>by
  have h1:=drop_cons (t:=t) (s:=(r.toList++s.kL)++post) h;have h2:=h1.2.1;rw[List.append_assoc]at h2;have hk:=hw.1;have hk':=hk;unfold wY at hk';have hq:(Fs.leaf t r s).sq.kL.length=1+r.toList.length+s.sq.kL.length:=by simp[Fs.kL,Fs.sq];omega
  have hNs:s.kL.length<=N:=by simp[Fs.kL]at hN;omega
  have haf:after l i=i+1:=by unfold after yF;rw[h1.1,if_neg (by omega)]
  rw[hq]at hg |-;obtain⟨g,rfl⟩:∃g',g=g'+1:=⟨g-1,by omega⟩
  obtain⟨f1,rfl⟩:∃f1,f'=f1+1+1:=⟨f'-2,by omega⟩
  simp only[zKM];rw[if_neg (by omega),haf];rcases zFs (r:=r)with ⟨e0,e⟩ | ⟨q,e,e1⟩
  ·subst e;have h3:l.drop (i+1)=s.kL++post:=h2
   rw[if_neg (by
    rintro⟨zTI,h8⟩;exact zEL hw.2.2 h3 (by simp at zTI;omega) h8)]
   have:=zBL N hA l (f1+1+1) hf s hw.2.2 hNs (i+1) post g h3 (by simp at hg;omega);rw[show i+(1+(Option.none:Option zTD).toList.length+s.sq.kL.length)=i+1+s.sq.kL.length by simp;omega,this,zGK h1.1 hk];rfl
  ·subst e;have h3:=drop_cons (t:=q) (s:=s.kL++post) h2;have hq8:=hw.2.1 q rfl;simp only[Option.toList,List.length_cons,List.length_nil]at hg;rw[if_pos ⟨by simp;omega,by unfold yF;rw[h3.1];exact hq8⟩];have:=zBL N hA l (f1+1+1) hf s hw.2.2 hNs (i+1+1) post g h3.2.1 (by omega);rw[show i+(1+(some q).toList.length+s.sq.kL.length)=i+1+1+s.sq.kL.length by simp;omega,this,zIV,zGK h1.1 hk,h3.1];rfl
 | .grp t inner c r s,hw,hN,i,post,g,h,hg=>by
  have h0:l.drop i=t::(inner.kL++c::(r.toList++(s.kL++post))):=by rw[h];simp[Fs.kL]
  have h1:=drop_cons h0;have hk:=hw.1;have hcl:=zDB h0 hk hw.2.1 hw.2.2.1;have hq:(Fs.grp t inner c r s).sq.kL.length=2+inner.kL.length+r.toList.length+s.sq.kL.length:=by simp[Fs.kL,Fs.sq];omega
  have hl:(Fs.grp t inner c r s).kL.length=2+inner.kL.length+r.toList.length+s.kL.length:=by simp[Fs.kL];omega
  have haf:after l i=i+1+inner.kL.length+1:=by unfold after yF;rw[h1.1,if_pos hk,hcl];omega
  rw[hq]at hg |-;rw[hl]at hN;obtain⟨g,rfl⟩:∃g',g=g'+1:=⟨g-1,by omega⟩
  obtain⟨f1,rfl⟩:∃f1,f'=f1+1+1:=⟨f'-2,by omega⟩
  have h2:=zFr h1.2.1;have h3:=(drop_cons h2).2.1;simp only[zKM];rw[if_neg (by omega),haf];rcases zFs (r:=r)with ⟨e0,e⟩ | ⟨q,e,e1⟩
  ·subst e;have h4:l.drop (i+1+inner.kL.length+1)=s.kL++post:=h3
   rw[if_neg (by
    rintro⟨zTI,h8⟩;exact zEL hw.2.2.2.2 h4 (by simp at zTI;omega) h8)]
   have:=zBL N hA l (f1+1+1) hf s hw.2.2.2.2 (by omega) (i+1+inner.kL.length+1) post g h4 (by simp at hg;omega)
   rw[show i+(2+inner.kL.length+(Option.none:Option zTD).toList.length+s.sq.kL.length)=i+1+inner.kL.length+1+s.sq.kL.length by simp;omega,this,zIU h1.1 hk,
    show i+1+inner.kL.length+1-1=i+1+inner.kL.length by omega,hA inner hw.2.2.1 (by omega) l (i+1) _ (f1+1) h1.2.1 (by omega)]
   rfl
  ·subst e;have h4:=drop_cons (t:=q) (s:=s.kL++post) h3;have hq8:=hw.2.2.2.1 q rfl;simp only[Option.toList,List.length_cons,List.length_nil]at hg hN;rw[if_pos ⟨by simp;omega,by unfold yF;rw[h4.1];exact hq8⟩];have:=zBL N hA l (f1+1+1) hf s hw.2.2.2.2 (by omega) (i+1+inner.kL.length+1+1) post g h4.2.1 (by omega)
   rw[show i+(2+inner.kL.length+(some q).toList.length+s.sq.kL.length)=i+1+inner.kL.length+1+1+s.sq.kL.length by simp;omega,this,zIV,zIU h1.1 hk,h4.1,
    show i+1+inner.kL.length+1-1=i+1+inner.kL.length by omega,hA inner hw.2.2.1 (by omega) l (i+1) _ f1 h1.2.1 (by omega)]
   rfl
theorem zLt(l:List zTD)(f a b:Nat):tree l (f+1) 0 a b=if bar l a b=b then tree l f 1 a (bar l a b)else .alt (tree l f 1 a (bar l a b)) (tree l f 0 (bar l a b+1) b):=by simp only[tree]
theorem zNE(l:List zTD)(f a b:Nat):tree l (f+1) 1 a b=zKM (λi j=>tree l f 2 i j) (λi j=>tree l f 3 i j) l b (b-a) a:=by simp only[tree]
theorem zIW:∀N,zQw N
 | 0=>λg _ h=>by omega
 | N+1=>by
  intro f hw hN l a post fu h hf;have ih:=zIW N;obtain⟨f',rfl⟩:∃f',fu=f'+1+1:=⟨fu-2,by omega⟩
  have hb:=zBK f hw l a post h;rw[zLt,hb,zNE]
  have hlen:f.kL.length=f.sq.kL.length+match f.rs with | none=>0 | some g=>g.kL.length+1:=by
   cases hr:f.rs with
   | none=>rw[Fs.zFq f hr];rfl
   | some g=>obtain⟨_,t,_,e⟩:=Fs.zDA f g hw hr;rw[e];simp
  have hs:=zBL f.kL.length (λg gw gl=>ih g gw (by omega)) l f' (by omega) f hw (lG _) a post (a+f.sq.kL.length-a) h (by omega);have e2:=f.zJX;unfold Fs.re;cases hr:f.rs with
  | none =>
   rw[hr]at hlen e2;rw[if_pos (by simp at hlen;omega),hs];generalize hB:f.both=B at *;obtain⟨b1,b2⟩:=B;simp at e2;subst e2;rfl
  | some g =>
   rw[hr]at hlen e2;obtain⟨gw,t,_,e⟩:=Fs.zDA f g hw hr;simp only at hlen;rw[if_neg (by omega),hs]
   have h5:l.drop (a+f.sq.kL.length+1)=g.kL++post:=by
    rw[e,List.append_assoc]at h;exact(drop_cons (zFr h)).2.1
   have hr2:=ih g gw (by omega) l (a+f.sq.kL.length+1) post (f'+1) h5 (by omega);rw[show a+f.sq.kL.length+1+g.kL.length=a+f.kL.length by omega]at hr2;rw[hr2];generalize hB:f.both=B at *;obtain⟨b1,b2⟩:=B;simp at e2;subst e2;rfl
theorem zDC(f:Fs)(hw:f.wf)(h:f.kL.length<=64):zCC f.kL=f.re:=by
 have:=zIW (f.kL.length+1) f hw (by omega) f.kL 0 [] 283 (by simp) (by omega);rw[Nat.zero_add]at this;exact this
def zCD(t:zTD):Prop:=(1<=t.kind/\t.kind<=8)/\t.set.length<=256/\(t.kind=2->1<=t.n/\t.n<=9)/\(t.kind=6->0<=t.zTF/\t.zTF<=4)
 /\ (t.kind=8->0<=t.n/\t.n<=20/\-1<=t.m/\t.m<=20/\0<=t.zTF/\t.zTF<=2)
theorem zH2(p:ByteArray)(a b:Int)(no:Bool):(all p a b no).length<=256:=by
 unfold all nE;rw[List.length_map];refine Nat.le_trans (List.length_filter_le _ _) ?_;simp
theorem zH3(p:ByteArray)(i:Int)(h:(jJ p i).2=0):zCD (jJ p i).1:=by
 unfold jJ at h |-;split
 ·simp[zCD]
 split
 ·simp[zCD]
 split
 ·simp[zCD]
 split
 ·simp[zCD]
 split
 ·unfold vD;split
  ·simp[zCD]
  split
  ·simp[zCD,zH2]
  split
  ·simp only[zCD];simp;omega
  ·simp[zCD]
 split
 ·rename_i a b c d e f
  rw[if_neg a,if_neg b,if_neg c,if_neg d,if_neg e,if_pos f]at h;unfold qU at h |-;split
  ·rename_i g;rw[if_pos g]at h;simp at h
  ·simp[zCD,zH2]
 split
 ·unfold kW
  repeat' split
  all_goals simp[zCD]
 split
 ·have m1:=zC4 p (i+1);have m2:=zC4 p (count p i).2.2.1;have c1:=zIO p i;unfold jF;split
  ·simp only[zCD];simp;omega
  split
  ·simp only[zCD];simp;omega
  split
  ·split
   ·simp only[zCD];simp;omega
   ·simp[zCD]
  ·simp only[zCD];simp;omega
 split
 ·simp[zCD,zH2]
 ·simp[zCD]
def Valid(l:List zTD):Prop:=∀k,k<l.length->may (l.take k) (l.getD k jZ)=0/\zCD (l.getD k jZ)/\(jO (l.getD k jZ)=true->(l.getD k jZ).n=zZ (l.take k)+1)
theorem wZ(l:List zTD)(t:zTD):(yQ l t).kind=t.kind/\(yQ l t).zTF=t.zTF/\(yQ l t).set=t.set/\(yQ l t).m=t.m/\(jO t=false->yQ l t=t)/\(jO t=true->(yQ l t).n=zZ l+1):=by
 unfold yQ;split <;> simp_all
theorem zJY(l:List zTD)(t:zTD):may l (yQ l t)=may l t:=by
 obtain⟨h1,h2,_,_,h5,_⟩:=wZ l t;by_cases hc:jO t=true
 ·have hk:t.kind=6:=by simp[jO]at hc;exact hc.1
  unfold may;rw[h1,h2];rw[if_neg (by omega),if_neg (by omega)];rw[if_neg (show ¬t.kind=2 by omega)]
 ·rw[h5 (by simpa using hc)]
theorem zCd{l:List zTD}{t:zTD}(h:Valid l)(hg:zCD t)(hm:may l t=0):Valid (l++[yQ l t]):=by
 obtain⟨h1,h2,h3,h4,h5,h6⟩:=wZ l t;intro k hk;rw[lM]at hk;by_cases zTI:k<l.length
 ·rw[List.take_append_of_le_length (by omega),lH,List.getElem?_append_left zTI,<-lH];exact h k zTI
 ·have e:k=l.length:=by simp at hk;omega
  subst e;rw[List.take_left',lH,List.getElem?_append_right (lG _)]
  ·simp only[Nat.sub_self,List.getElem?_cons_zero,Option.getD_some];refine⟨by rw[zJY];exact hm,?_,λhc=>?_⟩
   ·by_cases hc:jO t=true
    ·have hk:t.kind=6:=by simp[jO]at hc;exact hc.1
     unfold zCD at *;rw[h1,h2,h3,h4];omega
    ·rw[h5 (by simpa using hc)];exact hg
   ·refine h6 ?_;unfold jO at *;rw[h1,h2]at hc;exact hc
  ·rfl
theorem zGL(p:ByteArray):∀(f:Nat) (l:List zTD) (i:Int),0<=i->i<=p.size->(p.size:Int)-i<f->Valid l->(yL p l i).2.1=0->Valid (yL p l i).1:=by
 intro f;induction f with
 | zero=>intro l i h0 h1 h2;omega
 | succ f ih =>
  intro l i h0 h1 h2 hl he;rw[pF p l i h0 h1]at he |-;split
  ·exact hl
  ·rename_i a
   rw[if_neg a]at he;split
   ·rename_i b;rw[if_pos b]at he;exact absurd he b
   ·rename_i b
    rw[if_neg b]at he;split
    ·rename_i c;rw[if_pos c]at he;exact absurd he c
    ·rename_i c
     rw[if_neg c]at he;have ht:=wP p i h0 (by omega) (by omega);exact ih _ _ (by omega) (by omega) (by omega) (zCd hl (zH3 p i (by omega)) (by omega)) he
theorem zAz(p:ByteArray)(h:(zY p).2.1=0):Valid (zY p).1/\¬0<kJ (zY p).1:=by
 unfold zY at h |-;split
 ·rename_i a;rw[if_pos a]at h;simp at h
 ·rename_i a
  rw[if_neg a]at h;split
  ·rename_i b;rw[if_pos b]at h;exact absurd h b
  ·rename_i b
   rw[if_neg b]at h;split
   ·rename_i c;rw[if_pos c]at h;simp at h
   ·rename_i c
    refine⟨?_,c⟩;rw[xZ p (by omega)];exact zGL p (p.size+1) [] 0 (by omega) (by omega) (by omega) (λk hk=>by simp at hk) (by rw[<-xZ p (by omega)];omega)
theorem zAA{l:List zTD}(h:Valid l):∀k,k<=l.length->0<=kJ (l.take k)/\kJ (l.take k)<=10
 | 0,_=>by simp[kJ]
 | k+1,hk=>by
  have ih:=zAA h k (by omega);have hm:=(h k (by omega)).1;rw[zDg l k (by omega)];unfold may at hm;unfold jW;by_cases h6:(l.getD k jZ).kind=6
  ·rw[if_neg (by omega),if_neg (by omega),if_pos h6]at hm;rw[if_pos h6];split at hm <;> omega
  ·rw[if_neg h6];by_cases h7:(l.getD k jZ).kind=7
   ·rw[if_neg (by omega),if_neg (by omega),if_neg h6,if_pos h7]at hm;rw[if_pos h7];split at hm <;> omega
   ·rw[if_neg h7];omega
theorem zH4(l:List zTD)(k:Nat):kJ (l.take k)+kJ (l.drop k)=kJ l:=by
 rw[<-vM,List.take_append_drop]
def zEo(t:zTD):Bool:=decide (t.kind=1\/t.kind=2\/t.kind=3\/t.kind=4\/t.kind=7)
def zCe:Bool->List zTD->Prop
 | _,[]=>True
 | b,t::s=>(t.kind=8->b=true)/\zCe (zEo t) s
theorem zGM{l:List zTD}(h:Valid l):∀(n k:Nat),k+n=l.length->zCe (xD (l.take k)) (l.drop k)
 | 0,k,e=>by rw[List.drop_eq_nil_of_le (by omega)];trivial
 | n+1,k,e=>by
  have hm:=(h k (by omega)).1;rw[zBB l k (by omega)];refine⟨λh8=>?_,?_⟩
  ·unfold may at hm;rw[if_neg (by omega),if_pos h8]at hm;cases hx:xD (l.take k)with
   | true=>rfl
   | false=>rw[hx]at hm;simp at hm
  ·have:=zGM h n (k+1) (by omega);rw[zDf l k (by omega)]at this
   have e2:xD (l.take k++[l.getD k jZ])=zEo (l.getD k jZ):=by
    unfold xD zEo;simp
   rw[e2]at this;exact this
theorem zH5{b:Bool}:∀{s:List zTD},zCe b s->(∀t u,s=t::u->t.kind≠8)->zCe false s
 | [],_,_=>trivial
 | t::u,h,h2=>⟨λh8=>absurd h8 (h2 t u rfl),h.2⟩
theorem fP:∀f:Fs,f.wf->kJ f.kL=0
 | .nil,_=>rfl
 | .bar t r,h=>by
  have hd:jW t=0:=by have:=h.1;unfold jW;rw[if_neg (by omega),if_neg (by omega)]
  simp only[Fs.kL,kJ];rw[hd,fP r h.2];rfl
 | .leaf t r s,h=>by
  have hd:jW t=0:=by have:=h.1;unfold wY at this;unfold jW;rw[if_neg (by omega),if_neg (by omega)]
  have hr:kJ r.toList=0:=by
   cases r with
   | none=>rfl
   | some q=>have:=h.2.1 q rfl;simp only[Option.toList,kJ];unfold jW;rw[if_neg (by omega),if_neg (by omega)];rfl
  simp only[Fs.kL,kJ,vM];rw[hd,hr,fP s h.2.2];rfl
 | .grp t i c r s,h=>by
  have hd:jW t=1:=by have:=h.1;unfold jW;rw[if_pos (by omega)]
  have hc:jW c=-1:=by have:=h.2.1;unfold jW;rw[if_neg (by omega),if_pos (by omega)]
  have hr:kJ r.toList=0:=by
   cases r with
   | none=>rfl
   | some q=>have:=h.2.2.2.1 q rfl;simp only[Option.toList,kJ];unfold jW;rw[if_neg (by omega),if_neg (by omega)];rfl
  simp only[Fs.kL,kJ,vM];rw[hd,hc,hr,fP i h.2.2.1,fP s h.2.2.2.2];rfl
theorem parse:∀(N:Nat) (s:List zTD),s.length<=N->(∀t∈s,1<=t.kind/\t.kind<=8)->zCe false s->(∀k,kJ (s.drop k)<=0) ->
  ∃(f:Fs) (rest:List zTD),f.wf/\s=f.kL++rest/\(rest=[]\/∃c u,rest=c::u/\c.kind=7)
 | N,[],_,_,_,_=>⟨.nil,[],trivial,rfl,.inl rfl⟩
 | 0,t::s,h,_,_,_=>by simp at h
 | N+1,t::s,hN,hk,hr,ho=>by
  have hks:∀u∈s,1<=u.kind/\u.kind<=8:=λu hu=>hk u (List.mem_cons_of_mem _ hu)
  have hos:∀k,kJ (s.drop k)<=0:=λk=>ho (k+1)
  have ht:=hk t (List.mem_cons_self ..);have hNs:s.length<=N:=by simpa using hN
  have zEM:∀v:List zTD,v.length<=N->(∀u∈v,1<=u.kind/\u.kind<=8)->zCe true v->(∀k,kJ (v.drop k)<=0) ->
    ∃(r:Option zTD) (f:Fs) (rest:List zTD),zJW r/\f.wf/\v=r.toList++(f.kL++rest)/\(rest=[]\/∃c u,rest=c::u/\c.kind=7):=by
   intro v hv hkv hrv hov
   match v with
   | []=>exact⟨none,.nil,[],λq e=>(by cases e),trivial,rfl,.inl rfl⟩
   | q::w =>
    by_cases h8:q.kind=8
    ·have hrw:zCe false w:=by
      have:=hrv.2;have e:zEo q=false:=by unfold zEo;simp;omega
      rwa [e]at this
     obtain⟨f,rest,hw,e,hrest⟩:=parse N w (by simp at hv;omega) (λu hu=>hkv u (List.mem_cons_of_mem _ hu)) hrw (λk=>hov (k+1));exact⟨some q,f,rest,λq' e'=>(by cases e';exact h8),hw,by rw[e];rfl,hrest⟩
    ·obtain⟨f,rest,hw,e,hrest⟩:=parse N (q::w) hv hkv (zH5 hrv (λt' u' e'=>by cases e';exact h8)) hov;exact⟨none,f,rest,λq e=>(by cases e),hw,e,hrest⟩
  by_cases h7:t.kind=7
  ·exact⟨.nil,t::s,trivial,rfl,.inr ⟨t,s,rfl,h7⟩⟩
  by_cases h5:t.kind=5
  ·have hrs:zCe false s:=by
    have:=hr.2;have e:zEo t=false:=by unfold zEo;simp;omega
    rwa [e]at this
   obtain⟨f,rest,hw,e,hrest⟩:=parse N s hNs hks hrs hos;exact⟨.bar t f,rest,⟨h5,hw⟩,by rw[e];rfl,hrest⟩
  by_cases h6:t.kind=6
  ·have hrs:zCe false s:=by
    have:=hr.2;have e:zEo t=false:=by unfold zEo;simp;omega
    rwa [e]at this
   obtain⟨i,rest,hw,e,hrest⟩:=parse N s hNs hks hrs hos;have hd:jW t=1:=by unfold jW;rw[if_pos (by omega)]
   rcases hrest with rfl | ⟨c,u,rfl,hc⟩
   ·exfalso;have h0:=ho 0;simp only[List.drop_zero,kJ]at h0;rw[hd,e,List.append_nil,fP i hw]at h0;omega
   ·have hd1:∀k,s.drop (i.kL.length+k)=(c::u).drop k:=λk=>by rw[e,<-List.drop_drop,List.drop_left]
    have hu:u=s.drop (i.kL.length+1):=by rw[hd1 1];rfl
    have hru:zCe true u:=by
     have key:∀(x:List zTD) (b:Bool),zCe b (x++c::u)->zCe true u:=by
      intro x;induction x with
      | nil =>
          intro b hb;have:=hb.2;have e7:zEo c=true:=by unfold zEo;simp;omega
          rwa [e7]at this
      | cons y ys ih=>intro b hb;exact ih _ hb.2
     have:=hrs;rw[e]at this;exact key _ _ this
    have hul:u.length+1+i.kL.length<=N:=by
     have:=hNs;rw[e]at this;simp at this;omega
    obtain⟨r,f,rest,hr1,hf,hu1,hrest⟩:=zEM u (by omega) (λx hx=>hks x (by rw[e];simp[hx])) hru (λk=>by rw[hu,List.drop_drop];exact hos _);exact⟨.grp t i c r f,rest,⟨h6,hc,hw,hr1,hf⟩,by rw[e,hu1];simp[Fs.kL],hrest⟩
  have h8:t.kind≠8:=λh8=>by have:=hr.1 h8;simp at this
  have hrs:zCe true s:=by
   have:=hr.2;have e:zEo t=true:=by unfold zEo;simp;omega
   rwa [e]at this
  obtain⟨r,f,rest,hr1,hf,hu1,hrest⟩:=zEM s hNs hks hrs hos;exact⟨.leaf t r f,rest,⟨by unfold wY;omega,hr1,hf⟩,by rw[hu1];simp[Fs.kL],hrest⟩
theorem zDD{l:List zTD}(h:Valid l)(ho:¬0<kJ l):∃f:Fs,f.wf/\l=f.kL:=by
 have hv:=zAA h;have h0:=hv l.length (lG _);rw[List.take_length]at h0;have hr:=zGM h l.length 0 (by omega);simp only[List.take_zero,List.drop_zero]at hr
 obtain⟨f,rest,hw,e,hrest⟩:=parse l.length l (lG _) (λt ht=>by
  obtain⟨k,hk,rfl⟩:=List.mem_iff_getElem.1 ht;have:=(h k hk).2.1;rw[lH,lK hk]at this;exact this.1) hr (λk=>by
  by_cases hk:k<=l.length
  ·have:=zH4 l k;have:=hv k hk;omega
  ·rw[List.drop_eq_nil_of_le (by omega)];simp[kJ])
 rcases hrest with rfl | ⟨c,u,rfl,hc⟩
 ·exact⟨f,hw,by rw[e,List.append_nil]⟩
 ·exfalso;have hlen:f.kL.length+1<=l.length:=by rw[e];simp
  have:=hv (f.kL.length+1) hlen;have ht:l.take (f.kL.length+1)=f.kL++[c]:=by rw[e];rw[List.take_append,List.take_of_length_le (by omega)];simp
  rw[ht,vM,fP f hw]at this;simp only[kJ]at this;have hd:jW c=-1:=by unfold jW;rw[if_neg (by omega),if_pos (by omega)]
  rw[hd]at this;omega
def Fs.dp:Fs->Nat
 | .nil=>0
 | .bar _ r=>r.dp
 | .leaf _ _ s=>s.dp
 | .grp _ i _ _ s=>max (i.dp+1) s.dp
theorem zLu:∀(f:Fs),f.wf->∀(n:Int),n<=10->(∀k,k<=f.kL.length->n+kJ (f.kL.take k)<=10)->n+f.dp<=10
 | .nil,_,n,hn,_=>by simp[Fs.dp];omega
 | .bar t r,h,n,hn,hk=>by
  have hd:jW t=0:=by have:=h.1;unfold jW;rw[if_neg (by omega),if_neg (by omega)]
  refine zLu r h.2 n hn (λk hkl=>?_);have:=hk (k+1) (by simp[Fs.kL];omega);simp only[Fs.kL,List.take_succ_cons,kJ,hd]at this;omega
 | .leaf t r s,h,n,hn,hk=>by
  have hd:jW t=0:=by have:=h.1;unfold wY at this;unfold jW;rw[if_neg (by omega),if_neg (by omega)]
  have hr:kJ r.toList=0:=by
   cases r with
   | none=>rfl
   | some q=>have:=h.2.1 q rfl;simp only[Option.toList,kJ];unfold jW;rw[if_neg (by omega),if_neg (by omega)];rfl
  refine zLu s h.2.2 n hn (λk hkl=>?_);have:=hk (r.toList.length+k+1) (by simp[Fs.kL];omega);simp only[Fs.kL,List.take_succ_cons,kJ,hd]at this;rw[List.take_append,List.take_of_length_le (by omega),vM,hr,show r.toList.length+k-r.toList.length=k by omega]at this;omega
 | .grp t i c r s,h,n,hn,hk=>by
  have hd:jW t=1:=by have:=h.1;unfold jW;rw[if_pos (by omega)]
  have hc:jW c=-1:=by have:=h.2.1;unfold jW;rw[if_neg (by omega),if_pos (by omega)]
  have hr:kJ r.toList=0:=by
   cases r with
   | none=>rfl
   | some q=>have:=h.2.2.2.1 q rfl;simp only[Option.toList,kJ];unfold jW;rw[if_neg (by omega),if_neg (by omega)];rfl
  have hi:=fP i h.2.2.1
  have h1:n+1+i.dp<=10:=by
   have h00:=hk 1 (by simp[Fs.kL]);simp only[Fs.kL,List.take_succ_cons,List.take_zero,kJ,hd]at h00;refine zLu i h.2.2.1 (n+1) (by omega) (λk hkl=>?_);have:=hk (k+1) (by simp[Fs.kL];omega);simp only[Fs.kL,List.take_succ_cons,kJ,hd]at this;rw[List.take_append_of_le_length hkl]at this;omega
  have h2:n+s.dp<=10:=by
   refine zLu s h.2.2.2.2 n hn (λk hkl=>?_);have:=hk (i.kL.length+(r.toList.length+k+1)+1) (by simp[Fs.kL];omega);simp only[Fs.kL,List.take_succ_cons,kJ,hd]at this
   rw[List.take_append,List.take_of_length_le (by omega),vM,hi,show i.kL.length+(r.toList.length+k+1)-i.kL.length=r.toList.length+k+1 by omega,List.take_succ_cons,kJ,hc,
    List.take_append,List.take_of_length_le (by omega),vM,hr,show r.toList.length+k-r.toList.length=k by omega]at this
   omega
  simp only[Fs.dp];omega
def Re.fine:Re->Prop
 | .eps=>True
 | .one s=>s.length<=256
 | .back k=>1<=k/\k<=9
 | .head=>True
 | .tail=>True
 | .cat a b=>a.fine/\b.fine
 | .alt a b=>a.fine/\b.fine
 | .cap k a=>(1<=k/\k<=9)/\a.fine
 | .sub s a=>(0<=s/\s<=2)/\a.fine
 | .opt _ a=>a.fine
 | .loop _ a=>a.fine
def Re.deep:Re->Nat
 | .eps=>0
 | .one _=>0
 | .back _=>0
 | .head=>0
 | .tail=>0
 | .cat a b=>max a.deep b.deep
 | .alt a b=>max a.deep b.deep
 | .cap _ a=>a.deep
 | .sub _ a=>a.deep
 | .opt _ a=>a.deep
 | .loop _ a=>a.deep+1
theorem zDE{x:Re}(h:x.fine):∀n,(jE x n).fine/\(jE x n).deep<=x.deep
 | 0=>⟨trivial,Nat.zero_le _⟩
 | n+1=>by have:=zDE h n;exact⟨⟨h,this.1⟩,by simp only[jE,Re.deep];omega⟩
theorem zGN{x:Re}(late:Bool)(h:x.fine):∀n,(wG x late n).fine/\(wG x late n).deep<=x.deep
 | 0=>⟨trivial,Nat.zero_le _⟩
 | n+1=>by have:=zGN late h n;exact⟨⟨h,this.1⟩,by simp only[wG,Re.deep];omega⟩
theorem zLv{x:Re}(h:x.fine)(r:zTD):(zF7 x r).fine/\(zF7 x r).deep<=x.deep+1:=by
 unfold zF7;dsimp only;have t:=zDE h r.n.toNat;have o:=zGN (decide (r.zTF=1)) h (r.m-r.n).toNat
 have c1:(if 0<r.n\/0<r.m then(if r.n<r.m then Re.cat (jE x r.n.toNat) (wG x (decide (r.zTF=1)) (r.m-r.n).toNat)else jE x r.n.toNat)else Re.eps).fine/\(if 0<r.n\/0<r.m then(if r.n<r.m then Re.cat (jE x r.n.toNat) (wG x (decide (r.zTF=1)) (r.m-r.n).toNat)else jE x r.n.toNat)else Re.eps).deep<=x.deep:=by
  split
  ·split
   ·exact⟨⟨t.1,o.1⟩,by simp only[Re.deep];omega⟩
   ·exact t
  ·exact⟨trivial,Nat.zero_le _⟩
 generalize (if 0<r.n\/0<r.m then(if r.n<r.m then Re.cat (jE x r.n.toNat) (wG x (decide (r.zTF=1)) (r.m-r.n).toNat)else jE x r.n.toNat)else Re.eps)=z at *
 have c2:(if r.m<0 then Re.cat z (.loop (decide (r.zTF=1)) x)else z).fine/\(if r.m<0 then Re.cat z (.loop (decide (r.zTF=1)) x)else z).deep<=x.deep+1:=by
  split
  ·exact⟨⟨c1.1,h⟩,by simp only[Re.deep];omega⟩
  ·exact⟨c1.1,by omega⟩
 generalize (if r.m<0 then Re.cat z (.loop (decide (r.zTF=1)) x)else z)=z2 at *;split
 ·exact⟨⟨by omega,c2.1⟩,c2.2⟩
 ·exact c2
theorem zGO{x:Re}(h:x.fine)(r:Option zTD):(part r x).fine/\(part r x).deep<=x.deep+1:=by
 cases r with
 | none=>exact⟨h,Nat.le_succ _⟩
 | some q=>exact zLv h q
def zQx(t:zTD):Prop:=t.set.length<=256/\(t.kind=2->1<=t.n/\t.n<=9)/\(t.kind=6->0<=t.zTF/\t.zTF<=4)/\(t.kind=6->t.zTF=4->1<=t.n/\t.n<=9)
theorem zBp(b:Re × Option Re)(h1:b.1.fine)(h2:∀a,b.2=some a->a.fine):(zBJ b).fine:=by
 obtain⟨x,y⟩:=b;cases y with
 | none=>exact h1
 | some a=>exact⟨h1,h2 a rfl⟩
theorem zBq(b:Re × Option Re)(n:Nat)(h1:b.1.deep<=n)(h2:∀a,b.2=some a->a.deep<=n):(zBJ b).deep<=n:=by
 obtain⟨x,y⟩:=b;cases y with
 | none=>exact h1
 | some a=>have:=h2 a rfl;simp only[zBJ,Re.deep]at *;omega
theorem zAB:∀(f:Fs),f.wf->(∀t∈f.kL,zQx t)->(f.both.1.fine/\∀a,f.both.2=some a->a.fine)/\(f.both.1.deep<=f.dp+1/\∀a,f.both.2=some a->a.deep<=f.dp+1)
 | .nil,_,_=>⟨⟨trivial,λa e=>(by cases e)⟩,Nat.zero_le _,λa e=>(by cases e)⟩
 | .bar t r,h,ht=>by
  have ih:=zAB r h.2 (λu hu=>ht u (by simp[Fs.kL,hu]));refine⟨⟨trivial,λa e=>?_⟩,Nat.zero_le _,λa e=>?_⟩
  ·simp only[Fs.both,Option.some.injEq]at e;subst e;exact zBp _ ih.1.1 ih.1.2
  ·simp only[Fs.both,Option.some.injEq]at e;subst e;exact zBq _ _ ih.2.1 ih.2.2
 | .leaf t r s,h,ht=>by
  have ih:=zAB s h.2.2 (λu hu=>ht u (by simp[Fs.kL,hu]))
  have hl:(fA t).fine/\(fA t).deep=0:=by
   have hf:=ht t (by simp[Fs.kL]);unfold zQx at hf;unfold fA;split
   ·exact⟨hf.1,rfl⟩
   split
   ·rename_i h2;exact⟨hf.2.1 h2,rfl⟩
   split
   ·exact⟨trivial,rfl⟩
   ·exact⟨trivial,rfl⟩
  have hp:=zGO hl.1 r;exact⟨⟨⟨hp.1,ih.1.1⟩,ih.1.2⟩,by simp only[Fs.both,Re.deep,Fs.dp];have:=ih.2.1;omega,ih.2.2⟩
 | .grp t i c r s,h,ht=>by
  have ii:=zAB i h.2.2.1 (λu hu=>ht u (by simp[Fs.kL,hu]));have is:=zAB s h.2.2.2.2 (λu hu=>ht u (by simp[Fs.kL,hu]));have hf:=ht t (by simp[Fs.kL]);unfold zQx at hf;have j1:=zBp _ ii.1.1 ii.1.2;have j2:=zBq _ _ ii.2.1 ii.2.2
  have hg:(wH t (zBJ i.both)).fine/\(wH t (zBJ i.both)).deep<=i.dp+1:=by
   have h6:=hf.2.2.1 h.1;unfold wH;split
   ·exact⟨j1,j2⟩
   split
   ·rename_i h4;exact⟨⟨hf.2.2.2 h.1 h4,j1⟩,j2⟩
   ·exact⟨⟨by omega,j1⟩,j2⟩
  have hp:=zGO hg.1 r;refine⟨⟨⟨hp.1,is.1.1⟩,is.1.2⟩,?_,λa e=>?_⟩
  ·simp only[Fs.both,Re.deep,Fs.dp];have:=is.2.1;omega
  ·have:=is.2.2 a e;simp only[Fs.dp];omega
theorem zPh(f:Fs)(hw:f.wf)(ht:∀t∈f.kL,zQx t):f.re.fine/\f.re.deep<=f.dp+1:=by
 have:=zAB f hw ht;exact⟨zBp _ this.1.1 this.1.2,zBq _ _ this.2.1 this.2.2⟩
def nD(L:Nat)(x:zTG):Prop :=
 (x.op=2->0<=x.x/\x.x<L/\0<=x.y/\x.y<L)/\(x.op=3->0<=x.x/\x.x<L)/\(x.op=4->0<=x.x/\x.x<12)/\(x.op=5->0<=x.x/\x.x<L/\0<=x.y/\x.y<12)
 /\ (x.op=6\/x.op=7\/x.op=8->0<=x.x/\x.x<10)/\(x.op=11->0<=x.y/\x.y<L/\0<=x.x/\x.x<=2)/\x.op≠13/\x.set.length<=256
theorem zOL{L:Nat}(x y:Int)(late:Bool)(h:0<=x/\x<L/\0<=y/\y<L):nD L (spl x y late):=by
 unfold spl nD;cases late <;> simp <;> omega
theorem zAa(L:Nat):∀(r:Re) (p d:Int),r.fine->0<=p->p+r.len<L->0<=d->d+r.deep<=12->∀x∈r.code p d,nD L x
 | .eps,p,d,_,_,_,_,_,x,hx=>by simp[Re.code]at hx
 | .one s,p,d,hf,_,_,_,_,x,hx=>by simp[Re.code]at hx;subst hx;simp only[nD,Re.fine]at *;simp;omega
 | .back k,p,d,hf,_,_,_,_,x,hx=>by simp[Re.code]at hx;subst hx;simp only[nD,Re.fine]at *;simp;omega
 | .head,p,d,hf,_,_,_,_,x,hx=>by simp[Re.code]at hx;subst hx;simp[nD]
 | .tail,p,d,hf,_,_,_,_,x,hx=>by simp[Re.code]at hx;subst hx;simp[nD]
 | .cat a b,p,d,hf,hp,hl,hd,hdd,x,hx=>by
  simp only[Re.len,Re.deep,Re.fine,Re.code,List.mem_append]at *;rcases hx with hx | hx
  ·exact zAa L a p d hf.1 hp (by omega) hd (by omega) x hx
  ·exact zAa L b _ d hf.2 (by omega) (by omega) hd (by omega) x hx
 | .alt a b,p,d,hf,hp,hl,hd,hdd,x,hx=>by
  simp only[Re.len,Re.deep,Re.fine,Re.code,List.mem_append,List.mem_cons]at *;rcases hx with rfl | hx | rfl | hx
  ·simp only[nD];simp;omega
  ·exact zAa L a _ d hf.1 (by omega) (by omega) hd (by omega) x hx
  ·simp only[nD];simp;omega
  ·exact zAa L b _ d hf.2 (by omega) (by omega) hd (by omega) x hx
 | .cap k a,p,d,hf,hp,hl,hd,hdd,x,hx=>by
  simp only[Re.len,Re.deep,Re.fine,Re.code,List.mem_append,List.mem_cons,List.not_mem_nil,or_false]at *;rcases hx with rfl | hx | rfl
  ·simp only[nD];simp;omega
  ·exact zAa L a _ d hf.2 (by omega) (by omega) hd (by omega) x hx
  ·simp only[nD];simp;omega
 | .sub s a,p,d,hf,hp,hl,hd,hdd,x,hx=>by
  simp only[Re.len,Re.deep,Re.fine,Re.code,List.mem_append,List.mem_cons,List.not_mem_nil,or_false]at *;rcases hx with rfl | hx | rfl
  ·simp only[nD];simp;omega
  ·exact zAa L a _ d hf.2 (by omega) (by omega) hd (by omega) x hx
  ·simp[nD]
 | .opt late a,p,d,hf,hp,hl,hd,hdd,x,hx=>by
  simp only[Re.len,Re.deep,Re.fine,Re.code,List.mem_cons]at *;rcases hx with rfl | hx
  ·exact zOL _ _ _ (by omega)
  ·exact zAa L a _ d hf (by omega) (by omega) hd (by omega) x hx
 | .loop late a,p,d,hf,hp,hl,hd,hdd,x,hx=>by
  simp only[Re.len,Re.deep,Re.fine,Re.code,List.mem_append,List.mem_cons,List.not_mem_nil,or_false]at *;rcases hx with rfl | rfl | hx | rfl
  ·exact zOL _ _ _ (by omega)
  ·simp only[nD];simp;omega
  ·exact zAa L a _ (d+1) hf (by omega) (by omega) (by omega) (by omega) x hx
  ·simp only[nD];simp;omega
theorem zJZ{l:List zTD}(h:Valid l):∀t∈l,zQx t:=by
 intro t ht;obtain⟨k,hk,rfl⟩:=List.mem_iff_getElem.1 ht;have hv:=h k hk;rw[lH,lK hk]at hv;simp only[Option.getD_some]at hv;obtain⟨h1,⟨g1,g2,g3,g4,g5⟩,h3⟩:=hv;refine⟨g2,g3,g4,λh6 h4=>?_⟩;have hn:=h3 (by simp[jO,h6,h4]);have:=fM (l.take k);unfold may at h1;rw[if_neg (by omega),if_neg (by omega),if_pos h6]at h1;by_cases ho:10<=kJ (l.take k)
 ·rw[if_pos ho]at h1;omega
 ·rw[if_neg ho]at h1;by_cases hc:l[k].zTF=4/\9<=zZ (l.take k)
  ·rw[if_pos hc]at h1;omega
  ·have:¬9<=zZ (l.take k):=λh9=>hc ⟨h4,h9⟩
   omega
theorem mM(p:ByteArray)(h:(jN p).1=0):∃f:Fs,f.wf/\(zY p).1=f.kL/\f.re.fine/\f.re.deep<=11/\f.re.len+1<=300/\(kC p).1=f.re.code 0 0++[⟨13,0,0,[]⟩]/\(kC p).2=0:=by
 have ht:(zY p).2.1=0:=by
  unfold jN at h;by_cases h0:(zY p).2.1=0
  ·exact h0
  ·rw[if_pos h0]at h;exact h
 have hv:=zAz p ht;obtain⟨f,hw,e⟩:=zDD hv.1 hv.2;have hsm:=(fZ p).2;have hl:=zED p h;have ht2:=zDC f hw (by rw[<-e];exact hsm);have hc:=zEK (zY p).1 hl;rw[e,ht2]at hc;have hfi:=zPh f hw (by rw[<-e];exact zJZ hv.1)
 have hdp:=zLu f hw 0 (by omega) (λk hk=>by
  have:=zAA hv.1 k (by rw[e];exact hk);rw[e]at this;omega)
 refine⟨f,hw,e,hfi.1,by omega,hc.2,?_,?_⟩
 ·unfold kC;rw[if_neg (by omega),e,hc.1]
 ·unfold kC;rw[if_neg (by omega)]
theorem zDF(r:Re)(hf:r.fine)(hd:r.deep<=11):codeOk (r.code 0 0++[⟨13,0,0,[]⟩]):=by
 intro q hq;have hl:(r.code 0 0++[(⟨13,0,0,[]⟩:zTG)]).length=r.len+1:=by rw[lM,Re.zQ];rfl
 rw[hl]at hq;by_cases zTI:q<r.len
 ·have hm:(r.code 0 0++[(⟨13,0,0,[]⟩:zTG)]).getD q jY∈r.code 0 0:=by
   rw[lH,List.getElem?_append_left (by rw[Re.zQ];exact zTI),lK (by rw[Re.zQ];exact zTI)];exact List.getElem_mem _
  have:=zAa (r.len+1) r 0 0 hf (by omega) (by omega) (by omega) (by omega) _ hm;unfold nD at this;unfold zHX;rw[hl];obtain⟨a,b,c,d,e,f,g,i⟩:=this;exact⟨a,b,c,d,e,f,λ_=>by omega,i⟩
 ·have e:q=r.len:=by omega
  subst e;rw[lH,List.getElem?_append_right (by rw[Re.zQ];exact lG _),Re.zQ,Nat.sub_self];simp[zHX]
theorem zGP(c:List zTG)(x:zTG)(h:x.op≠5):jI (c++[x]) c.length=0:=by
 unfold jI bZ;rw[List.drop_left];simp[xR,h]
structure Fnd where
 ok:Bool
 at':List Int
 steps:Int
def nowhere:List Int:=List.replicate 20 (-1)
def vJ:Fnd:=⟨false,List.replicate 20 0,0⟩
def kZ(p:Int):Sta:=0::p::(nowhere++List.replicate 22 0)
theorem zAb(p:Int):(kZ p).length=44:=by simp[kZ,nowhere]
theorem dL(L T:Nat)(p:Nat)(hL:0<L)(hp:p<=T):Good L T (kZ p):=by
 have e0:gt (kZ p) 0=0:=rfl;have e1:gt (kZ p) 1=p:=rfl;refine⟨zAb _,by omega,by omega,by omega,by omega,λk hk=>?_,λk hk=>?_⟩
 ·left
  have:gt (kZ p) (2+2*k)=-1:=by
   unfold gt kZ nowhere;rw[lH,show 2+2*k=(2*k)+1+1 by omega,List.getElem?_cons_succ,List.getElem?_cons_succ,List.getElem?_append_left (by simp;omega),List.getElem?_replicate,if_pos (by omega)];rfl
  omega
 ·have:gt (kZ p) (22+k)=0:=by
   unfold gt kZ nowhere;rw[lH,show 22+k=(20+k)+1+1 by omega,List.getElem?_cons_succ,List.getElem?_cons_succ,List.getElem?_append_right (by simp),List.getElem?_replicate,if_pos (by simp;omega)];rfl
  omega
def yX(p:Int)(r:Sta):List Int:=p::gt r 1::(r.drop 4).take 18
theorem zAc(p:Int)(r:Sta)(h:r.length=44):(yX p r).length=20:=by simp[yX,h]
def search(E:Env)(zA:Int):Nat->Nat->Nat->List Bool->Int->Fnd × Bool
 | 0,_,n,_,_=>(⟨false,nowhere,zA-n⟩,false)
 | f+1,p,n,kn,zD =>
  if(qO E n (kZ p) kn zD).qI then(vJ,true)
  else if(qO E n (kZ p) kn zD).ok then(⟨true,yX p (qO E n (kZ p) kn zD).st,zA-(qO E n (kZ p) kn zD).n⟩,false)
  else search E zA f (p+1) (qO E n (kZ p) kn zD).n (qO E n (kZ p) kn zD).kn (qO E n (kZ p) kn zD).zD
def wJ(c:List zTG)(zK:ByteArray)(zB zI:Int):Env:=⟨c,zK,jD c zB zI,(List.range c.length).map λp=>(jI c p:Int)⟩
def kP(c:List zTG)(zK:ByteArray)(zB zI zD zA:Int)(zTE:Nat):Fnd × Bool :=
 search (wJ c zK zB zI) zA (zK.size+1-zTE) zTE zA.toNat (List.replicate (c.length*(zK.size+1)*12) false) zD
def xW(T:Nat)(zTE zB zI zD zA:Int):Int :=
 if 60<T then 1
 else if kF zB zI=true/\0<=zTE/\zTE<=T/\0<=zD/\zD<=5000/\0<=zA/\zA<=10000 then 0 else 13
def nR(p zK:ByteArray)(zTE zB zI zD zA:Int):Fnd × Int :=
 if(kC p).2≠0 then(vJ,(kC p).2)
 else if xW zK.size zTE zB zI zD zA≠0 then(vJ,xW zK.size zTE zB zI zD zA)
 else if(kP (kC p).1 zK zB zI zD zA zTE.toNat).2 then(vJ,14)
 else((kP (kC p).1 zK zB zI zD zA zTE.toNat).1,0)
