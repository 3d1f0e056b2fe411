import Derived.Test.YtebpgfodelggoabGreatKC00
set_option linter.unusedVariables false
set_option linter.unusedSimpArgs false
namespace Mt
def zAo(L N:Int)(c:List zTG):Prop:=(c.length:Int)<=L/\∀i∈c,zHE N i
theorem qC{L N L' N':Int}{c:List zTG}(h:zAo L N c)(hL:L<=L')(hN:N<=N'):zAo L' N' c:=⟨by have:=h.1;omega,λi hi=>pR (h.2 i hi) hN⟩
theorem vV{L N M:Int}{c:List zTG}(h:zAo L N c)(hL:L<=M)(hN:N<=M):fit M c:=⟨by have:=h.1;omega,λi hi=>pR (h.2 i hi) hN⟩
theorem dF{L N:Int}{i:zTG}(h:zHE N i)(h1:1<=L):zAo L N [i]:=⟨by simpa using h1,λj hj=>by simp at hj;rw[hj];exact h⟩
theorem nI{L N:Int}(h:0<=L):zAo L N []:=⟨by simpa using h,λj hj=>by simp at hj⟩
theorem zB7{L N:Int}(x y:Int)(late:Bool)(hx:-N<=x/\x<=N)(hy:-N<=y/\y<=N)(h1:1<=L):zAo L N (qR x y late):=by
 unfold qR;cases late
 ·exact dF ⟨hx.1,hx.2,hy.1,hy.2⟩ h1
 ·exact dF ⟨hy.1,hy.2,hx.1,hx.2⟩ h1
theorem zAw{L N:Int}{a b:List zTG}(ha:zAo (L+300) (N+300) a)(hb:zAo L N b):zAo (L+300) (N+300) (zO a b):=by
 unfold zO;by_cases h:300<a.length
 ·rw[if_pos h];exact ha
 ·rw[if_neg h];refine⟨?_,λi hi=>?_⟩
  ·rw[lM,yE];have:=hb.1;omega
  ·rcases List.mem_append.1 hi with hi | hi
   ·exact ha.2 i hi
   ·unfold vF at hi;obtain⟨j,hj,rfl⟩:=List.mem_map.1 hi;exact zB4 (hb.2 j hj) (by omega) (by omega)
theorem yH{L N:Int}{a b:List zTG}(ha:zAo L N a)(hb:zAo L N b):zAo (L+300) (N+300) (zO a b) :=
 zAw (qC ha (by omega) (by omega)) hb
theorem zEz{L N:Int}(s:Int){c:List zTG}(hc:zAo L N c)(hs:0<=s/\s<=10)(hN:L+2<=N)(h1:10<=L):zAo (L+600) (N+600) (alone s c):=by
 have hl:=hc.1;have h0:(0:Int)<=c.length:=by omega
 have g:=yH (dF (L:=L) (N:=N) (i:=⟨11,s,(c.length:Int)+2,[]⟩) ⟨by simp only;omega,by simp only;omega,by simp only;omega,by simp only;omega⟩ (by omega)) hc;have g2:=yH g (dF (L:=L+300) (N:=N+300) (i:=⟨12,0,0,[]⟩) ⟨by simp only;omega,by simp only;omega,by simp only;omega,by simp only;omega⟩ (by omega));exact qC g2 (by omega) (by omega)
theorem zAx{L N:Int}(d:Int)(late:Bool){y:List zTG}(hy:zAo L N y)(hd:0<=d/\d<=N)(hN:L+3<=N)(h1:10<=L):zAo (L+900) (N+900) (pG y d late):=by
 have hl:=hy.1;have h0:(0:Int)<=y.length:=by omega
 have g1:=yH (zB7 (L:=L) (N:=N) 1 ((y.length:Int)+3) late (by omega) (by omega) (by omega)) (dF (L:=L) (N:=N) (i:=⟨4,d,0,[]⟩) ⟨by simp only;omega,by simp only;omega,by simp only;omega,by simp only;omega⟩ (by omega));have g2:=yH g1 (qC hy (show L<=L+300 by omega) (show N<=N+300 by omega));have g3:=yH g2 (dF (L:=L+300+300) (N:=N+300+300) (i:=⟨5,-(y.length:Int)-2,d,[]⟩) ⟨by simp only;omega,by simp only;omega,by simp only;omega,by simp only;omega⟩ (by omega));exact qC g3 (by omega) (by omega)
theorem zEA{L N:Int}{x:List zTG}(hx:zAo L N x):∀(n:Nat) (c:List zTG),zAo (L+300) (N+300) c->zAo (L+300) (N+300) (zH x n c)
 | 0,c,h=>h
 | n+1,c,h=>zEA hx n _ (zAw h hx)
theorem zK0(n:Nat)(k:Int)(hn:n<20)(hk:0<=k):0<=((n:Int)+1)*(k+1)/\((n:Int)+1)*(k+1)<=20*(k+1):=by
 refine⟨Int.mul_nonneg (by omega) (by omega),?_⟩;exact Int.mul_le_mul_of_nonneg_right (by omega) (by omega)
theorem tY{L N:Int}{x:List zTG}(late:Bool)(hx:zAo L N x)(hN:20*(L+1)<=N)(h1:10<=L):∀(n:Nat) (c:List zTG),n<=20->zAo (L+600) (N+600) c->zAo (L+600) (N+600) (pI x late n c)
 | 0,c,_,h=>h
 | n+1,c,hn,h=>by
  have hl:=hx.1;have m:=zK0 n (x.length:Int) (by omega) (by omega);have g:=yH (zB7 (L:=L) (N:=N) 1 (((n:Int)+1)*((x.length:Int)+1)) late (by omega) (by omega) (by omega)) hx;exact tY late hx hN h1 n _ (by omega) (qC (zAw (L:=L+300) (N:=N+300) (qC h (by omega) (by omega)) g) (by omega) (by omega))
theorem zE9{L N:Int}(at' rp:Nat->Nat->List zTG)(l:List zTD)(b:Nat)(h1:∀i j,zAo L N (at' i j))(h2:∀i j,zAo L N (rp i j)):∀(f i:Nat) (c:List zTG),zAo (L+300) (N+300) c->zAo (L+300) (N+300) (vW at' rp l b f i c)
 | 0,i,c,h=>h
 | f+1,i,c,h=>by
  simp only[vW];split
  ·exact h
  ·split
   ·exact zE9 at' rp l b h1 h2 f _ _ (zAw h (h2 _ _))
   ·exact zE9 at' rp l b h1 h2 f _ _ (zAw h (h1 _ _))
def fG(t:zTD):Prop:=0<=t.n/\t.n<=100/\-1<=t.m/\t.m<=20/\0<=t.zTF/\t.zTF<=4/\(t.kind=8->t.n<=20)
def bM(l:List zTD):Prop:=∀t∈l,fG t
theorem zC1{l:List zTD}(h:bM l)(k:Nat):fG (l.getD k jZ):=by
 rw[lH];by_cases hk:k<l.length
 ·rw[lK hk];exact h _ (List.getElem_mem hk)
 ·rw[List.getElem?_eq_none (by omega)];simp[fG,jZ]
theorem zHL(l:List zTD)(hl:bM l):∀(f tag a b:Nat) (d:Int),0<=d->d+f<=1000->zAo (2000*((f:Int)+1)) (60000*((f:Int)+1)) (gen l f tag a b d):=by
 intro f;induction f with
 | zero=>intro tag a b d h0 h1;simp only[gen];exact nI (by omega)
 | succ f ih =>
  intro tag a b d h0 h1;have I:=λtag a b=>ih tag a b d h0 (by omega)
  have J:=λtag a b=>ih tag a b (d+1) (by omega) (by omega)
  match tag with
  | 0 =>
   simp only[gen];split
   ·exact qC (I 1 a _) (by omega) (by omega)
   ·have hs:=I 1 a (bar l a b);have hr:=I 0 (bar l a b+1) b;generalize gen l f 1 a (bar l a b) d=s at *;generalize gen l f 0 (bar l a b+1) b d=r at *;have ls:=hs.1;have lr:=hr.1;have g1:=yH (zB7 (L:=2000*((f:Int)+1)) (N:=60000*((f:Int)+1)) 1 ((s.length:Int)+2) false (by omega) (by omega) (by omega)) hs;have g2:=yH g1 (dF (L:=2000*((f:Int)+1)+300) (N:=60000*((f:Int)+1)+300) (i:=⟨3,1+(r.length:Int),0,[]⟩) ⟨by simp only;omega,by simp only;omega,by simp only;omega,by simp only;omega⟩ (by omega));have g3:=yH g2 (qC hr (show _<=2000*((f:Int)+1)+300+300 by omega) (show _<=60000*((f:Int)+1)+300+300 by omega));exact qC g3 (by omega) (by omega)
  | 1 =>
   simp only[gen];exact qC (zE9 _ _ l b (λi j=>I 2 i j) (λi j=>I 3 i j) (b-a) a [] (nI (by omega))) (by omega) (by omega)
  | 2 =>
   simp only[gen];have hi:=I 0 (a+1) (b-1);have ht:=zC1 hl a;generalize gen l f 0 (a+1) (b-1) d=s at *;generalize l.getD a jZ=t at *;obtain⟨t1,t2,t3,t4,t5,t6,t7⟩:=ht;split
   ·exact dF ⟨by simp only;omega,by simp only;omega,by simp only;omega,by simp only;omega⟩ (by omega)
   split
   ·exact dF ⟨by simp only;omega,by simp only;omega,by simp only;omega,by simp only;omega⟩ (by omega)
   split
   ·exact dF ⟨by simp only;omega,by simp only;omega,by simp only;omega,by simp only;omega⟩ (by omega)
   split
   ·exact dF ⟨by simp only;omega,by simp only;omega,by simp only;omega,by simp only;omega⟩ (by omega)
   split
   ·exact qC hi (by omega) (by omega)
   split
   ·have g1:=yH (dF (L:=2000*((f:Int)+1)) (N:=60000*((f:Int)+1)) (i:=⟨6,t.n,0,[]⟩) ⟨by simp only;omega,by simp only;omega,by simp only;omega,by simp only;omega⟩ (by omega)) hi;have g2:=yH g1 (dF (L:=2000*((f:Int)+1)+300) (N:=60000*((f:Int)+1)+300) (i:=⟨7,t.n,0,[]⟩) ⟨by simp only;omega,by simp only;omega,by simp only;omega,by simp only;omega⟩ (by omega));exact qC g2 (by omega) (by omega)
   ·exact qC (zEz t.zTF hi (by omega) (by omega) (by omega)) (by omega) (by omega)
  | n+3 =>
   simp only[gen];have hx:=I 2 a b;have hy:=J 2 a b;have ht:=zC1 hl b;generalize gen l f 2 a b d=x at *;generalize gen l f 2 a b (d+1)=y at *;generalize l.getD b jZ=t at *;obtain⟨t1,t2,t3,t4,t5,t6,t7⟩:=ht
   have c1:zAo (2000*((f:Int)+1)+900) (60000*((f:Int)+1)+900) (if 0<t.n\/0<t.m then(if t.n<t.m then zO (zH x t.n.toNat []) (upTo x (t.m-t.n).toNat (decide (t.zTF=1)))else zH x t.n.toNat [])else[]):=by
    have k1:=zEA hx t.n.toNat [] (nI (by omega));split
    ·split
     ·have k2:=tY (decide (t.zTF=1)) hx (by omega) (by omega) (t.m-t.n).toNat [] (by omega) (nI (by omega));exact qC (yH (qC k1 (show _<=2000*((f:Int)+1)+600 by omega) (show _<=60000*((f:Int)+1)+600 by omega)) k2) (by omega) (by omega)
     ·exact qC k1 (by omega) (by omega)
    ·exact nI (by omega)
   generalize (if 0<t.n\/0<t.m then(if t.n<t.m then zO (zH x t.n.toNat []) (upTo x (t.m-t.n).toNat (decide (t.zTF=1)))else zH x t.n.toNat [])else[])=c at *
   have c2:zAo (2000*((f:Int)+1)+1200) (60000*((f:Int)+1)+1200) (if t.m<0 then zO c (pG y d (decide (t.zTF=1)))else c):=by
    split
    ·exact qC (yH c1 (zAx d (decide (t.zTF=1)) hy (by omega) (by omega) (by omega))) (by omega) (by omega)
    ·exact qC c1 (by omega) (by omega)
   split
   ·exact qC (zEz 0 c2 (by omega) (by omega) (by omega)) (by omega) (by omega)
   ·exact qC c2 (by omega) (by omega)
