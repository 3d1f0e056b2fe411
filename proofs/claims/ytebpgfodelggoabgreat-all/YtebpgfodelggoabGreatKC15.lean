import Derived.Test.YtebpgfodelggoabGreatKC13
set_option linter.unusedVariables false
set_option linter.unusedSimpArgs false
namespace Mt
def byI(t:ByteArray)(k:Nat):Int:=if h:k<t.size then((t[k]'h).toNat:Int)else 0
def tZ(t:ByteArray)(s:Sta)(k:Int):Sta × Bool :=
 if gt s (2+(2*k).toNat)<0 then(s,false)
 else if(t.size:Int)<gt s 1+(gt s (2+(2*k+1).toNat)-gt s (2+(2*k).toNat))then(s,false)
 else((s.set 1 (gt s 1+gt s (2+(2*k+1).toNat)-gt s (2+(2*k).toNat))).set 0 (gt s 0+1),
  (t.extract (gt s (2+(2*k).toNat)).toNat (gt s (2+(2*k+1).toNat)).toNat).toList==(t.extract (gt s 1).toNat ((gt s 1).toNat+(gt s (2+(2*k+1).toNat)).toNat-(gt s (2+(2*k).toNat)).toNat)).toList)
def vC(t:ByteArray)(s:Sta)(x:zTG):Sta × Bool :=
 if x.op=1 then((s.set 1 (gt s 1+1)).set 0 (gt s 0+1),if gt s 1<t.size then hasB ⟨x.set.toArray⟩ (byI t (gt s 1).toNat)else false)
 else if x.op=3 then(s.set 0 x.x,true)
 else if x.op=4 then((s.set (32+x.x.toNat) (gt s 1)).set 0 (gt s 0+1),true)
 else if x.op=5 then(s.set 0 x.x,gt s (32+x.y.toNat) != gt s 1)
 else if x.op=6 then((s.set (22+x.x.toNat) (gt s 1)).set 0 (gt s 0+1),true)
 else if x.op=7 then(((s.set (2+(2*x.x).toNat) (gt s (22+x.x.toNat))).set (2+(2*x.x+1).toNat) (gt s 1)).set 0 (gt s 0+1),true)
 else if x.op=8 then tZ t s x.x
 else if x.op=9 then(s.set 0 (gt s 0+1),gt s 1==0)
 else if x.op=10 then(s.set 0 (gt s 0+1),gt s 1==(t.size:Int))
 else(s.set 0 (gt s 0+1),true)
def zAy(s r:Sta):Sta:=s.take 2++((r.drop 2).take 20++s.drop 22)
def yU(s:Sta)(x:zTG)(r:Sta)(ok:Bool):Sta × Bool :=
 if x.x=0 then(r.set 0 x.y,ok)else if x.x=1 then((zAy s r).set 0 x.y,ok)else(s.set 0 x.y,!ok)
structure Env where
 c:List zTG
 t:ByteArray
 zTM:List Bool
 ar:List Int
structure Res where
 st:Sta
 ok:Bool
 n:Nat
 kn:List Bool
 zD:Int
 qI:Bool
def jX(s:Sta):Nat:=(gt s 0).toNat
def pV(s:Sta):Nat:=(gt s 1).toNat
def Env.key(E:Env)(s:Sta):Nat:=keyOf s (jX s) (pV s) E.t.size (E.ar.getD (jX s) 0).toNat
def Env.isIn(E:Env)(s:Sta):Bool:=E.zTM.getD (jX s) false
def Env.dead(E:Env)(s:Sta)(kn:List Bool):Bool:=if E.isIn s then kn.getD (E.key s) false else false
def Env.zTN(E:Env)(s:Sta)(kn:List Bool)(zD:Int):List Bool:=if E.isIn s then vR kn zD (E.key s)else kn
def Env.zX(E:Env)(s:Sta)(kn:List Bool)(zD:Int):Int:=if E.isIn s then jT kn zD (E.key s)else zD
def Env.ins(E:Env)(s:Sta):zTG:=E.c.getD (jX s) jY
def cK(E:Env):Nat->Nat->Sta->List Bool->Int->Res
 | 0,_,s,kn,zD=>⟨s,false,0,kn,zD,true⟩
 | _+1,0,s,kn,zD=>⟨s,false,0,kn,zD,true⟩
 | F+1,n+1,s,kn,zD =>
  if E.dead s kn then⟨s,false,n,E.zTN s kn zD,E.zX s kn zD,false⟩
  else if(E.ins s).op=13\/(E.ins s).op=12 then⟨s,true,n,E.zTN s kn zD,E.zX s kn zD,false⟩
  else if(E.ins s).op=2 then
   let r:=cK E F n (s.set 0 (E.ins s).x) (E.zTN s kn zD) (E.zX s kn zD)
   if r.ok||r.qI then r else cK E F r.n (s.set 0 (E.ins s).y) r.kn r.zD
  else if(E.ins s).op=11 then
   let r:=cK E F n (s.set 0 (gt s 0+1)) (E.zTN s kn zD) (E.zX s kn zD)
   if r.qI then⟨s,false,r.n,r.kn,r.zD,true⟩
   else if(yU s (E.ins s) r.st r.ok).2 then cK E F r.n (yU s (E.ins s) r.st r.ok).1 r.kn r.zD
   else⟨(yU s (E.ins s) r.st r.ok).1,false,r.n,r.kn,r.zD,false⟩
  else if(vC E.t s (E.ins s)).2 then cK E F n (vC E.t s (E.ins s)).1 (E.zTN s kn zD) (E.zX s kn zD)
  else⟨(vC E.t s (E.ins s)).1,false,n,E.zTN s kn zD,E.zX s kn zD,false⟩
theorem zCa(E:Env):∀(F n:Nat) (s:Sta) (kn:List Bool) (zD:Int),(cK E F n s kn zD).n<=n
 | 0,n,s,kn,zD=>Nat.zero_le _
 | F+1,0,s,kn,zD=>Nat.zero_le _
 | F+1,n+1,s,kn,zD=>by
  have ih:=zCa E F;unfold cK;split
  ·exact Nat.le_succ n
  split
  ·exact Nat.le_succ n
  split
  ·have h1:=ih n (s.set 0 (E.ins s).x) (E.zTN s kn zD) (E.zX s kn zD);dsimp only;split
   ·omega
   ·have h2:=ih (cK E F n (s.set 0 (E.ins s).x) (E.zTN s kn zD) (E.zX s kn zD)).n (s.set 0 (E.ins s).y) (cK E F n (s.set 0 (E.ins s).x) (E.zTN s kn zD) (E.zX s kn zD)).kn (cK E F n (s.set 0 (E.ins s).x) (E.zTN s kn zD) (E.zX s kn zD)).zD;omega
  split
  ·have h1:=ih n (s.set 0 (gt s 0+1)) (E.zTN s kn zD) (E.zX s kn zD);dsimp only;split
   ·show Res.n _<=_;dsimp only;omega
   split
   ·have h2:=ih (cK E F n (s.set 0 (gt s 0+1)) (E.zTN s kn zD) (E.zX s kn zD)).n
     (yU s (E.ins s) (cK E F n (s.set 0 (gt s 0+1)) (E.zTN s kn zD) (E.zX s kn zD)).st (cK E F n (s.set 0 (gt s 0+1)) (E.zTN s kn zD) (E.zX s kn zD)).ok).1
     (cK E F n (s.set 0 (gt s 0+1)) (E.zTN s kn zD) (E.zX s kn zD)).kn (cK E F n (s.set 0 (gt s 0+1)) (E.zTN s kn zD) (E.zX s kn zD)).zD
    omega
   ·dsimp only;omega
  split
  ·have:=ih n (vC E.t s (E.ins s)).1 (E.zTN s kn zD) (E.zX s kn zD);omega
  ·exact Nat.le_succ n
theorem zCb(E:Env):∀(F G n:Nat) (s:Sta) (kn:List Bool) (zD:Int),n<=F->n<=G->cK E F n s kn zD=cK E G n s kn zD
 | 0,0,n,s,kn,zD,_,_=>rfl
 | 0,G+1,n,s,kn,zD,h,_=>by
                    obtain rfl:n=0:=by omega
                    rfl
 | F+1,0,n,s,kn,zD,_,h=>by
                    obtain rfl:n=0:=by omega
                    rfl
 | F+1,G+1,0,s,kn,zD,_,_=>rfl
 | F+1,G+1,n+1,s,kn,zD,hF,hG=>by
  have ih:∀(n:Nat) (s:Sta) (kn:List Bool) (zD:Int),n<=F->n<=G->cK E F n s kn zD=cK E G n s kn zD:=zCb E F G;unfold cK;have e1:=ih n (s.set 0 (E.ins s).x) (E.zTN s kn zD) (E.zX s kn zD) (by omega) (by omega);have e2:=ih n (s.set 0 (gt s 0+1)) (E.zTN s kn zD) (E.zX s kn zD) (by omega) (by omega);have e3:=ih n (vC E.t s (E.ins s)).1 (E.zTN s kn zD) (E.zX s kn zD) (by omega) (by omega);have n1:=zCa E G n (s.set 0 (E.ins s).x) (E.zTN s kn zD) (E.zX s kn zD);have n2:=zCa E G n (s.set 0 (gt s 0+1)) (E.zTN s kn zD) (E.zX s kn zD);dsimp only;rw[e1,e2,e3];generalize cK E G n (s.set 0 (E.ins s).x) (E.zTN s kn zD) (E.zX s kn zD)=r1 at *;generalize cK E G n (s.set 0 (gt s 0+1)) (E.zTN s kn zD) (E.zX s kn zD)=r2 at *;rw[ih r1.n _ _ _ (by omega) (by omega),ih r2.n _ _ _ (by omega) (by omega)]
def qO(E:Env)(n:Nat)(s:Sta)(kn:List Bool)(zD:Int):Res:=cK E n n s kn zD
theorem tF(E:Env)(n:Nat)(s:Sta)(kn:List Bool)(zD:Int):(qO E n s kn zD).n<=n:=zCa E n n s kn zD
theorem wB(E:Env)(s:Sta)(kn:List Bool)(zD:Int):qO E 0 s kn zD=⟨s,false,0,kn,zD,true⟩:=rfl
theorem fH(E:Env)(n:Nat)(s:Sta)(kn:List Bool)(zD:Int):qO E (n+1) s kn zD =
  if E.dead s kn then⟨s,false,n,E.zTN s kn zD,E.zX s kn zD,false⟩
  else if(E.ins s).op=13\/(E.ins s).op=12 then⟨s,true,n,E.zTN s kn zD,E.zX s kn zD,false⟩
  else if(E.ins s).op=2 then
   let r:=qO E n (s.set 0 (E.ins s).x) (E.zTN s kn zD) (E.zX s kn zD)
   if r.ok||r.qI then r else qO E r.n (s.set 0 (E.ins s).y) r.kn r.zD
  else if(E.ins s).op=11 then
   let r:=qO E n (s.set 0 (gt s 0+1)) (E.zTN s kn zD) (E.zX s kn zD)
   if r.qI then⟨s,false,r.n,r.kn,r.zD,true⟩
   else if(yU s (E.ins s) r.st r.ok).2 then qO E r.n (yU s (E.ins s) r.st r.ok).1 r.kn r.zD
   else⟨(yU s (E.ins s) r.st r.ok).1,false,r.n,r.kn,r.zD,false⟩
  else if(vC E.t s (E.ins s)).2 then qO E n (vC E.t s (E.ins s)).1 (E.zTN s kn zD) (E.zX s kn zD)
  else⟨(vC E.t s (E.ins s)).1,false,n,E.zTN s kn zD,E.zX s kn zD,false⟩:=by
 show cK E (n+1) (n+1) s kn zD=_
 conv=>lhs;unfold cK
 have n1:=zCa E n n (s.set 0 (E.ins s).x) (E.zTN s kn zD) (E.zX s kn zD);have n2:=zCa E n n (s.set 0 (gt s 0+1)) (E.zTN s kn zD) (E.zX s kn zD);unfold qO;dsimp only;generalize cK E n n (s.set 0 (E.ins s).x) (E.zTN s kn zD) (E.zX s kn zD)=r1 at *;generalize cK E n n (s.set 0 (gt s 0+1)) (E.zTN s kn zD) (E.zX s kn zD)=r2 at *;rw[zCb E n r1.n r1.n _ _ _ n1 (lG _),zCb E n r2.n r2.n _ _ _ n2 (lG _)]
def zHX(c:List zTG)(p:Nat)(x:zTG):Prop :=
 (x.op=2->0<=x.x/\x.x<c.length/\0<=x.y/\x.y<c.length)
 /\ (x.op=3->0<=x.x/\x.x<c.length)
 /\ (x.op=4->0<=x.x/\x.x<12)
 /\ (x.op=5->0<=x.x/\x.x<c.length/\0<=x.y/\x.y<12)
 /\ (x.op=6\/x.op=7\/x.op=8->0<=x.x/\x.x<10)
 /\ (x.op=11->0<=x.y/\x.y<c.length/\0<=x.x/\x.x<=2)
 /\ (x.op≠13->p+1<c.length)
 /\ x.set.length<=256
def codeOk(c:List zTG):Prop:=∀p,p<c.length->zHX c p (c.getD p jY)
structure Good (L T:Nat) (s:Sta):Prop where
 len:s.length=44
 pc0:0<=gt s 0
 pc1:gt s 0<L
 zNy:0<=gt s 1
 pos1:gt s 1<=T
 place:∀k,k<10->gt s (2+2*k)<0\/(0<=gt s (2+2*k)/\gt s (2+2*k)<=gt s (2+(2*k+1))/\gt s (2+(2*k+1))<=T)
 noted:∀k,k<10->0<=gt s (22+k)/\gt s (22+k)<=gt s 1
theorem zBH(s:Sta)(i j:Nat)(v:Int):gt (s.set i v) j=if i=j/\i<s.length then v else gt s j:=by
 unfold gt;simp only[lH,List.getElem?_set];by_cases h:i=j
 ·subst h;by_cases h2:i<s.length
  ·simp[h2]
  ·simp[h2]
 ·simp[h]
theorem zW(s:Sta)(i j:Nat)(v:Int)(h:i≠j):gt (s.set i v) j=gt s j:=by rw[zBH,if_neg (by omega)]
theorem qX(s:Sta)(i:Nat)(v:Int)(h:i<s.length):gt (s.set i v) i=v:=by rw[zBH,if_pos ⟨rfl,h⟩]
theorem Good.fC{L T:Nat}{s:Sta}(h:Good L T s)(p:Int)(h0:0<=p)(h1:p<L):Good L T (s.set 0 p):=by
 have hl:=h.len;have e:∀j,0<j->gt (s.set 0 p) j=gt s j:=λj hj=>zW _ _ _ _ (by omega)
 have e0:gt (s.set 0 p) 0=p:=qX _ _ _ (by omega);refine⟨by simp[hl],by omega,by omega,by rw[e 1 (by omega)];exact h.zNy,by rw[e 1 (by omega)];exact h.pos1,λk hk=>?_,λk hk=>?_⟩
 ·rw[e _ (by omega),e _ (by omega)];exact h.place k hk
 ·rw[e _ (by omega),e _ (by omega)];exact h.noted k hk
theorem Good.zOK{L T:Nat}{s:Sta}(h:Good L T s)(p:Int)(h0:gt s 1<=p)(h1:p<=T):Good L T (s.set 1 p):=by
 have hl:=h.len;have e:∀j,j≠1->gt (s.set 1 p) j=gt s j:=λj hj=>zW _ _ _ _ (by omega)
 have e0:gt (s.set 1 p) 1=p:=qX _ _ _ (by omega);have hp0:=h.zNy;refine⟨by simp[hl],by rw[e 0 (by omega)];exact h.pc0,by rw[e 0 (by omega)];exact h.pc1,by omega,by omega,λk hk=>?_,λk hk=>?_⟩
 ·rw[e _ (by omega),e _ (by omega)];exact h.place k hk
 ·rw[e _ (by omega),e0];have:=h.noted k hk;omega
theorem Good.zPa{L T:Nat}{s:Sta}(h:Good L T s)(k:Nat)(v:Int):Good L T (s.set (32+k) v):=by
 have hl:=h.len;have e:∀j,j<32->gt (s.set (32+k) v) j=gt s j:=λj hj=>zW _ _ _ _ (by omega)
 refine⟨by simp[hl],by rw[e 0 (by omega)];exact h.pc0,by rw[e 0 (by omega)];exact h.pc1,by rw[e 1 (by omega)];exact h.zNy,by rw[e 1 (by omega)];exact h.pos1,λk hk=>?_,λk hk=>?_⟩
 ·rw[e _ (by omega),e _ (by omega)];exact h.place k hk
 ·rw[e _ (by omega),e _ (by omega)];exact h.noted k hk
theorem Good.zNz{L T:Nat}{s:Sta}(h:Good L T s)(k:Nat)(hk:k<10):Good L T (s.set (22+k) (gt s 1)):=by
 have hl:=h.len;have e:∀j,j≠22+k->gt (s.set (22+k) (gt s 1)) j=gt s j:=λj hj=>zW _ _ _ _ (by omega)
 have e0:gt (s.set (22+k) (gt s 1)) (22+k)=gt s 1:=qX _ _ _ (by omega);refine⟨by simp[hl],by rw[e 0 (by omega)];exact h.pc0,by rw[e 0 (by omega)];exact h.pc1,by rw[e 1 (by omega)];exact h.zNy,by rw[e 1 (by omega)];exact h.pos1,λj hj=>?_,λj hj=>?_⟩
 ·rw[e _ (by omega),e _ (by omega)];exact h.place j hj
 ·rw[e 1 (by omega)];by_cases hjk:j=k
  ·subst hjk;rw[e0];exact⟨h.zNy,Int.le_refl _⟩
  ·rw[e _ (by omega)];exact h.noted j hj
theorem Good.zNA{L T:Nat}{s:Sta}(h:Good L T s)(k:Nat)(hk:k<10):Good L T ((s.set (2+2*k) (gt s (22+k))).set (2+(2*k+1)) (gt s 1)):=by
 have hl:=h.len;generalize hu:(s.set (2+2*k) (gt s (22+k))).set (2+(2*k+1)) (gt s 1)=u;have e:∀j,j≠2+2*k->j≠2+(2*k+1)->gt u j=gt s j:=λj h1 h2=>by rw[<-hu,zW _ _ _ _ (by omega),zW _ _ _ _ (by omega)]
 have e1:gt u (2+2*k)=gt s (22+k):=by rw[<-hu,zW _ _ _ _ (by omega),qX _ _ _ (by omega)]
 have e2:gt u (2+(2*k+1))=gt s 1:=by rw[<-hu,qX _ _ _ (by simp;omega)]
 refine⟨by rw[<-hu];simp[hl],by rw[e 0 (by omega) (by omega)];exact h.pc0,by rw[e 0 (by omega) (by omega)];exact h.pc1,by rw[e 1 (by omega) (by omega)];exact h.zNy,by rw[e 1 (by omega) (by omega)];exact h.pos1,λj hj=>?_,λj hj=>?_⟩
 ·by_cases hjk:j=k
  ·subst hjk;rw[e1,e2];have:=h.noted j hj;have:=h.pos1;exact .inr ⟨by omega,by omega,by omega⟩
  ·rw[e _ (by omega) (by omega),e _ (by omega) (by omega)];exact h.place j hj
 ·rw[e _ (by omega) (by omega),e 1 (by omega) (by omega)];exact h.noted j hj
theorem nQ(s r:Sta)(hs:s.length=44)(hr:r.length=44)(j:Nat):gt (zAy s r) j=if 2<=j/\j<22 then gt r j else gt s j:=by
 unfold zAy gt;simp only[lH];by_cases h1:j<2
 ·rw[if_neg (by omega),List.getElem?_append_left (by simp;omega),List.getElem?_take_of_lt h1]
 ·rw[List.getElem?_append_right (by simp;omega)];have l1:(s.take 2).length=2:=by simp[hs]
  have l2:((r.drop 2).take 20).length=20:=by simp[hr]
  by_cases h2:j<22
  ·rw[if_pos (by omega),List.getElem?_append_left (by omega),l1,List.getElem?_take_of_lt (by omega),List.getElem?_drop,show 2+(j-2)=j by omega]
  ·rw[if_neg (by omega),List.getElem?_append_right (by omega),l1,l2,List.getElem?_drop,show 22+(j-2-20)=j by omega]
theorem dS(s r:Sta)(hs:s.length=44)(hr:r.length=44):(zAy s r).length=44:=by simp[zAy,hs,hr]
theorem Good.zPb{L T:Nat}{s r:Sta}(h:Good L T s)(hr:Good L T r):Good L T (zAy s r):=by
 have e:=nQ s r h.len hr.len;refine⟨dS s r h.len hr.len,by rw[e,if_neg (by omega)];exact h.pc0,by rw[e,if_neg (by omega)];exact h.pc1,by rw[e,if_neg (by omega)];exact h.zNy,by rw[e,if_neg (by omega)];exact h.pos1,λk hk=>?_,λk hk=>?_⟩
 ·rw[e,e,if_pos (by omega),if_pos (by omega)];exact hr.place k hk
 ·rw[e,e,if_neg (by omega),if_neg (by omega)];exact h.noted k hk
theorem Good.bO{L T:Nat}{s:Sta}(h:Good L T s):jX s<L:=by have:=h.pc0;have:=h.pc1;unfold jX;omega
theorem zJT{L:Nat}{t:ByteArray}{s:Sta}(h:Good L t.size s)(k:Int)(h0:0<=k)(h1:k<10)(hp:gt s 0+1<L)(ok:(tZ t s k).2=true):Good L t.size (tZ t s k).1:=by
 unfold tZ at ok |-;have hpl:=h.place k.toNat (by omega);rw[show 2*k.toNat=(2*k).toNat by omega]at hpl;rw[show(2*k).toNat+1=(2*k+1).toNat by omega]at hpl;split at ok
 ·cases ok
 split at ok
 ·cases ok
 rename_i g1 g2
 rw[if_neg g1,if_neg g2];have h0':=h.pc0;exact(h.zOK _ (by omega) (by omega)).fC _ (by omega) (by omega)
theorem wC{c:List zTG}{t:ByteArray}{s:Sta}(hc:codeOk c)(h:Good c.length t.size s)(h2:(c.getD (jX s) jY).op≠2)(h11:(c.getD (jX s) jY).op≠11)(h13:(c.getD (jX s) jY).op≠13)(ok:(vC t s (c.getD (jX s) jY)).2=true) :
  Good c.length t.size (vC t s (c.getD (jX s) jY)).1:=by
 have hi:=hc (jX s) h.bO;generalize c.getD (jX s) jY=x at *;obtain⟨i2,i3,i4,i5,i6,i11,i13,iS⟩:=hi;have hn:=i13 h13;have hpc:((jX s:Nat):Int)=gt s 0:=by have:=h.pc0;unfold jX;omega
 have h0:=h.pc0;unfold vC at ok |-;by_cases o1:x.op=1
 ·rw[if_pos o1]at ok |-;dsimp only at ok |-;split at ok
  ·exact(h.zOK _ (by omega) (by omega)).fC _ (by omega) (by omega)
  ·cases ok
 rw[if_neg o1]at ok |-;by_cases o3:x.op=3
 ·rw[if_pos o3];have:=i3 o3;exact h.fC _ (by omega) (by omega)
 rw[if_neg o3]at ok |-;by_cases o4:x.op=4
 ·rw[if_pos o4];exact(h.zPa _ _).fC _ (by omega) (by omega)
 rw[if_neg o4]at ok |-;by_cases o5:x.op=5
 ·rw[if_pos o5];have:=i5 o5;exact h.fC _ (by omega) (by omega)
 rw[if_neg o5]at ok |-;by_cases o6:x.op=6
 ·rw[if_pos o6];have:=i6 (.inl o6);exact(h.zNz _ (by omega)).fC _ (by omega) (by omega)
 rw[if_neg o6]at ok |-;by_cases o7:x.op=7
 ·rw[if_pos o7];have:=i6 (.inr (.inl o7))
  have hh:=(h.zNA x.x.toNat (by omega)).fC (gt s 0+1) (by omega) (by omega);rw[show 2*x.x.toNat=(2*x.x).toNat by omega,show(2*x.x).toNat+1=(2*x.x+1).toNat by omega]at hh;exact hh
 rw[if_neg o7]at ok |-;by_cases o8:x.op=8
 ·rw[if_pos o8]at ok |-;have:=i6 (.inr (.inr o8));exact zJT h _ (by omega) (by omega) (by omega) ok
 rw[if_neg o8]at ok |-;split
 ·exact h.fC _ (by omega) (by omega)
 split
 ·exact h.fC _ (by omega) (by omega)
 ·exact h.fC _ (by omega) (by omega)
theorem zFl(t:ByteArray)(s:Sta)(x:zTG):(vC t s x).1.length=s.length:=by
 unfold vC tZ
 repeat' split
 all_goals simp
theorem zJU(kn:List Bool)(zD:Int)(i:Nat):(vR kn zD i).length=kn.length:=by
 unfold vR;split
 ·rfl
 split <;> simp
theorem zHY(kn:List Bool)(zD:Int)(i:Nat)(h:0<=zD/\zD<=5000):0<=jT kn zD i/\jT kn zD i<=5000:=by
 unfold jT;split
 ·exact h
 split <;> omega
theorem Env.zDx(E:Env)(s:Sta)(kn:List Bool)(zD:Int):(E.zTN s kn zD).length=kn.length:=by
 unfold Env.zTN;split
 ·exact zJU _ _ _
 rfl
theorem Env.tH(E:Env)(s:Sta)(kn:List Bool)(zD:Int)(h:0<=zD/\zD<=5000):0<=E.zX s kn zD/\E.zX s kn zD<=5000:=by
 unfold Env.zX;split
 ·exact zHY _ _ _ h
 exact h
theorem cO{c:List zTG}{T:Nat}{s r:Sta}{ok:Bool}(hs:Good c.length T s)(hr:ok=true->Good c.length T r)(x:zTG)(h0:0<=x.y)(h1:x.y<c.length)(hk:(yU s x r ok).2=true):Good c.length T (yU s x r ok).1:=by
 unfold yU at hk |-;by_cases o0:x.x=0
 ·rw[if_pos o0]at hk |-;exact(hr hk).fC _ h0 h1
 rw[if_neg o0]at hk |-;by_cases o1:x.x=1
 ·rw[if_pos o1]at hk |-;exact(hs.zPb (hr hk)).fC _ h0 h1
 rw[if_neg o1];exact hs.fC _ h0 h1
theorem vI(E:Env)(hc:codeOk E.c):∀(N n:Nat) (s:Sta) (kn:List Bool) (zD:Int),n<=N->Good E.c.length E.t.size s->0<=zD/\zD<=5000 ->
  ((qO E n s kn zD).ok=true->Good E.c.length E.t.size (qO E n s kn zD).st)/\(qO E n s kn zD).kn.length=kn.length/\(0<=(qO E n s kn zD).zD/\(qO E n s kn zD).zD<=5000)/\(qO E n s kn zD).st.length=44/\((qO E n s kn zD).qI=true->(qO E n s kn zD).ok=false/\(qO E n s kn zD).n=0)
 | N,0,s,kn,zD,_,h,hr=>by rw[wB];exact⟨λe=>(by cases e),rfl,hr,h.len,λ_=>⟨rfl,rfl⟩⟩
 | 0,n+1,s,kn,zD,hn,_,_=>by omega
 | N+1,n+1,s,kn,zD,hn,h,hr=>by
  have ih:∀(n:Nat) (s:Sta) (kn:List Bool) (zD:Int),n<=N->Good E.c.length E.t.size s->0<=zD/\zD<=5000 ->
   ((qO E n s kn zD).ok=true->Good E.c.length E.t.size (qO E n s kn zD).st)/\(qO E n s kn zD).kn.length=kn.length/\(0<=(qO E n s kn zD).zD/\(qO E n s kn zD).zD<=5000)/\(qO E n s kn zD).st.length=44/\((qO E n s kn zD).qI=true->(qO E n s kn zD).ok=false/\(qO E n s kn zD).n=0):=vI E hc N
  rw[fH];have hK:=E.zDx s kn zD;have hR:=E.tH s kn zD hr;have hi:=hc (jX s) h.bO;have hpc:((jX s:Nat):Int)=gt s 0:=by have:=h.pc0;unfold jX;omega
  have zRO:=h.pc0;split
  ·exact⟨λe=>(by cases e),hK,hR,h.len,λe=>(by cases e)⟩
  split
  ·exact⟨λ_=>h,hK,hR,h.len,λe=>(by cases e)⟩
  rename_i h13
  split
  ·rename_i o2
   have i2:=hi.1 o2;have g1:=ih n (s.set 0 (E.ins s).x) (E.zTN s kn zD) (E.zX s kn zD) (by omega) (h.fC _ i2.1 i2.2.1) hR;have n1:=tF E n (s.set 0 (E.ins s).x) (E.zTN s kn zD) (E.zX s kn zD);dsimp only;generalize qO E n (s.set 0 (E.ins s).x) (E.zTN s kn zD) (E.zX s kn zD)=r at *;split
   ·exact⟨g1.1,g1.2.1.trans hK,g1.2.2⟩
   ·have g2:=ih r.n (s.set 0 (E.ins s).y) r.kn r.zD (by omega) (h.fC _ i2.2.2.1 i2.2.2.2) g1.2.2.1;exact⟨g2.1,g2.2.1.trans (g1.2.1.trans hK),g2.2.2⟩
  rename_i o2
  split
  ·rename_i o11
   have i11:=hi.2.2.2.2.2.1 o11;have hnx:jX s+1<E.c.length:=hi.2.2.2.2.2.2.1 (by show(E.ins s).op≠13;omega);have g1:=ih n (s.set 0 (gt s 0+1)) (E.zTN s kn zD) (E.zX s kn zD) (by omega) (h.fC _ (by omega) (by omega)) hR;have n1:=tF E n (s.set 0 (gt s 0+1)) (E.zTN s kn zD) (E.zX s kn zD);dsimp only;generalize qO E n (s.set 0 (gt s 0+1)) (E.zTN s kn zD) (E.zX s kn zD)=r at *;split
   ·rename_i hov
    exact⟨λe=>(by cases e),g1.2.1.trans hK,g1.2.2.1,h.len,λ_=>⟨rfl,(g1.2.2.2.2 hov).2⟩⟩
   split
   ·rename_i hk
    have g2:=ih r.n _ r.kn r.zD (by omega) (cO h g1.1 (E.ins s) i11.1 i11.2.1 hk) g1.2.2.1;exact⟨g2.1,g2.2.1.trans (g1.2.1.trans hK),g2.2.2⟩
   ·refine⟨λe=>(by cases e),g1.2.1.trans hK,g1.2.2.1,?_,λe=>(by cases e)⟩;show(yU s (E.ins s) r.st r.ok).1.length=44;unfold yU;split
    ·simp[g1.2.2.2.1]
    split
    ·simp[dS s r.st h.len g1.2.2.2.1]
    ·simp[h.len]
  rename_i o11
  split
  ·rename_i hk
   have hk':=hk;have g2:=ih n _ (E.zTN s kn zD) (E.zX s kn zD) (by omega) (wC hc h o2 o11 (by show(E.ins s).op≠13;omega) hk') hR;exact⟨g2.1,g2.2.1.trans hK,g2.2.2⟩
  ·exact⟨λe=>(by cases e),hK,hR,by show(vC E.t s (E.ins s)).1.length=44;rw[zFl,h.len],λe=>(by cases e)⟩
