import Derived.Test.YtebpgfodelggoabGreatKC33
set_option linter.unusedVariables false
set_option linter.unusedSimpArgs false
namespace Mt
def zHd(s:Sta):Prop:=∀k,k<10->(gt s (2+2*k)=-1/\gt s (2+(2*k+1))=-1)\/0<=gt s (2+2*k)
theorem zHd.of{s u:Sta}(h:zHd s)(e:∀k,k<10->(gt u (2+2*k)=gt s (2+2*k)/\gt u (2+(2*k+1))=gt s (2+(2*k+1)))\/0<=gt u (2+2*k)):zHd u:=λk hk=>by
 rcases e k hk with e1 | e1
 ·rw[e1.1,e1.2];exact h k hk
 ·exact .inr e1
theorem zHd.set{s:Sta}(h:zHd s)(i:Nat)(v:Int)(hi:i<2\/22<=i):zHd (s.set i v):=h.of λk hk=>.inl ⟨zW _ _ _ _ (by omega),zW _ _ _ _ (by omega)⟩
theorem zIs(p:Int):zHd (kZ p):=λk hk=>by
 left
 have key:∀j,j<20->gt (kZ p) (2+j)=-1:=λj hj=>by
  unfold gt kZ nowhere;rw[lH,show 2+j=j+1+1 by omega,List.getElem?_cons_succ,List.getElem?_cons_succ,List.getElem?_append_left (by simp;omega),List.getElem?_replicate,if_pos (by omega)];rfl
 exact⟨key _ (by omega),key _ (by omega)⟩
theorem zJg{L T:Nat}{t:ByteArray}{s:Sta}{x:zTG}(hg:Good L T s)(h:zHd s)(hx:x.op=6\/x.op=7\/x.op=8->0<=x.x/\x.x<10):zHd (vC t s x).1:=by
 unfold vC;by_cases o1:x.op=1
 ·rw[if_pos o1];exact(h.set 1 _ (by omega)).set 0 _ (by omega)
 rw[if_neg o1];by_cases o3:x.op=3
 ·rw[if_pos o3];exact h.set 0 _ (by omega)
 rw[if_neg o3];by_cases o4:x.op=4
 ·rw[if_pos o4];exact(h.set _ _ (by omega)).set 0 _ (by omega)
 rw[if_neg o4];by_cases o5:x.op=5
 ·rw[if_pos o5];exact h.set 0 _ (by omega)
 rw[if_neg o5];by_cases o6:x.op=6
 ·rw[if_pos o6];exact(h.set _ _ (by omega)).set 0 _ (by omega)
 rw[if_neg o6];by_cases o7:x.op=7
 ·rw[if_pos o7];have hi:=hx (.inr (.inl o7));refine zHd.set ?_ 0 _ (by omega);refine h.of λk hk=>?_
  have hl:=hg.len;by_cases e:k=x.x.toNat
  ·right;rw[zW _ _ _ _ (by omega),show 2+2*k=2+(2*x.x).toNat by omega,qX _ _ _ (by omega)];exact(hg.noted x.x.toNat (by omega)).1
  ·left;rw[zW _ _ _ _ (by omega),zW _ _ _ _ (by omega),zW _ _ _ _ (by omega),zW _ _ _ _ (by omega)];exact⟨rfl,rfl⟩
 rw[if_neg o7];by_cases o8:x.op=8
 ·rw[if_pos o8];unfold tZ;split
  ·exact h
  split
  ·exact h
  ·exact(h.set 1 _ (by omega)).set 0 _ (by omega)
 rw[if_neg o8];split
 ·exact h.set 0 _ (by omega)
 split
 ·exact h.set 0 _ (by omega)
 ·exact h.set 0 _ (by omega)
theorem zEZ{s r:Sta}{x:zTG}{ok:Bool}(hs:s.length=44)(hr:r.length=44)(h:zHd s)(h2:ok=true->zHd r)(hf:(yU s x r ok).2=true):zHd (yU s x r ok).1:=by
 unfold yU at hf |-;split
 ·rename_i a;rw[if_pos a]at hf;exact(h2 hf).set 0 _ (by omega)
 rename_i a
 rw[if_neg a]at hf;split
 ·rename_i b
  rw[if_pos b]at hf;refine zHd.set ?_ 0 _ (by omega);refine(h2 hf).of λk hk=>.inl ?_
  rw[nQ s r hs hr,if_pos (by omega),nQ s r hs hr,if_pos (by omega)];exact⟨rfl,rfl⟩
 ·exact h.set 0 _ (by omega)
theorem zJh(E:Env)(hc:codeOk E.c):∀(N n:Nat) (s:Sta) (kn:List Bool) (zD:Int),n<=N->Good E.c.length E.t.size s->0<=zD/\zD<=5000->zHd s->(qO E n s kn zD).ok=true->zHd (qO E n s kn zD).st
 | N,0,s,kn,zD,_,h,hr,_,ho=>by rw[wB]at ho;cases ho
 | 0,n+1,s,kn,zD,hn,_,_,_,_=>by omega
 | N+1,n+1,s,kn,zD,hn,h,hrm,hg,ho=>by
  have ih:=zJh E hc N;rw[fH]at ho |-;have hR:=E.tH s kn zD hrm;have hpc:((jX s:Nat):Int)=gt s 0:=by have:=h.pc0;unfold jX;omega
  have hi:=hc (jX s) h.bO;have hp0:=h.pc0;by_cases hd:E.dead s kn=true
  ·rw[if_pos hd]at ho;cases ho
  rw[if_neg hd]at ho |-;by_cases h13:(E.ins s).op=13\/(E.ins s).op=12
  ·rw[if_pos h13];exact hg
  rw[if_neg h13]at ho |-;have zQP:(E.c.getD (jX s) jY).op≠13:=λe=>h13 (.inl e)
  by_cases o2:(E.ins s).op=2
  ·rw[if_pos o2]at ho |-;have i2:=hi.1 o2;have g1:=vI E hc N n (s.set 0 (E.ins s).x) (E.zTN s kn zD) (E.zX s kn zD) (by omega) (h.fC _ i2.1 i2.2.1) hR;have n1:=tF E n (s.set 0 (E.ins s).x) (E.zTN s kn zD) (E.zX s kn zD);have k1:=ih n (s.set 0 (E.ins s).x) (E.zTN s kn zD) (E.zX s kn zD) (by omega) (h.fC _ i2.1 i2.2.1) hR (hg.set 0 _ (by omega));dsimp only at ho |-;generalize qO E n (s.set 0 (E.ins s).x) (E.zTN s kn zD) (E.zX s kn zD)=r at *;by_cases hro:(r.ok||r.qI)=true
   ·rw[if_pos hro]at ho |-;exact k1 ho
   ·rw[if_neg hro]at ho |-;exact ih r.n (s.set 0 (E.ins s).y) r.kn r.zD (by omega) (h.fC _ i2.2.2.1 i2.2.2.2) g1.2.2.1 (hg.set 0 _ (by omega)) ho
  rw[if_neg o2]at ho |-;by_cases o11:(E.ins s).op=11
  ·rw[if_pos o11]at ho |-;have i11:=hi.2.2.2.2.2.1 o11;have hn1:jX s+1<E.c.length:=hi.2.2.2.2.2.2.1 zQP;have gs:=h.fC (gt s 0+1) (by omega) (by omega);have g1:=vI E hc N n (s.set 0 (gt s 0+1)) (E.zTN s kn zD) (E.zX s kn zD) (by omega) gs hR;have n1:=tF E n (s.set 0 (gt s 0+1)) (E.zTN s kn zD) (E.zX s kn zD);have k1:=ih n (s.set 0 (gt s 0+1)) (E.zTN s kn zD) (E.zX s kn zD) (by omega) gs hR (hg.set 0 _ (by omega));dsimp only at ho |-;generalize qO E n (s.set 0 (gt s 0+1)) (E.zTN s kn zD) (E.zX s kn zD)=r at *;by_cases hov:r.qI=true
   ·rw[if_pos hov]at ho;cases ho
   rw[if_neg hov]at ho |-;by_cases hk:(yU s (E.ins s) r.st r.ok).2=true
   ·rw[if_pos hk]at ho |-;exact ih r.n _ r.kn r.zD (by omega) (cO h g1.1 (E.ins s) i11.1 i11.2.1 hk) g1.2.2.1 (zEZ h.len g1.2.2.2.1 hg k1 hk) ho
   ·rw[if_neg hk]at ho;cases ho
  rw[if_neg o11]at ho |-;by_cases hk:(vC E.t s (E.ins s)).2=true
  ·rw[if_pos hk]at ho |-;exact ih n _ _ _ (by omega) (wC hc h (t:=E.t) o2 o11 zQP hk) hR (zJg h hg (λe=>hi.2.2.2.2.1 e)) ho
  ·rw[if_neg hk]at ho;cases ho
theorem zPQ(t:ByteArray)(q:Sta)(x:zTG)(pc pos a b X:Nat)(ho:x.op=8)(hX:x.x=X)(h0:gt q 0=pc)(h1:gt q 1=pos)(ha:gt q (2+2*X)=a)(hb:gt q (2+(2*X+1))=b)(hab:a<=b)(hbt:b<=t.size)(dI:pos<=t.size) :
  (vC t q x).2=(if(t.size:Int)<pos+((b-a:Nat):Int)then false else zJf t pos a (b-a))/\((vC t q x).2=true->(vC t q x).1=(q.set 1 ((pos:Int)+((b-a:Nat):Int))).set 0 ((pc:Int)+1)):=by
 unfold vC;rw[if_neg (by omega),if_neg (by omega),if_neg (by omega),if_neg (by omega),if_neg (by omega),if_neg (by omega),if_pos ho];unfold tZ;have e1:(2*x.x).toNat=2*X:=by omega
 have e2:(2*x.x+1).toNat=2*X+1:=by omega
 rw[e1,e2,ha,hb,h0,h1,if_neg (by omega)];by_cases zTI:(t.size:Int)<pos+((b-a:Nat):Int)
 ·rw[if_pos (show(t.size:Int)<(pos:Int)+((b:Int)-(a:Int)) by omega),if_pos zTI];exact⟨rfl,λe=>by cases e⟩
 ·rw[if_neg (show ¬(t.size:Int)<(pos:Int)+((b:Int)-(a:Int)) by omega),if_neg zTI];refine⟨?_,λ_=>?_⟩
  ·dsimp only;rw[zHa t pos a (b-a) (by omega) (by omega)];simp only[Int.toNat_natCast];rw[show a+(b-a)=b by omega,show pos+b-a=pos+(b-a) by omega]
  ·dsimp only;rw[show(pos:Int)+(b:Int)-(a:Int)=(pos:Int)+((b-a:Nat):Int) by omega]
theorem zPR(t:ByteArray)(q:Sta)(x:zTG)(X:Nat)(ho:x.op=8)(hX:x.x=X)(ha:gt q (2+2*X)=-1):(vC t q x).2=false:=by
 unfold vC;rw[if_neg (by omega),if_neg (by omega),if_neg (by omega),if_neg (by omega),if_neg (by omega),if_neg (by omega),if_pos ho];unfold tZ;have e1:(2*x.x).toNat=2*X:=by omega
 rw[e1,ha,if_pos (by omega)]
