import Derived.Test.YtebpgfodelggoabGreatKC18
set_option linter.unusedVariables false
set_option linter.unusedSimpArgs false
namespace Mt
theorem zNI{c:List zTG}{t:ByteArray}{s:Sta}(h:Good c.length t.size s)(x:zTG)(hi:zHX c (jX s) x)(ok:(vC t s x).2=true):gt s 1<=gt (vC t s x).1 1:=by
 have hl:=h.len;have hx6:=hi.2.2.2.2.1;have key:∀(i:Nat) (v:Int),i≠1->gt (s.set i v) 1=gt s 1:=λi v hi=>zW _ _ _ _ hi
 unfold vC at ok |-;by_cases o1:x.op=1
 ·rw[if_pos o1];dsimp only;rw[zW _ _ _ _ (by omega),qX _ _ _ (by omega)];omega
 rw[if_neg o1]at ok |-;by_cases o3:x.op=3
 ·rw[if_pos o3];dsimp only;rw[key _ _ (by omega)];exact Int.le_refl _
 rw[if_neg o3]at ok |-;by_cases o4:x.op=4
 ·rw[if_pos o4];dsimp only;rw[zW _ _ _ _ (by omega),zW _ _ _ _ (by omega)];exact Int.le_refl _
 rw[if_neg o4]at ok |-;by_cases o5:x.op=5
 ·rw[if_pos o5];dsimp only;rw[key _ _ (by omega)];exact Int.le_refl _
 rw[if_neg o5]at ok |-;by_cases o6:x.op=6
 ·rw[if_pos o6];dsimp only;rw[zW _ _ _ _ (by omega),zW _ _ _ _ (by omega)];exact Int.le_refl _
 rw[if_neg o6]at ok |-;by_cases o7:x.op=7
 ·rw[if_pos o7];dsimp only;rw[zW _ _ _ _ (by omega),zW _ _ _ _ (by omega),zW _ _ _ _ (by omega)];exact Int.le_refl _
 rw[if_neg o7]at ok |-;by_cases o8:x.op=8
 ·rw[if_pos o8]at ok |-;have hk:=hx6 (.inr (.inr o8));have hpl:=h.place x.x.toNat (by omega);rw[show 2*x.x.toNat=(2*x.x).toNat by omega]at hpl;rw[show(2*x.x).toNat+1=(2*x.x+1).toNat by omega]at hpl;unfold tZ at ok |-;split
  ·exact Int.le_refl _
  split
  ·exact Int.le_refl _
  ·dsimp only;rw[zW _ _ _ _ (by omega),qX _ _ _ (by omega)];omega
 rw[if_neg o8]at ok |-;split
 ·dsimp only;rw[key _ _ (by omega)];exact Int.le_refl _
 split
 ·dsimp only;rw[key _ _ (by omega)];exact Int.le_refl _
 ·dsimp only;rw[key _ _ (by omega)];exact Int.le_refl _
theorem zIY(E:Env)(hc:codeOk E.c):∀(N n:Nat) (s:Sta) (kn:List Bool) (zD:Int),n<=N->Good E.c.length E.t.size s->0<=zD/\zD<=5000->(qO E n s kn zD).ok=true->gt s 1<=gt (qO E n s kn zD).st 1
 | N,0,s,kn,zD,_,h,hr,ok=>by rw[wB]at ok;cases ok
 | 0,n+1,s,kn,zD,hn,_,_,_=>by omega
 | N+1,n+1,s,kn,zD,hn,h,hr,ok=>by
  have ih:∀(n:Nat) (s:Sta) (kn:List Bool) (zD:Int),n<=N->Good E.c.length E.t.size s->0<=zD/\zD<=5000->(qO E n s kn zD).ok=true->gt s 1<=gt (qO E n s kn zD).st 1:=zIY E hc N;have hgood:=λ(m:Nat) (u:Sta) (k:List Bool) (r:Int) (hu:Good E.c.length E.t.size u) (hr':0<=r/\r<=5000)=>vI E hc m m u k r (lG _) hu hr'
  rw[fH]at ok |-;have hR:=E.tH s kn zD hr;have hi:=hc (jX s) h.bO;have hpc:((jX s:Nat):Int)=gt s 0:=by have:=h.pc0;unfold jX;omega
  have zRO:=h.pc0;by_cases hd:E.dead s kn=true
  ·rw[if_pos hd]at ok;cases ok
  rw[if_neg hd]at ok |-;by_cases h13:(E.ins s).op=13\/(E.ins s).op=12
  ·rw[if_pos h13];exact Int.le_refl _
  rw[if_neg h13]at ok |-;by_cases o2:(E.ins s).op=2
  ·rw[if_pos o2]at ok |-;have i2:=hi.1 o2;have g1:=h.fC (E.ins s).x i2.1 i2.2.1;have g2:=h.fC (E.ins s).y i2.2.2.1 i2.2.2.2;have p1:=ih n (s.set 0 (E.ins s).x) (E.zTN s kn zD) (E.zX s kn zD) (by omega) g1 hR;have q1:=hgood n (s.set 0 (E.ins s).x) (E.zTN s kn zD) (E.zX s kn zD) g1 hR;have n1:=tF E n (s.set 0 (E.ins s).x) (E.zTN s kn zD) (E.zX s kn zD);dsimp only at ok |-;generalize qO E n (s.set 0 (E.ins s).x) (E.zTN s kn zD) (E.zX s kn zD)=r at *;rw[zW _ _ _ _ (by omega)]at p1;split at ok
   ·rename_i hh;rw[if_pos hh];exact p1 ok
   ·rename_i hh;rw[if_neg hh]
    have:=ih r.n (s.set 0 (E.ins s).y) r.kn r.zD (by omega) g2 q1.2.2.1 ok;rw[zW _ _ _ _ (by omega)]at this;exact this
  rw[if_neg o2]at ok |-;by_cases o11:(E.ins s).op=11
  ·rw[if_pos o11]at ok |-;have i11:=hi.2.2.2.2.2.1 o11;have hnx:jX s+1<E.c.length:=hi.2.2.2.2.2.2.1 (by show(E.ins s).op≠13;omega);have g1:=h.fC (gt s 0+1) (by omega) (by omega);have p1:=ih n (s.set 0 (gt s 0+1)) (E.zTN s kn zD) (E.zX s kn zD) (by omega) g1 hR;have q1:=hgood n (s.set 0 (gt s 0+1)) (E.zTN s kn zD) (E.zX s kn zD) g1 hR;have n1:=tF E n (s.set 0 (gt s 0+1)) (E.zTN s kn zD) (E.zX s kn zD);dsimp only at ok |-;generalize qO E n (s.set 0 (gt s 0+1)) (E.zTN s kn zD) (E.zX s kn zD)=r at *;rw[zW _ _ _ _ (by omega)]at p1;split at ok
   ·cases ok
   rename_i hov
   rw[if_neg hov];split at ok
   ·rename_i hk
    rw[if_pos hk];have:=ih r.n _ r.kn r.zD (by omega) (cO h q1.1 (E.ins s) i11.1 i11.2.1 hk) q1.2.2.1 ok;refine Int.le_trans ?_ this;unfold yU at hk |-;by_cases x0:(E.ins s).x=0
    ·rw[if_pos x0]at hk |-;dsimp only at hk |-;rw[zW _ _ _ _ (by omega)];exact p1 hk
    rw[if_neg x0]at hk |-;by_cases x1:(E.ins s).x=1
    ·rw[if_pos x1]at hk |-;dsimp only at hk |-;rw[zW _ _ _ _ (by omega),nQ s r.st h.len (q1.1 hk).len,if_neg (by omega)];exact Int.le_refl _
    rw[if_neg x1];dsimp only;rw[zW _ _ _ _ (by omega)];exact Int.le_refl _
   ·cases ok
  rw[if_neg o11]at ok |-;split at ok
  ·rename_i hk
   rw[if_pos hk];have hg:=wC hc h o2 o11 (by show(E.ins s).op≠13;omega) hk;have:=ih n _ (E.zTN s kn zD) (E.zX s kn zD) (by omega) hg hR ok;exact Int.le_trans (zNI h (E.ins s) hi hk) this
  ·cases ok
theorem zBM(E:Env)(hc:codeOk E.c)(hc0:0<E.c.length)(zA:Int):∀(f p n:Nat) (kn:List Bool) (zD:Int),p+f<=E.t.size+1->(0<=zD/\zD<=5000)->(n:Int)<=zA->(search E zA f p n kn zD).2=false ->
  (0<=(search E zA f p n kn zD).1.steps/\(search E zA f p n kn zD).1.steps<=zA)/\((search E zA f p n kn zD).1.ok=true->∃a b:Nat,(search E zA f p n kn zD).1.at'.getD 0 0=(a:Int)/\(search E zA f p n kn zD).1.at'.getD 1 0=(b:Int)/\p<=a/\a<=b/\b<=E.t.size)
 | 0,p,n,kn,zD,_,_,hn,_=>by
  simp only[search];exact⟨by omega,λh=>by cases h⟩
 | f+1,p,n,kn,zD,hp,hr,hn,ho=>by
  have zTJ:=dL E.c.length E.t.size p hc0 (by omega);have hg:=vI E hc n n (kZ p) kn zD (lG _) zTJ hr;have dI:=zIY E hc n n (kZ p) kn zD (lG _) zTJ hr;have hln:=tF E n (kZ p) kn zD;rw[search]at ho |-;generalize qO E n (kZ p) kn zD=r at *;by_cases hov:r.qI=true
  ·rw[if_pos hov]at ho;cases ho
  rw[if_neg hov]at ho |-;by_cases hok:r.ok=true
  ·rw[if_pos hok];have h1:=dI hok;have h2:=(hg.1 hok).pos1;have e1:gt (kZ p) 1=p:=rfl;rw[e1]at h1;refine⟨by dsimp only;omega,λ_=>⟨p,(gt r.st 1).toNat,rfl,?_,lG _,by omega,by omega⟩⟩;show gt r.st 1=_;omega
  ·rw[if_neg hok]at ho |-;obtain⟨h1,h2⟩:=zBM E hc hc0 zA f (p+1) r.n r.kn r.zD (by omega) hg.2.2.1 (by omega) ho;refine⟨h1,λh=>?_⟩;obtain⟨a,b,x1,x2,x3,x4,x5⟩:=h2 h;exact⟨a,b,x1,x2,by omega,x4,x5⟩
def vO(f:Fnd):Nat:=if f.at'.getD 0 0=f.at'.getD 1 0 then(f.at'.getD 1 0).toNat+1 else(f.at'.getD 1 0).toNat
def xO(c:List zTG)(zK:ByteArray)(zB zI zD zA:Int):Nat->Nat->Int->List Fnd->List Fnd × Int × Int
 | 0,_,qE,l=>(l,qE,0)
 | F+1,zTE,qE,l =>
  if zK.size<zTE then(l,qE,0)
  else if(kP c zK zB zI zD (zA-qE) zTE).2 then([],0,14)
  else if(kP c zK zB zI zD (zA-qE) zTE).1.ok=false then(l,qE+(kP c zK zB zI zD (zA-qE) zTE).1.steps,0)
  else xO c zK zB zI zD zA F (vO (kP c zK zB zI zD (zA-qE) zTE).1) (qE+(kP c zK zB zI zD (zA-qE) zTE).1.steps) (l++[(kP c zK zB zI zD (zA-qE) zTE).1])
def qL(p zK:ByteArray)(zB zI zD zA:Int):List Fnd × Int × Int :=
 if(kC p).2≠0 then([],0,(kC p).2)
 else if xW zK.size 0 zB zI zD zA≠0 then([],0,xW zK.size 0 zB zI zD zA)
 else xO (kC p).1 zK zB zI zD zA (zK.size+2) 0 0 []
