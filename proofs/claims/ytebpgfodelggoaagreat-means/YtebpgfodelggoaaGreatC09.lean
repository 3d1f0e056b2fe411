import Derived.Test.YtebpgfodelggoaaGreatC08
set_option linter.all false
namespace Mt
structure Inside (T:Nat) (jK:Nat) (f:Hz):Prop where
 len:f.at'.length=20
 zFk:1<=f.steps
 zFl:f.steps<=10000
 place:∀i,i<10->(f.at'.getD (2*i) 0=-1/\f.at'.getD (2*i+1) 0=-1)\/(f.ok=true/\0<=f.at'.getD (2*i) 0/\f.at'.getD (2*i) 0<=f.at'.getD (2*i+1) 0/\f.at'.getD (2*i+1) 0<=T)
 yes:f.ok=true->(jK:Int)<=f.at'.getD 0 0/\f.at'.getD 0 0-jK+1<=f.steps
 no:f.ok=false->(T:Int)-jK+1<=f.steps
 all:f.ok=false->∀j,j<20->f.at'.getD j 0=-1
theorem NS p:(jA p).2=(qW p).1:=by
 unfold jA;split
 ·rfl
 ·rename_i x;simp at x;simp[x]
theorem NT(p t)(jK I G zA h)(j:(qW p).1≠0):pI p t jK I G zA h=(yD,(qW p).1):=by
 unfold pI;rw[NS,lG j]
variable {E:Env} {A:Int->fO}
theorem bq E:Idle E [] 0:=λs=>by
 unfold Env.dead Env.qK Env.zG yV qB;refine⟨?_,?_,?_⟩ <;> simp
theorem NW(E:Env) kn s:E.qK s kn 0=kn/\E.zG s kn 0=0:=by
 unfold Env.qK Env.zG yV qB;refine⟨?_,?_⟩ <;> simp
theorem Ia{s kn} zA(h:E.dead s kn=true):E.qK s kn zA=kn/\E.zG s kn zA=zA/\E.isIn s=true/\kn.getD (E.key s) false=true:=by
 unfold Env.dead at h;by_cases j:E.isIn s=true
 ·rw[lG j]at h;unfold Env.qK Env.zG yV qB;rw[lG j,lG j,lG h,lG h];exact⟨rfl,rfl,j,h⟩
 ·rw[lC j]at h;cases h
theorem Wu{s kn zA G}(h:(E.qK s kn zA).getD G false=true):kn.getD G false=true\/(E.isIn s=true/\G=E.key s):=by
 unfold Env.qK yV at h;by_cases j:E.isIn s=true
 ·rw[lG j]at h;split at h
  ·exact .inl h
  split at h
  ·rw[Cb]at h;split at h
   ·rename_i e;exact .inr ⟨j,e.1.symm⟩
   ·exact .inl h
  ·exact .inl h
 ·rw[lC j]at h;exact .inl h
theorem zCR{s kn zA j}(h:kn.getD j false=true):(E.qK s kn zA).getD j false=true:=by
 unfold Env.qK yV;split
 ·split
  ·exact h
  split
  ·rw[Cb];split
   ·rfl
   ·exact h
  ·exact h
 ·exact h
def Fail(E:Env)(s:qL):Prop:=∃n,(zS E n s [] 0).kI=false/\(zS E n s [] 0).ok=false
def Fy(E:Env)(A:Int->fO)(kn:List Bool)(s:qL):Prop:=∀u,mG E A u->E.isIn u=true->kn.getD (E.key u) false=true->Fail E u\/mu E A s<mu E A u
def Adds(E:Env)(A:Int->fO)(kn kn2:List Bool):Prop:=∀u,mG E A u->E.isIn u=true->kn2.getD (E.key u) false=true->kn.getD (E.key u) false=true\/Fail E u
def Rel(kn1:List Bool)(Br:Int)(kn2:List Bool)(zE3:Int):Prop:=(kn1=kn2/\0<Br/\Br<=zE3)\/(Br=0/\∀i,kn1.getD i false=true->kn2.getD i false=true)
structure Hy (E:Env) (A:Int->fO):Prop where
 k:Kn E.c A
 ar:∀p,p<E.c.length->E.ar.getD p 0=jY E.c p
 qU:∀s,Good E.c.length E.t.size s->E.isIn s=true->(A (gt s 0)).y=0
 nb:∀s,E.isIn s=true->∀q,q<E.c.length->(E.c.getD q kC).op≠8
theorem Adds.refl kn:Adds E A kn kn:=λu _ _ h=>.inl h
theorem Adds.trans{a b c}(I:Adds E A a b)(J:Adds E A b c):Adds E A a c:=λu G j h=>by
 rcases J u G j h with h | h
 ·exact I u G j h
 ·exact .inr h
theorem Fy.adds{kn I s}(J:Fy E A kn s)(O:Adds E A kn I):Fy E A I s:=λu G j h=>by
 rcases O u G j h with h | h
 ·exact J u G j h
 ·exact .inl h
theorem Fy.step(G:Hy E A){kn zA s u}(O:mG E A s)(I:Fy E A kn s)(U:mu E A u<mu E A s):Fy E A (E.qK s kn zA) u:=λv j J h=>by
 rcases Wu h with h | ⟨_,e⟩
 ·rcases I v j J h with a | a
  ·exact .inl a
  ·exact .inr (by omega)
 ·have:=(NV G.k G.ar O j e).2;exact .inr (by omega)
theorem Uu(h:Hy E A){s u}(j:mG E A s)(G:mG E A u)(U:E.isIn s=true)(e:E.key u=E.key s)(I:Fail E s):Fail E u:=by
 obtain⟨n,J,O⟩:=I;obtain⟨a,b,_⟩:=Li h.k [] (bq E) (h.nb s U) n n s u (lF _) j G (NV h.k h.ar j G e).1;exact⟨n,by rw[b];exact J,by rw[a];exact O⟩
theorem cu(O:Hy E A){kn zA s}(I:mG E A s)(j:Fail E s):Adds E A kn (E.qK s kn zA):=λu J U h=>by
 rcases Wu h with h | ⟨G,e⟩
 ·exact .inl h
 ·exact .inr (Uu O I J G e j)
theorem Rel.step{G I J O s}(j:Rel G J I O)(U:E.dead s G=false)(a1:E.dead s I=false):Rel (E.qK s G J) (E.zG s G J) (E.qK s I O) (E.zG s I O):=by
 rcases j with ⟨rfl,W,a0⟩ | ⟨rfl,j⟩
 ·by_cases h:E.isIn s=true
  ·unfold Env.dead at U;rw[lG h]at U;unfold Env.qK Env.zG yV qB;simp only[h,U,wS,sH,wX,lG W,lG (show 0<O by omega)];by_cases e:J=1
   ·exact .inr ⟨by omega,λi j=>j⟩
   ·exact .inl ⟨rfl,by omega,by omega⟩
  ·unfold Env.qK Env.zG;rw[lC h,lC h,lC h,lC h];exact .inl ⟨rfl,W,a0⟩
 ·obtain⟨Y,Z⟩:=NW E G s;rw[Y,Z];exact .inr ⟨rfl,λi h=>zCR (j i h)⟩
theorem Al(G:List Bool->Int->Prop)(Y:∀s kn zA,G kn zA->G (E.qK s kn zA) (E.zG s kn zA)):∀(N n) (s) (kn) (zA),n<=N->G kn zA->G (zS E n s kn zA).kn (zS E n s kn zA).zA
 | N,0,s,kn,zA,_,h=>h
 | 0,n+1,s,kn,zA,hn,_=>by omega
 | N+1,n+1,s,kn,zA,hn,h=>by
  have O:=Al G Y N;have j:=Y s kn zA h;cases I:E.dead s kn with
  | true=>rw[Lh I];exact j
  | false =>
  by_cases U:(E.ins s).op=13\/(E.ins s).op=12
  ·rw[Dz I U];exact j
  by_cases a0:(E.ins s).op=2
  ·obtain⟨r,J⟩:∃r,r=zS E n (s.set 0 (E.ins s).x) (E.qK s kn zA) (E.zG s kn zA):=⟨_,rfl⟩
   have W:=xE E n (s.set 0 (E.ins s).x) (E.qK s kn zA) (E.zG s kn zA);have k1:=O n (s.set 0 (E.ins s).x) _ _ (by omega) j;rw[<-J]at W k1;rw[Cc I a0 J];split
   ·exact k1
   ·exact O _ _ _ _ (by omega) k1
  by_cases Z:(E.ins s).op=11
  ·obtain⟨r,J⟩:∃r,r=zS E n (s.set 0 (gt s 0+1)) (E.qK s kn zA) (E.zG s kn zA):=⟨_,rfl⟩
   have W:=xE E n (s.set 0 (gt s 0+1)) (E.qK s kn zA) (E.zG s kn zA);have k1:=O n (s.set 0 (gt s 0+1)) _ _ (by omega) j;rw[<-J]at W k1;rw[xk I Z J];split
   ·exact k1
   split
   ·exact O _ _ _ _ (by omega) k1
   ·exact k1
  rw[Ce I a0 Z (λe=>U (.inr e)) (λe=>U (.inl e))];split
  ·exact O _ _ _ _ (by omega) j
  ·exact j
theorem apart_eq s x a b ok(h:ok=true->b=a):(jG s x b ok).2=(jG s x a ok).2/\((jG s x a ok).2=true->(jG s x b ok).1=(jG s x a ok).1):=by
 unfold jG;split
 ·exact⟨rfl,λe=>by rw[h e]⟩
 split
 ·exact⟨rfl,λe=>by rw[h e]⟩
 ·exact⟨rfl,λ_=>rfl⟩
def Uv(zA:Int):Prop:=0<=zA/\zA<=5000
theorem Lj(O:Hy E A)(a8:List Bool->Int->Prop)(d4:∀s kn zA,a8 kn zA->a8 (E.qK s kn zA) (E.zG s kn zA))
  (hF:∀n s kn zA,a8 kn zA->Uv zA->mG E A s->Fy E A kn s->Fail E s->(zS E n s kn zA).kI=false->(zS E n s kn zA).ok=false)
  (f1:∀n s kn zA,a8 kn zA->Uv zA->mG E A s->Fy E A kn s->(zS E n s kn zA).kI=false->(zS E n s kn zA).ok=false->Fail E s):
  ∀(N G U) (s) (h) (j) (I) (J),G<=N->G<=U->mG E A s->Uv j->Uv J->a8 h j->Fy E A h s->Fy E A I s->Rel h j I J->(zS E G s h j).kI=false->
  (zS E U s I J).kI=false/\(zS E U s I J).ok=(zS E G s h j).ok/\((zS E G s h j).ok=true->(zS E U s I J).st=(zS E G s h j).st)/\U+(zS E G s h j).n<=G+(zS E U s I J).n/\
  ((zS E G s h j).ok=false->Rel (zS E G s h j).kn (zS E G s h j).zA (zS E U s I J).kn (zS E U s I J).zA/\Adds E A h (zS E G s h j).kn/\Adds E A I (zS E U s I J).kn)
 | N,0,U,s,h,j,I,J,_,_,_,_,_,_,_,_,_,ho=>by rw[mF]at ho;cases ho
 | 0,G+1,U,s,h,j,I,J,hn,_,_,_,_,_,_,_,_,_=>by omega
 | N+1,G+1,0,s,h,j,I,J,_,hn,_,_,_,_,_,_,_,_=>by omega
 | N+1,G+1,U+1,s,h,j,I,J,hn,hnn,hs,hr1,b9,hp,k1,k2,hR,ho=>by
  have c0:=Lj O a8 d4 hF f1 N;have a1:=O.k;have b6:=d4 s h j hp;have a4:=E.nX s h j hr1;have b1:=E.nX s I J b9;have W:(zS E (G+1) s h j).ok=false->Fail E s:=f1 _ _ _ _ hp hr1 hs k1 ho;cases a5:E.dead s h with
  | true =>
   obtain⟨f8,f9,g0,e5⟩:=Ia j a5
   have Z:E.dead s I=true:=by
    unfold Env.dead;rw[lG g0];rcases hR with ⟨rfl,_⟩ | ⟨_,a3⟩
    ·exact e5
    ·exact a3 _ e5
   obtain⟨d2,d3,e6,e7⟩:=Ia J Z;rw[Lh a5,Lh Z,f8,f9,d2,d3];exact⟨rfl,rfl,λe=>(by cases e),by dsimp only;omega,λ_=>⟨hR,Adds.refl _,Adds.refl _⟩⟩
  | false =>
  cases Z:E.dead s I with
  | true =>
   obtain⟨d2,d3,e6,e7⟩:=Ia J Z
   have g1:Fail E s:=by
    rcases k2 s hs e6 e7 with a3 | a3
    ·exact a3
    ·omega
   have c8:=hF _ _ _ _ hp hr1 hs k1 g1 ho
   have f3:j=0/\∀i,h.getD i false=true->I.getD i false=true:=by
    rcases hR with ⟨rfl,_⟩ | a3
    ·rw[a5]at Z;cases Z
    ·exact a3
   have f2:=Al (E:=E) (λkn zA=>kn=h/\zA=0) (λs kn zA a3=>by rw[a3.1,a3.2];exact NW E h s) (G+1) (G+1) s h j (lF _) ⟨rfl,f3.1⟩;have g8:=Xy E G s h j;rw[Lh Z,d2,d3,f2.1,f2.2,c8];exact⟨rfl,rfl,λe=>(by cases e),by dsimp only;omega,λ_=>⟨.inr ⟨rfl,f3.2⟩,Adds.refl _,Adds.refl _⟩⟩
  | false =>
  have b0:=hR.step a5 Z;by_cases c7:(E.ins s).op=13\/(E.ins s).op=12
  ·rw[Dz a5 c7,Dz Z c7];exact⟨rfl,rfl,λ_=>rfl,by dsimp only;omega,λe=>by cases e⟩
  by_cases b3:(E.ins s).op=2
  ·obtain⟨⟨a2,c4,e2⟩,⟨c5,b4,d1⟩⟩:=zn a1 hs b3;obtain⟨r,b8⟩:∃r,r=zS E G (s.set 0 (E.ins s).x) (E.qK s h j) (E.zG s h j):=⟨_,rfl⟩
   obtain⟨q,b7⟩:∃q,q=zS E U (s.set 0 (E.ins s).x) (E.qK s I J) (E.zG s I J):=⟨_,rfl⟩
   have d7:=xE E G (s.set 0 (E.ins s).x) (E.qK s h j) (E.zG s h j);have b5:=(yK E a1.k.ok N G _ (E.qK s h j) (E.zG s h j) (by omega) a2.g a4).2.2.1;have f0:=(yK E a1.k.ok U U _ (E.qK s I J) (E.zG s I J) (by omega) a2.g b1).2.2.1;have e8:=Al a8 d4 G G (s.set 0 (E.ins s).x) _ _ (lF _) b6;have a6:=c0 G U (s.set 0 (E.ins s).x) (E.qK s h j) (E.zG s h j) (E.qK s I J) (E.zG s I J) (by omega) (by omega) a2 a4 b1 b6 (k1.step O hs c4) (k2.step O hs c4) b0;rw[Cc a5 b3 b8]at ho W |-;rw[Cc Z b3 b7];rw[<-b8]at d7 b5 e8 a6;rw[<-b7]at f0 a6;by_cases c9:(r.ok||r.kI)=true
   ·rw[lG c9]at ho W |-;obtain⟨c1,b2,d0,f4,d6⟩:=a6 ho;have c8:r.ok=true:=by simpa[ho]using c9
    rw[lG (by rw[b2,c8];rfl)];exact⟨c1,b2,d0,by omega,λe=>by rw[c8]at e;cases e⟩
   ·rw[lC c9]at ho W |-;have b9:r.ok=false/\r.kI=false:=by simpa using c9
    obtain⟨c1,b2,d0,f4,d6⟩:=a6 b9.2;obtain⟨g5,f5,f6⟩:=d6 b9.1;rw[lC (by rw[b2,c1,b9.1];simp)];have k:=c0 r.n q.n (s.set 0 (E.ins s).y) r.kn r.zA q.kn q.zA (by omega) (by omega) c5 b5 f0 e8 ((k1.step O hs b4).adds f5) ((k2.step O hs b4).adds f6) g5 ho;obtain⟨c6,a9,e4,g7,f7⟩:=k;refine⟨c6,a9,e4,by omega,λe=>?_⟩;obtain⟨w1,c2,c3⟩:=f7 e;have Y:=W e;exact⟨w1,((cu O hs Y).trans f5).trans c2,((cu O hs Y).trans f6).trans c3⟩
  by_cases a7:(E.ins s).op=11
  ·obtain⟨a2,c4,e2,g9⟩:=Ev a1 hs a7;obtain⟨r,b8⟩:∃r,r=zS E G (s.set 0 (gt s 0+1)) (E.qK s h j) (E.zG s h j):=⟨_,rfl⟩
   obtain⟨q,b7⟩:∃q,q=zS E U (s.set 0 (gt s 0+1)) (E.qK s I J) (E.zG s I J):=⟨_,rfl⟩
   have d7:=xE E G (s.set 0 (gt s 0+1)) (E.qK s h j) (E.zG s h j);have b5:=yK E a1.k.ok N G _ (E.qK s h j) (E.zG s h j) (by omega) a2.g a4;have e9:=DC a1 G G _ (E.qK s h j) (E.zG s h j) (by omega) a2 a4;have s1:=Gi a1 (n:=G) (kn:=E.qK s h j) hs a7 a4;have e0:=Fx a1 O.qU G G _ (E.qK s h j) (E.zG s h j) (by omega) a2 a4 (by rw[e2];omega);have e1:=Fx a1 O.qU U U _ (E.qK s I J) (E.zG s I J) (by omega) a2 b1 (by rw[e2];omega);have a6:=c0 G U (s.set 0 (gt s 0+1)) (E.qK s h j) (E.zG s h j) (E.qK s I J) (E.zG s I J) (by omega) (by omega) a2 a4 b1 b6 (k1.step O hs c4) (k2.step O hs c4) b0;rw[xk a5 a7 b8]at ho W |-;rw[xk Z a7 b7];rw[<-b8]at d7 b5 e9 s1 e0 a6;rw[<-b7]at e1 a6;by_cases d5:r.kI=true
   ·rw[lG d5]at ho;cases ho
   rw[lC d5]at ho W |-;have g2:r.kI=false:=by simpa using d5
   obtain⟨c1,b2,d0,f4,d6⟩:=a6 g2;rw[lC (by rw[c1];simp),b2];obtain⟨g3,g4⟩:=apart_eq s (E.ins s) r.st q.st r.ok d0;rw[g3];rw[e0.1,e0.2]at ho W |-;rw[e1.1,e1.2];by_cases a0:(jG s (E.ins s) r.st r.ok).2=true
   ·rw[lG a0]at ho W |-;rw[lG a0,g4 a0];obtain⟨c6,a9,e4⟩:=Dy a1 hs a7 b5.2.2.2.1 (λe=>⟨(zo a2).trans (e9 e),s1 e⟩) a0;have k:=c0 r.n q.n _ (E.qK s h j) (E.zG s h j) (E.qK s I J) (E.zG s I J) (by omega) (by omega) c6.1 a4 b1 b6 (k1.step O hs a9) (k2.step O hs a9) b0 ho;obtain⟨c5,b4,d1,g6,e3⟩:=k;refine⟨c5,b4,d1,by omega,λe=>?_⟩;obtain⟨w1,c2,c3⟩:=e3 e;have Y:=W e;exact⟨w1,(cu O hs Y).trans c2,(cu O hs Y).trans c3⟩
   ·rw[lC a0]at ho W |-;rw[lC a0];have Y:=W rfl;exact⟨rfl,rfl,λe=>(by cases e),by dsimp only;omega,λ_=>⟨b0,cu O hs Y,cu O hs Y⟩⟩
  have d8:(E.ins s).op≠12:=λe=>c7 (.inr e)
  have d9:(E.ins s).op≠13:=λe=>c7 (.inl e)
  rw[Ce a5 b3 a7 d8 d9]at ho W |-;rw[Ce Z b3 a7 d8 d9];by_cases a0:(kW E.t s (E.ins s)).2=true
  ·rw[lG a0]at ho W |-;rw[lG a0];obtain⟨⟨c6,a9,e4,g7⟩,f7⟩:=Dx a1 hs b3 a7 d8 d9 a0;obtain⟨c5,b4,d1,g6,e3⟩:=c0 G U _ (E.qK s h j) (E.zG s h j) (E.qK s I J) (E.zG s I J) (by omega) (by omega) c6 a4 b1 b6 (k1.step O hs a9) (k2.step O hs a9) b0 ho;refine⟨c5,b4,d1,by omega,λe=>?_⟩;obtain⟨w1,c2,c3⟩:=e3 e;have Y:=W e;exact⟨w1,(cu O hs Y).trans c2,(cu O hs Y).trans c3⟩
  ·rw[lC a0]at ho W |-;rw[lC a0];have Y:=W rfl;exact⟨rfl,rfl,λe=>(by cases e),by dsimp only;omega,λ_=>⟨b0,cu O hs Y,cu O hs Y⟩⟩
end Mt
namespace Mt
variable {E:Env} {A:Int->fO}
theorem zCS kn zA:Rel [] 0 kn zA:=.inr ⟨rfl,λi h=>by simp at h⟩
theorem zFn:Uv 0:=by unfold Uv;omega
def zAy(kn:List Bool)(zA:Int):Prop:=kn=[]/\zA=0
theorem zEg s kn zA(h:zAy kn zA):zAy (E.qK s kn zA) (E.zG s kn zA):=by
 obtain⟨rfl,rfl⟩:=h;exact⟨(bq E s).2.1,(bq E s).2.2⟩
theorem XH{n m}{s}{kn}{zA}(h:(zS E n s kn zA).kI=false)(j:(zS E m s kn zA).kI=false):(zS E n s kn zA).ok=(zS E m s kn zA).ok:=by
 have a:=Es E m n n s kn zA (lF _) h;have b:=Es E n m m s kn zA (lF _) j;rw[wD m n,a]at b;injection b
theorem zE4(n)(s)(kn)(zA)(J:zAy kn zA)(_:Uv zA)(_:mG E A s)(_:Fy E A kn s)(G:Fail E s)(I:(zS E n s kn zA).kI=false):(zS E n s kn zA).ok=false:=by
 obtain⟨rfl,rfl⟩:=J;obtain⟨m,h,j⟩:=G;rw[XH I h];exact j
theorem zE5(n)(s)(kn)(zA)(G:zAy kn zA)(_:Uv zA)(_:mG E A s)(_:Fy E A kn s)(j:(zS E n s kn zA).kI=false)(h:(zS E n s kn zA).ok=false):Fail E s:=by
 obtain⟨rfl,rfl⟩:=G;exact⟨n,j,h⟩
def KF(E:Env)(A:Int->fO)(kn:List Bool):Prop:=∀u,mG E A u->E.isIn u=true->kn.getD (E.key u) false=true->Fail E u
theorem KF.inv{kn}(h:KF E A kn) s:Fy E A kn s:=λu I j G=>.inl (h u I j G)
theorem KF.adds{kn I}(J:KF E A kn)(O:Adds E A kn I):KF E A I:=λu G j h=>by
 rcases O u G j h with h | h
 ·exact J u G j h
 ·exact h
theorem zEh n:KF E A (List.replicate n false):=λu _ _ h=>by
 rw[lH,oJ]at h;split at h <;> simp at h
theorem Uw(j:Kn E.c A) p(I:p<=E.t.size):mG E A (kL p):=by
 have G:gt (kL p) 0=0:=rfl;refine⟨ku _ _ p j.k.pos I,λJ h=>?_,λi J O h=>?_⟩
 ·rw[G,j.k.start]at h;dsimp only at h;omega
 ·rw[G,j.k.start]at h;dsimp only at h;omega
theorem Gj(a0:Hy E A)(U:List Bool->Int->Prop)(a1:∀s kn zA,U kn zA->U (E.qK s kn zA) (E.zG s kn zA))
  (hF:∀n s kn zA,U kn zA->Uv zA->mG E A s->Fy E A kn s->Fail E s->(zS E n s kn zA).kI=false->(zS E n s kn zA).ok=false)
  (a4:∀n s kn zA,U kn zA->Uv zA->mG E A s->Fy E A kn s->(zS E n s kn zA).kI=false->(zS E n s kn zA).ok=false->Fail E s) (W Y):
  ∀(f p h I) (j) (G) (J) (O),p+f<=E.t.size+1->h<=I->Uv G->Uv O->U j G->KF E A j->KF E A J->Rel j G J O->(search E W f p h j G).2=false->
  (search E Y f p I J O).2=false/\(search E Y f p I J O).1.ok=(search E W f p h j G).1.ok/\(search E Y f p I J O).1.at'=(search E W f p h j G).1.at'/\(search E Y f p I J O).1.steps+I-Y<=(search E W f p h j G).1.steps+h-W
 | 0,p,h,I,j,G,J,O,_,hn,_,_,_,_,_,_,_=>by
  simp only[search];exact⟨trivial,trivial,trivial,by omega⟩
 | f+1,p,h,I,j,G,J,O,hpf,hn,hr1,hr2,hp,k1,k2,hR,ho=>by
  have a3:=Uw (E:=E) a0.k p (by omega);have b1:=Lj a0 U a1 hF a4 h h I (kL p) j G J O (lF _) hn a3 hr1 hr2 hp (k1.inv _) (k2.inv _) hR;have a7:=(yK E a0.k.k.ok h h (kL p) j G (lF _) a3.g hr1).2.2.1;have a8:=(yK E a0.k.k.ok I I (kL p) J O (lF _) a3.g hr2).2.2.1;have a6:=Al U a1 h h (kL p) j G (lF _) hp;have c2:=xE E h (kL p) j G;have c3:=xE E I (kL p) J O;rw[search]at ho |-;rw[search];generalize zS E h (kL p) j G=r at *;generalize zS E I (kL p) J O=q at *;by_cases a2:r.kI=true
  ·rw[lG a2]at ho;cases ho
  have b0:r.kI=false:=by simpa using a2
  obtain⟨b2,a5,b3,c1,b4⟩:=b1 b0;rw[lC a2]at ho |-;rw[lC (by rw[b2];simp)];by_cases Z:r.ok=true
  ·rw[lG Z,lG (by rw[a5];exact Z),b3 Z];refine⟨rfl,rfl,rfl,?_⟩;dsimp only;omega
  ·have a9:r.ok=false:=by simpa using Z
   obtain⟨b5,b6,b7⟩:=b4 a9;rw[lC Z]at ho |-;rw[lC (by rw[a5];exact Z)];obtain⟨b8,b9,c0,c4⟩:=Gj a0 U a1 hF a4 W Y f (p+1) r.n q.n r.kn r.zA q.kn q.zA (by omega) (by omega) a7 a8 a6 (k1.adds b6) (k2.adds b7) b5 ho;exact⟨b8,b9,c0,by omega⟩
theorem zEi{c A}(Y:Kn c A) t W U:Hy (uh c t W U) A:=by
 have key:∀q,q<c.length->(qO c W U).getD q false=true->tO c=false/\vw c q=false:=λq G h=>by
  unfold qO at h;by_cases j:tO c=true
  ·rw[lG j,lH,oJ]at h;split at h <;> simp at h
  ·rw[lC j,lH,gN,sF G]at h;refine⟨by simpa using j,?_⟩;simp only[Option.map_some,uS]at h;unfold kg at h;cases e:vw c q
   ·rfl
   ·rw[e]at h;simp at h
 have out:∀q,(qO c W U).getD q false=true->q<c.length:=λq h=>by
  apply wP;intro G;rw[lH,gQ (by rw[KU];omega)]at h;simp at h
 refine⟨Y,λp O=>?_,λs J I=>?_,λs I q G=>?_⟩
 ·have O:p<c.length:=O;show((List.range c.length).map λp=>(jY c p:Int)).getD p 0=_;rw[lH,gN,sF O];rfl
 ·have Z:((zX s:Nat):Int)=gt s 0:=by have:=J.Ai;unfold zX;omega
  rw[<-Z];exact Y.zFm _ J.yS (key _ J.yS I).2
 ·have j:=(key _ (out _ I) I).1;unfold tO at j;rw[List.any_eq_false]at j;have G:q<c.length:=G;intro e;have e:=e;refine j (c.getD q kC) ?_ (by rw[gM];exact e);rw[lH,lN G];exact uK G
theorem RL{c}{A}(U:Kn c A)(t)(G j zA h)(jK n)(a3:jK<=t.size+1)(Z:Uv zA)(a2:0<=h)(Y:(search (uh c t G j) 0 (t.size+1-jK) jK n [] 0).2=false)(I:(xB c t G j zA h jK).2=false):
  (xB c t G j zA h jK).1.ok=(search (uh c t G j) 0 (t.size+1-jK) jK n [] 0).1.ok/\(xB c t G j zA h jK).1.at'=(search (uh c t G j) 0 (t.size+1-jK) jK n [] 0).1.at':=by
 unfold xB at I |-;have W:=Jk _ h n _ _ _ _ _ I;obtain⟨a0,J,O,a1⟩:=Gj (zEi U t G j) zAy zEg zE4 zE5 0 (h+n) (t.size+1-jK) jK n (h.toNat+n) [] 0 (List.replicate (c.length*(t.size+1)*12) false) zA (by show jK+(t.size+1-jK)<=t.size+1;omega) (by omega) zFn Z ⟨rfl,rfl⟩ (λu _ _ I=>by simp at I) (zEh _) (zCS _ _) Y;rw[W]at J O;exact⟨J,O⟩
end Mt
namespace Mt
variable {E:Env} {s u:qL} {r:Option qL} {k k1 k2:Nat}
def Gives(E:Env)(s:qL)(r:Option qL)(k:Nat):Prop:=
 ∃u,(∀v,r=some v->u=v)/\∀m,zS E (m+k) s [] 0=⟨u,r.isSome,m,[],0,false⟩
theorem Ux(h:(E.ins s).op=13\/(E.ins s).op=12):Gives E s (some s) 1:=by
 obtain⟨d,k,r⟩:=bq E s;refine⟨s,λv e=>by injection e,λm=>?_⟩;rw[Dz d h,k,r];rfl
theorem XI(I:(E.ins s).op≠2)(h:(E.ins s).op≠11)(j:(E.ins s).op≠12)(G:(E.ins s).op≠13)(J:(kW E.t s (E.ins s)).2=true)(g:Gives E (kW E.t s (E.ins s)).1 r k):Gives E s r (k+1):=by
 obtain⟨d,U,W⟩:=bq E s;obtain⟨u,O,g⟩:=g;refine⟨u,O,λm=>?_⟩;rw[show m+(k+1)=(m+k)+1 from rfl,Ce d I h j G,lG J,U,W,g]
theorem XJ(I:(E.ins s).op≠2)(h:(E.ins s).op≠11)(j:(E.ins s).op≠12)(G:(E.ins s).op≠13)(J:(kW E.t s (E.ins s)).2=false):Gives E s none 1:=by
 obtain⟨d,O,U⟩:=bq E s;refine⟨(kW E.t s (E.ins s)).1,λv e=>(by simp at e),λm=>?_⟩;rw[Ce d I h j G,lC (by rw[J];simp),O,U];rfl
theorem Uy(h:(E.ins s).op=2)(g:Gives E (s.set 0 (E.ins s).x) (some u) k):Gives E s (some u) (k+1):=by
 obtain⟨d,G,I⟩:=bq E s;obtain⟨v,j,g⟩:=g;refine⟨v,j,λm=>?_⟩;have:=Cc (n:=m+k) (zA:=0) d h rfl;rw[G,I,g]at this;rw[show m+(k+1)=(m+k)+1 from rfl,this];rfl
theorem RN(G:(E.ins s).op=2)(h:Gives E (s.set 0 (E.ins s).x) none k1)(j:Gives E (s.set 0 (E.ins s).y) r k2):Gives E s r (k2+k1+1):=by
 obtain⟨d,J,O⟩:=bq E s;obtain⟨v,W,h⟩:=h;obtain⟨U,I,j⟩:=j;refine⟨U,I,λm=>?_⟩;have:=Cc (n:=(m+k2)+k1) (zA:=0) d G rfl;rw[J,O,h]at this;rw[show m+(k2+k1+1)=((m+k2)+k1)+1 by omega,this];dsimp only;rw[lC (by simp),j]
theorem RO{z}{G}(I:(E.ins s).op=11)(h:Gives E (s.set 0 (gt s 0+1)) G k1)(hz:∀u,(∀v,G=some v->u=v)->jG s (E.ins s) u G.isSome=(z,true))(j:Gives E z r k2):Gives E s r (k2+k1+1):=by
 obtain⟨d,U,W⟩:=bq E s;obtain⟨v,J,h⟩:=h;obtain⟨Y,O,j⟩:=j;refine⟨Y,O,λm=>?_⟩;have:=xk (n:=(m+k2)+k1) (zA:=0) d I rfl;rw[U,W,h]at this;rw[show m+(k2+k1+1)=((m+k2)+k1)+1 by omega,this];dsimp only;rw[lC (by simp),hz v J,lG rfl,j]
theorem XK{h}(G:(E.ins s).op=11)(j:Gives E (s.set 0 (gt s 0+1)) h k1)(hz:∀u,(∀v,h=some v->u=v)->(jG s (E.ins s) u h.isSome).2=false):Gives E s none (k1+1):=by
 obtain⟨d,J,O⟩:=bq E s;obtain⟨v,I,j⟩:=j;refine⟨(jG s (E.ins s) v h.isSome).1,λv e=>(by simp at e),λm=>?_⟩;have:=xk (n:=m+k1) (zA:=0) d G rfl;rw[J,O,j]at this;rw[show m+(k1+1)=(m+k1)+1 from rfl,this];dsimp only;rw[lC (by simp),lC (by rw[hz v I];simp)];rfl
def Within(E:Env)(K:Nat)(s:qL)(r:Option qL):Prop:=∃k,k<=K/\Gives E s r k
theorem Within.mono{K L}(h:Within E K s r)(j:K<=L):Within E L s r:=by
 obtain⟨k,a,b⟩:=h;exact⟨k,by omega,b⟩
theorem RP(h:(E.ins s).op=13\/(E.ins s).op=12):Within E 1 s (some s):=⟨1,lF _,Ux h⟩
theorem mX{K}(I:(E.ins s).op≠2)(h:(E.ins s).op≠11)(j:(E.ins s).op≠12)(G:(E.ins s).op≠13)(J:(kW E.t s (E.ins s)).2=true)(g:Within E K (kW E.t s (E.ins s)).1 r):Within E (K+1) s r:=by
 obtain⟨k,a,b⟩:=g;exact⟨k+1,by omega,XI I h j G J b⟩
theorem zq(I:(E.ins s).op≠2)(h:(E.ins s).op≠11)(j:(E.ins s).op≠12)(G:(E.ins s).op≠13)(J:(kW E.t s (E.ins s)).2=false):Within E 1 s none:=⟨1,lF _,XJ I h j G J⟩
theorem RQ{K}(h:(E.ins s).op=2)(g:Within E K (s.set 0 (E.ins s).x) (some u)):Within E (K+1) s (some u):=by
 obtain⟨k,a,b⟩:=g;exact⟨k+1,by omega,Uy h b⟩
theorem Pz{K L}(G:(E.ins s).op=2)(h:Within E K (s.set 0 (E.ins s).x) none)(j:Within E L (s.set 0 (E.ins s).y) r):Within E (K+L+1) s r:=by
 obtain⟨k,a,b⟩:=h;obtain⟨l,c,d⟩:=j;exact⟨l+k+1,by omega,RN G b d⟩
theorem Cg{K L}{z}{h}(I:(E.ins s).op=11)(j:Within E K (s.set 0 (gt s 0+1)) h)(hz:∀u,(∀v,h=some v->u=v)->jG s (E.ins s) u h.isSome=(z,true))(G:Within E L z r):Within E (K+L+1) s r:=by
 obtain⟨k,a,b⟩:=j;obtain⟨l,c,d⟩:=G;exact⟨l+k+1,by omega,RO I b hz d⟩
theorem Ll{K}{h}(G:(E.ins s).op=11)(j:Within E K (s.set 0 (gt s 0+1)) h)(hz:∀u,(∀v,h=some v->u=v)->(jG s (E.ins s) u h.isSome).2=false):Within E (K+1) s none:=by
 obtain⟨k,a,b⟩:=j;exact⟨k+1,by omega,XK G b hz⟩
theorem Jo{K b}:∀f p n,(∀q,p<=q->q<p+f->Within E K (kL (q:Nat)) none)->f*K<=n->
  ∃t,search E b f p n [] 0=(⟨false,nowhere,t⟩,false)
 | 0,p,n,_,_=>⟨_,rfl⟩
 | f+1,p,n,hq,hn=>by
  obtain⟨k,I,v,J,g⟩:=hq p (lF _) (by omega);have e:(f+1)*K=f*K+K:=by rw[oV f 1 K];omega
  obtain⟨m,rfl⟩:∃m,n=m+k:=⟨n-k,by omega⟩
  rw[search,g];obtain⟨t,h⟩:=Jo (b:=b) f (p+1) m (λq j G=>hq q (by omega) (by omega)) (by omega);refine⟨t,?_⟩;dsimp only;rw[lC (by simp),lC (by simp),h]
end Mt
namespace Mt
variable {E:Env} {r:Option qL} {R:List Int} {K L:Nat} {pc pos:Nat}
def Here(c:List zT):Nat->List zT->Prop
 | _,[]=>True
 | p,x::l=>c.getD p kC=x/\Here c (p+1) l
theorem Bt{c}:∀{a b} {p},Here c p (a++b)->Here c p a/\Here c (p+a.length) b
 | [],b,p,h=>⟨trivial,h⟩
 | x::a,b,p,h=>by
  obtain⟨j,G⟩:=Bt (a:=a) h.2;exact⟨⟨h.1,j⟩,by rw[lU,show p+(a.length+1)=p+1+a.length by omega];exact G⟩
theorem Wv:∀b a c,Here (a++(b++c)) a.length b
 | [],a,c=>trivial
 | x::b,a,c=>by
  refine⟨by rw[lH,gL (lF _)];simp,?_⟩;have:=Wv b (a++[x]) c;rw[lQ,gZ]at this;exact this
theorem XL b c:Here (b++c) 0 b:=Wv b [] c
theorem bS(E:Env)(pc:Nat) l:E.ins ((pc)::l)=E.c.getD pc kC:=by
 unfold Env.ins zX gt;simp
def nL(t:BA)(i:Nat)(s:List UInt8):Bool:=if(i:Int)<t.size then hasB ⟨s.toArray⟩ (Rf t i)else false
theorem zEj{s}(G:E.c.getD pc kC=⟨1,0,0,s⟩)(j:nL E.t pos s=true)(g:Within E K (((pc+1:Nat):Int)::((pos+1:Nat):Int)::R) r):Within E (K+1) ((pc)::(pos)::R) r:=by
 have h:=bS E pc ((pos:Int)::R);rw[G]at h
 have e:kW E.t ((pc:Int)::(pos:Int)::R) (E.ins ((pc:Int)::(pos:Int)::R))=(((pc+1:Nat):Int)::((pos+1:Nat):Int)::R,true):=by
  rw[h];unfold kW;rw[lG rfl];unfold nL at j;show(_,if(pos:Int)<E.t.size then hasB ⟨s.toArray⟩ (Rf E.t (pos:Int).toNat)else false)=_;rw[gW,j];rfl
 refine mX (by rw[h];simp) (by rw[h];simp) (by rw[h];simp) (by rw[h];simp) (by rw[e]) (by rw[e];exact g)
theorem zAz{s}(G:E.c.getD pc kC=⟨1,0,0,s⟩)(j:nL E.t pos s=false):Within E 1 ((pc)::(pos)::R) none:=by
 have h:=bS E pc ((pos:Int)::R);rw[G]at h
 have e:(kW E.t ((pc:Int)::(pos:Int)::R) (E.ins ((pc:Int)::(pos:Int)::R))).2=false:=by
  rw[h];unfold kW;rw[lG rfl];unfold nL at j;show(if(pos:Int)<E.t.size then hasB ⟨s.toArray⟩ (Rf E.t (pos:Int).toNat)else false)=_;rw[gW,j]
 exact zq (by rw[h];simp) (by rw[h];simp) (by rw[h];simp) (by rw[h];simp) e
theorem zEk{q:Nat}(j:E.c.getD pc kC=⟨3,(q),0,[]⟩)(g:Within E K ((q)::(pos)::R) r):Within E (K+1) ((pc)::(pos)::R) r:=by
 have h:=bS E pc ((pos:Int)::R);rw[j]at h
 have e:kW E.t ((pc:Int)::(pos:Int)::R) (E.ins ((pc:Int)::(pos:Int)::R))=((q:Int)::(pos:Int)::R,true):=by
  rw[h];rfl
 exact mX (by rw[h];simp) (by rw[h];simp) (by rw[h];simp) (by rw[h];simp) (by rw[e]) (by rw[e];exact g)
theorem zCT{k:Nat}(j:E.c.getD pc kC=⟨6,(k),0,[]⟩)(g:Within E K (((pc+1:Nat):Int)::(pos)::R.set (20+k) pos) r):Within E (K+1) ((pc)::(pos)::R) r:=by
 have h:=bS E pc ((pos:Int)::R);rw[j]at h
 have e:kW E.t ((pc:Int)::(pos:Int)::R) (E.ins ((pc:Int)::(pos:Int)::R))=(((pc+1:Nat):Int)::(pos:Int)::R.set (20+k) pos,true):=by
  rw[h];show((((pc:Int)::(pos:Int)::R).set (22+(k:Int).toNat) (pos:Int)).set 0 ((pc:Int)+1),true)=_;rw[gW,show 22+k=20+k+1+1 by omega,lI,lI];rfl
 exact mX (by rw[h];simp) (by rw[h];simp) (by rw[h];simp) (by rw[h];simp) (by rw[e]) (by rw[e];exact g)
theorem zE6{k:Nat}(G:E.c.getD pc kC=⟨7,(k),0,[]⟩)(g:Within E K (((pc+1:Nat):Int)::(pos)::(R.set (2*k) (R.getD (20+k) 0)).set (2*k+1) pos) r):Within E (K+1) ((pc)::(pos)::R) r:=by
 have h:=bS E pc ((pos:Int)::R);rw[G]at h
 have e:kW E.t ((pc:Int)::(pos:Int)::R) (E.ins ((pc:Int)::(pos:Int)::R))=(((pc+1:Nat):Int)::(pos:Int)::(R.set (2*k) (R.getD (20+k) 0)).set (2*k+1) pos,true):=by
  rw[h];show(((((pc:Int)::(pos:Int)::R).set (2+(2*(k:Int)).toNat) (gt ((pc:Int)::(pos:Int)::R) (22+(k:Int).toNat))).set (2+(2*(k:Int)+1).toNat) (pos:Int)).set 0 ((pc:Int)+1),true)=_
  have j:gt ((pc:Int)::(pos:Int)::R) (22+(k:Int).toNat)=R.getD (20+k) 0:=by
   unfold gt;rw[gW,show 22+k=20+k+1+1 by omega,rV,rV]
  rw[j,show 2+(2*(k:Int)).toNat=2*k+1+1 by omega,show 2+(2*(k:Int)+1).toNat=2*k+1+1+1 by omega];simp only[lI,lJ];rfl
 exact mX (by rw[h];simp) (by rw[h];simp) (by rw[h];simp) (by rw[h];simp) (by rw[e]) (by rw[e];exact g)
theorem zEl{x y:Nat}{u}(j:E.c.getD pc kC=⟨2,(x),(y),[]⟩)(g:Within E K ((x)::(pos)::R) (some u)):Within E (K+1) ((pc)::(pos)::R) (some u):=by
 have h:=bS E pc ((pos:Int)::R);rw[j]at h;exact RQ (by rw[h]) (by rw[h];exact g)
theorem zCU{x y:Nat}(I:E.c.getD pc kC=⟨2,(x),(y),[]⟩)(j:Within E K ((x)::(pos)::R) none)(G:Within E L ((y)::(pos)::R) r):Within E (K+L+1) ((pc)::(pos)::R) r:=by
 have h:=bS E pc ((pos:Int)::R);rw[I]at h;exact Pz (by rw[h]) (by rw[h];exact j) (by rw[h];exact G)
theorem zAA{o}(j:E.c.getD pc kC=⟨o,0,0,[]⟩)(G:o=13\/o=12):Within E 1 ((pc)::(pos)::R) (some ((pc)::(pos)::R)):=by
 have h:=bS E pc ((pos:Int)::R);rw[j]at h;exact RP (by rw[h];exact G)
def Am(t:BA):Nat->List UInt8->Bool
 | _,[]=>true
 | i,c::w=>nL t i [c]&&Am t (i+1) w
theorem zAB{c}{a b}{p}{d}(j:Here c p ((Re.alt a b).code p d)):c.getD p kC=⟨2,((p+1:Nat):Int),((p+a.len+2:Nat):Int),[]⟩/\Here c (p+1) (a.code ((p+1:Nat):Int) d)/\c.getD (p+1+a.len) kC=⟨3,((p+a.len+2+b.len:Nat):Int),0,[]⟩/\Here c (p+a.len+2) (b.code ((p+a.len+2:Nat):Int) d):=by
 rw[Re.code]at j;obtain⟨G,I⟩:=j;obtain⟨J,h⟩:=Bt I;rw[Re.zH]at h;refine⟨by rw[G];simp,by simpa using J,by rw[h.1];simp,?_⟩;have:=h.2;rw[show p+1+a.len+1=p+a.len+2 by omega]at this;simpa using this
theorem zAC{c}{a b}{p}{d}(h:Here c p ((Re.cat a b).code p d)):Here c p (a.code p d)/\Here c (p+a.len) (b.code ((p+a.len:Nat):Int) d):=by
 rw[Re.code]at h;obtain⟨G,j⟩:=Bt h;rw[Re.zH]at j;exact⟨G,by simpa using j⟩
end Mt
namespace Mt
variable {E:Env} {u v w:List UInt8} {R:List Int} {pos:Nat}
def free:List Int:=nowhere++List.replicate 22 0
