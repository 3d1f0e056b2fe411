import Derived.Test.YtebpgfodelggoaaGreatC07
set_option linter.all false
namespace Mt
def bp(l:List UInt8):BA:=⟨l.toArray⟩
section
variable {p:BA} {j:Int}
end
theorem Xy E n s kn zA:(zS E (n+1) s kn zA).n<n+1:=by
 rw[xA];split
 ·exact eH n
 split
 ·exact eH n
 split
 ·have h:=xE E n (s.set 0 (E.ins s).x) (E.qK s kn zA) (E.zG s kn zA);dsimp only;generalize zS E n (s.set 0 (E.ins s).x) (E.qK s kn zA) (E.zG s kn zA)=r at *;split
  ·omega
  ·have:=xE E r.n (s.set 0 (E.ins s).y) r.kn r.zA;omega
 split
 ·have h:=xE E n (s.set 0 (gt s 0+1)) (E.qK s kn zA) (E.zG s kn zA);dsimp only;generalize zS E n (s.set 0 (gt s 0+1)) (E.qK s kn zA) (E.zG s kn zA)=r at *;split
  ·dsimp only;omega
  split
  ·have:=xE E r.n (jG s (E.ins s) r.st r.ok).1 r.kn r.zA;omega
  ·dsimp only;omega
 split
 ·have:=xE E n (kW E.t s (E.ins s)).1 (E.qK s kn zA) (E.zG s kn zA);omega
 ·exact eH n
theorem Es E d:∀N n s kn zA,n<=N->(zS E n s kn zA).kI=false->
  zS E (n+d) s kn zA=⟨(zS E n s kn zA).st,(zS E n s kn zA).ok,(zS E n s kn zA).n+d,(zS E n s kn zA).kn,(zS E n s kn zA).zA,false⟩
 | N,0,s,kn,zA,_,h=>by rw[mF]at h;cases h
 | 0,n+1,s,kn,zA,hn,_=>by omega
 | N+1,n+1,s,kn,zA,hn,h=>by
  have J:∀(n:Nat) (s:qL) (kn:List Bool) (zA:Int),n<=N->(zS E n s kn zA).kI=false->
   zS E (n+d) s kn zA=⟨(zS E n s kn zA).st,(zS E n s kn zA).ok,(zS E n s kn zA).n+d,(zS E n s kn zA).kn,(zS E n s kn zA).zA,false⟩:=Es E d N
  rw[show n+1+d=(n+d)+1 by omega];rw[xA E n]at h |-;rw[xA E (n+d)];by_cases U:E.dead s kn=true
  ·rw[lG U,lG U]
  rw[lC U]at h |-;rw[lC U];by_cases O:(E.ins s).op=13\/(E.ins s).op=12
  ·rw[lG O,lG O]
  rw[lC O]at h |-;rw[lC O];by_cases a0:(E.ins s).op=2
  ·rw[lG a0]at h |-;rw[lG a0];have Y:=J n (s.set 0 (E.ins s).x) (E.qK s kn zA) (E.zG s kn zA) (by omega);have a1:=xE E n (s.set 0 (E.ins s).x) (E.qK s kn zA) (E.zG s kn zA);dsimp only at h |-;generalize zS E n (s.set 0 (E.ins s).x) (E.qK s kn zA) (E.zG s kn zA)=r at *;by_cases I:(r.ok||r.kI)=true
   ·rw[lG I]at h |-;rw[Y h];have:r.ok=true:=by simpa[h]using I
    rw[lG (by simp[this])]
   ·rw[lC I]at h |-;have W:r.ok=false/\r.kI=false:=by simpa using I
    rw[Y W.2];rw[lC (by simp[W.1])];exact J r.n _ r.kn r.zA (by omega) h
  rw[lC a0]at h |-;rw[lC a0];by_cases Z:(E.ins s).op=11
  ·rw[lG Z]at h |-;rw[lG Z];have Y:=J n (s.set 0 (gt s 0+1)) (E.qK s kn zA) (E.zG s kn zA) (by omega);have a1:=xE E n (s.set 0 (gt s 0+1)) (E.qK s kn zA) (E.zG s kn zA);dsimp only at h |-;generalize zS E n (s.set 0 (gt s 0+1)) (E.qK s kn zA) (E.zG s kn zA)=r at *;by_cases I:r.kI=true
   ·rw[lG I]at h;cases h
   ·rw[lC I]at h |-;have W:r.kI=false:=by simpa using I
    rw[Y W];dsimp only;rw[lC (by simp)];by_cases G:(jG s (E.ins s) r.st r.ok).2=true
    ·rw[lG G]at h |-;rw[lG G];exact J r.n _ r.kn r.zA (by omega) h
    ·rw[lC G,lC G]
  rw[lC Z]at h |-;rw[lC Z];by_cases G:(kW E.t s (E.ins s)).2=true
  ·rw[lG G]at h |-;rw[lG G];exact J n _ _ _ (by omega) h
  ·rw[lC G,lC G]
theorem Jk E b(d:Nat):∀f p n kn zA,(search E b f p n kn zA).2=false->search E (b+d) f p (n+d) kn zA=search E b f p n kn zA
 | 0,p,n,kn,zA,_=>by
  simp only[search];rw[show b+(d:Int)-((n+d:Nat):Int)=b-n by omega]
 | f+1,p,n,kn,zA,h=>by
  have m:=Es E d n n (kL p) kn zA (lF _);rw[search]at h |-
  conv=>rhs;rw[search]
  generalize zS E n (kL p) kn zA=r at *;by_cases I:r.kI=true
  ·rw[lG I]at h;cases h
  ·have J:r.kI=false:=by simpa using I
   rw[lC I]at h |-;rw[m J];dsimp only;rw[lC (by simp)];by_cases G:r.ok=true
   ·rw[lG G,lG G,show b+(d:Int)-((r.n+d:Nat):Int)=b-r.n by omega]
   ·rw[lC G]at h |-;rw[lC G];exact Jk E b d f (p+1) r.n r.kn r.zA h
def Fwd(q:Int)(x:zT):Prop:=(x.op=2->q<x.x/\q<x.y)/\(x.op=3->q<x.x)/\(x.op=11->q<x.y)
theorem lu{q x}(h:x.op≠2/\x.op≠3/\x.op≠11):Fwd q x:=⟨λe=>absurd e h.1,λe=>absurd e h.2.1,λe=>absurd e h.2.2⟩
theorem Wt{q x y late}(h:q<x/\q<y):Fwd q (spl x y late):=by
 cases late
 ·exact⟨λ_=>h,λe=>by simp[spl]at e,λe=>by simp[spl]at e⟩
 ·exact⟨λ_=>⟨h.2,h.1⟩,λe=>by simp[spl]at e,λe=>by simp[spl]at e⟩
theorem Fwd.at{q q' x}(h:Fwd q x)(e:q=q'):Fwd q' x:=e ▸ h
theorem mg:∀(r:Re) p d(i:Nat) x,(r.code p d)[i]?=some x->Fwd (p+i) x
 | .qb,p,d,i,x,h=>by simp[Re.code]at h
 | .one s,p,d,i,x,h=>by
  rcases qV h with ⟨rfl,rfl⟩ | ⟨j,rfl,G⟩
  ·exact lu (by simp)
  ·simp at G
 | .back s,p,d,i,x,h=>by
  rcases qV h with ⟨rfl,rfl⟩ | ⟨j,rfl,G⟩
  ·exact lu (by simp)
  ·simp at G
 | .head,p,d,i,x,h=>by
  rcases qV h with ⟨rfl,rfl⟩ | ⟨j,rfl,G⟩
  ·exact lu (by simp)
  ·simp at G
 | .tail,p,d,i,x,h=>by
  rcases qV h with ⟨rfl,rfl⟩ | ⟨j,rfl,G⟩
  ·exact lu (by simp)
  ·simp at G
 | .cat a b,p,d,i,x,h=>by
  rcases tX h with ⟨_,h⟩ | ⟨I,h⟩
  ·exact mg a _ _ _ x h
  ·rw[Re.zH]at h I;exact(mg b _ _ _ x h).at (by omega)
 | .alt a b,p,d,i,x,h=>by
  rcases qV h with ⟨rfl,rfl⟩ | ⟨j,rfl,h⟩
  ·exact⟨λ_=>by dsimp only;omega,λe=>by simp at e,λe=>by simp at e⟩
  rcases tX h with ⟨_,h⟩ | ⟨I,h⟩
  ·exact(mg a _ _ _ x h).at (by omega)
  rw[Re.zH]at h I;rcases qV h with ⟨e,rfl⟩ | ⟨k,e,h⟩
  ·exact⟨λe=>by simp at e,λ_=>by dsimp only;omega,λe=>by simp at e⟩
  ·exact(mg b _ _ _ x h).at (by omega)
 | .cap k a,p,d,i,x,h=>by
  rcases qV h with ⟨rfl,rfl⟩ | ⟨j,rfl,h⟩
  ·exact lu (by simp)
  rcases tX h with ⟨_,h⟩ | ⟨I,h⟩
  ·exact(mg a _ _ _ x h).at (by omega)
  rcases qV h with ⟨e,rfl⟩ | ⟨k,e,h⟩
  ·exact lu (by simp)
  ·simp at h
 | .sub s a,p,d,i,x,h=>by
  rcases qV h with ⟨rfl,rfl⟩ | ⟨j,rfl,h⟩
  ·exact⟨λe=>by simp at e,λe=>by simp at e,λ_=>by dsimp only;omega⟩
  rcases tX h with ⟨_,h⟩ | ⟨I,h⟩
  ·exact(mg a _ _ _ x h).at (by omega)
  rcases qV h with ⟨e,rfl⟩ | ⟨k,e,h⟩
  ·exact lu (by simp)
  ·simp at h
 | .opt late a,p,d,i,x,h=>by
  rcases qV h with ⟨rfl,rfl⟩ | ⟨j,rfl,h⟩
  ·exact Wt (by omega)
  ·exact(mg a _ _ _ x h).at (by omega)
 | .loop late a,p,d,i,x,h=>by
  rcases qV h with ⟨rfl,rfl⟩ | ⟨j,rfl,G⟩
  ·exact Wt (by omega)
  rcases qV G with ⟨rfl,rfl⟩ | ⟨k,rfl,O⟩
  ·exact lu (by simp)
  rcases tX O with ⟨_,J⟩ | ⟨I,J⟩
  ·exact(mg a _ _ _ x J).at (by omega)
  rcases qV J with ⟨e,rfl⟩ | ⟨k,e,U⟩
  ·exact lu (by simp)
  ·simp at U
def ER(l:List zT)(p:Int)(i:Nat):Prop:=∃(j:Nat) (x:zT),j<i/\l[j]?=some x/\x.op=11/\p+i<x.y
theorem ER.cons{l p q i} c(h:ER l q i)(e:q=p+1):ER (c::l) p (i+1):=by
 obtain⟨j,x,J,G,I,O⟩:=h;exact⟨j+1,x,by omega,by rw[gI];exact G,I,by omega⟩
theorem ER.left{l p i} m(G:ER l p i):ER (l++m) p i:=by
 obtain⟨j,x,I,h,J,O⟩:=G;exact⟨j,x,I,by rw[gK (iT.1 h).1];exact h,J,O⟩
theorem ER.right{m p q i} l(h:ER m q i)(e:q=p+l.length):ER (l++m) p (l.length+i):=by
 obtain⟨j,x,J,G,I,O⟩:=h;exact⟨l.length+j,x,by omega,by rw[gL (by omega),Nat.add_sub_cancel_left];exact G,I,by omega⟩
theorem Dv A:∀r p d a,nQ A r p a->∀i,i<r.len->(A (p+i)).y=a.y\/ER (r.code p d) p i
 | .qb,p,d,a,h,i,hi=>by simp[Re.len]at hi
 | .one s,p,d,a,h,i,hi=>by
  obtain rfl:i=0:=by simp[Re.len]at hi;exact hi
  rw[show p+((0:Nat):Int)=p by omega,h.1];exact .inl rfl
 | .back s,p,d,a,h,i,hi=>by
  obtain rfl:i=0:=by simp[Re.len]at hi;exact hi
  rw[show p+((0:Nat):Int)=p by omega,h.1];exact .inl rfl
 | .head,p,d,a,h,i,hi=>by
  obtain rfl:i=0:=by simp[Re.len]at hi;exact hi
  rw[show p+((0:Nat):Int)=p by omega,h.1];exact .inl rfl
 | .tail,p,d,a,h,i,hi=>by
  obtain rfl:i=0:=by simp[Re.len]at hi;exact hi
  rw[show p+((0:Nat):Int)=p by omega,h.1];exact .inl rfl
 | .cat x y,p,d,a,h,i,hi=>by
  simp only[Re.len]at hi;by_cases G:i<x.len
  ·rcases Dv A x p d a h.1 i G with e | e
   ·exact .inl e
   ·exact .inr (e.left _)
  ·obtain⟨k,rfl⟩:∃k,i=x.len+k:=⟨i-x.len,by omega⟩
   rcases Dv A y (p+x.len) d a h.2 k (by omega)with e | e
   ·left;rw[<-e];congr 2;omega
   ·right;have:=e.right (x.code p d) (p:=p) (by rw[Re.zH]);rw[Re.zH]at this;exact this
 | .alt x y,p,d,a,h,i,hi=>by
  simp only[Re.len]at hi;rcases i with _ | i
  ·rw[show p+((0:Nat):Int)=p by omega,h.1];exact .inl rfl
  by_cases G:i<x.len
  ·rcases Dv A x (p+1) d a h.2.1 i G with e | e
   ·left;rw[<-e];congr 2;omega
   ·exact .inr ((e.left _).cons _ rfl)
  by_cases O:i=x.len
  ·subst O;left;rw[<-nQ.last h.2.1];congr 2;omega
  ·obtain⟨k,rfl⟩:∃k,i=x.len+(k+1):=⟨i-x.len-1,by omega⟩
   rcases Dv A y (p+x.len+2) d a h.2.2 k (by omega)with e | e
   ·left;rw[<-e];congr 2;omega
   ·right;have J:=e.cons (p:=p+1+x.len) ⟨3,p+x.len+2+y.len,0,[]⟩ (by omega);have I:=J.right (p:=p+1) (x.code (p+1) d) (by rw[Re.zH]);rw[Re.zH]at I;exact I.cons _ rfl
 | .cap g x,p,d,a,h,i,hi=>by
  simp only[Re.len]at hi;rcases i with _ | i
  ·rw[show p+((0:Nat):Int)=p by omega,h.1];exact .inl rfl
  by_cases G:i<x.len
  ·rcases Dv A x (p+1) d _ h.2.1 i G with e | e
   ·left;rw[show p+((i+1:Nat):Int)=p+1+i by omega,e]
   ·exact .inr ((e.left _).cons _ rfl)
  ·left;rw[show p+((i+1:Nat):Int)=p+1+x.len by omega,nQ.last h.2.1]
 | .sub s x,p,d,a,h,i,hi=>by
  simp only[Re.len]at hi;rcases i with _ | i
  ·rw[show p+((0:Nat):Int)=p by omega,h.1];exact .inl rfl
  ·exact .inr ⟨0,_,by omega,rfl,rfl,by dsimp only;omega⟩
 | .opt late x,p,d,a,h,i,hi=>by
  simp only[Re.len]at hi;rcases i with _ | i
  ·rw[show p+((0:Nat):Int)=p by omega,h.1];exact .inl rfl
  rcases Dv A x (p+1) d a h.2 i (by omega)with e | e
  ·left;rw[<-e];congr 2;omega
  ·exact .inr (e.cons _ rfl)
 | .loop late x,p,d,a,h,i,hi=>by
  simp only[Re.len]at hi;rcases i with _ | i
  ·rw[show p+((0:Nat):Int)=p by omega,h.1];exact .inl rfl
  rcases i with _ | i
  ·left;rw[show p+((0+1:Nat):Int)=p+1 by omega,h.2.1]
  by_cases G:i<x.len
  ·rcases Dv A x (p+2) (d+1) _ h.2.2.1 i G with e | e
   ·left;rw[show p+((i+1+1:Nat):Int)=p+2+i by omega,e]
   ·exact .inr (((e.left _).cons (p:=p+1) _ (by omega)).cons _ rfl)
  ·left;rw[show p+((i+1+1:Nat):Int)=p+2+x.len by omega,nQ.last h.2.2.1]
structure Kn (c:List zT) (A:Int->fO):Prop where
 k:Known c A
 fwd:∀q,q+1<c.length->Fwd q (c.getD q kC)
 zFm:∀q:Nat,q<c.length->vw c q=false->(A q).y=0
theorem Us(p)(U:(qW p).1=0):∃A,Kn (jA p).1 A:=by
 obtain⟨A,f,O,Z,G⟩:=Gg p U;have a3:(jA p).1.length=f.len+1:=by rw[G,lQ,Re.zH];rfl
 refine⟨A,O,λq a1=>?_,λq a1 I=>?_⟩
 ·have h:q<(f.code 0 0).length:=by rw[Re.zH];omega
  have:=mg f 0 0 q ((jA p).1.getD q kC) (by
   rw[G,lH,gK h,lN h];rfl)
  exact this.at (by omega)
 ·by_cases h:q<f.len
  ·rcases Dv A f 0 0 _ Z q h with e | ⟨j,x,W,J,Y,a2⟩
   ·rw[uV]at e;exact e
   ·exfalso
    have a0:(jA p).1.getD j kC=x:=by
     rw[G,lH,gK (iT.1 J).1,J];rfl
    have:=uf (jA p).1 (aY q) j q W (by omega) (by
     rw[a0];unfold aY;rw[gM];exact⟨Y,by omega⟩)
    unfold vw at I;rw[this]at I;cases I
  ·have:(q:Int)=((jA p).1.length-1:Nat):=by omega
   rw[this,O.stop]
theorem qR{s v j}(h:j≠0):gt (s.set 0 v) j=gt s j:=zQ _ _ _ _ (by omega)
theorem yP{s:qL}{v}(h:s.length=44):gt (s.set 0 v) 0=v:=qD _ _ _ (by omega)
def cnt(k:Nat)(s:qL):Nat:=(List.range k).countP λj=>gt s (32+j) != gt s 1
theorem zEd k s:cnt k s<=k:=by
 unfold cnt;refine gX wN ?_;simp
theorem Dw k s:cnt (k+1) s=cnt k s+if gt s (32+k) != gt s 1 then 1 else 0:=by
 unfold cnt;rw[rE,sI];simp[sQ]
theorem HZ{k}{s u}(I:gt u 1=gt s 1)(G:∀j,j<k->gt u (32+j)=gt s (32+j)):cnt k u=cnt k s:=by
 unfold cnt;refine aK λj h=>?_
 rw[wK]at h;rw[I,G j h]
theorem cnt_mono{k}{s u}(G:gt u 1=gt s 1)(h:∀j,j<k->gt s (32+j)=gt s 1->gt u (32+j)=gt s 1):cnt k u<=cnt k s:=by
 induction k with
 | zero=>exact lF _
 | succ k J =>
  have:=J λj O=>h j (by omega)
  have I:=h k (by omega);rw[Dw,Dw,G];by_cases e:gt s (32+k)=gt s 1
  ·rw[I e,e];simpa using this
  ·have:(gt s (32+k) != gt s 1)=true:=by simpa using e
   rw[this];split <;> simp <;> omega
theorem NU k s:kR s k+cnt k s=k:=by
 induction k with
 | zero=>rfl
 | succ k h =>
  rw[BM,Dw];by_cases e:gt s (32+k)=gt s 1
  ·simp[e];omega
  ·simp[e];omega
structure mG (E:Env) (A:Int->fO) (s:qL):Prop where
 g:Good E.c.length E.t.size s
 le:∀j:Nat,(j:Int)<(A (gt s 0)).d->gt s (32+j)<=gt s 1
 mono:∀i j:Nat,i<=j->(j:Int)<(A (gt s 0)).d->gt s (32+i)<=gt s (32+j)
def Ut(A:Int->fO)(s:qL):Nat:=cnt (A (gt s 0)).d.toNat s
def mu(E:Env)(A:Int->fO)(s:qL):Nat:=((E.t.size-vE s)*13+Ut A s)*(E.c.length+1)+(E.c.length-zX s)
theorem lex_lt{a b c d M:Nat}(h:a<c)(G:b<M):a*M+b<c*M+d:=by
 have:=oO M (show a+1<=c from h);rw[oV]at this;omega
theorem zE2{E A s u}(h:gt u 1=gt s 1)(G:Ut A u<Ut A s):mu E A u<mu E A s:=by
 unfold mu;have:vE u=vE s:=by unfold vE;rw[h]
 rw[this];exact lex_lt (by omega) (by omega)
theorem zAv{E A s u}(G:Good E.c.length E.t.size s)(I:Good E.c.length E.t.size u)(h:gt u 1=gt s 1)(Z:Ut A u<=Ut A s)(a0:gt s 0<gt u 0):mu E A u<mu E A s:=by
 by_cases e:Ut A u<Ut A s
 ·exact zE2 h e
 ·have J:Ut A u=Ut A s:=by omega
  have:vE u=vE s:=by unfold vE;rw[h]
  unfold mu;rw[this,J];have O:=G.Ai;have U:=I.Ai;have W:=G.pc1;have Y:=I.pc1
  unfold zX;omega
theorem zAw{E}{A}{s u}(h:Good E.c.length E.t.size s)(G:Good E.c.length E.t.size u)(W:(A (gt u 0)).d<=11)(Y:gt s 1<gt u 1):mu E A u<mu E A s:=by
 have:=zEd (A (gt u 0)).d.toNat u;unfold mu;refine lex_lt ?_ (by omega);have I:=h.Ht;have J:=G.Ht;have O:=h.pos1;have U:=G.pos1
 unfold vE Ut;omega
theorem Kn.dOk{c A}(h:Kn c A){q:Int}(I:0<=q)(J:q<c.length):0<=(A q).d/\(A q).d<=11:=by
 obtain⟨n,rfl⟩:∃n:Nat,q=n:=⟨q.toNat,by omega⟩
 by_cases G:n+1<c.length
 ·exact(h.k.rule n G).2.2.2.2.2.2.2.2.2.2.1
 ·have:((n:Nat):Int)=((c.length-1:Nat):Int):=by omega
  rw[this,h.k.stop];decide
theorem mH{E}{A}{s u}(O:Kn E.c A)(I:mG E A s)(h:Good E.c.length E.t.size u)(U:(A (gt u 0)).d=(A (gt s 0)).d)(Z:gt s 1<=gt u 1)(a0:gt s 0<gt u 0)(G:∀j,j<12->gt u (32+j)=gt s (32+j)):
  mG E A u/\mu E A u<mu E A s/\gt s 1<=gt u 1/\(gt u 1=gt s 1->∀j,j<12->gt s (32+j)=gt s 1->gt u (32+j)=gt s 1):=by
 have W:=O.dOk h.Ai h.pc1;refine⟨⟨h,λj J=>?_,λi j Y J=>?_⟩,?_,Z,λ_ j J e=>by rw[G j J];exact e⟩
 ·rw[G j (by omega)];have:=I.le j (by omega);omega
 ·rw[G j (by omega),G i (by omega)];exact I.mono i j Y (by omega)
 ·by_cases e:gt u 1=gt s 1
  ·refine zAv I.g h e ?_ a0;unfold Ut;rw[U];exact aB (HZ e λj J=>G j (by omega))
  ·exact zAw I.g h W.2 (by omega)
theorem Dx{E}{A}{s}(Y:Kn E.c A)(J:mG E A s)(c5:(E.ins s).op≠2)(c4:(E.ins s).op≠11)(d7:(E.ins s).op≠12)(b8:(E.ins s).op≠13)(I:(kW E.t s (E.ins s)).2=true):
  (mG E A (kW E.t s (E.ins s)).1/\mu E A (kW E.t s (E.ins s)).1<mu E A s/\gt s 1<=gt (kW E.t s (E.ins s)).1 1/\(gt (kW E.t s (E.ins s)).1 1=gt s 1->∀j,j<12->gt s (32+j)=gt s 1->gt (kW E.t s (E.ins s)).1 (32+j)=gt s 1))
  /\ (A (gt (kW E.t s (E.ins s)).1 0)).y=(A (gt s 0)).y:=by
 have h:=yu Y.k.ok J.g c5 c4 b8 I;have a2:=Y.k.ok (zX s) J.g.yS;have G:=zAp J.g (E.ins s) a2 I;obtain⟨c6,b0⟩:=fC Y.k J.g.yS b8;have a8:=Y.fwd (zX s) c6;have c8:((zX s:Nat):Int)=gt s 0:=by have:=J.g.Ai;unfold zX;omega
 rw[c8]at b0 a8;have b9:E.ins s=E.c.getD (zX s) kC:=rfl;rw[<-b9]at b0 a2 a8;rw[<-b9]at h;generalize E.ins s=x at *;obtain⟨a5,e2,d1,d2,d3,d4,d5,e0,e1,e3,e5,e4,e6⟩:=b0;have W:=J.g.len;have U:∀(i:Nat) (u v:Int),gt ((s.set i u).set 0 v) 0=v:=λi u v=>qD _ _ _ (by rw[gY];omega)
 unfold kW at h I G |-;by_cases c0:x.op=1
 ·rw[lG c0]at h G |-;dsimp only at h G |-;have e:=a5 (by omega);refine⟨mH Y J h (by rw[U,e]) G (by rw[U];omega) λj O=>?_,by rw[U,e]⟩;rw[qR (by omega),zQ _ _ _ _ (by omega)]
 rw[lC c0]at h I G |-;by_cases a4:x.op=3
 ·rw[lG a4]at h G |-;dsimp only at h G |-;have e:=d1 a4;refine⟨mH Y J h (by rw[yP W,e]) G (by rw[yP W];exact a8.2.1 a4) λj O=>qR (by omega),by rw[yP W,e]⟩
 rw[lC a4]at h I G |-;by_cases b1:x.op=4
 ·rw[lG b1]at h G |-;dsimp only at h G |-;obtain⟨a6,a7,c3⟩:=d2 b1;have Z:(A (gt s 0+1)).d=(A (gt s 0)).d+1:=by rw[a7]
  have a3:gt ((s.set (32+x.x.toNat) (gt s 1)).set 0 (gt s 0+1)) 1=gt s 1:=by rw[qR (by omega),zQ _ _ _ _ (by omega)]
  have a0:∀j,gt ((s.set (32+x.x.toNat) (gt s 1)).set 0 (gt s 0+1)) (32+j)=if j=x.x.toNat then gt s 1 else gt s (32+j):=λj=>by
   rw[qR (by omega),AJ];by_cases a1:j=x.x.toNat
   ·rw[lG ⟨by omega,by omega⟩,lG a1]
   ·rw[lC (by omega),lC a1]
  have c9:∀j,j<12->gt s (32+j)=gt s 1->gt ((s.set (32+x.x.toNat) (gt s 1)).set 0 (gt s 0+1)) (32+j)=gt s 1:=λj O e=>by
   rw[a0];split
   ·rfl
   ·exact e
  refine⟨⟨⟨h,λj O=>?_,λi j a9 O=>?_⟩,?_,G,λ_=>c9⟩,by rw[U,a7]⟩
  ·rw[U,Z]at O;rw[a0,a3];split
   ·omega
   ·exact J.le j (by omega)
  ·rw[U,Z]at O;rw[a0,a0];by_cases a1:j=x.x.toNat
   ·rw[lG a1];split
    ·omega
    ·exact J.le i (by omega)
   ·rw[lC a1,lC (by omega)];exact J.mono i j a9 (by omega)
  ·refine zAv J.g h a3 ?_ (by rw[U];omega);unfold Ut;rw[U,Z,show((A (gt s 0)).d+1).toNat=(A (gt s 0)).d.toNat+1 by omega,Dw];have:gt ((s.set (32+x.x.toNat) (gt s 1)).set 0 (gt s 0+1)) (32+(A (gt s 0)).d.toNat)=gt s 1:=by rw[a0,lG (by omega)]
   rw[this,a3];simp only[bne_self_eq_false,sH,wX,wE];exact aB (HZ a3 λj O=>by rw[a0,lC (by omega)])
 rw[lC b1]at h I G |-;by_cases b2:x.op=5
 ·rw[lG b2]at h I G |-;dsimp only at h I G |-;obtain⟨a6,a7,c3,d6⟩:=d3 b2;have Z:(A x.x).d=(A (gt s 0)).d-1:=by rw[a6]
  have c7:gt s (32+x.y.toNat)≠gt s 1:=by simpa using I
  refine⟨⟨⟨h,λj O=>?_,λi j a9 O=>?_⟩,?_,G,λ_ j O e=>by rw[qR (by omega)];exact e⟩,by rw[yP W,a6]⟩
  ·rw[yP W,Z]at O;rw[qR (by omega),qR (by omega)];exact J.le j (by omega)
  ·rw[yP W,Z]at O;rw[qR (by omega),qR (by omega)];exact J.mono i j a9 (by omega)
  ·refine zE2 (qR (by omega)) ?_;unfold Ut;rw[yP W,Z,show(A (gt s 0)).d.toNat=((A (gt s 0)).d-1).toNat+1 by omega,Dw];rw[HZ (u:=s.set 0 x.x) (s:=s) (qR (by omega)) λj O=>qR (by omega)]
   have:(gt s (32+((A (gt s 0)).d-1).toNat) != gt s 1)=true:=by
    rw[show((A (gt s 0)).d-1).toNat=x.y.toNat by omega];simpa using c7
   rw[this];simp
 rw[lC b2]at h I G |-;by_cases b3:x.op=6
 ·rw[lG b3]at h G |-;dsimp only at h G |-;have d8:=a2.2.2.2.2.1 (by omega);obtain⟨e,_⟩:=d4 b3;refine⟨mH Y J h (by rw[U,e]) G (by rw[U];omega) λj O=>?_,by rw[U,e]⟩;rw[qR (by omega),zQ _ _ _ _ (by omega)]
 rw[lC b3]at h I G |-;by_cases b4:x.op=7
 ·rw[lG b4]at h G |-;dsimp only at h G |-;have d9:=a2.2.2.2.2.1 (by omega);obtain⟨g,_,e⟩:=d5 b4;have b5:gt (((s.set (2+(2*x.x).toNat) (gt s (22+x.x.toNat))).set (2+(2*x.x+1).toNat) (gt s 1)).set 0 (gt s 0+1)) 0=gt s 0+1:=qD _ _ _ (by simp[gY];omega);refine⟨mH Y J h (by rw[b5,e]) G (by rw[b5];omega) λj O=>?_,by rw[b5,e]⟩;rw[qR (by omega),zQ _ _ _ _ (by omega),zQ _ _ _ _ (by omega)]
 rw[lC b4]at h I G |-;by_cases c1:x.op=8
 ·rw[lG c1]at h I G |-;have e:=a5 (by omega);unfold bV at h I G |-;by_cases b6:gt s (2+(2*x.x).toNat)<0
  ·rw[lG b6]at I;cases I
  rw[lC b6]at h I G |-;by_cases b7:(E.t.size:Int)<gt s 1+(gt s (2+(2*x.x+1).toNat)-gt s (2+(2*x.x).toNat))
  ·rw[lG b7]at I;cases I
  rw[lC b7]at h I G |-;dsimp only at h I G |-;refine⟨mH Y J h (by rw[U,e]) G (by rw[U];omega) λj O=>?_,by rw[U,e]⟩;rw[qR (by omega),zQ _ _ _ _ (by omega)]
 rw[lC c1]at h I G |-;by_cases c2:x.op=9
 ·rw[lG c2]at h G |-;dsimp only at h G |-;have e:=a5 (by omega);exact⟨mH Y J h (by rw[yP W,e]) G (by rw[yP W];omega) λj O=>qR (by omega),by rw[yP W,e]⟩
 rw[lC c2]at h I G |-;by_cases d0:x.op=10
 ·rw[lG d0]at h G |-;dsimp only at h G |-;have e:=a5 (by omega);exact⟨mH Y J h (by rw[yP W,e]) G (by rw[yP W];omega) λj O=>qR (by omega),by rw[yP W,e]⟩
 ·exfalso;omega
theorem zn{E A s}(G:Kn E.c A)(h:mG E A s)(J:(E.ins s).op=2):
  (mG E A (s.set 0 (E.ins s).x)/\mu E A (s.set 0 (E.ins s).x)<mu E A s/\(A (gt (s.set 0 (E.ins s).x) 0)).y=(A (gt s 0)).y)/\
  (mG E A (s.set 0 (E.ins s).y)/\mu E A (s.set 0 (E.ins s).y)<mu E A s/\(A (gt (s.set 0 (E.ins s).y) 0)).y=(A (gt s 0)).y):=by
 have a3:(E.ins s).op≠13:=by omega
 obtain⟨a4,W⟩:=fC G.k h.g.yS a3;have O:=G.fwd (zX s) a4;have Y:=G.k.ok (zX s) h.g.yS;have a5:((zX s:Nat):Int)=gt s 0:=by have:=h.g.Ai;unfold zX;omega
 rw[a5]at W O;have a6:E.ins s=E.c.getD (zX s) kC:=rfl;rw[<-a6]at W Y O;have I:=Y.1 J;obtain⟨Z,a0⟩:=W.2.1 J;obtain⟨a1,a2⟩:=O.1 J;have U:=h.g.len
 have key:∀v:Int,0<=v->v<E.c.length->A v=A (gt s 0)->gt s 0<v->mG E A (s.set 0 v)/\mu E A (s.set 0 v)<mu E A s/\(A (gt (s.set 0 v) 0)).y=(A (gt s 0)).y:=λv a7 a8 e f=>by
  obtain⟨a9,b0,_⟩:=mH G h (h.g.dY v a7 a8) (by rw[yP U,e]) (by rw[qR (by omega)];omega) (by rw[yP U];exact f) λj b1=>qR (by omega)
  exact⟨a9,b0,by rw[yP U,e]⟩
 exact⟨key _ I.1 I.2.1 Z a1,key _ I.2.2.1 I.2.2.2 a0 a2⟩
theorem Ev{E A s}(O:Kn E.c A)(h:mG E A s)(Y:(E.ins s).op=11):
  mG E A (s.set 0 (gt s 0+1))/\mu E A (s.set 0 (gt s 0+1))<mu E A s/\(A (gt (s.set 0 (gt s 0+1)) 0)).y=(E.ins s).y/\0<(E.ins s).y:=by
 have W:(E.ins s).op≠13:=by omega
 obtain⟨a7,I⟩:=fC O.k h.g.yS W;have Z:((zX s:Nat):Int)=gt s 0:=by have:=h.g.Ai;unfold zX;omega
 rw[Z]at I;have a0:E.ins s=E.c.getD (zX s) kC:=rfl;rw[<-a0]at I;obtain⟨J,a3,a4,U⟩:=I.2.2.2.2.2.2.2.1 Y;have G:=h.g.len;have a5:=h.g.Ai;obtain⟨a1,a2,_⟩:=mH O h (h.g.dY (gt s 0+1) (by omega) (by omega)) (by rw[yP G,J]) (by rw[qR (by omega)];omega) (by rw[yP G];omega) λj a6=>qR (by omega)
 exact⟨a1,a2,by rw[yP G,J],U⟩
def ES(E:Env)(A:Int->fO)(s r:qL):Prop:=mG E A r/\gt s 1<=gt r 1/\(gt r 1=gt s 1->∀j,j<12->gt s (32+j)=gt s 1->gt r (32+j)=gt s 1)
theorem Dy{E}{A}{s r}{ok}(Z:Kn E.c A)(I:mG E A s)(a8:(E.ins s).op=11)(a0:r.length=44)(b3:ok=true->ES E A s r/\gt r 0=(E.ins s).y-1)(J:(jG s (E.ins s) r ok).2=true):
  ES E A s (jG s (E.ins s) r ok).1/\mu E A (jG s (E.ins s) r ok).1<mu E A s/\(A (gt (jG s (E.ins s) r ok).1 0)).y=(A (gt s 0)).y/\gt (jG s (E.ins s) r ok).1 0=(E.ins s).y:=by
 have b8:(E.ins s).op≠13:=by omega
 obtain⟨c2,a9⟩:=fC Z.k I.g.yS b8;have a7:=Z.fwd (zX s) c2;have b0:=Z.k.ok (zX s) I.g.yS;have c4:((zX s:Nat):Int)=gt s 0:=by have:=I.g.Ai;unfold zX;omega
 rw[c4]at a9 a7;have c6:E.ins s=E.c.getD (zX s) kC:=rfl;rw[<-c6]at a9 b0 a7;obtain⟨c7,O,b7,c8⟩:=a9.2.2.2.2.2.2.2.1 a8;have a6:=a7.2.2 a8;have b4:=b0.2.2.2.2.2.1 a8;have Y:=I.g.len;have h:=jc I.g (λe=>(b3 e).1.1.g) (E.ins s) b4.1 b4.2.1 J;unfold jG at J h |-;by_cases b5:(E.ins s).x=0
 ·rw[lG b5]at J h |-;dsimp only at J h |-;obtain⟨⟨b2,c3,b1⟩,c5⟩:=b3 J;have G:gt (r.set 0 (E.ins s).y) 0=(E.ins s).y:=yP a0;have W:gt (r.set 0 (E.ins s).y) 1=gt r 1:=qR (by omega);have c9:(A (gt r 0)).d=(A (gt s 0)).d:=by rw[c5,b7]
  have b9:=Z.dOk I.g.Ai I.g.pc1;refine⟨⟨⟨h,λj U=>?_,λi j c0 U=>?_⟩,by rw[W];exact c3,λe j U a5=>?_⟩,?_,by rw[G,O],G⟩
  ·rw[G,O]at U;rw[qR (by omega),W];exact b2.le j (by omega)
  ·rw[G,O]at U;rw[qR (by omega),qR (by omega)];exact b2.mono i j c0 (by omega)
  ·rw[qR (by omega)];exact b1 (by rw[<-e,W]) j U a5
  ·by_cases e:gt r 1=gt s 1
   ·refine zAv I.g h (by rw[W,e]) ?_ (by rw[G];exact a6);unfold Ut;rw[G,O];exact cnt_mono (by rw[W,e]) λj U a5=>by rw[qR (by omega)];exact b1 e j (by omega) a5
   ·exact zAw I.g h (by rw[G,O];exact b9.2) (by rw[W];omega)
 rw[lC b5]at J h |-;by_cases b6:(E.ins s).x=1
 ·rw[lG b6]at J h |-;dsimp only at J h |-;have c1:=pF s r Y a0;have G:gt ((zl s r).set 0 (E.ins s).y) 0=(E.ins s).y:=yP c1;have W:gt ((zl s r).set 0 (E.ins s).y) 1=gt s 1:=by rw[qR (by omega),bC s r Y a0,lC (by omega)]
  obtain⟨a1,a2,a3,a4⟩:=mH Z I h (by rw[G,O]) (by rw[W];omega) (by rw[G];exact a6) λj U=>by
   rw[qR (by omega),bC s r Y a0,lC (by omega)]
  exact⟨⟨a1,a3,a4⟩,a2,by rw[G,O],G⟩
 ·rw[lC b6]at J h |-;dsimp only at J h |-;obtain⟨a1,a2,a3,a4⟩:=mH Z I h (by rw[yP Y,O]) (by rw[qR (by omega)];omega) (by rw[yP Y];exact a6) λj U=>qR (by omega)
  exact⟨⟨a1,a3,a4⟩,a2,by rw[yP Y,O],yP Y⟩
variable {E:Env} {A:Int->fO}
theorem Lh{n s kn zA}(h:E.dead s kn=true):zS E (n+1) s kn zA=⟨s,false,n,E.qK s kn zA,E.zG s kn zA,false⟩:=by rw[xA,lG h]
theorem Dz{n s kn zA}(h:E.dead s kn=false)(G:(E.ins s).op=13\/(E.ins s).op=12):zS E (n+1) s kn zA=⟨s,true,n,E.qK s kn zA,E.zG s kn zA,false⟩:=by
 rw[xA,lC (by rw[h];exact oF),lG G]
theorem Cc{n}{s}{kn}{zA}(h:E.dead s kn=false)(G:(E.ins s).op=2){r}(I:r=zS E n (s.set 0 (E.ins s).x) (E.qK s kn zA) (E.zG s kn zA)):zS E (n+1) s kn zA=if r.ok||r.kI then r else zS E r.n (s.set 0 (E.ins s).y) r.kn r.zA:=by
 rw[xA,lC (by rw[h];exact oF),lC (by omega),lG G,I]
theorem xk{n}{s}{kn}{zA}(h:E.dead s kn=false)(G:(E.ins s).op=11){r}(I:r=zS E n (s.set 0 (gt s 0+1)) (E.qK s kn zA) (E.zG s kn zA)):zS E (n+1) s kn zA=if r.kI then⟨s,false,r.n,r.kn,r.zA,true⟩else if(jG s (E.ins s) r.st r.ok).2 then zS E r.n (jG s (E.ins s) r.st r.ok).1 r.kn r.zA else⟨(jG s (E.ins s) r.st r.ok).1,false,r.n,r.kn,r.zA,false⟩:=by
 rw[xA,lC (by rw[h];exact oF),lC (by omega),lC (by omega),lG G,I]
theorem Ce{n s kn zA}(h:E.dead s kn=false)(I:(E.ins s).op≠2)(G:(E.ins s).op≠11)(J:(E.ins s).op≠12)(O:(E.ins s).op≠13):zS E (n+1) s kn zA=if(kW E.t s (E.ins s)).2 then zS E n (kW E.t s (E.ins s)).1 (E.qK s kn zA) (E.zG s kn zA)else⟨(kW E.t s (E.ins s)).1,false,n,E.qK s kn zA,E.zG s kn zA,false⟩:=by
 rw[xA,lC (by rw[h];exact oF),lC (by omega),lC I,lC G]
theorem ES.trans{s u r}(U:ES E A s u)(W:ES E A u r):ES E A s r:=by
 obtain⟨Y,Z,G⟩:=U;obtain⟨I,a0,J⟩:=W;refine⟨I,by omega,λe j h O=>?_⟩;have:=G (by omega) j h O;have:=J (by omega) j h (by omega);omega
theorem mG.ended{s}(h:mG E A s):ES E A s s:=⟨h,oL _,λ_ j _ e=>e⟩
theorem zo{s}{v}(h:mG E A (s.set 0 v)):ES E A s (s.set 0 v):=⟨h,by rw[qR (by omega)];omega,λ_ j _ e=>by rw[qR (by omega)];exact e⟩
theorem Gi(h:Kn E.c A){n}{s}{kn}{zA}(Z:mG E A s)(a1:(E.ins s).op=11)(Y:0<=zA/\zA<=5000)(W:(zS E n (s.set 0 (gt s 0+1)) kn zA).ok=true):gt (zS E n (s.set 0 (gt s 0+1)) kn zA).st 0=(E.ins s).y-1:=by
 obtain⟨I,_,a3,a4⟩:=Ev h Z a1;obtain⟨O,_,G⟩:=Fw E A h.k n n _ kn zA (lF _) I.g Y W;have U:=(yK E h.k.ok n n _ kn zA (lF _) I.g Y).1 W;generalize (zS E n (s.set 0 (gt s 0+1)) kn zA).st=u at *;rw[a3]at O;have a2:((zX u:Nat):Int)=gt u 0:=by have:=U.Ai;unfold zX;omega
 by_cases a0:zX u+1<E.c.length
 ·have J:=h.k.rule (zX u) a0;rw[a2]at J;rcases G with G | G
  ·have:=J.2.2.2.2.2.2.2.2.1 G;omega
  ·have:=J.2.2.2.2.2.2.2.2.2.2.2.2;have e:(E.c.getD (zX u) kC).op=13:=G;omega
 ·have I:=U.yS;have e:gt u 0=((E.c.length-1:Nat):Int):=by omega
  have:=h.k.stop;rw[<-e]at this;rw[this]at O;dsimp only at O;omega
theorem DC(G:Kn E.c A):∀N n s kn zA,n<=N->mG E A s->0<=zA/\zA<=5000->(zS E n s kn zA).ok=true->ES E A s (zS E n s kn zA).st
 | N,0,s,kn,zA,_,h,W,ho=>by rw[mF]at ho;cases ho
 | 0,n+1,s,kn,zA,hn,_,_,_=>by omega
 | N+1,n+1,s,kn,zA,hn,h,hrm,ho=>by
  have a0:=DC G N;have U:=E.nX s kn zA hrm;cases Z:E.dead s kn with
  | true=>rw[Lh Z]at ho;cases ho
  | false =>
  by_cases a4:(E.ins s).op=13\/(E.ins s).op=12
  ·rw[Dz Z a4];exact h.ended
  by_cases a3:(E.ins s).op=2
  ·obtain⟨⟨J,b3,b4⟩,⟨b1,b8,b9⟩⟩:=zn G h a3;obtain⟨r,W⟩:∃r,r=zS E n (s.set 0 (E.ins s).x) (E.qK s kn zA) (E.zG s kn zA):=⟨_,rfl⟩
   have O:=yK E G.k.ok N n _ (E.qK s kn zA) (E.zG s kn zA) (by omega) J.g U;have a5:=xE E n (s.set 0 (E.ins s).x) (E.qK s kn zA) (E.zG s kn zA);have a1:=a0 n _ (E.qK s kn zA) (E.zG s kn zA) (by omega) J U;rw[<-W]at O a5 a1;rw[Cc Z a3 W]at ho |-;by_cases a8:(r.ok||r.kI)=true
   ·rw[lG a8]at ho |-;exact(zo J).trans (a1 ho)
   ·rw[lC a8]at ho |-;exact(zo b1).trans (a0 _ _ _ _ (by omega) b1 O.2.2.1 ho)
  by_cases Y:(E.ins s).op=11
  ·obtain⟨J,b3,b4,b7⟩:=Ev G h Y;obtain⟨r,W⟩:∃r,r=zS E n (s.set 0 (gt s 0+1)) (E.qK s kn zA) (E.zG s kn zA):=⟨_,rfl⟩
   have O:=yK E G.k.ok N n _ (E.qK s kn zA) (E.zG s kn zA) (by omega) J.g U;have a5:=xE E n (s.set 0 (gt s 0+1)) (E.qK s kn zA) (E.zG s kn zA);have a1:=a0 n _ (E.qK s kn zA) (E.zG s kn zA) (by omega) J U;have a6:=Gi G (n:=n) (kn:=E.qK s kn zA) h Y U;rw[<-W]at O a5 a1 a6;rw[xk Z Y W]at ho |-;by_cases a7:r.kI=true
   ·rw[lG a7]at ho;cases ho
   rw[lC a7]at ho |-;by_cases I:(jG s (E.ins s) r.st r.ok).2=true
   ·rw[lG I]at ho |-;obtain⟨a2,b5,b2⟩:=Dy G h Y O.2.2.2.1 (λe=>⟨(zo J).trans (a1 e),a6 e⟩) I;exact a2.trans (a0 _ _ _ _ (by omega) a2.1 O.2.2.1 ho)
   ·rw[lC I]at ho;cases ho
  have a9:(E.ins s).op≠12:=λe=>a4 (.inr e)
  have b0:(E.ins s).op≠13:=λe=>a4 (.inl e)
  rw[Ce Z a3 Y a9 b0]at ho |-;by_cases I:(kW E.t s (E.ins s)).2=true
  ·rw[lG I]at ho |-;obtain⟨⟨a2,b5,b2,b6⟩,c0⟩:=Dx G h a3 Y a9 b0 I;exact ES.trans ⟨a2,b2,b6⟩ (a0 _ _ _ _ (by omega) a2 U ho)
  ·rw[lC I]at ho;cases ho
theorem Fx(I:Kn E.c A)(b0:∀s,Good E.c.length E.t.size s->E.isIn s=true->(A (gt s 0)).y=0):∀(N n) (s) (kn) (zA),n<=N->mG E A s->0<=zA/\zA<=5000->(A (gt s 0)).y≠0->(zS E n s kn zA).kn=kn/\(zS E n s kn zA).zA=zA
 | N,0,s,kn,zA,_,h,O,ho=>by rw[mF];exact⟨rfl,rfl⟩
 | 0,n+1,s,kn,zA,hn,_,_,_=>by omega
 | N+1,n+1,s,kn,zA,hn,h,hrm,hy=>by
  have Z:=Fx I b0 N
  have b7:E.isIn s=false:=by
   cases e:E.isIn s
   ·rfl
   ·exact absurd (b0 s h.g e) hy
  obtain⟨a2,a0,Y⟩:=E.zAt s kn zA b7;by_cases a4:(E.ins s).op=13\/(E.ins s).op=12
  ·rw[Dz a2 a4];exact⟨a0,Y⟩
  by_cases a3:(E.ins s).op=2
  ·obtain⟨⟨W,b8,a6⟩,⟨b9,c5,c0⟩⟩:=zn I h a3;obtain⟨r,O⟩:∃r,r=zS E n (s.set 0 (E.ins s).x) (E.qK s kn zA) (E.zG s kn zA):=⟨_,rfl⟩
   have a5:=xE E n (s.set 0 (E.ins s).x) (E.qK s kn zA) (E.zG s kn zA);have G:=Z n (s.set 0 (E.ins s).x) (E.qK s kn zA) (E.zG s kn zA) (by omega) W (by rw[Y];exact hrm) (by rw[a6];exact hy);rw[<-O]at a5 G;rw[Cc a2 a3 O];rw[a0,Y]at G;by_cases b2:(r.ok||r.kI)=true
   ·rw[lG b2];exact G
   ·rw[lC b2];have:=Z r.n (s.set 0 (E.ins s).y) r.kn r.zA (by omega) b9 (by rw[G.2];exact hrm) (by rw[c0];exact hy);rw[G.1,G.2]at this;rw[G.1,G.2];exact this
  by_cases U:(E.ins s).op=11
  ·obtain⟨W,b8,a6,c4⟩:=Ev I h U;have a1:=E.nX s kn zA hrm;obtain⟨r,O⟩:∃r,r=zS E n (s.set 0 (gt s 0+1)) (E.qK s kn zA) (E.zG s kn zA):=⟨_,rfl⟩
   have a9:=yK E I.k.ok N n _ (E.qK s kn zA) (E.zG s kn zA) (by omega) W.g a1;have a5:=xE E n (s.set 0 (gt s 0+1)) (E.qK s kn zA) (E.zG s kn zA);have G:=Z n _ (E.qK s kn zA) (E.zG s kn zA) (by omega) W a1 (by rw[a6];omega);have a8:=Gi I (n:=n) (kn:=E.qK s kn zA) h U a1;have b3:=DC I N n _ (E.qK s kn zA) (E.zG s kn zA) (by omega) W a1;rw[<-O]at a9 a5 G a8 b3;rw[a0,Y]at G;rw[xk a2 U O];by_cases b1:r.kI=true
   ·rw[lG b1];exact G
   rw[lC b1];by_cases J:(jG s (E.ins s) r.st r.ok).2=true
   ·rw[lG J];obtain⟨a7,c1,b6,c2⟩:=Dy I h U a9.2.2.2.1 (λe=>⟨(zo W).trans (b3 e),a8 e⟩) J;have:=Z r.n _ r.kn r.zA (by omega) a7.1 (by rw[G.2];exact hrm) (by rw[b6];exact hy);rw[G.1,G.2]at this;rw[G.1,G.2];exact this
   ·rw[lC J];exact G
  have b4:(E.ins s).op≠12:=λe=>a4 (.inr e)
  have b5:(E.ins s).op≠13:=λe=>a4 (.inl e)
  rw[Ce a2 a3 U b4 b5,a0,Y];by_cases J:(kW E.t s (E.ins s)).2=true
  ·rw[lG J];obtain⟨⟨a7,c1,b6,c2⟩,c3⟩:=Dx I h a3 U b4 b5 J;exact Z _ _ _ _ (by omega) a7 hrm (by rw[c3];exact hy)
  ·rw[lC J];exact⟨rfl,rfl⟩
end Mt
namespace Mt
variable {E:Env} {A:Int->fO}
structure Lk (A:Int->fO) (s u:qL):Prop where
 pc:gt u 0=gt s 0
 pos:gt u 1=gt s 1
 eq:∀j:Nat,(j:Int)<(A (gt s 0)).d->(gt s (32+j)=gt s 1↔gt u (32+j)=gt s 1)
theorem Lk.ins{s u}(h:Lk A s u):E.ins u=E.ins s:=by unfold Env.ins zX;rw[h.pc]
theorem Lk.to{s u}{v}(h:Lk A s u)(I:s.length=44)(J:u.length=44)(e:A v=A (gt s 0)):Lk A (s.set 0 v) (u.set 0 v):=by
 refine⟨by rw[yP I,yP J],by rw[qR (by omega),qR (by omega)];exact h.pos,λj G=>?_⟩;rw[yP I,e]at G;rw[qR (by omega),qR (by omega),qR (by omega)];exact h.eq j G
theorem Lk.to'{s u s' h}(I:Lk A s u)(pc:gt h 0=gt s' 0)(G:gt s' 1=gt s 1)(O:gt h 1=gt s 1)(W:(A (gt s' 0)).d<=(A (gt s 0)).d)(J:∀j,j<12->gt s' (32+j)=gt s (32+j)/\gt h (32+j)=gt u (32+j))(U:(A (gt s 0)).d<=11):Lk A s' h:=by
 refine⟨pc,by rw[G,O],λj Y=>?_⟩;have:=J j (by omega);rw[this.1,this.2,G];exact I.eq j (by omega)
theorem zEf(a2:Kn E.c A)(b5:∀q,q<E.c.length->(E.c.getD q kC).op≠8){s u}(O:mG E A s)(a9:mG E A u)(h:Lk A s u)(e2:(E.ins s).op≠2)(e0:(E.ins s).op≠11)(e1:(E.ins s).op≠12)(c8:(E.ins s).op≠13):
  (kW E.t u (E.ins s)).2=(kW E.t s (E.ins s)).2/\((kW E.t s (E.ins s)).2=true->Lk A (kW E.t s (E.ins s)).1 (kW E.t u (E.ins s)).1):=by
 have b4:(E.ins s).op≠8:=b5 _ O.g.yS;obtain⟨d0,a8⟩:=fC a2.k O.g.yS c8;have a4:=a2.k.ok (zX s) O.g.yS;have b7:((zX s:Nat):Int)=gt s 0:=by have:=O.g.Ai;unfold zX;omega
 rw[b7]at a8;have b8:E.ins s=E.c.getD (zX s) kC:=rfl;rw[<-b8]at a8 a4;have a3:=a2.dOk O.g.Ai O.g.pc1;generalize E.ins s=x at *;obtain⟨a7,d3,c0,c1,c2,c3,c4,d1,d2,d4,d6,d5,e7⟩:=a8;have G:=O.g.len;have I:=a9.g.len;have J:∀(s:qL) (i:Nat) (u v:Int),s.length=44->gt ((s.set i u).set 0 v) 0=v:=λs i u v e6=>qD _ _ _ (by rw[gY];omega)
 unfold kW;by_cases a5:x.op=1
 ·rw[lG a5,lG a5];dsimp only;refine⟨by rw[h.pos],λ_=>?_⟩;have e:=a7 (by omega);have b0:∀(z:qL) (y:Int),z.length=44->gt ((z.set 1 y).set 0 (gt z 0+1)) 1=y:=λz y hz=>by rw[qR (by omega),qD _ _ _ (by omega)]
  refine⟨by rw[J _ _ _ _ G,J _ _ _ _ I,h.pc],by rw[b0 _ _ I,b0 _ _ G,h.pos],λj U=>?_⟩;rw[J _ _ _ _ G,e]at U;rw[b0 _ _ G,qR (by omega),zQ _ _ _ _ (by omega),qR (by omega),zQ _ _ _ _ (by omega)];have d7:=O.le j U;have d8:=a9.le j (by rw[h.pc];exact U);have:=h.pos;constructor <;> intro e3 <;> omega
 rw[lC a5,lC a5];by_cases W:x.op=3
 ·rw[lG W,lG W];dsimp only;exact⟨rfl,λ_=>h.to G I (c0 W)⟩
 rw[lC W,lC W];by_cases Y:x.op=4
 ·rw[lG Y,lG Y];dsimp only;obtain⟨b2,b3,c6⟩:=c1 Y;refine⟨rfl,λ_=>⟨by rw[J _ _ _ _ G,J _ _ _ _ I,h.pc],?_,λj U=>?_⟩⟩
  ·rw[qR (by omega),zQ _ _ _ _ (by omega),qR (by omega),zQ _ _ _ _ (by omega)];exact h.pos
  ·rw[J _ _ _ _ G,b3]at U;rw[show gt ((s.set (32+x.x.toNat) (gt s 1)).set 0 (gt s 0+1)) 1=gt s 1 by rw[qR (by omega),zQ _ _ _ _ (by omega)],qR (by omega),qR (by omega)];by_cases c7:j=x.x.toNat
   ·subst c7;rw[qD _ _ _ (by omega),qD _ _ _ (by omega),h.pos]
   ·rw[zQ _ _ _ _ (by omega),zQ _ _ _ _ (by omega)];exact h.eq j (by dsimp only at U;omega)
 rw[lC Y,lC Y];by_cases Z:x.op=5
 ·rw[lG Z,lG Z];dsimp only;obtain⟨b2,b3,c6,d9⟩:=c2 Z;have b6:=h.eq x.y.toNat (by omega);refine⟨?_,λ_=>h.to' (by rw[yP G,yP I]) (qR (by omega)) (by rw[qR (by omega)];exact h.pos) (by rw[yP G,b2];dsimp only;omega) (λj _=>⟨qR (by omega),qR (by omega)⟩) a3.2⟩;rw[h.pos];by_cases e:gt s (32+x.y.toNat)=gt s 1
  ·rw[b6.1 e,e]
  ·have c5:gt u (32+x.y.toNat)≠gt s 1:=λc9=>e (b6.2 c9)
   rw[iX.2 c5,iX.2 e]
 rw[lC Z,lC Z];by_cases a0:x.op=6
 ·rw[lG a0,lG a0];dsimp only;have e4:=a4.2.2.2.2.1 (by omega);obtain⟨e,_⟩:=c3 a0;refine⟨rfl,λ_=>h.to' (by rw[J _ _ _ _ G,J _ _ _ _ I,h.pc]) ?_ ?_ (by rw[J _ _ _ _ G,e];exact oL _) (λj U=>⟨?_,?_⟩) a3.2⟩;all_goals rw[qR (by omega),zQ _ _ _ _ (by omega)]
  exact h.pos
 rw[lC a0,lC a0];by_cases a1:x.op=7
 ·rw[lG a1,lG a1];dsimp only;have e5:=a4.2.2.2.2.1 (by omega);obtain⟨g,_,e⟩:=c4 a1;have b1:∀z:qL,z.length=44->gt (((z.set (2+(2*x.x).toNat) (gt z (22+x.x.toNat))).set (2+(2*x.x+1).toNat) (gt z 1)).set 0 (gt z 0+1)) 0=gt z 0+1:=λz hz=>qD _ _ _ (by simp[gY];omega)
  refine⟨rfl,λ_=>h.to' (by rw[b1 _ G,b1 _ I,h.pc]) ?_ ?_ (by rw[b1 _ G,e];exact oL _) (λj U=>⟨?_,?_⟩) a3.2⟩;all_goals rw[qR (by omega),zQ _ _ _ _ (by omega),zQ _ _ _ _ (by omega)]
  exact h.pos
 rw[lC a1,lC a1];rw[lC b4,lC b4];by_cases a6:x.op=9
 ·rw[lG a6,lG a6];dsimp only;have e:=a7 (by omega);rw[h.pos,h.pc];exact⟨rfl,λ_=>h.to G I e⟩
 rw[lC a6,lC a6];by_cases b9:x.op=10
 ·rw[lG b9,lG b9];dsimp only;have e:=a7 (by omega);rw[h.pos,h.pc];exact⟨rfl,λ_=>h.to G I e⟩
 ·exfalso;clear J b8 b7 d0 a3 d6 d5 d4 d2 d1 c4 c3 c2 c1 c0 d3 a7 a4 h O a9 b5 a2 G I;omega
theorem zAx(a3:Kn E.c A){s u r q ok}(G:mG E A s)(b0:mG E A u)(Y:Lk A s u)(a7:(E.ins s).op=11)(h:r.length=44)(lq:q.length=44)(a9:ok=true->Lk A r q/\gt r 0=(E.ins s).y-1):
  (jG u (E.ins s) q ok).2=(jG s (E.ins s) r ok).2/\((jG s (E.ins s) r ok).2=true->Lk A (jG s (E.ins s) r ok).1 (jG u (E.ins s) q ok).1):=by
 have a6:(E.ins s).op≠13:=by omega
 obtain⟨b4,Z⟩:=fC a3.k G.g.yS a6;have a8:((zX s:Nat):Int)=gt s 0:=by have:=G.g.Ai;unfold zX;omega
 rw[a8]at Z;have b1:E.ins s=E.c.getD (zX s) kC:=rfl;rw[<-b1]at Z;obtain⟨b2,W,a0,b3⟩:=Z.2.2.2.2.2.2.2.1 a7;have I:=G.g.len;have J:=b0.g.len;have a4:=a3.dOk G.g.Ai G.g.pc1;generalize E.ins s=x at *;unfold jG;by_cases O:x.x=0
 ·rw[lG O,lG O];dsimp only;refine⟨rfl,λa5=>?_⟩;obtain⟨a1,a2⟩:=a9 a5;refine a1.to' (by rw[yP h,yP lq]) (qR (by omega)) (by rw[qR (by omega)];exact a1.pos) (by rw[yP h,W,a2,a0];exact oL _) (λj _=>⟨qR (by omega),qR (by omega)⟩) (by rw[a2,a0];exact a4.2)
 rw[lC O,lC O];by_cases U:x.x=1
 ·rw[lG U,lG U];dsimp only;refine⟨rfl,λa5=>?_⟩;refine Y.to' (by rw[yP (pF s r I h),yP (pF u q J lq)]) (by rw[qR (by omega),bC s r I h,lC (by omega)]) (by rw[qR (by omega),bC u q J lq,lC (by omega)];exact Y.pos) (by rw[yP (pF s r I h),W];exact oL _) (λj _=>⟨by rw[qR (by omega),bC s r I h,lC (by omega)],by rw[qR (by omega),bC u q J lq,lC (by omega)]⟩) a4.2
 ·rw[lC U,lC U];dsimp only;exact⟨rfl,λ_=>Y.to I J W⟩
def Idle(E:Env)(kn:List Bool)(zA:Int):Prop:=∀s,E.dead s kn=false/\E.qK s kn zA=kn/\E.zG s kn zA=zA
theorem Li(I:Kn E.c A) kn(c9:Idle E kn 0)(d8:∀q,q<E.c.length->(E.c.getD q kC).op≠8):∀N n s u,n<=N->mG E A s->mG E A u->Lk A s u->
  (zS E n u kn 0).ok=(zS E n s kn 0).ok/\(zS E n u kn 0).kI=(zS E n s kn 0).kI/\(zS E n u kn 0).n=(zS E n s kn 0).n/\(zS E n u kn 0).kn=kn/\(zS E n s kn 0).kn=kn/\(zS E n u kn 0).zA=0/\(zS E n s kn 0).zA=0/\((zS E n s kn 0).ok=true->Lk A (zS E n s kn 0).st (zS E n u kn 0).st)
 | N,0,s,u,_,hs,hu,h=>by rw[mF,mF];exact⟨rfl,rfl,rfl,rfl,rfl,rfl,rfl,λe=>by cases e⟩
 | 0,n+1,s,u,hn,_,_,_=>by omega
 | N+1,n+1,s,u,hn,hs,hu,h=>by
  have a4:=Li I kn c9 d8 N;obtain⟨b0,c1,rs⟩:=c9 s;obtain⟨b1,c2,c4⟩:=c9 u;have G:E.ins u=E.ins s:=h.ins;have c3:=hs.g.len;have d2:=hu.g.len;have a1:(0:Int)<=0/\(0:Int)<=5000:=by omega
  by_cases b8:(E.ins s).op=13\/(E.ins s).op=12
  ·rw[Dz b0 b8,Dz b1 (by rw[G];exact b8),c1,c2,rs,c4];exact⟨rfl,rfl,rfl,rfl,rfl,rfl,rfl,λ_=>h⟩
  by_cases U:(E.ins s).op=2
  ·obtain⟨⟨a2,e2,e3⟩,⟨e4,f1,f2⟩⟩:=zn I hs U;obtain⟨⟨Z,e0,e1⟩,⟨w1,e8,e9⟩⟩:=zn I hu (by rw[G];exact U);rw[G]at Z w1;have d0:=fC I.k hs.g.yS (show(E.ins s).op≠13 by omega);have d1:((zX s:Nat):Int)=gt s 0:=by have:=hs.g.Ai;unfold zX;omega
   obtain⟨a3,c5⟩:=d0.2.2.1 U;rw[d1]at a3 c5;obtain⟨r,W⟩:∃r,r=zS E n (s.set 0 (E.ins s).x) (E.qK s kn 0) (E.zG s kn 0):=⟨_,rfl⟩
   obtain⟨q,Y⟩:∃q,q=zS E n (u.set 0 (E.ins u).x) (E.qK u kn 0) (E.zG u kn 0):=⟨_,rfl⟩
   rw[Cc b0 U W,Cc b1 (by rw[G];exact U) Y,G];have a5:=a4 n _ _ (by omega) a2 Z (h.to c3 d2 a3);have d3:=xE E n (s.set 0 (E.ins s).x) kn 0;rw[c1,rs]at W;rw[c2,c4,G]at Y;rw[<-W,<-Y]at a5;rw[<-W]at d3;obtain⟨a0,b2,b3,b4,b5,b6,b7,c6⟩:=a5;rw[a0,b2,b3,b4,b5,b6,b7];by_cases c0:(r.ok||r.kI)=true
   ·rw[lG c0,lG c0];exact⟨a0,b2,b3,b4,b5,b6,b7,c6⟩
   ·rw[lC c0,lC c0];exact a4 r.n _ _ (by omega) e4 w1 (h.to c3 d2 c5)
  by_cases O:(E.ins s).op=11
  ·obtain⟨a2,e2,e3,f0⟩:=Ev I hs O;obtain⟨Z,e0,e1,e7⟩:=Ev I hu (by rw[G];exact O);have d0:=fC I.k hs.g.yS (show(E.ins s).op≠13 by omega);have d1:((zX s:Nat):Int)=gt s 0:=by have:=hs.g.Ai;unfold zX;omega
   obtain⟨a3,c5,e5,e6⟩:=d0.2.2.2.2.2.2.2.2.1 O;rw[d1]at a3;obtain⟨r,W⟩:∃r,r=zS E n (s.set 0 (gt s 0+1)) (E.qK s kn 0) (E.zG s kn 0):=⟨_,rfl⟩
   obtain⟨q,Y⟩:∃q,q=zS E n (u.set 0 (gt u 0+1)) (E.qK u kn 0) (E.zG u kn 0):=⟨_,rfl⟩
   rw[xk b0 O W,xk b1 (by rw[G];exact O) Y,G]
   have d9:Lk A (s.set 0 (gt s 0+1)) (u.set 0 (gt u 0+1)):=by
    rw[h.pc];refine h.to' (by rw[yP c3,yP d2]) (qR (by omega)) (by rw[qR (by omega)];exact h.pos) (by rw[yP c3,a3];exact oL _) (λj _=>⟨qR (by omega),qR (by omega)⟩) (I.dOk hs.g.Ai hs.g.pc1).2
   have a5:=a4 n _ _ (by omega) a2 Z d9;have d3:=xE E n (s.set 0 (gt s 0+1)) kn 0;have c7:=yK E I.k.ok N n _ kn 0 (by omega) a2.g a1;have c8:=yK E I.k.ok N n _ kn 0 (by omega) Z.g a1;have s1:=Gi I (n:=n) (kn:=kn) hs O a1;have s2:=Gi I (n:=n) (kn:=kn) hu (by rw[G];exact O) a1;have d6:=DC I N n _ kn 0 (by omega) a2 a1;have d7:=DC I N n _ kn 0 (by omega) Z a1;rw[c1,rs]at W;rw[c2,c4]at Y;rw[<-W,<-Y]at a5;rw[<-W]at d3 c7 s1 d6;rw[<-Y]at c8 s2 d7;obtain⟨a0,b2,b3,b4,b5,b6,b7,c6⟩:=a5;rw[a0,b2,b3,b4,b5,b6,b7];by_cases b9:r.kI=true
   ·rw[lG b9,lG b9];exact⟨rfl,rfl,rfl,rfl,rfl,rfl,rfl,λe=>by cases e⟩
   rw[lC b9,lC b9];obtain⟨a8,d4⟩:=zAx I (ok:=r.ok) hs hu h O c7.2.2.2.1 c8.2.2.2.1 (λe=>⟨c6 e,s1 e⟩);rw[a8];by_cases J:(jG s (E.ins s) r.st r.ok).2=true
   ·rw[lG J,lG J];have d5:=(Dy I hs O c7.2.2.2.1 (λe=>⟨(zo a2).trans (d6 e),s1 e⟩) J).1.1;have a9:=(Dy (r:=q.st) (ok:=r.ok) I hu (by rw[G];exact O) c8.2.2.2.1 (λe=>⟨(zo Z).trans (d7 (by rw[a0];exact e)),s2 (by rw[a0];exact e)⟩) (by rw[G,a8];exact J)).1.1;rw[G]at a9;exact a4 r.n _ _ (by omega) d5 a9 (d4 J)
   ·rw[lC J,lC J];exact⟨rfl,rfl,rfl,rfl,rfl,rfl,rfl,λe=>by cases e⟩
  have a6:(E.ins s).op≠12:=λe=>b8 (.inr e)
  have a7:(E.ins s).op≠13:=λe=>b8 (.inl e)
  obtain⟨a8,d4⟩:=zEf I d8 hs hu h U O a6 a7;rw[Ce b0 U O a6 a7,Ce b1 (by rw[G];exact U) (by rw[G];exact O) (by rw[G];exact a6) (by rw[G];exact a7),G,a8,c1,c2,rs,c4];by_cases J:(kW E.t s (E.ins s)).2=true
  ·rw[lG J,lG J];have d5:=(Dx I hs U O a6 a7 J).1.1;have a9:=(Dx I hu (by rw[G];exact U) (by rw[G];exact O) (by rw[G];exact a6) (by rw[G];exact a7) (by rw[G,a8];exact J)).1.1;rw[G]at a9;exact a4 n _ _ (by omega) d5 a9 (d4 J)
  ·rw[lC J,lC J];exact⟨rfl,rfl,rfl,rfl,rfl,rfl,rfl,λe=>by cases e⟩
theorem upward{p}:∀k,(∀i j,i<=j->j<k->p i=true->p j=true)->∀j,j<k->(p j=true↔k<=j+(List.range k).countP p)
 | 0,_,j,J=>by omega
 | k+1,h,j,J=>by
  have a0:=upward k λi j Z J=>h i j Z (by omega)
  rw[rE,sI];have a1:(List.range k).countP p<=k:=gX wN (by simp);have O:[k].countP p=if p k=true then 1 else 0:=by simp[sQ]
  rw[O];by_cases G:p k=true
  ·rw[lG G];by_cases U:j=k
   ·subst U;exact⟨λ_=>by omega,λ_=>G⟩
   ·rw[a0 j (by omega)];omega
  ·rw[lC G]
   have W:(List.range k).countP p=0:=by
    rw[List.countP_eq_zero];intro a Y I;rw[wK]at Y;exact G (h a k (by omega) (by omega) I)
   rw[W];constructor
   ·intro I;exact absurd (h j k (by omega) (by omega) I) G
   ·intro I;omega
theorem NV(J:Kn E.c A)(a0:∀p,p<E.c.length->E.ar.getD p 0=jY E.c p){s u}(h:mG E A s)(G:mG E A u)(U:E.key u=E.key s):Lk A s u/\mu E A u=mu E A s:=by
 have a2:=h.g.yS;have a3:=G.g.yS;have a4:=h.g.Ai;have b9:=h.g.Ht;have c0:=h.g.pos1
 have a5:=G.g.Ai;have c1:=G.g.Ht;have c2:=G.g.pos1
 have cs:=h.g.pc1;have a6:=G.g.pc1
 have c3:=J.dOk a4 cs;have c4:=J.dOk a5 a6;have b3:((zX s:Nat):Int)=gt s 0:=by unfold zX;omega
 have b4:((zX u:Nat):Int)=gt u 0:=by unfold zX;omega
 have a7:=J.k.loops _ a2;have a8:=J.k.loops _ a3;rw[b3]at a7;rw[b4]at a8;unfold Env.key keyOf at U;rw[a0 _ a2,a0 _ a3,gW,gW]at U;have c7:=Pj s (jY E.c (zX s));have c8:=Pj u (jY E.c (zX u));obtain⟨b0,Y,Z⟩:=key_inj (T:=E.t.size) (by unfold vE;omega) (by omega) (by unfold vE;omega) (by omega) U;have I:gt u 0=gt s 0:=by omega
 have O:gt u 1=gt s 1:=by unfold vE at Y;omega
 have b1:(A (gt s 0)).d.toNat=min (jY E.c (zX s)) 12:=by omega
 have b2:(A (gt s 0)).d.toNat=min (jY E.c (zX u)) 12:=by rw[<-I];omega
 unfold ZW at Z;rw[<-b1,<-b2]at Z;have c5:=NU (A (gt s 0)).d.toNat s;have c6:=NU (A (gt s 0)).d.toNat u;refine⟨⟨I,O,λj a1=>?_⟩,?_⟩
 ·have u1:=upward (p:=λj=>gt s (32+j)==gt s 1) (A (gt s 0)).d.toNat (λi j W a1 e=>by
   have a9:gt s (32+i)=gt s 1:=by simpa using e
   have b5:=h.mono i j W (by omega);have b6:=h.le j (by omega);have:gt s (32+j)=gt s 1:=by omega
   simpa using this) j (by omega)
  have u2:=upward (p:=λj=>gt u (32+j)==gt u 1) (A (gt s 0)).d.toNat (λi j W a1 e=>by
   have a9:gt u (32+i)=gt u 1:=by simpa using e
   have b5:=G.mono i j W (by rw[I];omega);have b6:=G.le j (by rw[I];omega);have:gt u (32+j)=gt u 1:=by omega
   simpa using this) j (by omega)
  have b7:(gt s (32+j)=gt s 1)↔(A (gt s 0)).d.toNat<=j+kR s (A (gt s 0)).d.toNat:=by rw[show kR s (A (gt s 0)).d.toNat=(List.range (A (gt s 0)).d.toNat).countP λj=>gt s (32+j)==gt s 1 from rfl,<-u1];simp
  have b8:(gt u (32+j)=gt u 1)↔(A (gt s 0)).d.toNat<=j+kR u (A (gt s 0)).d.toNat:=by rw[show kR u (A (gt s 0)).d.toNat=(List.range (A (gt s 0)).d.toNat).countP λj=>gt u (32+j)==gt u 1 from rfl,<-u2];simp
  rw[<-O,b8,O,b7];omega
 ·unfold mu Ut;rw[I,b0,Y];have:cnt (A (gt s 0)).d.toNat u=cnt (A (gt s 0)).d.toNat s:=by omega
  rw[this]
