import Derived.Test.YtebpgfodelggoaaGreatC09
set_option linter.all false
namespace Mt
inductive Reads (p:BA):List zU->Int->List zU->Int->Prop
 | nil (l:List zU) (i:Int):Reads p l i [] i
 | cons {l m:List zU} {i j:Int} {t:zU} (h0:0<=i) (h1:i<p.size) (ht:kS p i=(t,0)) (hm:may l t=0) (hl:Reads p (l++[yU l t]) t.to m j):Reads p l i (yU l t::m) j
theorem Reads.app{p l m n i h k}(j:Reads p l i m h):Reads p (l++m) h n k->Reads p l i (m++n) k:=by
 induction j with
 | nil l i=>intro g;simpa using g
 | cons G I O J W U =>
  intro g;exact Reads.cons G I O J (U (by simpa using g))
theorem Reads.one{p l}{i:Int}{t u}(h:0<=i)(j:i<p.size)(I:kS p i=(t,0))(G:may l t=0)(J:yU l t=u):Reads p l i [u] t.to:=by
 subst J;exact Reads.cons h j I G (Reads.nil _ _)
variable {E:Env} {r:Option qL} {R:List Int} {K L:Nat} {pc pos:Nat}
theorem Jp{K H b u}:∀j p f n,j<f->(∀q,p<=q->q<p+j->Within E K (kL (q:Nat)) none)->Within E H (kL ((p+j:Nat):Int)) (some u)->j*K+H<=n->
  ∃t,search E b f p n [] 0=(⟨true,vN ((p+j:Nat):Int) u,t⟩,false)
 | 0,p,f+1,n,_,_,h,hn=>by
  obtain⟨k,I,v,G,g⟩:=h;obtain⟨m,rfl⟩:∃m,n=m+k:=⟨n-k,by omega⟩
  rw[wE]at g |-;rw[search,g];rw[G u rfl];exact⟨_,rfl⟩
 | j+1,p,f+1,n,hj,hq,h,hn=>by
  obtain⟨k,I,v,G,g⟩:=hq p (lF _) (by omega);have e:(j+1)*K=j*K+K:=by rw[oV j 1 K];omega
  obtain⟨m,rfl⟩:∃m,n=m+k:=⟨n-k,by omega⟩
  rw[search,g];obtain⟨t,J⟩:=Jp (b:=b) j (p+1) f m (by omega) (λq O U=>hq q (by omega) (by omega)) (by rw[show p+1+j=p+(j+1) by omega];exact h) (by omega);refine⟨t,?_⟩;dsimp only;rw[lC (by simp),lC (by simp),J,show p+1+j=p+(j+1) by omega]
theorem zAD{c}{s}{a}{p}{d}(h:Here c p ((Re.sub s a).code p d)):c.getD p kC=⟨11,s,((p+a.len+2:Nat):Int),[]⟩/\Here c (p+1) (a.code ((p+1:Nat):Int) d)/\c.getD (p+1+a.len) kC=⟨12,0,0,[]⟩:=by
 rw[Re.code]at h;obtain⟨G,I⟩:=h;obtain⟨J,j⟩:=Bt I;rw[Re.zH]at j;exact⟨by rw[G];simp,by simpa using J,j.1⟩
theorem zEm{q:Nat}{x j}{R'}(J:E.c.getD pc kC=⟨11,0,(q),[]⟩)(G:Within E K (((pc+1:Nat):Int)::(pos)::R) (some (x::j::R')))(I:Within E L ((q)::j::R') r):Within E (K+L+1) ((pc)::(pos)::R) r:=by
 have h:=bS E pc ((pos:Int)::R);rw[J]at h;refine Cg (z:=(q:Int)::j::R') (by rw[h]) G (λu O=>?_) I;rw[O _ rfl,h];rfl
theorem RS{q:Nat}{s}(I:s=0\/s=1)(G:E.c.getD pc kC=⟨11,s,(q),[]⟩)(j:Within E K (((pc+1:Nat):Int)::(pos)::R) none):Within E (K+1) ((pc)::(pos)::R) none:=by
 have h:=bS E pc ((pos:Int)::R);rw[G]at h;refine Ll (by rw[h]) j (λu J=>?_);rw[h];rcases I with rfl | rfl <;> rfl
theorem zCV{q:Nat}(I:E.c.getD pc kC=⟨11,2,(q),[]⟩)(j:Within E K (((pc+1:Nat):Int)::(pos)::R) none)(G:Within E L ((q)::(pos)::R) r):Within E (K+L+1) ((pc)::(pos)::R) r:=by
 have h:=bS E pc ((pos:Int)::R);rw[I]at h;refine Cg (z:=(q:Int)::(pos:Int)::R) (by rw[h]) j (λu J=>?_) G;rw[h];rfl
theorem XM{q:Nat}{v}(G:E.c.getD pc kC=⟨11,2,(q),[]⟩)(j:Within E K (((pc+1:Nat):Int)::(pos)::R) (some v)):Within E (K+1) ((pc)::(pos)::R) none:=by
 have h:=bS E pc ((pos:Int)::R);rw[G]at h;refine Ll (by rw[h]) j (λu I=>?_);rw[h];rfl
theorem XO a x:(a++[x]).getD a.length kC=x:=by
 rw[lH,gL (lF _)];simp
section
variable {u v w:List UInt8}
end
end Mt
namespace Mt
structure zFj (t:BA) (f:Nat->Option Nat) (G:Hz × Int):Prop where
 err:G.2=0
 len:G.1.at'.length=20
 s1:1<=G.1.steps
 s2:G.1.steps<=10000
 hit:∀i,i<=t.size->(∀q,q<i->f q=none)->∀n,f i=some n->G.1.ok=true/\G.1.at'=(i:Int)::((i+n:Nat):Int)::List.replicate 18 (-1)
 miss:(∀q,q<=t.size->f q=none)->G.1.ok=false/\G.1.at'=nowhere
variable {E:Env} {r:Option qL} {R:List Int} {K L:Nat} {pc pos:Nat} {w:List UInt8}
def Ib(t:BA)(w:List UInt8):Nat->Nat->Nat
 | 0,_=>0
 | f+1,i=>if Am t i w then 1+Ib t w f (i+w.length)else 0
theorem Lm t:∀w i,w≠[]->Am t i w=true->i+w.length<=t.size
 | [],i,h,_=>absurd rfl h
 | [c],i,_,h=>by
  simp only[Am,Bool.and_true]at h;unfold nL at h;split at h
  ·simp;omega
  ·simp at h
 | c::d::w,i,_,h=>by
  rw[Am,aM]at h;have:=Lm t (d::w) (i+1) (by simp) h.2;simp only[lU]at this |-;omega
theorem Ic t w(j:w≠[]):∀f i,t.size<=i+f->Am t (i+Ib t w f i*w.length) w=false
 | 0,i,h=>by
  cases e:Am t (i+Ib t w 0 i*w.length) w
  ·rfl
  ·have:=Lm t w _ j e;have G:=iU.2 j;simp only[Ib]at this;omega
 | f+1,i,h=>by
  have G:=iU.2 j;cases e:Am t i w
  ·simp only[Ib,e];simpa using e
  ·have:=Ic t w j f (i+w.length) (by omega);simp only[Ib,e,wS];rw[oV,iY,<-uF];exact this
theorem zAE{c}{a}{p}{d}{late}(h:Here c p ((Re.opt late a).code p d)):c.getD p kC=(if late then⟨2,((p+a.len+1:Nat):Int),((p+1:Nat):Int),[]⟩else⟨2,((p+1:Nat):Int),((p+a.len+1:Nat):Int),[]⟩)/\Here c (p+1) (a.code ((p+1:Nat):Int) d):=by
 rw[Re.code]at h;obtain⟨j,G⟩:=h;exact⟨by rw[j];unfold spl;cases late <;> simp,by simpa using G⟩
theorem zEn{d:Nat}(j:E.c.getD pc kC=⟨4,(d),0,[]⟩)(g:Within E K (((pc+1:Nat):Int)::(pos)::R.set (30+d) pos) r):Within E (K+1) ((pc)::(pos)::R) r:=by
 have h:=bS E pc ((pos:Int)::R);rw[j]at h
 have e:kW E.t ((pc:Int)::(pos:Int)::R) (E.ins ((pc:Int)::(pos:Int)::R))=(((pc+1:Nat):Int)::(pos:Int)::R.set (30+d) pos,true):=by
  rw[h];show((((pc:Int)::(pos:Int)::R).set (32+(d:Int).toNat) (pos:Int)).set 0 ((pc:Int)+1),true)=_;rw[gW,show 32+d=30+d+1+1 by omega,lI,lI];rfl
 exact mX (by rw[h];simp) (by rw[h];simp) (by rw[h];simp) (by rw[h];simp) (by rw[e]) (by rw[e];exact g)
theorem zCW{q d:Nat}(G:E.c.getD pc kC=⟨5,(q),(d),[]⟩)(I:R.getD (30+d) 0≠(pos))(g:Within E K ((q)::(pos)::R) r):Within E (K+1) ((pc)::(pos)::R) r:=by
 have h:=bS E pc ((pos:Int)::R);rw[G]at h
 have e:kW E.t ((pc:Int)::(pos:Int)::R) (E.ins ((pc:Int)::(pos:Int)::R))=((q:Int)::(pos:Int)::R,true):=by
  rw[h];show(((pc:Int)::(pos:Int)::R).set 0 (q:Int),gt ((pc:Int)::(pos:Int)::R) (32+(d:Int).toNat) != (pos:Int))=_
  have j:gt ((pc:Int)::(pos:Int)::R) (32+(d:Int).toNat)=R.getD (30+d) 0:=by
   unfold gt;rw[gW,show 32+d=30+d+1+1 by omega,rV,rV]
  rw[j];have:(R.getD (30+d) 0 != (pos:Int))=true:=by simpa using I
  rw[this];rfl
 exact mX (by rw[h];simp) (by rw[h];simp) (by rw[h];simp) (by rw[h];simp) (by rw[e]) (by rw[e];exact g)
theorem XP{c}{a}{p}{d:Nat}{late}(h:Here c p ((Re.loop late a).code p d)):c.getD p kC=(if late then⟨2,((p+a.len+3:Nat):Int),((p+1:Nat):Int),[]⟩else⟨2,((p+1:Nat):Int),((p+a.len+3:Nat):Int),[]⟩)/\c.getD (p+1) kC=⟨4,(d),0,[]⟩/\Here c (p+2) (a.code ((p+2:Nat):Int) ((d+1:Nat):Int))/\c.getD (p+2+a.len) kC=⟨5,(p),(d),[]⟩:=by
 rw[Re.code]at h;obtain⟨G,I,J⟩:=h;obtain⟨O,j⟩:=Bt J;rw[Re.zH]at j;exact⟨by rw[G];unfold spl;cases late <;> simp,I,by simpa using O,j.1⟩
def Ao(R R':List Int):Prop:=R'.length=R.length/\R'.take 20=R.take 20
theorem Ao.refl R:Ao R R:=⟨rfl,rfl⟩
theorem Ao.trans{R S T}(h:Ao R S)(g:Ao S T):Ao R T:=⟨g.1.trans h.1,g.2.trans h.2⟩
theorem Ao.set R d x:Ao R (R.set (30+d) x):=⟨by simp,by rw[aA (by omega)]⟩
end Mt
namespace Mt
inductive Star (A:Nat->Nat->Prop):Nat->Nat->Prop
 | stop (i:Nat):Star A i i
 | more {i k j:Nat} (h:A i k) (g:Star A k j):Star A i j
def Re.plain:Re->Bool
 | .qb=>true
 | .one _=>true
 | .cat a b=>a.plain&&b.plain
 | .alt a b=>a.plain&&b.plain
 | .opt _ a=>a.plain
 | .loop _ a=>a.plain
 | _=>false
def Agree(d:Nat)(R R':List Int):Prop:=R'.length=R.length/\R'.take (30+d)=R.take (30+d)
theorem Agree.refl d R:Agree d R R:=⟨rfl,rfl⟩
theorem Agree.trans{d R S T}(h:Agree d R S)(g:Agree d S T):Agree d R T:=⟨g.1.trans h.1,g.2.trans h.2⟩
theorem Agree.less{d}{R S}(h:Agree (d+1) R S):Agree d R S:=by
 refine⟨h.1,?_⟩;have:=rJ (List.take (30+d)) h.2;rw[iK,iK,iW (by omega)]at this;exact this
theorem Agree.set d R x:Agree d R (R.set (30+d) x):=⟨by simp,by rw[aA (lF _)]⟩
theorem Agree.mark{d}{R S:List Int}{x}(h:Agree (d+1) (R.set (30+d) x) S)(j:30+d<R.length):S.getD (30+d) 0=x:=by
 have e:(S.take (30+(d+1)))[30+d]?=((R.set (30+d) x).take (30+(d+1)))[30+d]?:=by rw[h.2]
 rw[oK (by omega),oK (by omega),iC j]at e;rw[lH,e];rfl
section
variable {E:Env}
theorem XQ{pc pos q d:Nat}{R}(G:E.c.getD pc kC=⟨5,(q),(d),[]⟩)(I:R.getD (30+d) 0=(pos:Int)):Within E 1 ((pc)::(pos)::R) none:=by
 have h:=bS E pc ((pos:Int)::R);rw[G]at h
 have e:(kW E.t ((pc:Int)::(pos:Int)::R) (E.ins ((pc:Int)::(pos:Int)::R))).2=false:=by
  rw[h];show(gt ((pc:Int)::(pos:Int)::R) (32+(d:Int).toNat) != (pos:Int))=_
  have j:gt ((pc:Int)::(pos:Int)::R) (32+(d:Int).toNat)=R.getD (30+d) 0:=by
   unfold gt;rw[gW,show 32+d=30+d+1+1 by omega,rV,rV]
  rw[j,I];simp
 exact zq (by rw[h];simp) (by rw[h];simp) (by rw[h];simp) (by rw[h];simp) e
def Ends(E:Env)(q j:Nat)(R:List Int)(S:Prop)(T:qL->Prop):Prop:=
 (S->∃K u,Within E K ((q:Int)::(j:Int)::R) (some u)/\T u)/\(¬S->∃K,Within E K ((q:Int)::(j:Int)::R) none)
theorem Ends.same{q J R S h T j}(G:Ends E q J R S T)(I:h↔S)(O:∀u,T u->j u):Ends E q J R h j:=by
 refine⟨λs=>?_,λs=>G.2 (λx=>s (I.2 x))⟩;obtain⟨K,u,a,b⟩:=G.1 (I.1 s);exact⟨K,u,a,O u b⟩
end
