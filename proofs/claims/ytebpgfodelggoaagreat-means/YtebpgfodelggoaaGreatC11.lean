import Derived.Test.YtebpgfodelggoaaGreatC10
set_option linter.all false
namespace Mt
abbrev Oc:=Nat × List Int
def jg(t:BA)(k:Nat)(o:Oc):List Oc:=
 if o.2.getD (2*k) 0<0 then[]
 else if(t.size:Int)<(o.1:Int)+(o.2.getD (2*k+1) 0-o.2.getD (2*k) 0)then[]
 else if(t.extract (o.2.getD (2*k) 0).toNat (o.2.getD (2*k+1) 0).toNat).toList==(t.extract o.1 (o.1+(o.2.getD (2*k+1) 0).toNat-(o.2.getD (2*k) 0).toNat)).toList then[(o.1+(o.2.getD (2*k+1) 0).toNat-(o.2.getD (2*k) 0).toNat,o.2)]else[]
def fZ(k:Nat)(o x:Oc):Oc:=(x.1,(x.2.set (2*k) (o.1:Int)).set (2*k+1) (x.1:Int))
def DF(s:Int)(o:Oc)(l:List Oc):List Oc:=if s=0 then l.take 1 else if s=1 then(l.take 1).map (λx=>(o.1,x.2))else if l.isEmpty then[o]else[]
def fI(f:Oc->List Oc)(late:Bool):Nat->Oc->List Oc
 | 0,o=>[o]
 | n+1,o=>if late then o::((f o).filter λx=>x.1 != o.1).flatMap (fI f late n)else((f o).filter λx=>x.1 != o.1).flatMap (fI f late n)++[o]
def outs(t:BA):Re->Oc->List Oc
 | .qb,o=>[o]
 | .one s,o=>if nL t o.1 s then[(o.1+1,o.2)]else[]
 | .back k,o=>jg t k.toNat o
 | .head,o=>if o.1=0 then[o]else[]
 | .tail,o=>if o.1=t.size then[o]else[]
 | .cat a b,o=>(outs t a o).flatMap (outs t b)
 | .alt a b,o=>outs t a o++outs t b o
 | .cap k a,o=>(outs t a o).map (fZ k.toNat o)
 | .sub s a,o=>DF s o (outs t a o)
 | .opt late a,o=>if late then o::outs t a o else outs t a o++[o]
 | .loop late a,o=>fI (outs t a) late (t.size-o.1) o
def Re.caps:Re->List Nat
 | .cat a b=>a.caps++b.caps
 | .alt a b=>a.caps++b.caps
 | .cap k a=>k.toNat::a.caps
 | .sub _ a=>a.caps
 | .opt _ a=>a.caps
 | .loop _ a=>a.caps
 | _=>[]
def Re.Ie:Re->Prop
 | .back k=>0<=k/\k<=9
 | .cat a b=>a.Ie/\b.Ie
 | .alt a b=>a.Ie/\b.Ie
 | .cap k a=>0<=k/\k<=9/\k.toNat∉a.caps/\a.Ie
 | .sub s a=>(s=0\/s=1\/s=2)/\a.Ie
 | .opt _ a=>a.Ie
 | .loop _ a=>a.Ie
 | _=>True
def Re.tC:Re->Nat
 | .cat a b=>max a.tC b.tC
 | .alt a b=>max a.tC b.tC
 | .cap _ a=>a.tC
 | .sub _ a=>a.tC
 | .opt _ a=>a.tC
 | .loop _ a=>a.tC+1
 | _=>0
structure kV (t:BA) (o:Oc):Prop where
 pos:o.1<=t.size
 len:o.2.length=20
 at':∀k,k<10->o.2.getD (2*k) 0<0\/(0<=o.2.getD (2*k) 0/\o.2.getD (2*k) 0<=o.2.getD (2*k+1) 0/\o.2.getD (2*k+1) 0<=t.size)
def iq(t:BA)(o:Oc)(l:List Oc):Prop:=∀x∈l,kV t x/\o.1<=x.1
theorem Ig{t}{o}{l}{f}(j:iq t o l)(G:∀x,kV t x->iq t x (f x)):iq t o (l.flatMap f):=λy h=>by
 rw[eO]at h;obtain⟨x,I,h⟩:=h;have a:=j x I;have b:=G x a.1 y h;exact⟨b.1,by omega⟩
theorem DI{t o l m}(j:iq t o l)(g:iq t o m):iq t o (l++m):=λx h=>by
 rw[gV]at h;exact h.elim (j x) (g x)
theorem xS{t o}(j:kV t o):iq t o [o]:=λx h=>by
 simp only[oH,sS,wY]at h;subst h;exact⟨j,lF _⟩
theorem Ih{t}{f}{late}(G:∀x,kV t x->iq t x (f x)):∀(n) (o),kV t o->iq t o (fI f late n o)
 | 0,o,h=>xS h
 | n+1,o,h=>by
  have g:iq t o (((f o).filter λx=>x.1 != o.1).flatMap (fI f late n)):=Ig (λx j=>G o h x (List.mem_filter.1 j).1) (λx j=>Ih G n x j);unfold fI;split
  ·exact λx j=>by
    rw[oH]at j;exact j.elim (λe=>by subst e;exact⟨h,lF _⟩) (g x)
  ·exact DI g (xS h)
theorem Uz{t k o x}(I:k<10)(O:kV t o)(h:kV t x)(U:o.1<=x.1):kV t (fZ k o x):=by
 refine⟨h.pos,by simp[fZ,h.len],λj G=>?_⟩;have J:=h.len;have W:=h.pos;unfold fZ;dsimp only;by_cases e:j=k
 ·subst e;right;rw[lH,rD (by omega),iC (by omega),lH,iC (by simp;omega)];simp only[uS];omega
 ·have:=h.at' j G;rw[lH,rD (by omega),rD (by omega),lH,rD (by omega),rD (by omega),<-lH,<-lH];exact this
theorem nM t:∀r,r.Ie->∀o,kV t o->iq t o (outs t r o)
 | .qb,_,o,h=>xS h
 | .one s,_,o,h=>by
  unfold outs;split
  ·rename_i I
   intro x j;simp only[oH,sS,wY]at j;subst j;unfold nL at I;split at I
   ·exact⟨⟨by dsimp only;omega,h.len,h.at'⟩,by dsimp only;omega⟩
   ·simp at I
  ·intro x j;simp at j
 | .back k,hf,o,h=>by
  have J:k.toNat<10:=by have:0<=k/\k<=9:=hf;omega
  have O:=h.at' k.toNat J;have U:=h.pos;show iq t o (jg t k.toNat o);unfold jg;split
  ·intro x j;simp at j
  ·split
   ·intro x j;simp at j
   ·split
    ·intro x j;simp only[oH,sS,wY]at j;subst j;exact⟨⟨by dsimp only;omega,h.len,h.at'⟩,by dsimp only;omega⟩
    ·intro x j;simp at j
 | .head,_,o,h=>by
  unfold outs;split
  ·exact xS h
  ·intro x j;simp at j
 | .tail,_,o,h=>by
  unfold outs;split
  ·exact xS h
  ·intro x j;simp at j
 | .cat a b,hf,o,h=>Ig (nM t a hf.1 o h) (λx j=>nM t b hf.2 x j)
 | .alt a b,hf,o,h=>DI (nM t a hf.1 o h) (nM t b hf.2 o h)
 | .cap k a,hf,o,h=>by
  have J:k.toNat<10:=by have:0<=k/\k<=9:=⟨hf.1,hf.2.1⟩;omega
  intro y G;unfold outs at G;rw[uY]at G;obtain⟨x,j,rfl⟩:=G;have:=nM t a hf.2.2.2 o h x j;exact⟨Uz J h this.1 this.2,this.2⟩
 | .sub s a,hf,o,h=>by
  have g:=nM t a hf.2 o h;show iq t o (DF s o (outs t a o));unfold DF;split
  ·exact λx j=>g x (oW j)
  ·split
   ·intro y G;rw[uY]at G;obtain⟨x,j,rfl⟩:=G;have:=g x (oW j);exact⟨⟨h.pos,this.1.len,this.1.at'⟩,lF _⟩
   ·split
    ·exact xS h
    ·intro x j;simp at j
 | .opt late a,hf,o,h=>by
  have g:=nM t a hf o h;unfold outs;split
  ·exact λx j=>by
    rw[oH]at j;exact j.elim (λe=>by subst e;exact⟨h,lF _⟩) (g x)
  ·exact DI g (xS h)
 | .loop late a,hf,o,h=>Ih (λx j=>nM t a hf x j) _ o h
section
variable {α β:Type}
theorem PD(ρ:α->Option β) f:∀l:List α,(l.flatMap f).findSome? ρ=l.findSome? (λx=>(f x).findSome? ρ)
 | []=>rfl
 | x::l=>by
  rw[gT,iG,PD ρ f l,rQ];cases(f x).findSome? ρ <;> rfl
theorem zAF(ρ:α->Option β) g:∀l:List α,(l.map g).findSome? ρ=l.findSome? (λx=>ρ (g x))
 | []=>rfl
 | x::l=>by rw[oZ,rQ,rQ,zAF ρ g l]
theorem Ii(ρ:α->Option β) p:∀l:List α,(l.filter p).findSome? ρ=l.findSome? (λx=>if p x then ρ x else none)
 | []=>rfl
 | x::l=>by
  rw[wG,rQ];cases h:p x
  ·simp[Ii ρ p l]
  ·simp only[wS];rw[rQ,Ii ρ p l]
theorem zu(ρ:α->Option β) x:[x].findSome? ρ=ρ x:=by
 rw[rQ];cases ρ x <;> rfl
theorem Lp{f g:α->Option β}:∀{l:List α},(∀x∈l,f x=g x)->l.findSome? f=l.findSome? g
 | [],_=>rfl
 | x::l,h=>by rw[rQ,rQ,h x (by simp),Lp (l:=l) (λy j=>h y (by simp[j]))]
theorem Ww:∀l:List α,l.findSome? (λ_=>(none:Option β))=none
 | []=>rfl
 | x::l=>by rw[rQ];exact Ww l
theorem Wx:∀l:List α,l.findSome? (λx=>some x)=l.head?
 | []=>rfl
 | x::l=>rfl
end
structure Same (C:List Nat) (d:Nat) (R R':List Int):Prop where
 len:R'.length=R.length
 note:∀k,k<10->k∉C->R'.getD (20+k) 0=R.getD (20+k) 0
 mark:∀i,i<d->R'.getD (30+i) 0=R.getD (30+i) 0
theorem Same.refl C d R:Same C d R R:=⟨rfl,λ_ _ _=>rfl,λ_ _=>rfl⟩
theorem Same.trans{C d R S T}(h:Same C d R S)(g:Same C d S T):Same C d R T:=
 ⟨g.len.trans h.len,λk I j=>(g.note k I j).trans (h.note k I j),λi G=>(g.mark i G).trans (h.mark i G)⟩
theorem Same.more{C D d R S}(h:Same C d R S)(I:∀k∈C,k∈D):Same D d R S:=
 ⟨h.len,λk G j=>h.note k G (λx=>j (I k x)),h.mark⟩
variable {E:Env} {β:Type}
def vo(E:Env)(T:β->qL->Prop)(q:Nat)(o:Oc)(R:List Int)(x:Option β):Prop:=
 match x with
 | some b=>∃K u,Within E K ((q:Int)::(o.1:Int)::R) (some u)/\T b u
 | none=>∃K,Within E K ((q:Int)::(o.1:Int)::R) none
theorem fD{T}{q q':Nat}{o o'}{R R'}{x:Option β}(h:vo E T q' o' R' x)(j:∀{K} {r},Within E K ((q')::(o'.1:Int)::R') r->∃L,Within E L ((q)::(o.1:Int)::R) r):vo E T q o R x:=by
 cases x with
 | none=>obtain⟨K,a⟩:=h;exact j a
 | some b =>
  obtain⟨K,u,a,t⟩:=h;obtain⟨L,G⟩:=j a;exact⟨L,u,G,t⟩
theorem zw{T}{pc x y:Nat}{o R}{a b:Option β}(G:E.c.getD pc kC=⟨2, x, y,[]⟩)(j:vo E T x o R a)(J:vo E T y o R b):vo E T pc o R (a.or b):=by
 cases a with
 | some c=>obtain⟨K,u,h,I⟩:=j;exact⟨_,u,zEl G h,I⟩
 | none =>
  obtain⟨K,h⟩:=j;exact fD J (λg=>⟨_,zCU G h g⟩)
theorem getD_take{l:List Int}{n i}(h:i<n):(l.take n).getD i 0=l.getD i 0:=by
 rw[lH,oK h,<-lH]
theorem zEo{K}{pc h:Nat}{R}{r}(G:E.c.getD pc kC=⟨9,0,0,[]⟩)(I:h=0)(g:Within E K (((pc+1:Nat):Int)::(h)::R) r):Within E (K+1) ((pc)::(h)::R) r:=by
 have j:=bS E pc ((h:Int)::R);rw[G]at j
 have e:kW E.t ((pc:Int)::(h:Int)::R) (E.ins ((pc:Int)::(h:Int)::R))=(((pc+1:Nat):Int)::(h:Int)::R,true):=by
  rw[j,I];rfl
 exact mX (by rw[j];simp) (by rw[j];simp) (by rw[j];simp) (by rw[j];simp) (by rw[e]) (by rw[e];exact g)
theorem zAG{pc j:Nat}{R}(G:E.c.getD pc kC=⟨9,0,0,[]⟩)(I:j≠0):Within E 1 ((pc)::(j)::R) none:=by
 have h:=bS E pc ((j:Int)::R);rw[G]at h
 have e:(kW E.t ((pc:Int)::(j:Int)::R) (E.ins ((pc:Int)::(j:Int)::R))).2=false:=by
  rw[h];show((j:Int)==0)=false;simp;omega
 exact zq (by rw[h];simp) (by rw[h];simp) (by rw[h];simp) (by rw[h];simp) e
theorem zEp{K}{pc h}{R}{r}(G:E.c.getD pc kC=⟨10,0,0,[]⟩)(I:h=E.t.size)(g:Within E K (((pc+1:Nat):Int)::(h)::R) r):Within E (K+1) ((pc)::(h)::R) r:=by
 have j:=bS E pc ((h:Int)::R);rw[G]at j
 have e:kW E.t ((pc:Int)::(h:Int)::R) (E.ins ((pc:Int)::(h:Int)::R))=(((pc+1:Nat):Int)::(h:Int)::R,true):=by
  rw[j];show(_,((h:Int)==(E.t.size:Int)))=_;have:((h:Int)==(E.t.size:Int))=true:=by simp[I]
  rw[this];rfl
 exact mX (by rw[j];simp) (by rw[j];simp) (by rw[j];simp) (by rw[j];simp) (by rw[e]) (by rw[e];exact g)
theorem zAH{pc j R}(G:E.c.getD pc kC=⟨10,0,0,[]⟩)(I:j≠E.t.size):Within E 1 ((pc)::(j)::R) none:=by
 have h:=bS E pc ((j:Int)::R);rw[G]at h
 have e:(kW E.t ((pc:Int)::(j:Int)::R) (E.ins ((pc:Int)::(j:Int)::R))).2=false:=by
  rw[h];show((j:Int)==(E.t.size:Int))=false;simp;omega
 exact zq (by rw[h];simp) (by rw[h];simp) (by rw[h];simp) (by rw[h];simp) e
theorem zAI{T}{pc k:Nat}{o}{R}{ρ:Oc->Option β}(a2:E.c.getD pc kC=⟨8,(k),0,[]⟩)(a3:k<10)(a4:kV E.t o)(Z:R.take 20=o.2)(g:∀x,x∈jg E.t k o->vo E T (pc+1) x R (ρ x)):vo E T pc o R ((jg E.t k o).findSome? ρ):=by
 have h:=bS E pc ((o.1:Int)::R);rw[a2]at h
 have J:gt ((pc:Int)::(o.1:Int)::R) (2+(2*(k:Int)).toNat)=o.2.getD (2*k) 0:=by
  unfold gt;rw[show 2+(2*(k:Int)).toNat=2*k+1+1 by omega,rV,rV,<-Z,getD_take (by omega)]
 have W:gt ((pc:Int)::(o.1:Int)::R) (2+(2*(k:Int)+1).toNat)=o.2.getD (2*k+1) 0:=by
  unfold gt;rw[show 2+(2*(k:Int)+1).toNat=2*k+1+1+1 by omega,rV,rV,<-Z,getD_take (by omega)]
 have Y:gt ((pc:Int)::(o.1:Int)::R) 1=(o.1:Int):=rfl;have a1:gt ((pc:Int)::(o.1:Int)::R) 0=(pc:Int):=rfl;have a5:=a4.at' k a3;have no:(bV E.t ((pc:Int)::(o.1:Int)::R) (k:Int)).2=false->vo E T pc o R none:=λO=>⟨1,zq (by rw[h];simp) (by rw[h];simp) (by rw[h];simp) (by rw[h];simp) (by rw[h];exact O)⟩
 have a0:=g;clear g;unfold jg;by_cases j:o.2.getD (2*k) 0<0
 ·rw[lG j];refine no ?_;unfold bV;rw[J,lG j]
 ·rw[lC j];by_cases G:(E.t.size:Int)<(o.1:Int)+(o.2.getD (2*k+1) 0-o.2.getD (2*k) 0)
  ·rw[lG G];refine no ?_;unfold bV;rw[J,W,Y,lC j,lG G]
  ·rw[lC G]
   have I:bV E.t ((pc:Int)::(o.1:Int)::R) (k:Int)=(((pc+1:Nat):Int)::((o.1+(o.2.getD (2*k+1) 0).toNat-(o.2.getD (2*k) 0).toNat:Nat):Int)::R,(E.t.extract (o.2.getD (2*k) 0).toNat (o.2.getD (2*k+1) 0).toNat).toList==(E.t.extract o.1 (o.1+(o.2.getD (2*k+1) 0).toNat-(o.2.getD (2*k) 0).toNat)).toList):=by
    unfold bV;rw[J,W,Y,a1,lC j,lC G,gW,show(o.1:Int)+o.2.getD (2*k+1) 0-o.2.getD (2*k) 0=((o.1+(o.2.getD (2*k+1) 0).toNat-(o.2.getD (2*k) 0).toNat:Nat):Int) by omega];rfl
   cases U:((E.t.extract (o.2.getD (2*k) 0).toNat (o.2.getD (2*k+1) 0).toNat).toList==(E.t.extract o.1 (o.1+(o.2.getD (2*k+1) 0).toNat-(o.2.getD (2*k) 0).toNat)).toList)
   ·rw[lC (by simp)];exact no (by rw[I];exact U)
   ·rw[lG rfl,zu];rw[U]at I;refine fD (a0 (o.1+(o.2.getD (2*k+1) 0).toNat-(o.2.getD (2*k) 0).toNat,o.2) (by unfold jg;rw[lC j,lC G,U,lG rfl];simp)) (λO=>?_);exact⟨_,mX (by rw[h];simp) (by rw[h];simp) (by rw[h];simp) (by rw[h];simp) (by rw[h];show(bV E.t _ _).2=true;rw[I]) (by rw[h];show Within E _ (bV E.t _ _).1 _;rw[I];exact O)⟩
end Mt
namespace Mt
variable {E:Env}
theorem zAJ{c}{k:Nat}{a}{p}{d}(h:Here c p ((Re.cap (k) a).code p d)):c.getD p kC=⟨6,(k),0,[]⟩/\Here c (p+1) (a.code ((p+1:Nat):Int) d)/\c.getD (p+1+a.len) kC=⟨7,(k),0,[]⟩:=by
 rw[Re.code]at h;obtain⟨G,I⟩:=h;obtain⟨J,j⟩:=Bt I;rw[Re.zH]at j;exact⟨G,by simpa using J,j.1⟩
theorem Lr(R:List Int) i x(h:20<=i):(R.set i x).take 20=R.take 20:=aA h
theorem getD_set_ne{R:List Int}{i j x}(h:i≠j):(R.set i x).getD j 0=R.getD j 0:=by
 rw[lH,rD h,<-lH]
theorem ET{R:List Int}{i x}(h:i<R.length):(R.set i x).getD i 0=x:=by
 rw[lH,iC h];rfl
theorem Jq(R:List Int) i x:(R.set i x).take 20=(R.take 20).set i x:=by
 rw[List.take_set]
theorem Lu f late n o:fI f late (n+1) o=if late then o::((f o).filter λx=>x.1 != o.1).flatMap (fI f late n)else((f o).filter λx=>x.1 != o.1).flatMap (fI f late n)++[o]:=rfl
theorem Ij{t}{f}{late}(O:∀x,kV t x->iq t x (f x)):∀(n m) (o),kV t o->t.size-o.1<=n->t.size-o.1<=m->fI f late n o=fI f late m o:=by
 have W:∀o,kV t o->t.size-o.1=0->(f o).filter (λx=>x.1 != o.1)=[]:=λo h a3=>by
  rw[List.filter_eq_nil_iff];intro x G;have j:=O o h x G;have I:=j.1.pos;have J:=h.pos;simp;omega
 intro n;induction n with
 | zero =>
  intro m o h j I;cases m with
  | zero=>rfl
  | succ m =>
   have e:=W o h (by omega);unfold fI;rw[e];cases late <;> rfl
 | succ n a1 =>
  intro m o h j I;cases m with
  | zero =>
   have e:=W o h (by omega);unfold fI;rw[e];cases late <;> rfl
  | succ m =>
   have e:((f o).filter λx=>x.1 != o.1).flatMap (fI f late n)=((f o).filter λx=>x.1 != o.1).flatMap (fI f late m):=by
    have:∀l:List Oc,(∀x∈l,fI f late n x=fI f late m x)->l.flatMap (fI f late n)=l.flatMap (fI f late m):=by
     intro l;induction l with
     | nil=>intro _;rfl
     | cons x l a2 =>
      intro U;rw[gT,gT,U x (by simp),a2 (λy a0=>U y (by simp[a0]))]
    refine this _ (λx G=>?_);obtain⟨Y,Z⟩:=List.mem_filter.1 G;have J:=O o h x Y;have a4:x.1≠o.1:=by simpa using Z
    exact a1 m x J.1 (by omega) (by omega)
   unfold fI;rw[e]
theorem mh:∀r,r.Ie->∀{β} (T) (p d:Nat) (o) (R) (ρ:Oc->Option β),Here E.c p (r.code p (d))->kV E.t o->d+r.tC<=12->R.length=42->R.take 20=o.2->
  (∀x R',kV E.t x->o.1<=x.1->R'.take 20=x.2->Same r.caps d R R'->vo E T (p+r.len) x R' (ρ x))->vo E T p o R ((outs E.t r o).findSome? ρ)
 | .qb,_,β,T,p,d,o,R,ρ,h,I,hd,O,J,G=>by
  show vo E T p o R ([o].findSome? ρ);rw[zu];exact G o R I (lF _) J (Same.refl _ _ _)
 | .one s,hn,β,T,p,d,o,R,ρ,h,I,hd,O,J,G=>by
  have ok:=nM E.t (.one s) hn o I;unfold outs at ok |-;cases e:nL E.t o.1 s
  ·rw[lC (by simp)];exact⟨1,zAz h.1 e⟩
  ·rw[e,lG rfl]at ok;rw[lG rfl,zu];have j:=ok (o.1+1,o.2) (by simp);exact fD (G (o.1+1,o.2) R j.1 j.2 J (Same.refl _ _ _)) (λg=>⟨_,zEj h.1 e g⟩)
 | .back k,hn,β,T,p,d,o,R,ρ,h,I,hd,O,J,G=>by
  have a2:0<=k/\k<=9:=hn;obtain⟨n,rfl⟩:=oQ a2.1;show vo E T p o R ((jg E.t n o).findSome? ρ);have ok:=nM E.t (.back (n:Int)) hn o I
  have key:∀x,x∈jg E.t n o->vo E T (p+1) x R (ρ x):=λx j=>by
   have:=ok x j
   have d6:x.2=o.2:=by
    unfold jg at j;split at j
    ·simp at j
    ·split at j
     ·simp at j
     ·split at j
      ·simp only[oH,sS,wY]at j;rw[j]
      ·simp at j
   exact G x R this.1 this.2 (by rw[d6];exact J) (Same.refl _ _ _)
  exact zAI h.1 (by omega) I J key
 | .head,hn,β,T,p,d,o,R,ρ,h,I,hd,O,J,G=>by
  unfold outs;by_cases e:o.1=0
  ·rw[lG e,zu];exact fD (G o R I (lF _) J (Same.refl _ _ _)) (λg=>⟨_,zEo h.1 e g⟩)
  ·rw[lC e];exact⟨1,zAG h.1 e⟩
 | .tail,hn,β,T,p,d,o,R,ρ,h,I,hd,O,J,G=>by
  unfold outs;by_cases e:o.1=E.t.size
  ·rw[lG e,zu];exact fD (G o R I (lF _) J (Same.refl _ _ _)) (λg=>⟨_,zEp h.1 e g⟩)
  ·rw[lC e];exact⟨1,zAH h.1 e⟩
 | .cat a b,hn,β,T,p,d,o,R,ρ,h,I,hd,O,J,G=>by
  obtain⟨a0,b4⟩:=zAC h;have a3:d+a.tC<=12/\d+b.tC<=12:=by simp only[Re.tC]at hd;omega
  show vo E T p o R (((outs E.t a o).flatMap (outs E.t b)).findSome? ρ);rw[PD];refine mh a hn.1 T p d o R _ a0 I a3.1 O J (λx R' j Z Y U=>?_);refine mh b hn.2 T (p+a.len) d x R' ρ b4 j a3.2 (U.len.trans O) Y (λy b2 b7 d3 b3 b6=>?_);have:=G y b2 b7 (by omega) b3 ((U.more (λk a2=>by simp[Re.caps,a2])).trans (b6.more (λk a2=>by simp[Re.caps,a2])));rw[Re.len,<-uF]at this;exact this
 | .alt a b,hn,β,T,p,d,o,R,ρ,h,I,hd,O,J,G=>by
  obtain⟨W,a0,a9,b4⟩:=zAB h;have a3:d+a.tC<=12/\d+b.tC<=12:=by simp only[Re.tC]at hd;omega
  have a1:p+(Re.alt a b).len=p+a.len+2+b.len:=by simp only[Re.len];omega
  rw[a1]at G;show vo E T p o R ((outs E.t a o++outs E.t b o).findSome? ρ);rw[iG];refine zw W ?_ ?_
  ·exact mh a hn.1 T (p+1) d o R ρ a0 I a3.1 O J (λx R' j Z Y U=>fD (G x R' j Z Y (U.more (λk a2=>by simp[Re.caps,a2]))) (λg=>⟨_,zEk a9 g⟩))
  ·exact mh b hn.2 T (p+a.len+2) d o R ρ b4 I a3.2 O J (λx R' j Z Y U=>G x R' j Z Y (U.more (λk a2=>by simp[Re.caps,a2])))
 | .cap k a,hn,β,T,p,d,o,R,ρ,h,I,hd,O,J,G=>by
  obtain⟨c8,e2,d0,b5⟩:=hn;obtain⟨n,rfl⟩:=oQ c8;obtain⟨W,a0,c6⟩:=zAJ h;have e4:n<=9:=by omega
  have d1:n∉a.caps:=by simpa using d0
  show vo E T p o R (((outs E.t a o).map (fZ n o)).findSome? ρ);rw[zAF];have a1:p+(Re.cap (n:Int) a).len=p+1+a.len+1:=by simp only[Re.len];omega
  rw[a1]at G;refine fD (q':=p+1) (o':=o) (R':=R.set (20+n) (o.1:Int)) ?_ (λg=>⟨_,zCT W g⟩);refine mh a b5 T (p+1) d o (R.set (20+n) (o.1:Int)) _ a0 I hd (by simpa using O) (by rw[Lr _ _ _ (by omega)];exact J) (λx R' j Z Y U=>?_);have d2:R'.getD (20+n) 0=(o.1:Int):=by rw[U.note n (by omega) d1,ET (by omega)]
  have a6:R'.length=42:=by rw[U.len];simpa using O
  refine fD (G (fZ n o x) ((R'.set (2*n) (R'.getD (20+n) 0)).set (2*n+1) (x.1:Int)) (Uz (by omega) I j Z) Z ?_ ?_) (λg=>⟨_,zE6 c6 g⟩)
  ·rw[Jq,Jq,Y,d2];rfl
  ·refine⟨by simp[a6,O],λa7 a9 b1=>?_,λi a4=>?_⟩
   ·have e1:a7≠n:=λe=>b1 (by subst e;simp[Re.caps])
    have c7:a7∉a.caps:=λe=>b1 (by simp[Re.caps,e])
    rw[getD_set_ne (by omega),getD_set_ne (by omega),U.note a7 a9 c7,getD_set_ne (by omega)]
   ·rw[getD_set_ne (by omega),getD_set_ne (by omega),U.mark i a4,getD_set_ne (by omega)]
 | .sub s a,hn,β,T,p,d,o,R,ρ,h,I,hd,O,J,G=>by
  obtain⟨c2,b5⟩:=hn;obtain⟨W,a0,c4⟩:=zAD h;have a1:p+(Re.sub s a).len=p+a.len+2:=by simp only[Re.len];omega
  rw[a1]at G;have b0:=mh a b5 (β:=Oc) (λx u=>∃R',u=((p+1+a.len:Nat):Int)::(x.1:Int)::R'/\kV E.t x/\o.1<=x.1/\R'.take 20=x.2/\Same a.caps d R R') (p+1) d o R (λx=>some x) a0 I hd O J (λx R' j Z Y U=>⟨1,_,zAA c4 (.inr rfl),R',rfl,j,Z,Y,U⟩);rw[Wx]at b0;show vo E T p o R ((DF s o (outs E.t a o)).findSome? ρ);cases c0:outs E.t a o with
  | nil =>
   rw[c0]at b0;obtain⟨K,g⟩:=b0;rcases c2 with rfl | rfl | rfl
   ·exact⟨_,RS (.inl rfl) W g⟩
   ·exact⟨_,RS (.inr rfl) W g⟩
   ·show vo E T p o R ([o].findSome? ρ);rw[zu];exact fD (G o R I (lF _) J (Same.refl _ _ _)) (λa8=>⟨_,zCV W g a8⟩)
  | cons x l =>
   rw[c0]at b0;obtain⟨K,u,g,R',rfl,j,Z,Y,c3⟩:=b0;rcases c2 with rfl | rfl | rfl
   ·show vo E T p o R ([x].findSome? ρ);rw[zu];exact fD (G x R' j Z Y c3) (λa8=>⟨_,zEm W g a8⟩)
   ·show vo E T p o R ([(o.1,x.2)].findSome? ρ);rw[zu];have a6:=c3.len.trans O;have a4:=bS E p ((o.1:Int)::R);rw[W]at a4;refine fD (q':=p+a.len+2) (o':=(o.1,x.2)) (R':=R'.take 20++R.drop 20) (G (o.1,x.2) (R'.take 20++R.drop 20) ⟨I.pos,j.len,j.at'⟩ (lF _) ?_ ?_) (λa8=>⟨_,Cg (z:=((p+a.len+2:Nat):Int)::(o.1:Int)::(R'.take 20++R.drop 20)) (by rw[a4]) g (λv d5=>?_) a8⟩)
    ·rw[uZ (by simp[a6]),iK,Nat.min_self];exact Y
    ·have b9:∀i,20<=i->(R'.take 20++R.drop 20).getD i 0=R.getD i 0:=λi a4=>by
      rw[lH,gL (by simp[a6];omega),sW,<-lH];congr 1;simp[a6];omega
     exact⟨by simp[a6,O],λa7 _ _=>b9 _ (by omega),λi _=>b9 _ (by omega)⟩
    ·rw[d5 _ rfl,a4];rfl
   ·exact⟨_,XM W g⟩
 | .opt late a,hn,β,T,p,d,o,R,ρ,h,I,hd,O,J,G=>by
  obtain⟨W,a0⟩:=zAE h;have a1:p+(Re.opt late a).len=p+a.len+1:=by simp only[Re.len];omega
  rw[a1]at G;have x:=mh a hn T (p+1) d o R ρ a0 I hd O J (λx R' j Z Y U=>by rw[show p+1+a.len=p+a.len+1 by omega];exact G x R' j Z Y U);have y:=G o R I (lF _) J (Same.refl _ _ _);unfold outs;cases late
  ·simp only[sH,wX]at W |-;rw[iG,zu];exact zw W x y
  ·simp only[wS]at W |-
   have:(o::outs E.t a o).findSome? ρ=(ρ o).or ((outs E.t a o).findSome? ρ):=by
    rw[rQ];cases ρ o <;> rfl
   rw[this];exact zw W y x
 | .loop late a,hn,β,T,p,d,o0,R0,ρ,h,ho0,hd,hl0,hR0,hc0=>by
  obtain⟨W,a5,a0,b8⟩:=XP h;have a1:p+(Re.loop late a).len=p+a.len+3:=by simp only[Re.len];omega
  rw[a1]at hc0;have a3:d+1+a.tC<=12:=by simp only[Re.tC]at hd;omega
  have all:∀(n:Nat) (o:Oc) (R:List Int),E.t.size-o.1=n->kV E.t o->R.length=42->R.take 20=o.2->(∀x R',kV E.t x->o.1<=x.1->R'.take 20=x.2->Same a.caps d R R'->vo E T (p+a.len+3) x R' (ρ x))->vo E T p o R ((fI (outs E.t a) late n o).findSome? ρ):=by
   intro n;induction n using Nat.strongRecOn with
   | ind n d7 =>
    intro o R e3 I O J G;have y:=G o R I (lF _) J (Same.refl _ _ _)
    have x:vo E T (p+1) o R ((outs E.t a o).findSome? (λx=>if(x.1 != o.1)=true then(fI (outs E.t a) late (E.t.size-x.1) x).findSome? ρ else none)):=by
     refine fD (q':=p+2) (o':=o) (R':=R.set (30+d) (o.1:Int)) ?_ (λg=>⟨_,zEn a5 g⟩);refine mh a hn T (p+2) (d+1) o (R.set (30+d) (o.1:Int)) _ a0 I a3 (by simpa using O) (by rw[Lr _ _ _ (by omega)];exact J) (λx R' j Z Y U=>?_);have c1:R'.getD (30+d) 0=(o.1:Int):=by rw[U.mark d (by omega),ET (by omega)]
     by_cases e:x.1=o.1
     ·rw[lC (by simp[e])];exact⟨1,XQ b8 (by rw[c1,e])⟩
     ·rw[lG (by simp[e])];have d4:Same a.caps d R R':=⟨by rw[U.len];simp,λa7 a9 b1=>by rw[U.note a7 a9 b1,getD_set_ne (by omega)],λi a4=>by rw[U.mark i (by omega),getD_set_ne (by omega)]⟩
      have e5:=j.pos;have z:=d7 (E.t.size-x.1) (by omega) x R' rfl j (by rw[U.len];simpa using O) Y (λy b2 b7 d3 b3 b6=>G y b2 b7 (by omega) b3 (d4.trans b6));exact fD z (λg=>⟨_,zCW b8 (by rw[c1];omega) g⟩)
    have d8:((fI (outs E.t a) late n o).findSome? ρ)=(if late then(ρ o).or ((outs E.t a o).findSome? (λx=>if(x.1 != o.1)=true then(fI (outs E.t a) late (E.t.size-x.1) x).findSome? ρ else none))else((outs E.t a o).findSome? (λx=>if(x.1 != o.1)=true then(fI (outs E.t a) late (E.t.size-x.1) x).findSome? ρ else none)).or (ρ o)):=by
     have ok:=nM E.t a hn o I;cases n with
     | zero =>
      have c9:(outs E.t a o).findSome? (λx=>if(x.1 != o.1)=true then(fI (outs E.t a) late (E.t.size-x.1) x).findSome? ρ else none)=none:=by
       rw[Lp (g:=λ_=>none) (λx j=>by
        have a5:=ok x j;have c5:=a5.1.pos;have e0:=I.pos;rw[lC (by simp;omega)])]
       exact Ww _
      rw[c9];show[o].findSome? ρ=_;rw[zu];cases late
      ·simp
      ·simp
     | succ n =>
      have step:(((outs E.t a o).filter λx=>x.1 != o.1).flatMap (fI (outs E.t a) late n)).findSome? ρ=(outs E.t a o).findSome? (λx=>if(x.1 != o.1)=true then(fI (outs E.t a) late (E.t.size-x.1) x).findSome? ρ else none):=by
       rw[PD,Ii];refine Lp (λx j=>?_);have a5:=ok x j;have c5:=a5.1.pos;by_cases e:(x.1 != o.1)=true
       ·rw[lG e,lG e];have d9:x.1≠o.1:=by simpa using e
        rw[Ij (λx j=>nM E.t a hn x j) n (E.t.size-x.1) x a5.1 (by omega) (lF _)]
       ·rw[lC e,lC e]
      rw[Lu];cases late
      ·simp only[sH,wX];rw[iG,zu,step]
      ·simp only[wS];rw[rQ,step];cases ρ o <;> rfl
    rw[d8];cases late
    ·simp only[sH,wX]at W |-;exact zw W x y
    ·simp only[wS]at W |-;exact zw W y x
  exact all _ o0 R0 rfl ho0 hl0 hR0 hc0
end Mt
namespace Mt
abbrev OW:=List Oc × Nat
def yQ(l:List Oc)(o:Oc)(w:Nat):OW:=if w+l.length+1<=300000/\o∈l then(l,w+l.length+1)else(l++[o],w+l.length+1)
def kT:List Oc->List Oc->Nat->OW
 | l,[],w=>(l,w)
 | l,x::xs,w=>kT (yQ l x w).1 xs (yQ l x w).2
def bindM(f:Oc->Nat->OW):List Oc->List Oc->Nat->OW
 | next,[],w=>(next,w)
 | next,x::now,w=>bindM f (kT next (f x w).1 (f x w).2).1 now (kT next (f x w).1 (f x w).2).2
def qC(f:Oc->Nat->OW):Nat->List Oc->Nat->OW
 | 0,now,w=>(now,w)
 | n+1,now,w=>qC f n (bindM f [] now w).1 (bindM f [] now w).2
abbrev Tr:=List (Oc × Int) × List Oc × Nat
def pJ(g:Int->Oc->Tr->Tr)(k:Int)(pos:Nat):List Oc->Tr->Tr
 | [],s=>s
 | y::ys,s=>pJ g k pos ys (if 0<k then g (k-1) y s else if y.1≠pos then g k y s else s)
def tailA(late:Bool)(o:Oc)(out:List Oc)(w:Nat):OW:=if late then yQ out o w else(out,w)
def dZ(f:Oc->Nat->OW)(g:Int->Oc->Tr->Tr)(k:Int)(o:Oc)(s:Tr):Tr:=if k=0 then s else pJ g k o.1 (f o s.2.2).1 (s.1,s.2.1,(f o s.2.2).2)
def jL(f:Oc->Nat->OW)(late:Bool):Nat->Int->Oc->Tr->Tr
 | 0,_,_,s=>s
 | n+1,k,o,s =>
  if(o,k)∈s.1 then(s.1,s.2.1,s.2.2+s.1.length+1)
  else if 300000<s.2.2+s.1.length+1 then(s.1++[(o,k)],s.2.1,s.2.2+s.1.length+1)
  else
   let b:=dZ f (jL f late n) k o (s.1++[(o,k)],tailA late o s.2.1 (s.2.2+s.1.length+1))
   (b.1,tailA (!late) o b.2.1 b.2.2)
def bT(f:Oc->Nat->OW)(late:Bool)(k:Int)(o:Oc)(w:Nat):OW:=(jL f late 32 k o ([],[],w)).2
def pW(r:zU):Int:=if 0<=r.m then r.m-r.n else -1
def wm(f:Oc->Nat->OW)(r:zU)(o:Oc)(w:Nat):OW:=
 let now:=qC f r.n.toNat [o] w
 let out:=bindM (bT f (decide (r.jB=1)) (pW r)) [] now.1 now.2
 (if r.jB=2 then out.1.take 1 else out.1,out.2)
def bW(at' pt:Nat->Nat->Oc->Nat->OW)(l:List zU)(b:Nat):Nat->Nat->List Oc->Nat->OW
 | 0,_,now,w=>(now,w)
 | f+1,i,now,w =>
  if b<=i then(now,w)
  else if after l i<b/\jX l (after l i)=8 then bW at' pt l b f (after l i+1) (bindM (pt i (after l i)) [] now w).1 (bindM (pt i (after l i)) [] now w).2
  else bW at' pt l b f (after l i) (bindM (at' i (after l i)) [] now w).1 (bindM (at' i (after l i)) [] now w).2
def JR(jB n:Int)(o:Oc)(r:OW):OW:=if jB=3 then r else if jB=4 then kT [] (r.1.map (fZ n.toNat o)) r.2 else(DF jB o r.1,r.2)
def mM(l:List zU)(t:BA):Nat->Nat->Nat->Nat->Oc->Nat->OW
 | 0,_,_,_,o,w=>(if 300000<w then[]else[o],w)
 | f+1,0,a,b,o,w=>if bar l a b=b then mM l t f 1 a (bar l a b) o w
  else kT (mM l t f 1 a (bar l a b) o w).1 (mM l t f 0 (bar l a b+1) b o (mM l t f 1 a (bar l a b) o w).2).1 (mM l t f 0 (bar l a b+1) b o (mM l t f 1 a (bar l a b) o w).2).2
 | f+1,1,a,b,o,w=>bW (λi j=>mM l t f 2 i j) (λi j=>mM l t f 3 i j) l b (b-a) a [o] w
 | f+1,2,a,b,o,w =>
  if 300000<w+1 then([],w+1)
  else if jX l a=1 then(if nL t o.1 (l.getD a zZ).set then[(o.1+1,o.2)]else[],w+1)
  else if jX l a=2 then(jg t (l.getD a zZ).n.toNat o,w+1)
  else if jX l a=3 then(if o.1=0 then[o]else[],w+1)
  else if jX l a=4 then(if o.1=t.size then[o]else[],w+1)
  else JR (l.getD a zZ).jB (l.getD a zZ).n o (mM l t f 0 (a+1) (b-1) o (w+1))
 | f+1,_+3,a,b,o,w=>wm (mM l t f 2 a b) (l.getD b zZ) o w
theorem jh l o w:(yQ l o w).2=w+l.length+1:=by unfold yQ;split <;> rfl
theorem Gl l o w:l.length<=(yQ l o w).1.length/\(yQ l o w).1.length<=l.length+1:=by
 unfold yQ;split <;> simp
theorem vB:∀xs l w,l.length<=(kT l xs w).1.length/\(kT l xs w).1.length<=l.length+xs.length/\w+xs.length<=(kT l xs w).2
 | [],l,w=>by simp[kT]
 | x::xs,l,w=>by
  have a:=Gl l x w;have b:=jh l x w;have c:=vB xs (yQ l x w).1 (yQ l x w).2;simp only[kT,lU];omega
theorem dK{f}(j:∀o w,w<=(f o w).2):∀(h next) (w),next.length<=(bindM f next h w).1.length/\w<=(bindM f next h w).2/\(bindM f next h w).1.length+w<=next.length+(bindM f next h w).2
 | [],next,w=>by simp[bindM]
 | x::h,next,w=>by
  have a:=j x w;have b:=vB (f x w).1 next (f x w).2
  have c:=dK j h (kT next (f x w).1 (f x w).2).1 (kT next (f x w).1 (f x w).2).2;simp only[bindM];omega
theorem ji{f}(j:∀o w,w<=(f o w).2):∀(n) (h) (w),w<=(qC f n h w).2
 | 0,h,w=>lF _
 | n+1,h,w=>by
  have a:=dK j h [] w;have b:=ji j n (bindM f [] h w).1 (bindM f [] h w).2;simp only[qC];omega
def Tr.up(s s':Tr):Prop:=s.2.2<=s'.2.2/\s.1.length<=s'.1.length/\s.2.1.length<=s'.2.1.length/\s'.1.length+s'.2.1.length+s.2.2<=s.1.length+s.2.1.length+s'.2.2
theorem Tr.up.refl(s:Tr):s.up s:=⟨lF _,lF _,lF _,lF _⟩
theorem Tr.up.trans{a b c:Tr}(h:a.up b)(g:b.up c):a.up c:=by
 obtain⟨O,U,W,Y⟩:=h;obtain⟨j,G,I,J⟩:=g;exact⟨by omega,by omega,by omega,by omega⟩
theorem qd{g}(h:∀k o s,Tr.up s (g k o s))(k)(G):∀(j) (s),Tr.up s (pJ g k G j s)
 | [],s=>Tr.up.refl s
 | y::j,s=>by
  simp only[pJ];refine Tr.up.trans ?_ (qd h k G j _);split
  ·exact h _ _ _
  ·split
   ·exact h _ _ _
   ·exact Tr.up.refl s
theorem mY late o out w:w<=(tailA late o out w).2/\out.length<=(tailA late o out w).1.length/\(tailA late o out w).1.length+w<=out.length+(tailA late o out w).2:=by
 unfold tailA;split
 ·have a:=Gl out o w;have b:=jh out o w;omega
 ·exact⟨lF _,lF _,lF _⟩
theorem Ch{f}(h:∀o w,w<=(f o w).2){g}(j:∀k o s,Tr.up s (g k o s))(k)(o)(s):Tr.up s (dZ f g k o s):=by
 unfold dZ;split
 ·exact Tr.up.refl s
 ·have a:=h o s.2.2;exact Tr.up.trans (b:=(s.1,s.2.1,(f o s.2.2).2)) ⟨a,lF _,lF _,by dsimp only;omega⟩ (qd j k o.1 _ _)
theorem dL{f}(h:∀o w,w<=(f o w).2)(late):∀(n) (k) (o) (s),Tr.up s (jL f late n k o s)
 | 0,k,o,s=>Tr.up.refl s
 | n+1,k,o,s=>by
  unfold jL;split
  ·exact⟨by dsimp only;omega,lF _,lF _,by dsimp only;omega⟩
  ·split
   ·exact⟨by dsimp only;omega,by simp,lF _,by simp;omega⟩
   ·dsimp only;have a:=mY late o s.2.1 (s.2.2+s.1.length+1);have b:=Ch h (dL h late n) k o (s.1++[(o,k)],tailA late o s.2.1 (s.2.2+s.1.length+1));generalize dZ f (jL f late n) k o (s.1++[(o,k)],tailA late o s.2.1 (s.2.2+s.1.length+1))=B at *;have c:=mY (!late) o B.2.1 B.2.2;refine Tr.up.trans ?_ (Tr.up.trans b ?_)
    ·exact⟨by dsimp only;omega,by simp,by dsimp only;omega,by simp;omega⟩
    ·exact⟨by dsimp only;omega,lF _,by dsimp only;omega,by dsimp only;omega⟩
theorem uj{f}(h:∀o w,w<=(f o w).2)(late)(k)(o)(w):w<=(bT f late k o w).2:=(dL h late 32 k o ([],[],w)).1
theorem Fz{f}(h:∀o w,w<=(f o w).2)(r)(o)(w):w<=(wm f r o w).2:=by
 unfold wm;dsimp only;have a:=ji h r.n.toNat [o] w;have b:=dK (uj h (decide (r.jB=1)) (pW r)) (qC f r.n.toNat [o] w).1 [] (qC f r.n.toNat [o] w).2;omega
theorem qg{at' pt}(G:∀i j o w,w<=(at' i j o w).2)(I:∀i j o w,w<=(pt i j o w).2)(l)(b):∀(f i) (h) (w),w<=(bW at' pt l b f i h w).2
 | 0,i,h,w=>lF _
 | f+1,i,h,w=>by
  unfold bW;split
  ·exact lF _
  ·split
   ·exact gX (dK (I i _) h [] w).2.1 (qg G I l b f _ _ _)
   ·exact gX (dK (G i _) h [] w).2.1 (qg G I l b f _ _ _)
theorem Ew h n o r:r.2<=(JR h n o r).2:=by
 unfold JR;split
 ·exact lF _
 ·split
  ·have:=vB (r.1.map (fZ n.toNat o)) [] r.2;omega
  ·exact lF _
theorem xY l t:∀f j a b o w,w<=(mM l t f j a b o w).2
 | 0,_,_,_,_,_=>lF _
 | f+1,0,a,b,o,w=>by
  unfold mM;split
  ·exact xY l t f 1 a _ o w
  ·have G:=xY l t f 1 a (bar l a b) o w;have I:=xY l t f 0 (bar l a b+1) b o (mM l t f 1 a (bar l a b) o w).2;have J:=vB (mM l t f 0 (bar l a b+1) b o (mM l t f 1 a (bar l a b) o w).2).1 (mM l t f 1 a (bar l a b) o w).1 (mM l t f 0 (bar l a b+1) b o (mM l t f 1 a (bar l a b) o w).2).2;omega
 | f+1,1,a,b,o,w=>qg (λi h=>xY l t f 2 i h) (λi h=>xY l t f 3 i h) l b _ _ _ _
 | f+1,2,a,b,o,w=>by
  unfold mM
  repeat' split
  all_goals first
   | exact iI _
   | exact gX (iI w) (gX (xY l t f 0 (a+1) (b-1) o (w+1)) (Ew _ _ _ _))
 | f+1,n+3,a,b,o,w=>Fz (xY l t f 2 a b) _ o w
theorem uq:∀xs l w,(kT l xs w).2<=w+xs.length*(l.length+xs.length+1)
 | [],l,w=>by simp[kT]
 | x::xs,l,w=>by
  have a:=Gl l x w;have b:=jh l x w;have c:=uq xs (yQ l x w).1 (yQ l x w).2;simp only[kT,lU];have d:xs.length*((yQ l x w).1.length+xs.length+1)<=xs.length*(l.length+(xs.length+1)+1):=wT _ (by omega);have e:(xs.length+1)*(l.length+(xs.length+1)+1)=xs.length*(l.length+(xs.length+1)+1)+(l.length+(xs.length+1)+1):=aC _ _;omega
structure Bd (F:Oc->Nat->OW) (c C:Nat):Prop where
 up:∀o w,w<=(F o w).2
 few:∀o w,w<=300000->(F o w).1.length+w<=300000+c
 cost:∀o w,w<=300000->(F o w).2<=C
 none:∀o w,300000<w->(F o w).1=[]/\(F o w).2<=w+1
theorem Bd.len{F c C}(h:Bd F c C) o w:(F o w).1.length<=300000+c:=by
 by_cases j:w<=300000
 ·have:=h.few o w j;omega
 ·rw[(h.none o w (by omega)).1];simp
theorem fM{F c C}(j:Bd F c C):∀h next w,300000<w->(bindM F next h w).1=next/\(bindM F next h w).2<=w+h.length
 | [],next,w,hw=>⟨rfl,by simp[bindM]⟩
 | x::h,next,w,hw=>by
  have a:=j.none x w hw;have b:=j.up x w;simp only[bindM,a.1,kT];have G:=fM j h next (F x w).2 (by omega)
  exact⟨G.1,by rw[lU];omega⟩
theorem EA{F c C}(h:Bd F c C):∀j next w,w<=300000->(bindM F next j w).1.length+w<=next.length+300000+c
 | [],next,w,hw=>by simp[bindM];omega
 | x::j,next,w,hw=>by
  have a:=h.few x w hw;have b:=h.up x w;have g:=vB (F x w).1 next (F x w).2
  simp only[bindM];by_cases G:(kT next (F x w).1 (F x w).2).2<=300000
  ·have I:=EA h j (kT next (F x w).1 (F x w).2).1 (kT next (F x w).1 (F x w).2).2 G;omega
  ·rw[(fM h j _ _ (by omega)).1];omega
theorem Bz{F c C}(j:Bd F c C) h w:(bindM F [] h w).1.length<=300000+c:=by
 by_cases G:w<=300000
 ·have:=EA j h [] w G;simp at this;omega
 ·rw[(fM j h [] w (by omega)).1];simp
theorem FI{F c C}(h:Bd F c C)(I:300000<=C):∀j next w,w<=300000->next.length<=w->(bindM F next j w).2<=C+(300000+c)*(2*(300000+c)+2)+j.length
 | [],next,w,hw,hn=>by simp[bindM];omega
 | x::j,next,w,hw,hn=>by
  have a:=h.few x w hw;have b:=h.up x w;have k:=h.cost x w hw;have g:=vB (F x w).1 next (F x w).2
  have q:=uq (F x w).1 next (F x w).2
  have m:(F x w).1.length*(next.length+(F x w).1.length+1)<=(300000+c)*(2*(300000+c)+2):=sZ (by omega) (by omega);simp only[bindM,lU];by_cases G:(kT next (F x w).1 (F x w).2).2<=300000
  ·have J:=FI h I j (kT next (F x w).1 (F x w).2).1 (kT next (F x w).1 (F x w).2).2 G (by omega);omega
  ·have:=(fM h j (kT next (F x w).1 (F x w).2).1 _ (aU.1 G)).2;omega
theorem LG{F c C}(j:Bd F c C)(G:300000<=C) h w(J:h.length<=300000+c)(I:w<=300000):(bindM F [] h w).2<=C+(300000+c)*(2*(300000+c)+2)+(300000+c):=by
 have:=FI j G h [] w I (by simp);omega
theorem Og{F c C}(j:Bd F c C)(O:300000<=C):∀n h w,
  (300000<w->(qC F n h w).1.length<=h.length/\(qC F n h w).2<=w+h.length)/\
  (h.length<=300000+c->(qC F n h w).1.length<=300000+c/\(w<=300000->(qC F n h w).2<=C+(300000+c)*(2*(300000+c)+2)+2*(300000+c)))
 | 0,h,w=>⟨λ_=>⟨lF _,by simp[qC]⟩,λI=>⟨I,λG=>by simp only[qC];omega⟩⟩
 | n+1,h,w=>by
  have J:=Og j O n (bindM F [] h w).1 (bindM F [] h w).2;have u:=dK j.up h [] w;simp only[qC];refine⟨λG=>?_,λI=>?_⟩
  ·have a:=fM j h [] w G;have:=J.1 (by omega);rw[a.1]at this |-;simp only[lV,wE]at this;exact⟨by omega,by omega⟩
  ·have b:=Bz j h w;have U:=J.2 b;refine⟨U.1,λG=>?_⟩;by_cases W:(bindM F [] h w).2<=300000
   ·exact U.2 W
   ·have Y:=(J.1 (by omega)).2;have k:=LG j O h w I G;omega
theorem Co late o out w:(tailA late o out w).1.length<=out.length+1/\(tailA late o out w).2<=w+out.length+1:=by
 unfold tailA;split
 ·exact⟨(Gl _ _ _).2,by rw[jh];omega⟩
 ·exact⟨iI _,by dsimp only;omega⟩
theorem Ab{g}(G:∀k o s,Tr.up s (g k o s))(I:∀k o (s),300000<s.2.2->(g k o s).2.1=s.2.1/\(g k o s).1.length<=s.1.length+1/\(g k o s).2.2<=s.2.2+s.1.length+1)(k)(j):
  ∀(h) (s),300000<s.2.2->(pJ g k j h s).2.1=s.2.1/\(pJ g k j h s).1.length<=s.1.length+h.length/\(pJ g k j h s).2.2<=s.2.2+h.length*(s.1.length+h.length+1)
 | [],s,hs=>by simp[pJ]
 | y::h,s,hs=>by
  simp only[pJ];generalize J:(if 0<k then g (k-1) y s else if y.1≠j then g k y s else s)=s1
  have a:s1.2.1=s.2.1/\s1.1.length<=s.1.length+1/\s1.2.2<=s.2.2+s.1.length+1/\s.2.2<=s1.2.2:=by
   rw[<-J];split
   ·have:=I (k-1) y s hs;exact⟨this.1,this.2.1,this.2.2,(G _ _ _).1⟩
   ·split
    ·have:=I k y s hs;exact⟨this.1,this.2.1,this.2.2,(G _ _ _).1⟩
    ·exact⟨rfl,by omega,by omega,by omega⟩
  have O:=Ab G I k j h s1 (by omega);refine⟨O.1.trans a.1,by rw[lU];omega,?_⟩;have m:h.length*(s1.1.length+h.length+1)<=h.length*(s.1.length+(h.length+1)+1):=wT _ (by omega);have e:(h.length+1)*(s.1.length+(h.length+1)+1)=h.length*(s.1.length+(h.length+1)+1)+(s.1.length+(h.length+1)+1):=aC _ _;rw[lU];omega
theorem LH{f} late:∀n k o s,300000<s.2.2->(jL f late n k o s).2.1=s.2.1/\(jL f late n k o s).1.length<=s.1.length+1/\(jL f late n k o s).2.2<=s.2.2+s.1.length+1
 | 0,k,o,s,hs=>⟨rfl,iI _,by show s.2.2<=_;omega⟩
 | n+1,k,o,s,hs=>by
  unfold jL;split
  ·exact⟨rfl,by dsimp only;omega,by dsimp only;omega⟩
  ·rw[lG (by omega)];exact⟨rfl,by simp,by dsimp only;omega⟩
structure Td (g:Int->Oc->Tr->Tr) (n N C D:Nat):Prop where
 up:∀k o s,Tr.up s (g k o s)
 kI:∀k o (s:Tr),300000<s.2.2->(g k o s).2.1=s.2.1/\(g k o s).1.length<=s.1.length+1/\(g k o s).2.2<=s.2.2+s.1.length+1
 few:∀k o (s:Tr),s.2.2<=300000->(g k o s).2.1.length+s.2.2<=s.2.1.length+300000+2*n
 cost:∀k o (s:Tr),s.2.2<=300000->s.1.length+s.2.1.length<=s.2.2->(g k o s).1.length<=300001+n*(N+1)/\(g k o s).2.2<=C+n*D
theorem Iq{g n N C D}(h:Td g n N C D) k j:∀G s,s.2.2<=300000->(pJ g k j G s).2.1.length+s.2.2<=s.2.1.length+300000+2*n
 | [],s,hs=>by simp only[pJ];omega
 | y::G,s,hs=>by
  simp only[pJ];generalize J:(if 0<k then g (k-1) y s else if y.1≠j then g k y s else s)=s1
  have a:s1.2.1.length+s.2.2<=s.2.1.length+300000+2*n/\Tr.up s s1:=by
   rw[<-J];split
   ·exact⟨h.few _ _ _ hs,h.up _ _ _⟩
   ·split
    ·exact⟨h.few _ _ _ hs,h.up _ _ _⟩
    ·exact⟨by omega,Tr.up.refl s⟩
  obtain⟨O,u1,u2,u3,u4⟩:=a;by_cases I:s1.2.2<=300000
  ·have U:=Iq h k j G s1 I;omega
  ·rw[(Ab h.up h.kI k j G s1 (by omega)).1];omega
theorem LJ{g n N C D}(j:Td g n N C D)(J:300000<=C) k G:∀h s,s.2.2<=300000->s.1.length+s.2.1.length<=s.2.2->
  (pJ g k G h s).1.length<=300001+n*(N+1)+h.length/\(pJ g k G h s).2.2<=C+n*D+h.length*(300001+n*(N+1)+h.length+1)
 | [],s,hs,hi=>by
  simp only[pJ];exact⟨by simp only[lV];omega,by simp only[lV];omega⟩
 | y::h,s,hs,hi=>by
  simp only[pJ];generalize O:(if 0<k then g (k-1) y s else if y.1≠G then g k y s else s)=s1
  have a:(s1.1.length<=300001+n*(N+1)/\s1.2.2<=C+n*D)/\Tr.up s s1:=by
   rw[<-O];split
   ·exact⟨j.cost _ _ _ hs hi,j.up _ _ _⟩
   ·split
    ·exact⟨j.cost _ _ _ hs hi,j.up _ _ _⟩
    ·exact⟨⟨by omega,by omega⟩,Tr.up.refl s⟩
  obtain⟨⟨U,W⟩,u1,u2,u3,u4⟩:=a;have e:(h.length+1)*(300001+n*(N+1)+(h.length+1)+1)=h.length*(300001+n*(N+1)+(h.length+1)+1)+(300001+n*(N+1)+(h.length+1)+1):=aC _ _;rw[lU];by_cases I:s1.2.2<=300000
  ·have Y:=LJ j J k G h s1 I (by omega);have m:h.length*(300001+n*(N+1)+h.length+1)<=h.length*(300001+n*(N+1)+(h.length+1)+1):=wT _ (by omega);omega
  ·have o:=Ab j.up j.kI k G h s1 (by omega);have m:h.length*(s1.1.length+h.length+1)<=h.length*(300001+n*(N+1)+(h.length+1)+1):=wT _ (by omega);omega
theorem LK{f c C D}(h:Bd f c C)(a0:1000000<=C) late:∀n,n<=40->(∀m,m<=40->(300000+c)*(300001+m*(300000+c+1)+(300000+c)+1)+1000000<=D)->Td (jL f late n) n (300000+c) C D
 | 0,hn,hD=>⟨dL h.up late 0,LH late 0,λk o s I=>by simp only[jL];omega,λk o s I a1=>by simp only[jL];omega⟩
 | n+1,hn,hD=>by
  have j:=LK h a0 late n (by omega) hD;have d:=hD n (by omega);refine⟨dL h.up late (n+1),LH late (n+1),λk o s I=>?_,λk o s I a1=>?_⟩
  ·unfold jL;split
   ·dsimp only;omega
   ·split
    ·dsimp only;omega
    ·rename_i Y Z
     dsimp only;have a:=mY late o s.2.1 (s.2.2+s.1.length+1);have U:=Co late o s.2.1 (s.2.2+s.1.length+1)
     have b:(dZ f (jL f late n) k o (s.1++[(o,k)],tailA late o s.2.1 (s.2.2+s.1.length+1))).2.1.length+s.2.2<=s.2.1.length+300000+2*n+1:=by
      generalize tailA late o s.2.1 (s.2.2+s.1.length+1)=A at *;unfold dZ;split
      ·dsimp only;omega
      ·dsimp only;have u:=h.up o A.2;by_cases G:(f o A.2).2<=300000
       ·have:=Iq j k o.1 (f o A.2).1 (s.1++[(o,k)],A.1,(f o A.2).2) G;dsimp only at this;omega
       ·rw[(Ab j.up j.kI k o.1 (f o A.2).1 (s.1++[(o,k)],A.1,(f o A.2).2) (aU.1 G)).1];dsimp only;omega
     generalize dZ f (jL f late n) k o (s.1++[(o,k)],tailA late o s.2.1 (s.2.2+s.1.length+1))=B at *;have:=Co (!late) o B.2.1 B.2.2;omega
  ·have a6:(n+1)*(300000+c+1)=n*(300000+c+1)+(300000+c+1):=aC _ _;have a7:(n+1)*D=n*D+D:=aC _ _;unfold jL;split
   ·dsimp only;exact⟨by omega,by omega⟩
   ·split
    ·dsimp only;simp only[lQ,lU,lV];exact⟨by omega,by omega⟩
    ·rename_i Y Z
     dsimp only;have a:=mY late o s.2.1 (s.2.2+s.1.length+1);have U:=Co late o s.2.1 (s.2.2+s.1.length+1)
     have b:(dZ f (jL f late n) k o (s.1++[(o,k)],tailA late o s.2.1 (s.2.2+s.1.length+1))).1.length<=300001+n*(300000+c+1)+(300000+c+1)/\(dZ f (jL f late n) k o (s.1++[(o,k)],tailA late o s.2.1 (s.2.2+s.1.length+1))).2.2<=C+n*D+(300000+c)*(300001+n*(300000+c+1)+(300000+c)+1)/\(dZ f (jL f late n) k o (s.1++[(o,k)],tailA late o s.2.1 (s.2.2+s.1.length+1))).2.1.length<=600000+2*n+1:=by
      generalize tailA late o s.2.1 (s.2.2+s.1.length+1)=A at *;unfold dZ;split
      ·dsimp only;simp only[lQ,lU,lV];exact⟨by omega,by omega,by omega⟩
      ·dsimp only;have u:=h.up o A.2;by_cases O:A.2<=300000
       ·have a8:=h.cost o A.2 O;have a9:=h.few o A.2 O;by_cases G:(f o A.2).2<=300000
        ·have W:=Iq j k o.1 (f o A.2).1 (s.1++[(o,k)],A.1,(f o A.2).2) G;have J:=LJ j (by omega) k o.1 (f o A.2).1 (s.1++[(o,k)],A.1,(f o A.2).2) G (by simp only[lQ,lU,lV];omega);have m:(f o A.2).1.length*(300001+n*(300000+c+1)+(f o A.2).1.length+1)<=(300000+c)*(300001+n*(300000+c+1)+(300000+c)+1):=sZ (by omega) (by omega);dsimp only at W;exact⟨by omega,by omega,by omega⟩
        ·have J:=Ab j.up j.kI k o.1 (f o A.2).1 (s.1++[(o,k)],A.1,(f o A.2).2) (aU.1 G);have m:(f o A.2).1.length*((s.1++[(o,k)]).length+(f o A.2).1.length+1)<=(300000+c)*(300001+n*(300000+c+1)+(300000+c)+1):=sZ (by omega) (by simp only[lQ,lU,lV];omega);obtain⟨a3,a4,a5⟩:=J;rw[a3];simp only[lQ,lU,lV]at a4 a5 m |-;exact⟨by omega,by omega,by omega⟩
       ·have a2:=h.none o A.2 (by omega);rw[a2.1];simp only[pJ,lQ,lU,lV];exact⟨by omega,by omega,by omega⟩
     generalize dZ f (jL f late n) k o (s.1++[(o,k)],tailA late o s.2.1 (s.2.2+s.1.length+1))=B at *;have:=Co (!late) o B.2.1 B.2.2;exact⟨by omega,by omega⟩
