import Derived.Test.YtebpgfodelggoaaGreatC02
set_option linter.all false
namespace Mt
inductive Fs where
 | nil
 | bar (t:zU) (rest:Fs)
 | leaf (t:zU) (r:Option zU) (rest:Fs)
 | Dh (t:zU) (inner:Fs) (c:zU) (r:Option zU) (rest:Fs)
def Fs.zJ:Fs->List zU
 | .nil=>[]
 | .bar t rest=>t::rest.zJ
 | .leaf t r rest=>t::(r.toList++rest.zJ)
 | .Dh t inner c r rest=>t::(inner.zJ++c::(r.toList++rest.zJ))
def jy(t:zU):Prop:=t.kind=1\/t.kind=2\/t.kind=3\/t.kind=4
def Hr(r:Option zU):Prop:=∀q,r=some q->q.kind=8
def Fs.wf:Fs->Prop
 | .nil=>True
 | .bar t rest=>t.kind=5/\rest.wf
 | .leaf t r rest=>jy t/\Hr r/\rest.wf
 | .Dh t inner c r rest=>t.kind=6/\c.kind=7/\inner.wf/\Hr r/\rest.wf
def fV(t:zU):Re:=if t.kind=1 then .one t.set else if t.kind=2 then .back t.n else if t.kind=3 then .head else .tail
def iy(t:zU)(x:Re):Re:=if t.jB=3 then x else if t.jB=4 then .cap t.n x else .sub t.jB x
def part(r:Option zU)(x:Re):Re:=match r with
 | none=>x
 | some q=>Db x q
def BL:Re × Option Re->Re
 | (s,none)=>s
 | (s,some a)=>.alt s a
def Fs.both:Fs->Re × Option Re
 | .nil=>(.qb,none)
 | .bar _ rest=>(.qb,some (BL rest.both))
 | .leaf t r rest=>(.cat (part r (fV t)) rest.both.1,rest.both.2)
 | .Dh t inner _ r rest=>(.cat (part r (iy t (BL inner.both))) rest.both.1,rest.both.2)
def Fs.re(f:Fs):Re:=BL f.both
def Fs.sq:Fs->Fs
 | .nil=>.nil
 | .bar _ _=>.nil
 | .leaf t r rest=>.leaf t r rest.sq
 | .Dh t inner c r rest=>.Dh t inner c r rest.sq
def Fs.rs:Fs->Option Fs
 | .nil=>none
 | .bar _ rest=>some rest
 | .leaf _ _ rest=>rest.rs
 | .Dh _ _ _ _ rest=>rest.rs
theorem Fs.NA:∀f:Fs,f.both.2=f.rs.map Fs.re
 | .nil=>rfl
 | .bar _ h=>rfl
 | .leaf _ _ h=>by simp only[Fs.both,Fs.rs];exact Fs.NA h
 | .Dh _ _ _ _ h=>by simp only[Fs.both,Fs.rs];exact Fs.NA h
theorem Fs.Kj:∀f:Fs,f.rs=none->f.sq=f
 | .nil,_=>rfl
 | .bar _ rest,h=>by simp[Fs.rs]at h
 | .leaf _ _ rest,h=>by simp only[Fs.sq];rw[Fs.Kj rest h]
 | .Dh _ _ _ _ rest,h=>by simp only[Fs.sq];rw[Fs.Kj rest h]
theorem Fs.FZ:∀(f g:Fs),f.wf->f.rs=some g->g.wf/\∃t,t.kind=5/\f.zJ=f.sq.zJ++t::g.zJ
 | .nil,g,_,h=>by simp[Fs.rs]at h
 | .bar t rest,g,hw,h=>by simp[Fs.rs]at h;subst h;exact⟨hw.2,t,hw.1,rfl⟩
 | .leaf t r rest,g,hw,h=>by
  obtain⟨a,u,k,e⟩:=Fs.FZ rest g hw.2.2 h;exact⟨a,u,k,by simp only[Fs.zJ,Fs.sq,e];simp⟩
 | .Dh t inner c r rest,g,hw,h=>by
  obtain⟨a,u,k,e⟩:=Fs.FZ rest g hw.2.2.2.2 h;exact⟨a,u,k,by simp only[Fs.zJ,Fs.sq,e];simp⟩
theorem drop_cons{l:List zU}{a t s}(h:l.drop a=t::s):l.getD a zZ=t/\l.drop (a+1)=s/\a<l.length:=by
 have G:a<l.length:=by
  rcases wZ a l.length with j | j
  ·exact j
  ·rw[uL j]at h;cases h
 rw[Ei l a G]at h;simp only[eY]at h;exact⟨h.1,h.2,G⟩
theorem KO{l:List zU}{a x s}(h:l.drop a=x++s):l.drop (a+x.length)=s:=by
 rw[wD,<-iZ];have:∀n,List.drop n (l.drop a)=List.drop n (x++s):=λn=>by rw[h]
 rw[iZ,wD,<-iZ,h,eB]
theorem NC{r}(G:Hr r):∀n j h,1<=n->jI (r.toList++j) n h=jI j n (h+r.toList.length):=by
 intro n j h J;cases r with
 | none=>rfl
 | some q =>
  have:=G q rfl;have I:jV q=0:=by unfold jV;rw[lC (by omega),lC (by omega)]
  show jI (q::j) n h=_;rw[jI,I,lC (by omega),uP];rfl
theorem zk:∀(f:Fs),f.wf->∀n h j,1<=n->jI (f.zJ++h) n j=jI h n (j+f.zJ.length)
 | .nil,_,n,h,j,hn=>rfl
 | .bar t r,hw,n,h,j,hn=>by
  have G:jV t=0:=by have:=hw.1;unfold jV;rw[lC (by omega),lC (by omega)]
  show jI (t::(r.zJ++h)) n j=_;rw[jI,G,lC (by omega),uP,zk r hw.2 n h (j+1) hn];simp only[Fs.zJ,lU];rw[show j+1+r.zJ.length=j+(r.zJ.length+1) by omega]
 | .leaf t r s,hw,n,h,j,hn=>by
  have G:jV t=0:=by have:=hw.1;unfold jy at this;unfold jV;rw[lC (by omega),lC (by omega)]
  show jI (t::((r.toList++s.zJ)++h)) n j=_;rw[jI,G,lC (by omega),uP,gZ,NC hw.2.1 _ _ _ hn,zk s hw.2.2 n h _ hn];simp only[Fs.zJ,lU,lQ];congr 1;omega
 | .Dh t i c r s,hw,n,h,j,hn=>by
  have G:jV t=1:=by have:=hw.1;unfold jV;rw[lG (by omega)]
  have I:jV c=-1:=by have:=hw.2.1;unfold jV;rw[lC (by omega),lG (by omega)]
  have e:(Fs.Dh t i c r s).zJ++h=t::(i.zJ++(c::(r.toList++(s.zJ++h)))):=by simp[Fs.zJ]
  rw[e,jI,G,lC (by omega),zk i hw.2.2.1 (n+1) _ _ (by omega),jI,I,lC (by omega)];rw[show n+1+-1=n by omega,NC hw.2.2.2.1 _ _ _ hn,zk s hw.2.2.2.2 n h _ hn];simp only[Fs.zJ,lU,lQ];congr 1;omega
theorem Jc{l i t c}{h:Fs}{O}(j:l.drop i=t::(h.zJ++c::O))(W:t.kind=6)(U:c.kind=7)(J:h.wf):jO l i=i+h.zJ.length+1:=by
 have G:jV t=1:=by unfold jV;rw[lG (by omega)]
 have I:jV c=-1:=by unfold jV;rw[lC (by omega),lG (by omega)]
 unfold jO;rw[j,jI,G,lC (by omega),zk h J _ _ _ (by omega),jI,I,lG (by omega)];omega
theorem Kk{r:Option zU}:r.toList.length=0/\r=none\/∃q,r=some q/\r.toList=[q]:=by
 cases r with
 | none=>exact .inl ⟨rfl,rfl⟩
 | some q=>exact .inr ⟨q,rfl,rfl⟩
theorem Di:∀(f:Fs),f.wf->∀l i post,l.drop i=f.zJ++post->bar l i (i+f.zJ.length)=i+f.sq.zJ.length
 | .nil,_,l,i,post,h=>by rw[cZ,lG (by simp[Fs.zJ])];rfl
 | .bar t r,hw,l,i,post,h=>by
  have j:=drop_cons (t:=t) (s:=r.zJ++post) h;rw[cZ,lC (by simp[Fs.zJ]),lG (by unfold jX;rw[j.1];exact hw.1)];rfl
 | .leaf t r s,hw,l,i,post,h=>by
  have j:=drop_cons (t:=t) (s:=(r.toList++s.zJ)++post) h;have O:=hw.1;unfold jy at O;have U:(Fs.leaf t r s).zJ.length=1+r.toList.length+s.zJ.length:=by simp[Fs.zJ];omega
  have W:(Fs.leaf t r s).sq.zJ.length=1+r.toList.length+s.sq.zJ.length:=by simp[Fs.zJ,Fs.sq];omega
  rw[U,W];rw[cZ,lC (by omega),lC (by unfold jX;rw[j.1];omega),lC (by unfold jX;rw[j.1];omega)];have I:=j.2.1;rw[gZ]at I;rcases Kk (r:=r)with ⟨Z,e⟩ | ⟨q,e,a0⟩
  ·subst e;have:=Di s hw.2.2 l (i+1) post I;simp only[Option.toList]at *;simpa[uF,wD,Nat.add_left_comm]using this
  ·subst e;have G:=drop_cons (t:=q) (s:=s.zJ++post) I;have a1:=hw.2.1 q rfl;simp only[Option.toList,lU,lV];rw[cZ,lC (by omega),lC (by unfold jX;rw[G.1];omega),lC (by unfold jX;rw[G.1];omega)];have:=Di s hw.2.2 l (i+1+1) post G.2.1;simpa[uF,wD,Nat.add_left_comm]using this
 | .Dh t inner c r s,hw,l,i,post,h=>by
  have Y:l.drop i=t::(inner.zJ++c::(r.toList++(s.zJ++post))):=by rw[h];simp[Fs.zJ]
  have j:=drop_cons Y;have O:=hw.1;have U:(Fs.Dh t inner c r s).zJ.length=2+inner.zJ.length+r.toList.length+s.zJ.length:=by simp[Fs.zJ];omega
  have W:(Fs.Dh t inner c r s).sq.zJ.length=2+inner.zJ.length+r.toList.length+s.sq.zJ.length:=by simp[Fs.zJ,Fs.sq];omega
  rw[U,W,cZ,lC (by omega),lC (by unfold jX;rw[j.1];omega),lG (by unfold jX;rw[j.1];omega)];rw[Jc Y O hw.2.1 hw.2.2.1];have I:=KO j.2.1;have G:=(drop_cons I).2.1;rcases Kk (r:=r)with ⟨Z,e⟩ | ⟨q,e,a0⟩
  ·subst e;have:=Di s hw.2.2.2.2 l (i+1+inner.zJ.length+1) post G;simp only[Option.toList,lV];rw[show i+inner.zJ.length+1+1=i+1+inner.zJ.length+1 by omega,show i+(2+inner.zJ.length+0+s.zJ.length)=i+1+inner.zJ.length+1+s.zJ.length by omega,this];omega
  ·subst e;have J:=drop_cons (t:=q) (s:=s.zJ++post) G;have a1:=hw.2.2.2.1 q rfl;simp only[Option.toList,lU,lV];rw[show i+inner.zJ.length+1+1=i+1+inner.zJ.length+1 by omega];rw[cZ,lC (by omega),lC (by unfold jX;rw[J.1];omega),lC (by unfold jX;rw[J.1];omega)];have:=Di s hw.2.2.2.2 l (i+1+inner.zJ.length+1+1) post J.2.1;rw[show i+(2+inner.zJ.length+(0+1)+s.zJ.length)=i+1+inner.zJ.length+1+1+s.zJ.length by omega,this];omega
theorem zCC:∀(f:Fs),f.wf->∀t s,f.sq.zJ=t::s->t.kind≠8
 | .nil,_,t,s,h=>by simp[Fs.sq,Fs.zJ]at h
 | .bar _ _,_,t,s,h=>by simp[Fs.sq,Fs.zJ]at h
 | .leaf u r rest,hw,t,s,h=>by
  simp only[Fs.sq,Fs.zJ,eY]at h;have:=hw.1;unfold jy at this;rw[<-h.1];omega
 | .Dh u i c r rest,hw,t,s,h=>by
  simp only[Fs.sq,Fs.zJ,eY]at h;have:=hw.1;rw[<-h.1];omega
theorem zCD(f:Fs)(j:f.wf):∃s,f.zJ=f.sq.zJ++s:=by
 cases h:f.rs with
 | none=>exact⟨[],by rw[Fs.Kj f h];simp⟩
 | some g=>obtain⟨_,t,_,e⟩:=Fs.FZ f g j h;exact⟨_,e⟩
theorem KP{l}{f:Fs}(I:f.wf){i post}(j:l.drop i=f.zJ++post)(G:0<f.sq.zJ.length):jX l i≠8:=by
 obtain⟨s,e⟩:=zCD f I;cases h:f.sq.zJ with
 | nil=>rw[h]at G;simp at G
 | cons t u =>
  rw[e,h]at j;have:=drop_cons (t:=t) (s:=(u++s)++post) (by rw[j];simp);unfold jX;rw[this.1];exact zCC f I t u h
theorem ND{l i O f t}(I:l.getD i zZ=t)(J:jy t):tree l (f+1) 2 i O=fV t:=by
 simp only[tree];unfold jX fV;rw[I];unfold jy at J;by_cases h:t.kind=1
 ·rw[lG h,lG h]
 rw[lC h,lC h];by_cases j:t.kind=2
 ·rw[lG j,lG j]
 rw[lC j,lC j];by_cases G:t.kind=3
 ·rw[lG G,lG G]
 rw[lC G,lC G,lG (by omega)]
theorem Rm{l i h f t}(j:l.getD i zZ=t)(G:t.kind=6):tree l (f+1) 2 i h=iy t (tree l f 0 (i+1) (h-1)):=by
 simp only[tree];unfold jX iy;rw[j];rw[lC (by omega),lC (by omega),lC (by omega),lC (by omega)]
theorem Rn{l i j f}:tree l (f+1) 3 i j=Db (tree l f 2 i j) (l.getD j zZ):=by simp only[tree]
def zD3(N:Nat):Prop:=∀g:Fs,g.wf->g.zJ.length<N->∀(l:List zU) (a:Nat) (post:List zU) (f:Nat),l.drop a=g.zJ++post->2*g.zJ.length+4<=f->tree l f 0 a (a+g.zJ.length)=g.re
theorem Dj N(W:zD3 N) l O(Z:2*N+2<=O):∀(f:Fs),f.wf->f.zJ.length<=N->∀i post g,l.drop i=f.zJ++post->f.sq.zJ.length<=g->
  Fh (λi a5=>tree l O 2 i a5) (λi a5=>tree l O 3 i a5) l (i+f.sq.zJ.length) g i=f.both.1
 | .nil,_,_,i,post,g,h,hg=>by
  cases g with
  | zero=>rfl
  | succ g=>simp only[Fh];rw[lG (by simp[Fs.sq,Fs.zJ])];rfl
 | .bar _ _,_,_,i,post,g,h,hg=>by
  cases g with
  | zero=>rfl
  | succ g=>simp only[Fh];rw[lG (by simp[Fs.sq,Fs.zJ])];rfl
 | .leaf t r s,hw,hN,i,post,g,h,hg=>by
  have G:=drop_cons (t:=t) (s:=(r.toList++s.zJ)++post) h;have Y:=G.2.1;rw[gZ]at Y;have J:=hw.1;have b1:=J;unfold jy at b1;have a3:(Fs.leaf t r s).sq.zJ.length=1+r.toList.length+s.sq.zJ.length:=by simp[Fs.zJ,Fs.sq];omega
  have a7:s.zJ.length<=N:=by simp[Fs.zJ]at hN;omega
  have a1:after l i=i+1:=by unfold after jX;rw[G.1,lC (by omega)]
  rw[a3]at hg |-;obtain⟨g,rfl⟩:∃g',g=g'+1:=⟨g-1,by omega⟩
  obtain⟨j,rfl⟩:∃j,O=j+1+1:=⟨O-2,by omega⟩
  simp only[Fh];rw[lC (by omega),a1];rcases Kk (r:=r)with ⟨a8,e⟩ | ⟨q,e,a9⟩
  ·subst e;have I:=Y
   rw[lC (by
    rintro⟨a2,a0⟩;exact KP hw.2.2 I (by simp at a2;omega) a0)]
   have:=Dj N W l (j+1+1) Z s hw.2.2 a7 (i+1) post g I (by simp at hg;omega);rw[show i+(1+(Option.none:Option zU).toList.length+s.sq.zJ.length)=i+1+s.sq.zJ.length by simp;omega,this,ND G.1 J];rfl
  ·subst e;have I:=drop_cons (t:=q) (s:=s.zJ++post) Y;have a4:=hw.2.1 q rfl;simp only[Option.toList,lU,lV]at hg;rw[lG ⟨by simp;omega,by unfold jX;rw[I.1];exact a4⟩];have:=Dj N W l (j+1+1) Z s hw.2.2 a7 (i+1+1) post g I.2.1 (by omega);rw[show i+(1+(some q).toList.length+s.sq.zJ.length)=i+1+1+s.sq.zJ.length by simp;omega,this,Rn,ND G.1 J,I.1];rfl
 | .Dh t inner c r s,hw,hN,i,post,g,h,hg=>by
  have a6:l.drop i=t::(inner.zJ++c::(r.toList++(s.zJ++post))):=by rw[h];simp[Fs.zJ]
  have G:=drop_cons a6;have J:=hw.1;have b0:=Jc a6 J hw.2.1 hw.2.2.1;have a3:(Fs.Dh t inner c r s).sq.zJ.length=2+inner.zJ.length+r.toList.length+s.sq.zJ.length:=by simp[Fs.zJ,Fs.sq];omega
  have b2:(Fs.Dh t inner c r s).zJ.length=2+inner.zJ.length+r.toList.length+s.zJ.length:=by simp[Fs.zJ];omega
  have a1:after l i=i+1+inner.zJ.length+1:=by unfold after jX;rw[G.1,lG J,b0];omega
  rw[a3]at hg |-;rw[b2]at hN;obtain⟨g,rfl⟩:∃g',g=g'+1:=⟨g-1,by omega⟩
  obtain⟨j,rfl⟩:∃j,O=j+1+1:=⟨O-2,by omega⟩
  have Y:=KO G.2.1;have I:=(drop_cons Y).2.1;simp only[Fh];rw[lC (by omega),a1];rcases Kk (r:=r)with ⟨a8,e⟩ | ⟨q,e,a9⟩
  ·subst e;have U:=I
   rw[lC (by
    rintro⟨a2,a0⟩;exact KP hw.2.2.2.2 U (by simp at a2;omega) a0)]
   have:=Dj N W l (j+1+1) Z s hw.2.2.2.2 (by omega) (i+1+inner.zJ.length+1) post g U (by simp at hg;omega)
   rw[show i+(2+inner.zJ.length+(Option.none:Option zU).toList.length+s.sq.zJ.length)=i+1+inner.zJ.length+1+s.sq.zJ.length by simp;omega,this,Rm G.1 J,
    show i+1+inner.zJ.length+1-1=i+1+inner.zJ.length by omega,W inner hw.2.2.1 (by omega) l (i+1) _ (j+1) G.2.1 (by omega)]
   rfl
  ·subst e;have U:=drop_cons (t:=q) (s:=s.zJ++post) I;have a4:=hw.2.2.2.1 q rfl;simp only[Option.toList,lU,lV]at hg hN;rw[lG ⟨by simp;omega,by unfold jX;rw[U.1];exact a4⟩];have:=Dj N W l (j+1+1) Z s hw.2.2.2.2 (by omega) (i+1+inner.zJ.length+1+1) post g U.2.1 (by omega)
   rw[show i+(2+inner.zJ.length+(some q).toList.length+s.sq.zJ.length)=i+1+inner.zJ.length+1+1+s.sq.zJ.length by simp;omega,this,Rn,Rm G.1 J,U.1,
    show i+1+inner.zJ.length+1-1=i+1+inner.zJ.length by omega,W inner hw.2.2.1 (by omega) l (i+1) _ j G.2.1 (by omega)]
   rfl
theorem Xn l f a b:tree l (f+1) 0 a b=if bar l a b=b then tree l f 1 a (bar l a b)else .alt (tree l f 1 a (bar l a b)) (tree l f 0 (bar l a b+1) b):=by simp only[tree]
theorem ZV l f a b:tree l (f+1) 1 a b=Fh (λi j=>tree l f 2 i j) (λi j=>tree l f 3 i j) l b (b-a) a:=by simp only[tree]
theorem Ro:∀N,zD3 N
 | 0=>λg _ G=>by omega
 | N+1=>by
  intro f O a6 l a post U G a7;have Z:=Ro N;obtain⟨I,rfl⟩:∃I,U=I+1+1:=⟨U-2,by omega⟩
  have a4:=Di f O l a post G;rw[Xn,a4,ZV]
  have J:f.zJ.length=f.sq.zJ.length+match f.rs with | none=>0 | some g=>g.zJ.length+1:=by
   cases j:f.rs with
   | none=>rw[Fs.Kj f j];rfl
   | some g=>obtain⟨_,t,_,e⟩:=Fs.FZ f g O j;rw[e];simp
  have Y:=Dj f.zJ.length (λg gw a5=>Z g gw (by omega)) l I (by omega) f O (lF _) a post (a+f.sq.zJ.length-a) G (by omega);have h:=f.NA;unfold Fs.re;cases j:f.rs with
  | none =>
   rw[j]at J h;rw[lG (by simp at J;omega),Y];generalize a3:f.both=B at *;obtain⟨a0,a1⟩:=B;simp at h;subst h;rfl
  | some g =>
   rw[j]at J h;obtain⟨gw,t,_,e⟩:=Fs.FZ f g O j;simp only at J;rw[lC (by omega),Y]
   have a2:l.drop (a+f.sq.zJ.length+1)=g.zJ++post:=by
    rw[e,gZ]at G;exact(drop_cons (KO G)).2.1
   have W:=Z g gw (by omega) l (a+f.sq.zJ.length+1) post (I+1) a2 (by omega);rw[show a+f.sq.zJ.length+1+g.zJ.length=a+f.zJ.length by omega]at W;rw[W];generalize a3:f.both=B at *;obtain⟨a0,a1⟩:=B;simp at h;subst h;rfl
theorem Dk(f:Fs)(h:f.wf)(j:f.zJ.length<=64):gy f.zJ=f.re:=by
 have:=Ro (f.zJ.length+1) f h (by omega) f.zJ 0 [] 283 (by simp) (by omega);rw[rO]at this;exact this
def Rf(t:BA)(k:Nat):Int:=if h:k<t.size then((t[k]'h).toNat:Int)else 0
def bV(t:BA)(s:qL)(k:Int):qL × Bool:=
 if gt s (2+(2*k).toNat)<0 then(s,false)
 else if(t.size:Int)<gt s 1+(gt s (2+(2*k+1).toNat)-gt s (2+(2*k).toNat))then(s,false)
 else((s.set 1 (gt s 1+gt s (2+(2*k+1).toNat)-gt s (2+(2*k).toNat))).set 0 (gt s 0+1),
  (t.extract (gt s (2+(2*k).toNat)).toNat (gt s (2+(2*k+1).toNat)).toNat).toList==(t.extract (gt s 1).toNat ((gt s 1).toNat+(gt s (2+(2*k+1).toNat)).toNat-(gt s (2+(2*k).toNat)).toNat)).toList)
def kW(t:BA)(s:qL)(x:zT):qL × Bool:=
 if x.op=1 then((s.set 1 (gt s 1+1)).set 0 (gt s 0+1),if gt s 1<t.size then hasB ⟨x.set.toArray⟩ (Rf t (gt s 1).toNat)else false)
 else if x.op=3 then(s.set 0 x.x,true)
 else if x.op=4 then((s.set (32+x.x.toNat) (gt s 1)).set 0 (gt s 0+1),true)
 else if x.op=5 then(s.set 0 x.x,gt s (32+x.y.toNat) != gt s 1)
 else if x.op=6 then((s.set (22+x.x.toNat) (gt s 1)).set 0 (gt s 0+1),true)
 else if x.op=7 then(((s.set (2+(2*x.x).toNat) (gt s (22+x.x.toNat))).set (2+(2*x.x+1).toNat) (gt s 1)).set 0 (gt s 0+1),true)
 else if x.op=8 then bV t s x.x
 else if x.op=9 then(s.set 0 (gt s 0+1),gt s 1==0)
 else if x.op=10 then(s.set 0 (gt s 0+1),gt s 1==(t.size:Int))
 else(s.set 0 (gt s 0+1),true)
def zl(s r:qL):qL:=s.take 2++((r.drop 2).take 20++s.drop 22)
def jG(s:qL)(x:zT)(r:qL)(ok:Bool):qL × Bool:=
 if x.x=0 then(r.set 0 x.y,ok)else if x.x=1 then((zl s r).set 0 x.y,ok)else(s.set 0 x.y,!ok)
structure Env where
 c:List zT
 t:BA
 qU:List Bool
 ar:List Int
structure Xp where
 st:qL
 ok:Bool
 n:Nat
 kn:List Bool
 zA:Int
 kI:Bool
def zX(s:qL):Nat:=(gt s 0).toNat
def vE(s:qL):Nat:=(gt s 1).toNat
def Env.key(E:Env)(s:qL):Nat:=keyOf s (zX s) (vE s) E.t.size (E.ar.getD (zX s) 0).toNat
def Env.isIn(E:Env)(s:qL):Bool:=E.qU.getD (zX s) false
def Env.dead(E:Env)(s:qL)(kn:List Bool):Bool:=if E.isIn s then kn.getD (E.key s) false else false
def Env.qK(E:Env)(s:qL)(kn:List Bool)(zA:Int):List Bool:=if E.isIn s then yV kn zA (E.key s)else kn
def Env.zG(E:Env)(s:qL)(kn:List Bool)(zA:Int):Int:=if E.isIn s then qB kn zA (E.key s)else zA
def Env.ins(E:Env)(s:qL):zT:=E.c.getD (zX s) kC
def nG(E:Env):Nat->Nat->qL->List Bool->Int->Xp
 | 0,_,s,kn,zA=>⟨s,false,0,kn,zA,true⟩
 | _+1,0,s,kn,zA=>⟨s,false,0,kn,zA,true⟩
 | F+1,n+1,s,kn,zA =>
  if E.dead s kn then⟨s,false,n,E.qK s kn zA,E.zG s kn zA,false⟩
  else if(E.ins s).op=13\/(E.ins s).op=12 then⟨s,true,n,E.qK s kn zA,E.zG s kn zA,false⟩
  else if(E.ins s).op=2 then
   let r:=nG E F n (s.set 0 (E.ins s).x) (E.qK s kn zA) (E.zG s kn zA)
   if r.ok||r.kI then r else nG E F r.n (s.set 0 (E.ins s).y) r.kn r.zA
  else if(E.ins s).op=11 then
   let r:=nG E F n (s.set 0 (gt s 0+1)) (E.qK s kn zA) (E.zG s kn zA)
   if r.kI then⟨s,false,r.n,r.kn,r.zA,true⟩
   else if(jG s (E.ins s) r.st r.ok).2 then nG E F r.n (jG s (E.ins s) r.st r.ok).1 r.kn r.zA
   else⟨(jG s (E.ins s) r.st r.ok).1,false,r.n,r.kn,r.zA,false⟩
  else if(kW E.t s (E.ins s)).2 then nG E F n (kW E.t s (E.ins s)).1 (E.qK s kn zA) (E.zG s kn zA)
  else⟨(kW E.t s (E.ins s)).1,false,n,E.qK s kn zA,E.zG s kn zA,false⟩
theorem Em E:∀F n s kn zA,(nG E F n s kn zA).n<=n
 | 0,n,s,kn,zA=>gD _
 | F+1,0,s,kn,zA=>gD _
 | F+1,n+1,s,kn,zA=>by
  have h:=Em E F;unfold nG;split
  ·exact iI n
  split
  ·exact iI n
  split
  ·have j:=h n (s.set 0 (E.ins s).x) (E.qK s kn zA) (E.zG s kn zA);dsimp only;split
   ·omega
   ·have G:=h (nG E F n (s.set 0 (E.ins s).x) (E.qK s kn zA) (E.zG s kn zA)).n (s.set 0 (E.ins s).y) (nG E F n (s.set 0 (E.ins s).x) (E.qK s kn zA) (E.zG s kn zA)).kn (nG E F n (s.set 0 (E.ins s).x) (E.qK s kn zA) (E.zG s kn zA)).zA;omega
  split
  ·have j:=h n (s.set 0 (gt s 0+1)) (E.qK s kn zA) (E.zG s kn zA);dsimp only;split
   ·show Xp.n _<=_;dsimp only;omega
   split
   ·have G:=h (nG E F n (s.set 0 (gt s 0+1)) (E.qK s kn zA) (E.zG s kn zA)).n
     (jG s (E.ins s) (nG E F n (s.set 0 (gt s 0+1)) (E.qK s kn zA) (E.zG s kn zA)).st (nG E F n (s.set 0 (gt s 0+1)) (E.qK s kn zA) (E.zG s kn zA)).ok).1
     (nG E F n (s.set 0 (gt s 0+1)) (E.qK s kn zA) (E.zG s kn zA)).kn (nG E F n (s.set 0 (gt s 0+1)) (E.qK s kn zA) (E.zG s kn zA)).zA
    omega
   ·dsimp only;omega
  split
  ·have:=h n (kW E.t s (E.ins s)).1 (E.qK s kn zA) (E.zG s kn zA);omega
  ·exact iI n
theorem Fp E:∀F j n s kn zA,n<=F->n<=j->nG E F n s kn zA=nG E j n s kn zA
 | 0,0,n,s,kn,zA,_,_=>rfl
 | 0,j+1,n,s,kn,zA,h,_=>by
                    obtain rfl:n=0:=by omega
                    rfl
 | F+1,0,n,s,kn,zA,_,h=>by
                    obtain rfl:n=0:=by omega
                    rfl
 | F+1,j+1,0,s,kn,zA,_,_=>rfl
 | F+1,j+1,n+1,s,kn,zA,hF,hG=>by
  have G:=Fp E F j;unfold nG;have I:=G n (s.set 0 (E.ins s).x) (E.qK s kn zA) (E.zG s kn zA) (by omega) (by omega);have J:=G n (s.set 0 (gt s 0+1)) (E.qK s kn zA) (E.zG s kn zA) (by omega) (by omega);have O:=G n (kW E.t s (E.ins s)).1 (E.qK s kn zA) (E.zG s kn zA) (by omega) (by omega);have Y:=Em E j n (s.set 0 (E.ins s).x) (E.qK s kn zA) (E.zG s kn zA);have Z:=Em E j n (s.set 0 (gt s 0+1)) (E.qK s kn zA) (E.zG s kn zA);dsimp only;rw[I,J,O];generalize nG E j n (s.set 0 (E.ins s).x) (E.qK s kn zA) (E.zG s kn zA)=U at *;generalize nG E j n (s.set 0 (gt s 0+1)) (E.qK s kn zA) (E.zG s kn zA)=W at *;rw[G U.n _ _ _ (by omega) (by omega),G W.n _ _ _ (by omega) (by omega)]
def zS(E:Env)(n:Nat)(s:qL)(kn:List Bool)(zA:Int):Xp:=nG E n n s kn zA
theorem xE E n s kn zA:(zS E n s kn zA).n<=n:=Em E n n s kn zA
theorem mF E s kn zA:zS E 0 s kn zA=⟨s,false,0,kn,zA,true⟩:=rfl
theorem xA E n s kn zA:zS E (n+1) s kn zA=
  if E.dead s kn then⟨s,false,n,E.qK s kn zA,E.zG s kn zA,false⟩
  else if(E.ins s).op=13\/(E.ins s).op=12 then⟨s,true,n,E.qK s kn zA,E.zG s kn zA,false⟩
  else if(E.ins s).op=2 then
   let r:=zS E n (s.set 0 (E.ins s).x) (E.qK s kn zA) (E.zG s kn zA)
   if r.ok||r.kI then r else zS E r.n (s.set 0 (E.ins s).y) r.kn r.zA
  else if(E.ins s).op=11 then
   let r:=zS E n (s.set 0 (gt s 0+1)) (E.qK s kn zA) (E.zG s kn zA)
   if r.kI then⟨s,false,r.n,r.kn,r.zA,true⟩
   else if(jG s (E.ins s) r.st r.ok).2 then zS E r.n (jG s (E.ins s) r.st r.ok).1 r.kn r.zA
   else⟨(jG s (E.ins s) r.st r.ok).1,false,r.n,r.kn,r.zA,false⟩
  else if(kW E.t s (E.ins s)).2 then zS E n (kW E.t s (E.ins s)).1 (E.qK s kn zA) (E.zG s kn zA)
  else⟨(kW E.t s (E.ins s)).1,false,n,E.qK s kn zA,E.zG s kn zA,false⟩:=by
 show nG E (n+1) (n+1) s kn zA=_
 conv=>lhs;unfold nG
 have G:=Em E n n (s.set 0 (E.ins s).x) (E.qK s kn zA) (E.zG s kn zA);have I:=Em E n n (s.set 0 (gt s 0+1)) (E.qK s kn zA) (E.zG s kn zA);unfold zS;dsimp only;generalize nG E n n (s.set 0 (E.ins s).x) (E.qK s kn zA) (E.zG s kn zA)=h at *;generalize nG E n n (s.set 0 (gt s 0+1)) (E.qK s kn zA) (E.zG s kn zA)=j at *;rw[Fp E n h.n h.n _ _ _ G (lF _),Fp E n j.n j.n _ _ _ I (lF _)]
def Rq(c:List zT)(p:Nat)(x:zT):Prop:=
 (x.op=2->0<=x.x/\x.x<c.length/\0<=x.y/\x.y<c.length)
 /\ (x.op=3->0<=x.x/\x.x<c.length)
 /\ (x.op=4->0<=x.x/\x.x<12)
 /\ (x.op=5->0<=x.x/\x.x<c.length/\0<=x.y/\x.y<12)
 /\ (x.op=6\/x.op=7\/x.op=8->0<=x.x/\x.x<10)
 /\ (x.op=11->0<=x.y/\x.y<c.length/\0<=x.x/\x.x<=2)
 /\ (x.op≠13->p+1<c.length)
 /\ x.set.length<=256
def codeOk(c:List zT):Prop:=∀p,p<c.length->Rq c p (c.getD p kC)
structure Good (L T:Nat) (s:qL):Prop where
 len:s.length=44
 Ai:0<=gt s 0
 pc1:gt s 0<L
 Ht:0<=gt s 1
 pos1:gt s 1<=T
 place:∀k,k<10->gt s (2+2*k)<0\/(0<=gt s (2+2*k)/\gt s (2+2*k)<=gt s (2+(2*k+1))/\gt s (2+(2*k+1))<=T)
 noted:∀k,k<10->0<=gt s (22+k)/\gt s (22+k)<=gt s 1
theorem AJ s i h v:gt (s.set i v) h=if i=h/\i<s.length then v else gt s h:=by
 unfold gt;simp only[lH,wQ];by_cases j:i=h
 ·subst j;by_cases G:i<s.length
  ·simp[G]
  ·simp[G]
 ·simp[j]
theorem zQ s i j v(h:i≠j):gt (s.set i v) j=gt s j:=by rw[AJ,lC (by omega)]
theorem qD(s:qL) i v(h:i<s.length):gt (s.set i v) i=v:=by rw[AJ,lG ⟨rfl,h⟩]
theorem Good.dY{L T s}(h:Good L T s)(p:Int)(O:0<=p)(U:p<L):Good L T (s.set 0 p):=by
 have I:=h.len;have e:∀j,0<j->gt (s.set 0 p) j=gt s j:=λj W=>zQ _ _ _ _ (by omega)
 have J:gt (s.set 0 p) 0=p:=qD _ _ _ (by omega);refine⟨by simp[I],by omega,by omega,by rw[e 1 (by omega)];exact h.Ht,by rw[e 1 (by omega)];exact h.pos1,λk G=>?_,λk G=>?_⟩
 ·rw[e _ (by omega),e _ (by omega)];exact h.place k G
 ·rw[e _ (by omega),e _ (by omega)];exact h.noted k G
theorem Good.ZX{L T s}(h:Good L T s) p(O:gt s 1<=p)(U:p<=T):Good L T (s.set 1 p):=by
 have J:=h.len;have e:∀j,j≠1->gt (s.set 1 p) j=gt s j:=λj W=>zQ _ _ _ _ (by omega)
 have I:gt (s.set 1 p) 1=p:=qD _ _ _ (by omega);have Y:=h.Ht;refine⟨by simp[J],by rw[e 0 (by omega)];exact h.Ai,by rw[e 0 (by omega)];exact h.pc1,by omega,by omega,λk G=>?_,λk G=>?_⟩
 ·rw[e _ (by omega),e _ (by omega)];exact h.place k G
 ·rw[e _ (by omega),I];have:=h.noted k G;omega
theorem Good.zCE{L T s}(h:Good L T s) k v:Good L T (s.set (32+k) v):=by
 have I:=h.len;have e:∀j,j<32->gt (s.set (32+k) v) j=gt s j:=λj J=>zQ _ _ _ _ (by omega)
 refine⟨by simp[I],by rw[e 0 (by omega)];exact h.Ai,by rw[e 0 (by omega)];exact h.pc1,by rw[e 1 (by omega)];exact h.Ht,by rw[e 1 (by omega)];exact h.pos1,λk G=>?_,λk G=>?_⟩
 ·rw[e _ (by omega),e _ (by omega)];exact h.place k G
 ·rw[e _ (by omega),e _ (by omega)];exact h.noted k G
theorem Good.ZY{L T s}(j:Good L T s) k(U:k<10):Good L T (s.set (22+k) (gt s 1)):=by
 have O:=j.len;have e:∀h,h≠22+k->gt (s.set (22+k) (gt s 1)) h=gt s h:=λh G=>zQ _ _ _ _ (by omega)
 have I:gt (s.set (22+k) (gt s 1)) (22+k)=gt s 1:=qD _ _ _ (by omega);refine⟨by simp[O],by rw[e 0 (by omega)];exact j.Ai,by rw[e 0 (by omega)];exact j.pc1,by rw[e 1 (by omega)];exact j.Ht,by rw[e 1 (by omega)];exact j.pos1,λh G=>?_,λh G=>?_⟩
 ·rw[e _ (by omega),e _ (by omega)];exact j.place h G
 ·rw[e 1 (by omega)];by_cases J:h=k
  ·subst J;rw[I];exact⟨j.Ht,oL _⟩
  ·rw[e _ (by omega)];exact j.noted h G
theorem Good.zAa{L T s}(j:Good L T s) k(a0:k<10):Good L T ((s.set (2+2*k) (gt s (22+k))).set (2+(2*k+1)) (gt s 1)):=by
 have W:=j.len;generalize I:(s.set (2+2*k) (gt s (22+k))).set (2+(2*k+1)) (gt s 1)=u;have e:∀h,h≠2+2*k->h≠2+(2*k+1)->gt u h=gt s h:=λh Y Z=>by rw[<-I,zQ _ _ _ _ (by omega),zQ _ _ _ _ (by omega)]
 have J:gt u (2+2*k)=gt s (22+k):=by rw[<-I,zQ _ _ _ _ (by omega),qD _ _ _ (by omega)]
 have O:gt u (2+(2*k+1))=gt s 1:=by rw[<-I,qD _ _ _ (by simp;omega)]
 refine⟨by rw[<-I];simp[W],by rw[e 0 (by omega) (by omega)];exact j.Ai,by rw[e 0 (by omega) (by omega)];exact j.pc1,by rw[e 1 (by omega) (by omega)];exact j.Ht,by rw[e 1 (by omega) (by omega)];exact j.pos1,λh G=>?_,λh G=>?_⟩
 ·by_cases U:h=k
  ·subst U;rw[J,O];have:=j.noted h G;have:=j.pos1;exact .inr ⟨by omega,by omega,by omega⟩
  ·rw[e _ (by omega) (by omega),e _ (by omega) (by omega)];exact j.place h G
 ·rw[e _ (by omega) (by omega),e 1 (by omega) (by omega)];exact j.noted h G
theorem bC s r(J:s.length=44)(I:r.length=44) h:gt (zl s r) h=if 2<=h/\h<22 then gt r h else gt s h:=by
 unfold zl gt;simp only[lH];by_cases G:h<2
 ·rw[lC (by omega),gK (by simp;omega),oK G]
 ·rw[gL (by simp;omega)];have j:(s.take 2).length=2:=by simp[J]
  have O:((r.drop 2).take 20).length=20:=by simp[I]
  by_cases U:h<22
  ·rw[lG (by omega),gK (by omega),j,oK (by omega),sW,show 2+(h-2)=h by omega]
  ·rw[lC (by omega),gL (by omega),j,O,sW,show 22+(h-2-20)=h by omega]
theorem pF s r(j:s.length=44)(h:r.length=44):(zl s r).length=44:=by simp[zl,j,h]
theorem Good.zCF{L T s r}(h:Good L T s)(G:Good L T r):Good L T (zl s r):=by
 have e:=bC s r h.len G.len;refine⟨pF s r h.len G.len,by rw[e,lC (by omega)];exact h.Ai,by rw[e,lC (by omega)];exact h.pc1,by rw[e,lC (by omega)];exact h.Ht,by rw[e,lC (by omega)];exact h.pos1,λk j=>?_,λk j=>?_⟩
 ·rw[e,e,lG (by omega),lG (by omega)];exact G.place k j
 ·rw[e,e,lC (by omega),lC (by omega)];exact h.noted k j
theorem Good.yS{L T s}(h:Good L T s):zX s<L:=by have:=h.Ai;have:=h.pc1;unfold zX;omega
theorem Ug{L}{t}{s}(h:Good L t.size s)(k)(J:0<=k)(U:k<10)(W:gt s 0+1<L)(ok:(bV t s k).2=true):Good L t.size (bV t s k).1:=by
 unfold bV at ok |-;have j:=h.place k.toNat (by omega);rw[show 2*k.toNat=(2*k).toNat by omega]at j;rw[show(2*k).toNat+1=(2*k+1).toNat by omega]at j;split at ok
 ·cases ok
 split at ok
 ·cases ok
 rename_i G I
 rw[lC G,lC I];have O:=h.Ai;exact(h.ZX _ (by omega) (by omega)).dY _ (by omega) (by omega)
theorem yu{c}{t}{s}(a1:codeOk c)(h:Good c.length t.size s)(a8:(c.getD (zX s) kC).op≠2)(a7:(c.getD (zX s) kC).op≠11)(a0:(c.getD (zX s) kC).op≠13)(ok:(kW t s (c.getD (zX s) kC)).2=true):
  Good c.length t.size (kW t s (c.getD (zX s) kC)).1:=by
 have a2:=a1 (zX s) h.yS;generalize c.getD (zX s) kC=x at *;obtain⟨b2,a4,b3,a5,j,b1,a3,b4⟩:=a2;have a9:=a3 a0;have b0:((zX s:Nat):Int)=gt s 0:=by have:=h.Ai;unfold zX;omega
 have a6:=h.Ai;unfold kW at ok |-;by_cases Y:x.op=1
 ·rw[lG Y]at ok |-;dsimp only at ok |-;split at ok
  ·exact(h.ZX _ (by omega) (by omega)).dY _ (by omega) (by omega)
  ·cases ok
 rw[lC Y]at ok |-;by_cases G:x.op=3
 ·rw[lG G];have:=a4 G;exact h.dY _ (by omega) (by omega)
 rw[lC G]at ok |-;by_cases Z:x.op=4
 ·rw[lG Z];exact(h.zCE _ _).dY _ (by omega) (by omega)
 rw[lC Z]at ok |-;by_cases I:x.op=5
 ·rw[lG I];have:=a5 I;exact h.dY _ (by omega) (by omega)
 rw[lC I]at ok |-;by_cases J:x.op=6
 ·rw[lG J];have:=j (.inl J);exact(h.ZY _ (by omega)).dY _ (by omega) (by omega)
 rw[lC J]at ok |-;by_cases O:x.op=7
 ·rw[lG O];have:=j (.inr (.inl O))
  have W:=(h.zAa x.x.toNat (by omega)).dY (gt s 0+1) (by omega) (by omega);rw[show 2*x.x.toNat=(2*x.x).toNat by omega,show(2*x.x).toNat+1=(2*x.x+1).toNat by omega]at W;exact W
 rw[lC O]at ok |-;by_cases U:x.op=8
 ·rw[lG U]at ok |-;have:=j (.inr (.inr U));exact Ug h _ (by omega) (by omega) (by omega) ok
 rw[lC U]at ok |-;split
 ·exact h.dY _ (by omega) (by omega)
 split
 ·exact h.dY _ (by omega) (by omega)
 ·exact h.dY _ (by omega) (by omega)
theorem KW t s x:(kW t s x).1.length=s.length:=by
 unfold kW bV
 repeat' split
 all_goals simp
theorem Uh kn zA i:(yV kn zA i).length=kn.length:=by
 unfold yV;split
 ·rfl
 split <;> simp
theorem Rs kn zA i(h:0<=zA/\zA<=5000):0<=qB kn zA i/\qB kn zA i<=5000:=by
 unfold qB;split
 ·exact h
 split <;> omega
theorem Env.Gc(E:Env) s kn zA:(E.qK s kn zA).length=kn.length:=by
 unfold Env.qK;split
 ·exact Uh _ _ _
 rfl
theorem Env.nX(E:Env) s kn zA(h:0<=zA/\zA<=5000):0<=E.zG s kn zA/\E.zG s kn zA<=5000:=by
 unfold Env.zG;split
 ·exact Rs _ _ _ h
 exact h
theorem jc{c:List zT}{T}{s r}{ok}(J:Good c.length T s)(I:ok=true->Good c.length T r)(x:zT)(j:0<=x.y)(G:x.y<c.length)(h:(jG s x r ok).2=true):Good c.length T (jG s x r ok).1:=by
 unfold jG at h |-;by_cases O:x.x=0
 ·rw[lG O]at h |-;exact(I h).dY _ j G
 rw[lC O]at h |-;by_cases U:x.x=1
 ·rw[lG U]at h |-;exact(J.zCF (I h)).dY _ j G
 rw[lC U];exact J.dY _ j G
theorem yK E(W:codeOk E.c):∀N n s kn zA,n<=N->Good E.c.length E.t.size s->0<=zA/\zA<=5000->
  ((zS E n s kn zA).ok=true->Good E.c.length E.t.size (zS E n s kn zA).st)/\(zS E n s kn zA).kn.length=kn.length/\(0<=(zS E n s kn zA).zA/\(zS E n s kn zA).zA<=5000)/\(zS E n s kn zA).st.length=44/\((zS E n s kn zA).kI=true->(zS E n s kn zA).ok=false/\(zS E n s kn zA).n=0)
 | N,0,s,kn,zA,_,h,hr=>by rw[mF];exact⟨λe=>(by cases e),rfl,hr,h.len,λ_=>⟨rfl,rfl⟩⟩
 | 0,n+1,s,kn,zA,hn,_,_=>by omega
 | N+1,n+1,s,kn,zA,hn,h,hr=>by
  have O:∀(n:Nat) (s:qL) (kn:List Bool) (zA:Int),n<=N->Good E.c.length E.t.size s->0<=zA/\zA<=5000->
   ((zS E n s kn zA).ok=true->Good E.c.length E.t.size (zS E n s kn zA).st)/\(zS E n s kn zA).kn.length=kn.length/\(0<=(zS E n s kn zA).zA/\(zS E n s kn zA).zA<=5000)/\(zS E n s kn zA).st.length=44/\((zS E n s kn zA).kI=true->(zS E n s kn zA).ok=false/\(zS E n s kn zA).n=0):=yK E W N
  rw[xA];have I:=E.Gc s kn zA;have J:=E.nX s kn zA hr;have Y:=W (zX s) h.yS;have a8:((zX s:Nat):Int)=gt s 0:=by have:=h.Ai;unfold zX;omega
  have a9:=h.Ai;split
  ·exact⟨λe=>(by cases e),I,J,h.len,λe=>(by cases e)⟩
  split
  ·exact⟨λ_=>h,I,J,h.len,λe=>(by cases e)⟩
  rename_i a6
  split
  ·rename_i a1
   have U:=Y.1 a1;have j:=O n (s.set 0 (E.ins s).x) (E.qK s kn zA) (E.zG s kn zA) (by omega) (h.dY _ U.1 U.2.1) J;have a5:=xE E n (s.set 0 (E.ins s).x) (E.qK s kn zA) (E.zG s kn zA);dsimp only;generalize zS E n (s.set 0 (E.ins s).x) (E.qK s kn zA) (E.zG s kn zA)=r at *;split
   ·exact⟨j.1,j.2.1.trans I,j.2.2⟩
   ·have G:=O r.n (s.set 0 (E.ins s).y) r.kn r.zA (by omega) (h.dY _ U.2.2.1 U.2.2.2) j.2.2.1;exact⟨G.1,G.2.1.trans (j.2.1.trans I),G.2.2⟩
  rename_i a1
  split
  ·rename_i a0
   have a2:=Y.2.2.2.2.2.1 a0;have a7:zX s+1<E.c.length:=Y.2.2.2.2.2.2.1 (by show(E.ins s).op≠13;omega);have j:=O n (s.set 0 (gt s 0+1)) (E.qK s kn zA) (E.zG s kn zA) (by omega) (h.dY _ (by omega) (by omega)) J;have a5:=xE E n (s.set 0 (gt s 0+1)) (E.qK s kn zA) (E.zG s kn zA);dsimp only;generalize zS E n (s.set 0 (gt s 0+1)) (E.qK s kn zA) (E.zG s kn zA)=r at *;split
   ·rename_i a4
    exact⟨λe=>(by cases e),j.2.1.trans I,j.2.2.1,h.len,λ_=>⟨rfl,(j.2.2.2.2 a4).2⟩⟩
   split
   ·rename_i Z
    have G:=O r.n _ r.kn r.zA (by omega) (jc h j.1 (E.ins s) a2.1 a2.2.1 Z) j.2.2.1;exact⟨G.1,G.2.1.trans (j.2.1.trans I),G.2.2⟩
   ·refine⟨λe=>(by cases e),j.2.1.trans I,j.2.2.1,?_,λe=>(by cases e)⟩;show(jG s (E.ins s) r.st r.ok).1.length=44;unfold jG;split
    ·simp[j.2.2.2.1]
    split
    ·simp[pF s r.st h.len j.2.2.2.1]
    ·simp[h.len]
  rename_i a0
  split
  ·rename_i Z
   have a3:=Z;have G:=O n _ (E.qK s kn zA) (E.zG s kn zA) (by omega) (yu W h a1 a0 (by show(E.ins s).op≠13;omega) a3) J;exact⟨G.1,G.2.1.trans I,G.2.2⟩
  ·exact⟨λe=>(by cases e),I,J,by show(kW E.t s (E.ins s)).1.length=44;rw[KW,h.len],λe=>(by cases e)⟩
