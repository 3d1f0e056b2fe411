import Derived.Test.YtebpgfodelggoaaGreatC03
set_option linter.all false
namespace Mt
def vg(t:zU):Prop:=(1<=t.kind/\t.kind<=8)/\t.set.length<=256/\(t.kind=2->1<=t.n/\t.n<=9)/\(t.kind=6->0<=t.jB/\t.jB<=4)
 /\ (t.kind=8->0<=t.n/\t.n<=20/\-1<=t.m/\t.m<=20/\0<=t.jB/\t.jB<=2)
theorem Pm p a b no:(all p a b no).length<=256:=by
 unfold all iw;rw[uD];refine gX (iF _ _) ?_;simp
theorem Pn(p)(i)(h:(kS p i).2=0):vg (kS p i).1:=by
 unfold kS at h |-;split
 ·simp[vg]
 split
 ·simp[vg]
 split
 ·simp[vg]
 split
 ·simp[vg]
 split
 ·unfold vM;split
  ·simp[vg]
  split
  ·simp[vg,Pm]
  split
  ·simp only[vg];simp;omega
  ·simp[vg]
 split
 ·rename_i a b c d e f
  rw[lC a,lC b,lC c,lC d,lC e,lG f]at h;unfold yI at h |-;split
  ·rename_i g;rw[lG g]at h;simp at h
  ·simp[vg,Pm]
 split
 ·unfold kU
  repeat' split
  all_goals simp[vg]
 split
 ·have G:=Bg p (i+1);have I:=Bg p (count p i).2.2.1;have j:=Rl p i;unfold jN;split
  ·simp only[vg];simp;omega
  split
  ·simp only[vg];simp;omega
  split
  ·split
   ·simp only[vg];simp;omega
   ·simp[vg]
  ·simp only[vg];simp;omega
 split
 ·simp[vg,Pm]
 ·simp[vg]
def Valid(l:List zU):Prop:=∀k,k<l.length->may (l.take k) (l.getD k zZ)=0/\vg (l.getD k zZ)/\(jD (l.getD k zZ)=true->(l.getD k zZ).n=kD (l.take k)+1)
theorem ug l t:(yU l t).kind=t.kind/\(yU l t).jB=t.jB/\(yU l t).set=t.set/\(yU l t).m=t.m/\(jD t=false->yU l t=t)/\(jD t=true->(yU l t).n=kD l+1):=by
 unfold yU;split <;> simp_all
theorem Ui l t:may l (yU l t)=may l t:=by
 obtain⟨j,G,_,_,I,_⟩:=ug l t;by_cases h:jD t=true
 ·have J:t.kind=6:=by simp[jD]at h;exact h.1
  unfold may;rw[j,G];rw[lC (by omega),lC (by omega)];rw[lC (show ¬t.kind=2 by omega)]
 ·rw[I (by simpa using h)]
theorem Fq{l t}(O:Valid l)(a0:vg t)(a1:may l t=0):Valid (l++[yU l t]):=by
 obtain⟨G,I,U,W,Y,Z⟩:=ug l t;intro k j;rw[lQ]at j;by_cases J:k<l.length
 ·rw[uZ (by omega),lH,gK J,<-lH];exact O k J
 ·have e:k=l.length:=by simp at j;omega
  subst e;rw[List.take_left',lH,gL (lF _)]
  ·simp only[aS,sG,uS];refine⟨by rw[Ui];exact a1,?_,λh=>?_⟩
   ·by_cases h:jD t=true
    ·have j:t.kind=6:=by simp[jD]at h;exact h.1
     unfold vg at *;rw[G,I,U,W];omega
    ·rw[Y (by simpa using h)];exact a0
   ·refine Z ?_;unfold jD at *;rw[G,I]at h;exact h
  ·rfl
theorem Po p:∀(f:Nat) l(i:Int),0<=i->i<=p.size->(p.size:Int)-i<f->Valid l->(vP p l i).2.1=0->Valid (vP p l i).1:=by
 intro f;induction f with
 | zero=>intro l i j G J;omega
 | succ f O =>
  intro l i j G J I h;rw[dW p l i j G]at h |-;split
  ·exact I
  ·rename_i a
   rw[lC a]at h;split
   ·rename_i b;rw[lG b]at h;exact absurd h b
   ·rename_i b
    rw[lC b]at h;split
    ·rename_i c;rw[lG c]at h;exact absurd h c
    ·rename_i c
     rw[lC c]at h;have U:=tq p i j (by omega) (by omega);exact O _ _ (by omega) (by omega) (by omega) (Fq I (Pn p i (by omega)) (by omega)) h
theorem ko(p)(h:(zP p).2.1=0):Valid (zP p).1/\¬0<kE (zP p).1:=by
 unfold zP at h |-;split
 ·rename_i a;rw[lG a]at h;simp at h
 ·rename_i a
  rw[lC a]at h;split
  ·rename_i b;rw[lG b]at h;exact absurd h b
  ·rename_i b
   rw[lC b]at h;split
   ·rename_i c;rw[lG c]at h;simp at h
   ·rename_i c
    refine⟨?_,c⟩;rw[dP p (by omega)];exact Po p (p.size+1) [] 0 (by omega) (by omega) (by omega) (λk j=>by simp at j) (by rw[<-dP p (by omega)];omega)
theorem BO{l}(I:Valid l):∀k,k<=l.length->0<=kE (l.take k)/\kE (l.take k)<=10
 | 0,_=>by simp[kE]
 | k+1,hk=>by
  have J:=BO I k (by omega);have h:=(I k (by omega)).1;rw[Jb l k (by omega)];unfold may at h;unfold jV;by_cases j:(l.getD k zZ).kind=6
  ·rw[lC (by omega),lC (by omega),lG j]at h;rw[lG j];split at h <;> omega
  ·rw[lC j];by_cases G:(l.getD k zZ).kind=7
   ·rw[lC (by omega),lC (by omega),lC j,lG G]at h;rw[lG G];split at h <;> omega
   ·rw[lC G];omega
theorem Rt l k:kE (l.take k)+kE (l.drop k)=kE l:=by
 rw[<-pO,List.take_append_drop]
def AL(t:zU):Bool:=decide (t.kind=1\/t.kind=2\/t.kind=3\/t.kind=4\/t.kind=7)
def Bj:Bool->List zU->Prop
 | _,[]=>True
 | b,t::s=>(t.kind=8->b=true)/\Bj (AL t) s
theorem NI{l}(j:Valid l):∀n k,k+n=l.length->Bj (pV (l.take k)) (l.drop k)
 | 0,k,e=>by rw[uL (by omega)];trivial
 | n+1,k,e=>by
  have h:=(j k (by omega)).1;rw[Ei l k (by omega)];refine⟨λI=>?_,?_⟩
  ·unfold may at h;rw[lC (by omega),lG I]at h;cases J:pV (l.take k)with
   | true=>rfl
   | false=>rw[J]at h;simp at h
  ·have:=NI j n (k+1) (by omega);rw[Hg l k (by omega)]at this
   have G:pV (l.take k++[l.getD k zZ])=AL (l.getD k zZ):=by
    unfold pV AL;simp
   rw[G]at this;exact this
theorem Ru{b}:∀{s},Bj b s->(∀t u,s=t::u->t.kind≠8)->Bj false s
 | [],_,_=>trivial
 | t::u,h,h2=>⟨λj=>absurd j (h2 t u rfl),h.2⟩
theorem nY:∀f:Fs,f.wf->kE f.zJ=0
 | .nil,_=>rfl
 | .bar t r,h=>by
  have j:jV t=0:=by have:=h.1;unfold jV;rw[lC (by omega),lC (by omega)]
  simp only[Fs.zJ,kE];rw[j,nY r h.2];rfl
 | .leaf t r s,h=>by
  have j:jV t=0:=by have:=h.1;unfold jy at this;unfold jV;rw[lC (by omega),lC (by omega)]
  have G:kE r.toList=0:=by
   cases r with
   | none=>rfl
   | some q=>have:=h.2.1 q rfl;simp only[Option.toList,kE];unfold jV;rw[lC (by omega),lC (by omega)];rfl
  simp only[Fs.zJ,kE,pO];rw[j,G,nY s h.2.2];rfl
 | .Dh t i c r s,h=>by
  have j:jV t=1:=by have:=h.1;unfold jV;rw[lG (by omega)]
  have I:jV c=-1:=by have:=h.2.1;unfold jV;rw[lC (by omega),lG (by omega)]
  have G:kE r.toList=0:=by
   cases r with
   | none=>rfl
   | some q=>have:=h.2.2.2.1 q rfl;simp only[Option.toList,kE];unfold jV;rw[lC (by omega),lC (by omega)];rfl
  simp only[Fs.zJ,kE,pO];rw[j,I,G,nY i h.2.2.1,nY s h.2.2.2.2];rfl
theorem parse:∀N s,s.length<=N->(∀t∈s,1<=t.kind/\t.kind<=8)->Bj false s->(∀k,kE (s.drop k)<=0)->
  ∃(f:Fs) (j:List zU),f.wf/\s=f.zJ++j/\(j=[]\/∃c u,j=c::u/\c.kind=7)
 | N,[],_,_,_,_=>⟨.nil,[],trivial,rfl,.inl rfl⟩
 | 0,t::s,h,_,_,_=>by simp at h
 | N+1,t::s,hN,hk,hr,ho=>by
  have Y:∀u∈s,1<=u.kind/\u.kind<=8:=λu U=>hk u (uT _ U)
  have Z:∀k,kE (s.drop k)<=0:=λk=>ho (k+1)
  have c2:=hk t (iA ..);have W:s.length<=N:=by simpa using hN
  have a5:∀v:List zU,v.length<=N->(∀u∈v,1<=u.kind/\u.kind<=8)->Bj true v->(∀k,kE (v.drop k)<=0)->
    ∃(r:Option zU) (f:Fs) (j:List zU),Hr r/\f.wf/\v=r.toList++(f.zJ++j)/\(j=[]\/∃c u,j=c::u/\c.kind=7):=by
   intro v b0 a7 a9 a8
   match v with
   | []=>exact⟨none,.nil,[],λq e=>(by cases e),trivial,rfl,.inl rfl⟩
   | q::w =>
    by_cases O:q.kind=8
    ·have b9:Bj false w:=by
      have:=a9.2;have e:AL q=false:=by unfold AL;simp;omega
      rwa [e]at this
     obtain⟨f,j,I,e,G⟩:=parse N w (by simp at b0;omega) (λu U=>a7 u (uT _ U)) b9 (λk=>a8 (k+1));exact⟨some q,f,j,λq' a0=>(by cases a0;exact O),I,by rw[e];rfl,G⟩
    ·obtain⟨f,j,I,e,G⟩:=parse N (q::w) b0 a7 (Ru a9 (λc4 c5 a0=>by cases a0;exact O)) a8;exact⟨none,f,j,λq e=>(by cases e),I,e,G⟩
  by_cases b4:t.kind=7
  ·exact⟨.nil,t::s,trivial,rfl,.inr ⟨t,s,rfl,b4⟩⟩
  by_cases b2:t.kind=5
  ·have J:Bj false s:=by
    have:=hr.2;have e:AL t=false:=by unfold AL;simp;omega
    rwa [e]at this
   obtain⟨f,j,I,e,G⟩:=parse N s W Y J Z;exact⟨.bar t f,j,⟨b2,I⟩,by rw[e];rfl,G⟩
  by_cases b3:t.kind=6
  ·have J:Bj false s:=by
    have:=hr.2;have e:AL t=false:=by unfold AL;simp;omega
    rwa [e]at this
   obtain⟨i,j,I,e,G⟩:=parse N s W Y J Z;have b6:jV t=1:=by unfold jV;rw[lG (by omega)]
   rcases G with rfl | ⟨c,u,rfl,b5⟩
   ·exfalso;have a6:=ho 0;simp only[List.drop_zero,kE]at a6;rw[b6,e,uJ,nY i I]at a6;omega
   ·have b7:∀k,s.drop (i.zJ.length+k)=(c::u).drop k:=λk=>by rw[e,<-iZ,eB]
    have U:u=s.drop (i.zJ.length+1):=by rw[b7 1];rfl
    have b8:Bj true u:=by
     have key:∀(x:List zU) (b:Bool),Bj b (x++c::u)->Bj true u:=by
      intro x;induction x with
      | nil =>
          intro b a1;have:=a1.2;have b1:AL c=true:=by unfold AL;simp;omega
          rwa [b1]at this
      | cons y c6 c1=>intro b a1;exact c1 _ a1.2
     have:=J;rw[e]at this;exact key _ _ this
    have c3:u.length+1+i.zJ.length<=N:=by
     have:=W;rw[e]at this;simp at this;omega
    obtain⟨r,f,j,a3,a2,a4,G⟩:=a5 u (by omega) (λx c0=>Y x (by rw[e];simp[c0])) b8 (λk=>by rw[U,iZ];exact Z _);exact⟨.Dh t i c r f,j,⟨b3,b5,I,a3,a2⟩,by rw[e,a4];simp[Fs.zJ],G⟩
  have O:t.kind≠8:=λO=>by have:=hr.1 O;simp at this
  have J:Bj true s:=by
   have:=hr.2;have e:AL t=true:=by unfold AL;simp;omega
   rwa [e]at this
  obtain⟨r,f,j,a3,a2,a4,G⟩:=a5 s W Y J Z;exact⟨.leaf t r f,j,⟨by unfold jy;omega,a3,a2⟩,by rw[a4];simp[Fs.zJ],G⟩
theorem Jd{l}(j:Valid l)(a1:¬0<kE l):∃f:Fs,f.wf/\l=f.zJ:=by
 have I:=BO j;have U:=I l.length (lF _);rw[rT]at U;have J:=NI j l.length 0 (by omega);simp only[aG,List.drop_zero]at J
 obtain⟨f,a2,O,e,Z⟩:=parse l.length l (lF _) (λt G=>by
  obtain⟨k,h,rfl⟩:=iJ.1 G;have:=(j k h).2.1;rw[lH,lN h]at this;exact this.1) J (λk=>by
  by_cases h:k<=l.length
  ·have:=Rt l k;have:=I k h;omega
  ·rw[uL (by omega)];simp[kE])
 rcases Z with rfl | ⟨c,u,rfl,a0⟩
 ·exact⟨f,O,by rw[e,uJ]⟩
 ·exfalso;have Y:f.zJ.length+1<=l.length:=by rw[e];simp
  have:=I (f.zJ.length+1) Y;have G:l.take (f.zJ.length+1)=f.zJ++[c]:=by rw[e];rw[rX,oG (by omega)];simp
  rw[G,pO,nY f O]at this;simp only[kE]at this;have W:jV c=-1:=by unfold jV;rw[lC (by omega),lG (by omega)]
  rw[W]at this;omega
def Fs.dp:Fs->Nat
 | .nil=>0
 | .bar _ r=>r.dp
 | .leaf _ _ s=>s.dp
 | .Dh _ i _ _ s=>max (i.dp+1) s.dp
theorem Rv:∀(f:Fs),f.wf->∀n,n<=10->(∀k,k<=f.zJ.length->n+kE (f.zJ.take k)<=10)->n+f.dp<=10
 | .nil,_,n,hn,_=>by simp[Fs.dp];omega
 | .bar t r,h,n,hn,hk=>by
  have j:jV t=0:=by have:=h.1;unfold jV;rw[lC (by omega),lC (by omega)]
  refine Rv r h.2 n hn (λk G=>?_);have:=hk (k+1) (by simp[Fs.zJ];omega);simp only[Fs.zJ,uH,kE,j]at this;omega
 | .leaf t r s,h,n,hn,hk=>by
  have j:jV t=0:=by have:=h.1;unfold jy at this;unfold jV;rw[lC (by omega),lC (by omega)]
  have I:kE r.toList=0:=by
   cases r with
   | none=>rfl
   | some q=>have:=h.2.1 q rfl;simp only[Option.toList,kE];unfold jV;rw[lC (by omega),lC (by omega)];rfl
  refine Rv s h.2.2 n hn (λk G=>?_);have:=hk (r.toList.length+k+1) (by simp[Fs.zJ];omega);simp only[Fs.zJ,uH,kE,j]at this;rw[rX,oG (by omega),pO,I,show r.toList.length+k-r.toList.length=k by omega]at this;omega
 | .Dh t i c r s,h,n,hn,hk=>by
  have j:jV t=1:=by have:=h.1;unfold jV;rw[lG (by omega)]
  have O:jV c=-1:=by have:=h.2.1;unfold jV;rw[lC (by omega),lG (by omega)]
  have I:kE r.toList=0:=by
   cases r with
   | none=>rfl
   | some q=>have:=h.2.2.2.1 q rfl;simp only[Option.toList,kE];unfold jV;rw[lC (by omega),lC (by omega)];rfl
  have U:=nY i h.2.2.1
  have W:n+1+i.dp<=10:=by
   have J:=hk 1 (by simp[Fs.zJ]);simp only[Fs.zJ,uH,aG,kE,j]at J;refine Rv i h.2.2.1 (n+1) (by omega) (λk G=>?_);have:=hk (k+1) (by simp[Fs.zJ];omega);simp only[Fs.zJ,uH,kE,j]at this;rw[uZ G]at this;omega
  have Y:n+s.dp<=10:=by
   refine Rv s h.2.2.2.2 n hn (λk G=>?_);have:=hk (i.zJ.length+(r.toList.length+k+1)+1) (by simp[Fs.zJ];omega);simp only[Fs.zJ,uH,kE,j]at this
   rw[rX,oG (by omega),pO,U,show i.zJ.length+(r.toList.length+k+1)-i.zJ.length=r.toList.length+k+1 by omega,uH,kE,O,
    rX,oG (by omega),pO,I,show r.toList.length+k-r.toList.length=k by omega]at this
   omega
  simp only[Fs.dp];omega
def Re.fine:Re->Prop
 | .qb=>True
 | .one s=>s.length<=256
 | .back k=>1<=k/\k<=9
 | .head=>True
 | .tail=>True
 | .cat a b=>a.fine/\b.fine
 | .alt a b=>a.fine/\b.fine
 | .cap k a=>(1<=k/\k<=9)/\a.fine
 | .sub s a=>(0<=s/\s<=2)/\a.fine
 | .opt _ a=>a.fine
 | .loop _ a=>a.fine
def Re.deep:Re->Nat
 | .qb=>0
 | .one _=>0
 | .back _=>0
 | .head=>0
 | .tail=>0
 | .cat a b=>max a.deep b.deep
 | .alt a b=>max a.deep b.deep
 | .cap _ a=>a.deep
 | .sub _ a=>a.deep
 | .opt _ a=>a.deep
 | .loop _ a=>a.deep+1
theorem Je{x}(h:x.fine):∀n,(kM x n).fine/\(kM x n).deep<=x.deep
 | 0=>⟨trivial,gD _⟩
 | n+1=>by have:=Je h n;exact⟨⟨h,this.1⟩,by simp only[kM,Re.deep];omega⟩
theorem NJ{x} late(h:x.fine):∀n,(fF x late n).fine/\(fF x late n).deep<=x.deep
 | 0=>⟨trivial,gD _⟩
 | n+1=>by have:=NJ late h n;exact⟨⟨h,this.1⟩,by simp only[fF,Re.deep];omega⟩
theorem Xq{x}(j:x.fine) r:(Db x r).fine/\(Db x r).deep<=x.deep+1:=by
 unfold Db;dsimp only;have t:=Je j r.n.toNat;have o:=NJ (decide (r.jB=1)) j (r.m-r.n).toNat
 have G:(if 0<r.n\/0<r.m then(if r.n<r.m then Re.cat (kM x r.n.toNat) (fF x (decide (r.jB=1)) (r.m-r.n).toNat)else kM x r.n.toNat)else Re.qb).fine/\(if 0<r.n\/0<r.m then(if r.n<r.m then Re.cat (kM x r.n.toNat) (fF x (decide (r.jB=1)) (r.m-r.n).toNat)else kM x r.n.toNat)else Re.qb).deep<=x.deep:=by
  split
  ·split
   ·exact⟨⟨t.1,o.1⟩,by simp only[Re.deep];omega⟩
   ·exact t
  ·exact⟨trivial,gD _⟩
 generalize (if 0<r.n\/0<r.m then(if r.n<r.m then Re.cat (kM x r.n.toNat) (fF x (decide (r.jB=1)) (r.m-r.n).toNat)else kM x r.n.toNat)else Re.qb)=z at *
 have h:(if r.m<0 then Re.cat z (.loop (decide (r.jB=1)) x)else z).fine/\(if r.m<0 then Re.cat z (.loop (decide (r.jB=1)) x)else z).deep<=x.deep+1:=by
  split
  ·exact⟨⟨G.1,j⟩,by simp only[Re.deep];omega⟩
  ·exact⟨G.1,by omega⟩
 generalize (if r.m<0 then Re.cat z (.loop (decide (r.jB=1)) x)else z)=I at *;split
 ·exact⟨⟨by omega,h.1⟩,h.2⟩
 ·exact h
theorem NK{x}(h:x.fine) r:(part r x).fine/\(part r x).deep<=x.deep+1:=by
 cases r with
 | none=>exact⟨h,iI _⟩
 | some q=>exact Xq h q
def Xr(t:zU):Prop:=t.set.length<=256/\(t.kind=2->1<=t.n/\t.n<=9)/\(t.kind=6->0<=t.jB/\t.jB<=4)/\(t.kind=6->t.jB=4->1<=t.n/\t.n<=9)
theorem Dl b(h:b.1.fine)(j:∀a,b.2=some a->a.fine):(BL b).fine:=by
 obtain⟨x,y⟩:=b;cases y with
 | none=>exact h
 | some a=>exact⟨h,j a rfl⟩
theorem Dm b n(h:b.1.deep<=n)(j:∀a,b.2=some a->a.deep<=n):(BL b).deep<=n:=by
 obtain⟨x,y⟩:=b;cases y with
 | none=>exact h
 | some a=>have:=j a rfl;simp only[BL,Re.deep]at *;omega
theorem Bl:∀(f:Fs),f.wf->(∀t∈f.zJ,Xr t)->(f.both.1.fine/\∀a,f.both.2=some a->a.fine)/\(f.both.1.deep<=f.dp+1/\∀a,f.both.2=some a->a.deep<=f.dp+1)
 | .nil,_,_=>⟨⟨trivial,λa e=>(by cases e)⟩,gD _,λa e=>(by cases e)⟩
 | .bar t r,h,ht=>by
  have j:=Bl r h.2 (λu I=>ht u (by simp[Fs.zJ,I]));refine⟨⟨trivial,λa e=>?_⟩,gD _,λa e=>?_⟩
  ·simp only[Fs.both,oP]at e;subst e;exact Dl _ j.1.1 j.1.2
  ·simp only[Fs.both,oP]at e;subst e;exact Dm _ _ j.2.1 j.2.2
 | .leaf t r s,h,ht=>by
  have j:=Bl s h.2.2 (λu I=>ht u (by simp[Fs.zJ,I]))
  have a1:(fV t).fine/\(fV t).deep=0:=by
   have G:=ht t (by simp[Fs.zJ]);unfold Xr at G;unfold fV;split
   ·exact⟨G.1,rfl⟩
   split
   ·rename_i Y;exact⟨G.2.1 Y,rfl⟩
   split
   ·exact⟨trivial,rfl⟩
   ·exact⟨trivial,rfl⟩
  have O:=NK a1.1 r;exact⟨⟨⟨O.1,j.1.1⟩,j.1.2⟩,by simp only[Fs.both,Re.deep,Fs.dp];have:=j.2.1;omega,j.2.2⟩
 | .Dh t i c r s,h,ht=>by
  have J:=Bl i h.2.2.1 (λu I=>ht u (by simp[Fs.zJ,I]));have is:=Bl s h.2.2.2.2 (λu I=>ht u (by simp[Fs.zJ,I]));have G:=ht t (by simp[Fs.zJ]);unfold Xr at G;have U:=Dl _ J.1.1 J.1.2;have W:=Dm _ _ J.2.1 J.2.2
  have a0:(iy t (BL i.both)).fine/\(iy t (BL i.both)).deep<=i.dp+1:=by
   have a2:=G.2.2.1 h.1;unfold iy;split
   ·exact⟨U,W⟩
   split
   ·rename_i Z;exact⟨⟨G.2.2.2 h.1 Z,U⟩,W⟩
   ·exact⟨⟨by omega,U⟩,W⟩
  have O:=NK a0.1 r;refine⟨⟨⟨O.1,is.1.1⟩,is.1.2⟩,?_,λa e=>?_⟩
  ·simp only[Fs.both,Re.deep,Fs.dp];have:=is.2.1;omega
  ·have:=is.2.2 a e;simp only[Fs.dp];omega
theorem zCG(f:Fs)(j:f.wf)(h:∀t∈f.zJ,Xr t):f.re.fine/\f.re.deep<=f.dp+1:=by
 have:=Bl f j h;exact⟨Dl _ this.1.1 this.1.2,Dm _ _ this.2.1 this.2.2⟩
def aZ(L:Nat)(x:zT):Prop:=
 (x.op=2->0<=x.x/\x.x<L/\0<=x.y/\x.y<L)/\(x.op=3->0<=x.x/\x.x<L)/\(x.op=4->0<=x.x/\x.x<12)/\(x.op=5->0<=x.x/\x.x<L/\0<=x.y/\x.y<12)
 /\ (x.op=6\/x.op=7\/x.op=8->0<=x.x/\x.x<10)/\(x.op=11->0<=x.y/\x.y<L/\0<=x.x/\x.x<=2)/\x.op≠13/\x.set.length<=256
theorem zAb{L:Nat}(x y:Int) late(h:0<=x/\x<L/\0<=y/\y<L):aZ L (spl x y late):=by
 unfold spl aZ;cases late <;> simp <;> omega
theorem xg(L:Nat):∀(r:Re)(p d:Int),r.fine->0<=p->p+r.len<L->0<=d->d+r.deep<=12->∀x∈r.code p d,aZ L x
 | .qb,p,d,_,_,_,_,_,x,h=>by simp[Re.code]at h
 | .one s,p,d,hf,_,_,_,_,x,h=>by simp[Re.code]at h;subst h;simp only[aZ,Re.fine]at *;simp;omega
 | .back k,p,d,hf,_,_,_,_,x,h=>by simp[Re.code]at h;subst h;simp only[aZ,Re.fine]at *;simp;omega
 | .head,p,d,hf,_,_,_,_,x,h=>by simp[Re.code]at h;subst h;simp[aZ]
 | .tail,p,d,hf,_,_,_,_,x,h=>by simp[Re.code]at h;subst h;simp[aZ]
 | .cat a b,p,d,hf,hp,hl,hd,hdd,x,h=>by
  simp only[Re.len,Re.deep,Re.fine,Re.code,gV]at *;rcases h with h | h
  ·exact xg L a p d hf.1 hp (by omega) hd (by omega) x h
  ·exact xg L b _ d hf.2 (by omega) (by omega) hd (by omega) x h
 | .alt a b,p,d,hf,hp,hl,hd,hdd,x,h=>by
  simp only[Re.len,Re.deep,Re.fine,Re.code,gV,oH]at *;rcases h with rfl | h | rfl | h
  ·simp only[aZ];simp;omega
  ·exact xg L a _ d hf.1 (by omega) (by omega) hd (by omega) x h
  ·simp only[aZ];simp;omega
  ·exact xg L b _ d hf.2 (by omega) (by omega) hd (by omega) x h
 | .cap k a,p,d,hf,hp,hl,hd,hdd,x,h=>by
  simp only[Re.len,Re.deep,Re.fine,Re.code,gV,oH,sS,wY]at *;rcases h with rfl | h | rfl
  ·simp only[aZ];simp;omega
  ·exact xg L a _ d hf.2 (by omega) (by omega) hd (by omega) x h
  ·simp only[aZ];simp;omega
 | .sub s a,p,d,hf,hp,hl,hd,hdd,x,h=>by
  simp only[Re.len,Re.deep,Re.fine,Re.code,gV,oH,sS,wY]at *;rcases h with rfl | h | rfl
  ·simp only[aZ];simp;omega
  ·exact xg L a _ d hf.2 (by omega) (by omega) hd (by omega) x h
  ·simp[aZ]
 | .opt late a,p,d,hf,hp,hl,hd,hdd,x,h=>by
  simp only[Re.len,Re.deep,Re.fine,Re.code,oH]at *;rcases h with rfl | h
  ·exact zAb _ _ _ (by omega)
  ·exact xg L a _ d hf (by omega) (by omega) hd (by omega) x h
 | .loop late a,p,d,hf,hp,hl,hd,hdd,x,h=>by
  simp only[Re.len,Re.deep,Re.fine,Re.code,gV,oH,sS,wY]at *;rcases h with rfl | rfl | h | rfl
  ·exact zAb _ _ _ (by omega)
  ·simp only[aZ];simp;omega
  ·exact xg L a _ (d+1) hf (by omega) (by omega) (by omega) (by omega) x h
  ·simp only[aZ];simp;omega
theorem KX{l}(a0:Valid l):∀t∈l,Xr t:=by
 intro t a3;obtain⟨k,O,rfl⟩:=iJ.1 a3;have j:=a0 k O;rw[lH,lN O]at j;simp only[uS]at j;obtain⟨h,⟨a4,W,Y,Z,a5⟩,a1⟩:=j;refine⟨W,Y,Z,λI G=>?_⟩;have a6:=a1 (by simp[jD,I,G]);have:=nU (l.take k);unfold may at h;rw[lC (by omega),lC (by omega),lG I]at h;by_cases U:10<=kE (l.take k)
 ·rw[lG U]at h;omega
 ·rw[lC U]at h;by_cases J:l[k].jB=4/\9<=kD (l.take k)
  ·rw[lG J]at h;omega
  ·have:¬9<=kD (l.take k):=λa2=>J ⟨G,a2⟩
   omega
theorem kr(p)(h:(qW p).1=0):∃f:Fs,f.wf/\(zP p).1=f.zJ/\f.re.fine/\f.re.deep<=11/\f.re.len+1<=300/\(jA p).1=f.re.code 0 0++[⟨13,0,0,[]⟩]/\(jA p).2=0:=by
 have Z:(zP p).2.1=0:=by
  unfold qW at h;by_cases J:(zP p).2.1=0
  ·exact J
  ·rw[lG J]at h;exact h
 have j:=ko p Z;obtain⟨f,G,e⟩:=Jd j.1 j.2;have Y:=(bG p).2;have W:=KR p h;have a0:=Dk f G (by rw[<-e];exact Y);have I:=KN (zP p).1 W;rw[e,a0]at I;have O:=zCG f G (by rw[<-e];exact KX j.1)
 have a1:=Rv f G 0 (by omega) (λk U=>by
  have:=BO j.1 k (by rw[e];exact U);rw[e]at this;omega)
 refine⟨f,G,e,O.1,by omega,I.2,?_,?_⟩
 ·unfold jA;rw[lC (by omega),e,I.1]
 ·unfold jA;rw[lC (by omega)]
theorem Jf(r:Re)(G:r.fine)(O:r.deep<=11):codeOk (r.code 0 0++[⟨13,0,0,[]⟩]):=by
 intro q J;have h:(r.code 0 0++[(⟨13,0,0,[]⟩:zT)]).length=r.len+1:=by rw[lQ,Re.zH];rfl
 rw[h]at J;by_cases j:q<r.len
 ·have I:(r.code 0 0++[(⟨13,0,0,[]⟩:zT)]).getD q kC∈r.code 0 0:=by
   rw[lH,gK (by rw[Re.zH];exact j),lN (by rw[Re.zH];exact j)];exact uK _
  have:=xg (r.len+1) r 0 0 G (by omega) (by omega) (by omega) (by omega) _ I;unfold aZ at this;unfold Rq;rw[h];obtain⟨a,b,c,d,e,f,g,i⟩:=this;exact⟨a,b,c,d,e,f,λ_=>by omega,i⟩
 ·have e:q=r.len:=by omega
  subst e;rw[lH,gL (by rw[Re.zH];exact lF _),Re.zH,aS];simp[Rq]
theorem Pq c x(h:x.op≠5):jY (c++[x]) c.length=0:=by
 unfold jY tN;rw[eB];simp[xV,h]
structure PA where
 tok:PT
 num:Int
 rep:PT
 body:Int
 home:Int
 next:Int
structure PS where
 first:Int
 next:Int
structure PB where
 zK:List PS
 zC:List PA
 seq:Nat
 last:Int
 opn:List Nat
 kG:Nat
 BH:List Bool
def ps0:PS:=⟨-1,-1⟩
def pa0:PA:=⟨mJ,0,mJ,-1,0,-1⟩
def PB.xQ(b:PB)(k:Nat):PS:=b.zK.getD k ps0
def PB.qI(b:PB)(k:Nat):PA:=b.zC.getD k pa0
def PB.start:PB:=⟨[ps0],[],0,-1,[],0,List.replicate 10 false⟩
def PB.zO(b:PB)(t:PT):PB:=
 if b.last=-1 then { b with zC:=b.zC++[(⟨t,0,mJ,-1,b.seq,-1⟩:PA)],zK:=b.zK.set b.seq ⟨b.zC.length,(b.xQ b.seq).next⟩,last:=b.zC.length }
 else { b with zC:=(b.zC++[(⟨t,0,mJ,-1,b.seq,-1⟩:PA)]).set b.last.toNat { b.qI b.last.toNat with next:=b.zC.length },last:=b.zC.length }
def PB.bar(b:PB):PB:={ b with zK:=(b.zK++[ps0]).set b.seq ⟨(b.xQ b.seq).first,b.zK.length⟩,seq:=b.zK.length,last:=-1 }
def PB.number(b:PB)(g:Nat)(cap:Bool):PB:=if cap then { b with kG:=b.kG+1,zC:=b.zC.set g { b.qI g with num:=(b.kG:Int)+1 } } else b
def PB.into(b:PB)(g:Nat):PB:={ b with opn:=b.opn++[g],zK:=b.zK++[ps0],zC:=b.zC.set g { b.qI g with body:=b.zK.length },seq:=b.zK.length,last:=-1 }
def PB.kU(b:PB)(t:PT):PB:=((b.zO t).number b.zC.length (decide (t.group=1))).into b.zC.length
def PB.top(b:PB):Nat:=b.opn.getLastD 0
def PB.close(b:PB):PB:={ b with opn:=b.opn.dropLast,BH:=b.BH.set (b.qI b.top).num.toNat true,seq:=(b.qI b.top).home.toNat,last:=b.top }
def PB.repeated(b:PB)(t:PT):PB:={ b with zC:=b.zC.set b.last.toNat { b.qI b.last.toNat with rep:=t } }
def PB.next(b:PB)(t:PT):PB:=
 if t.kind=1 then b.bar else if t.kind=2 then b.kU t else if t.kind=3 then b.close else if t.kind=4 then b.repeated t else b.zO t
def PB.err(b:PB)(t:PT):Int:=
 if t.kind=1 then 0
 else if t.kind=2 then(if 10<=b.opn.length then 8 else if t.group=1/\9<=b.kG then 9 else 0)
 else if t.kind=3 then(if b.opn.length=0 then 10 else 0)
 else if t.kind=4 then(if b.last=-1\/(b.qI b.last.toNat).rep.kind≠0 then 7 else 0)
 else if t.kind=6 then(if(b.kG:Int)<t.number\/b.BH.getD t.number.toNat false=false then 6 else 0)
 else 0
def PB.run(b:PB)(l:List zU):PB:=l.foldl (λb t=>b.next (jQ t)) b
theorem PB.zCH(b:PB):b.run []=b:=rfl
theorem PB.Dn(b:PB) t l:b.run (t::l)=(b.next (jQ t)).run l:=rfl
theorem PB.Kl(b:PB) l m:b.run (l++m)=(b.run l).run m:=by simp[PB.run]
theorem fB{α:Type}(l:List α) i h v d:(l.set i v).getD h d=if i=h/\h<l.length then v else l.getD h d:=by
 rw[lH,wQ,lH];by_cases j:i=h
 ·subst j;by_cases G:i<l.length
  ·simp[G]
  ·simp[G]
 ·simp[j]
theorem yB{α:Type} l x h(d:α):(l++[x]).getD h d=if h=l.length then x else l.getD h d:=by
 rw[lH,lH];by_cases G:h<l.length
 ·rw[gK G,lC (by omega)]
 ·rw[gL (by omega)];by_cases j:h=l.length
  ·subst j;simp
  ·rw[lC j,gQ (by simp;omega),gQ (by omega)]
def rp(r:Option zU):PT:=match r with
 | none=>mJ
 | some q=>jQ q
def yO(b:PB)(lo slo:Nat):Fs->Int->Int->Prop
 | .nil,a,n=>a=-1/\n=-1
 | .bar t r,a,n=>a=-1/\∃k:Nat,n=k/\slo<=k/\k<b.zK.length/\yO b lo slo r (b.xQ k).first (b.xQ k).next
 | .leaf t r s,a,n=>∃k:Nat,a=k/\lo<=k/\k<b.zC.length/\(b.qI k).tok=jQ t/\(b.qI k).rep=rp r/\(b.qI k).body=-1/\yO b lo slo s (b.qI k).next n
 | .Dh t i c r s,a,n=>∃k:Nat,a=k/\lo<=k/\k<b.zC.length/\(b.qI k).tok=jQ t/\(b.qI k).rep=rp r/\(b.qI k).num=(if jD t then t.n else 0)/\
   (∃q:Nat,(b.qI k).body=q/\slo<=q/\q<b.zK.length/\yO b lo slo i (b.xQ q).first (b.xQ q).next)/\yO b lo slo s (b.qI k).next n
theorem dR{b c W Y Z a0}(O:Z<=W)(U:a0<=Y)(j:∀k,W<=k->k<b.zC.length->c.qI k=b.qI k)(G:∀k,Y<=k->k<b.zK.length->c.xQ k=b.xQ k)(I:b.zC.length<=c.zC.length)(J:b.zK.length<=c.zK.length):
  ∀f a n,yO b W Y f a n->yO c Z a0 f a n
 | .nil,a,n,h=>h
 | .bar t r,a,n,⟨ha,k,hn,h5,h6,h7⟩=>⟨ha,k,hn,by omega,by omega,by rw[G k h5 h6];exact dR O U j G I J r _ _ h7⟩
 | .leaf t r s,a,n,⟨k,ha,h5,h6,h7,h8,h9,h10⟩=>⟨k,ha,by omega,by omega,by rw[j k h5 h6];exact h7,by rw[j k h5 h6];exact h8,by rw[j k h5 h6];exact h9,by rw[j k h5 h6];exact dR O U j G I J s _ _ h10⟩
 | .Dh t i c' r s,a,n,⟨k,ha,h5,h6,h7,h8,h9,⟨q,g1,g2,g3,g4⟩,h10⟩ =>
  ⟨k,ha,by omega,by omega,by rw[j k h5 h6];exact h7,by rw[j k h5 h6];exact h8,by rw[j k h5 h6];exact h9,
   ⟨q,by rw[j k h5 h6];exact g1,by omega,by omega,by rw[G q g2 g3];exact dR O U j G I J i _ _ g4⟩,by rw[j k h5 h6];exact dR O U j G I J s _ _ h10⟩
structure PB.At (b:PB):Prop where
 sq:b.seq<b.zK.length
 la:b.last=-1\/∃k:Nat,b.last=k/\k<b.zC.length/\(b.qI k).next=-1
 fi:b.last=-1->(b.xQ b.seq).first=-1
 nx:(b.xQ b.seq).next=-1
structure PB.Did (b c:PB) (f:Fs):Prop where
 opn:c.opn=b.opn
 al:b.zC.length<=c.zC.length
 sl:b.zK.length<=c.zK.length
 at':∀k,k<b.zC.length->(k:Int)≠b.last->c.qI k=b.qI k
 la:∀k:Nat,b.last=k->∃x,c.qI k={ b.qI k with next:=x }
 st:∀k,k<b.zK.length->k≠b.seq->c.xQ k=b.xQ k
 fi:b.last≠-1->(c.xQ b.seq).first=(b.xQ b.seq).first
 gr:(c.kG:Int)=b.kG+kD f.zJ
 stands:yO c b.zC.length b.zK.length f (if b.last=-1 then(c.xQ b.seq).first else(c.qI b.last.toNat).next) (c.xQ b.seq).next
theorem qH t:(jQ t).kind=Nt t.kind:=rfl
theorem BP(b:PB) t(W:b.At):(b.zO t).At/\(b.zO t).zC.length=b.zC.length+1/\(b.zO t).zK.length=b.zK.length/\(b.zO t).last=b.zC.length/\(b.zO t).seq=b.seq/\(b.zO t).opn=b.opn/\(b.zO t).kG=b.kG/\
  (b.zO t).qI b.zC.length=⟨t,0,mJ,-1,b.seq,-1⟩/\(∀k,k<b.zC.length->(k)≠b.last->(b.zO t).qI k=b.qI k)/\(∀k:Nat,b.last=k->(b.zO t).qI k={ b.qI k with next:=b.zC.length })/\
  (∀k,k≠b.seq->(b.zO t).xQ k=b.xQ k)/\((b.zO t).xQ b.seq).next=-1/\(b.last≠-1->(b.zO t).xQ b.seq=b.xQ b.seq)/\(b.last=-1->((b.zO t).xQ b.seq).first=b.zC.length):=by
 obtain⟨j,U,a0,O⟩:=W;unfold PB.zO;by_cases I:b.last=-1
 ·rw[lG I];have h:∀k,({ b with zC:=b.zC++[(⟨t,0,mJ,-1,b.seq,-1⟩:PA)],zK:=b.zK.set b.seq ⟨b.zC.length,(b.xQ b.seq).next⟩,last:=b.zC.length }:PB).qI k=if k=b.zC.length then⟨t,0,mJ,-1,b.seq,-1⟩else b.qI k:=λk=>yB _ _ _ _
  have J:∀k,({ b with zC:=b.zC++[(⟨t,0,mJ,-1,b.seq,-1⟩:PA)],zK:=b.zK.set b.seq ⟨b.zC.length,(b.xQ b.seq).next⟩,last:=b.zC.length }:PB).xQ k=if b.seq=k/\k<b.zK.length then⟨b.zC.length,(b.xQ b.seq).next⟩else b.xQ k:=λk=>fB _ _ _ _ _
  refine⟨⟨by simp;exact j,lZ ⟨b.zC.length,rfl,by simp,by rw[h,lG rfl]⟩,λe=>by simp only at e;omega,by rw[J,lG ⟨rfl,j⟩];exact O⟩,by simp,by simp,rfl,rfl,rfl,rfl,by rw[h,lG rfl],λk G _=>by rw[h,lC (by omega)],λk G=>by omega,λk G=>by rw[J,lC (by omega)],by rw[J,lG ⟨rfl,j⟩];exact O,λZ=>absurd I Z,λ_=>by rw[J,lG ⟨rfl,j⟩]⟩
 ·rw[lC I];rcases U with U | ⟨m,Y,a2,a3⟩
  ·exact absurd U I
  have h:∀k,({ b with zC:=(b.zC++[(⟨t,0,mJ,-1,b.seq,-1⟩:PA)]).set b.last.toNat { b.qI b.last.toNat with next:=b.zC.length },last:=b.zC.length }:PB).qI k=if m=k then { b.qI m with next:=b.zC.length } else if k=b.zC.length then⟨t,0,mJ,-1,b.seq,-1⟩else b.qI k:=λk=>by
   unfold PB.qI;dsimp only;rw[fB,yB,Y,gW];by_cases e:m=k
   ·subst e;rw[lG ⟨rfl,by simp;omega⟩,lG rfl]
   ·rw[lC (by omega),lC e]
  refine⟨⟨j,lZ ⟨b.zC.length,rfl,by simp,by rw[h,lC (by omega),lG rfl]⟩,λe=>by simp only at e;omega,O⟩,by simp,by simp,rfl,rfl,rfl,rfl,by rw[h,lC (by omega),lG rfl],λk G a1=>by rw[h,lC (by omega),lC (by omega)],λk G=>by rw[h,lG (by omega)];rw[show m=k by omega],λk G=>rfl,O,λ_=>rfl,λe=>absurd e I⟩
theorem NM(b:PB){t}(h:jy t):b.next (jQ t)=b.zO (jQ t):=by
 unfold PB.next
 have:(jQ t).kind=5\/(jQ t).kind=6\/(jQ t).kind=7\/(jQ t).kind=8:=by
  rw[qH];rcases h with h | h | h | h <;> rw[h] <;> decide
 rw[lC (by omega),lC (by omega),lC (by omega),lC (by omega)]
theorem Rw(b:PB){t}(h:t.kind=8):b.next (jQ t)=b.repeated (jQ t):=by
 unfold PB.next
 have:(jQ t).kind=4:=by rw[qH,h];decide
 rw[lC (by omega),lC (by omega),lC (by omega),lG this]
theorem En(b:PB){t}(h:t.kind=6):b.next (jQ t)=b.kU (jQ t):=by
 unfold PB.next
 have:(jQ t).kind=2:=by rw[qH,h];decide
 rw[lC (by omega),lG this]
theorem BQ(b:PB){t}(h:t.kind=7):b.next (jQ t)=b.close:=by
 unfold PB.next
 have:(jQ t).kind=3:=by rw[qH,h];decide
 rw[lC (by omega),lC (by omega),lG this]
theorem Gd(b:PB){t}(h:t.kind=5):b.next (jQ t)=b.bar:=by
 unfold PB.next
 have:(jQ t).kind=1:=by rw[qH,h];decide
 rw[lG this]
theorem Uj(b:PB)(j:b.At)(k:Nat)(G:b.last=k)(J:k<b.zC.length)(O:(b.qI k).rep=mJ) r(Z:Hr r):
  (b.run r.toList).At/\(b.run r.toList).zC.length=b.zC.length/\(b.run r.toList).zK=b.zK/\(b.run r.toList).last=k/\(b.run r.toList).seq=b.seq/\(b.run r.toList).opn=b.opn/\(b.run r.toList).kG=b.kG/\
  (b.run r.toList).qI k={ b.qI k with rep:=rp r }/\(∀h,h≠k->(b.run r.toList).qI h=b.qI h):=by
 cases r with
 | none=>exact⟨j,rfl,rfl,G,rfl,rfl,rfl,by simp only[Option.toList_none,PB.zCH,rp,<-O],λ_ _=>rfl⟩
 | some q =>
  have e:b.run (some q).toList=b.repeated (jQ q):=Rw b (Z q rfl);rw[e]
  have I:∀h,(b.repeated (jQ q)).qI h=if k=h then { b.qI k with rep:=jQ q } else b.qI h:=λh=>by
   unfold PB.repeated PB.qI;dsimp only;rw[fB,G,gW];by_cases e:k=h
   ·subst e;rw[lG ⟨rfl,J⟩,lG rfl]
   ·rw[lC (by omega),lC e]
  refine⟨⟨j.sq,lZ ⟨k,G,by simp[PB.repeated];exact J,?_⟩,λe=>j.fi e,j.nx⟩,by simp[PB.repeated],rfl,G,rfl,rfl,rfl,by rw[I,lG rfl];rfl,λh Y=>by rw[I,lC (iB Y)]⟩;rw[I,lG rfl];rcases j.la with U | ⟨m,U,a0,W⟩
  ·omega
  ·have:m=k:=by omega
   subst this;exact W
theorem KY{t}(h:jy t):jD t=false:=by
 unfold jD;rcases h with h | h | h | h <;> simp[h]
theorem Eo{r}(h:Hr r):kD r.toList=0:=by
 cases r with
 | none=>rfl
 | some q =>
       have:jD q=false:=by unfold jD;simp[h q rfl]
       simp[kD,this]
theorem zAd{b c:PB}{t}{r}{s}(a0:b.At)(c1:jy t)(a4:Hr r)(h:((b.zO (jQ t)).run r.toList).Did c s):b.Did c (.leaf t r s):=by
 obtain⟨a5,a9,Y,b0,b1,b2,b3,a3,b4,a2,a6,c7,a7,a8⟩:=BP b (jQ t) a0;obtain⟨c9,c2,W,j,c3,c4,c5,c6,a1⟩:=Uj (b.zO (jQ t)) a5 b.zC.length b0 (by omega) (by rw[a3]) r a4;generalize (b.zO (jQ t)).run r.toList=d at *;have Z:∀k,d.xQ k=(b.zO (jQ t)).xQ k:=λk=>by unfold PB.xQ;rw[W]
 have b7:d.qI b.zC.length=⟨jQ t,0,rp r,-1,b.seq,-1⟩:=by rw[c6,a3]
 obtain⟨x,U⟩:=h.la b.zC.length (by rw[j]);rw[b7]at U;have c8:=h.al;have c0:=h.sl;rw[W,Y]at c0;have J:d.seq=b.seq:=by rw[c3,b1]
 refine⟨by rw[h.opn,c4,b2],by omega,by omega,λk O b8=>?_,λk O=>?_,λk O b9=>?_,λI=>?_,?_,?_⟩
 ·rw[h.at' k (by omega) (by rw[j];omega),a1 k (by omega),b4 k O b8]
 ·rcases a0.la with G | ⟨m,G,b5,b6⟩
  ·omega
  ·have:m=k:=by omega
   subst this;exact⟨_,by rw[h.at' m (by omega) (by rw[j];omega),a1 m (by omega),a2 m O]⟩
 ·rw[h.st k (by rw[W,Y];omega) (by omega),Z,a6 k b9]
 ·rw[<-J,h.fi (by rw[j];omega),Z,J,a7 I]
 ·rw[h.gr,c5,b3];simp only[Fs.zJ,kD,KY c1,dn,Eo a4];simp
 ·refine⟨b.zC.length,?_,lF _,by omega,by rw[U],by rw[U],by rw[U],?_⟩
  ·by_cases I:b.last=-1
   ·rw[lG I,<-J,h.fi (by rw[j];omega),Z,J,a8 I]
   ·rw[lC I];rcases a0.la with G | ⟨m,G,b5,b6⟩
    ·omega
    ·rw[G,gW,h.at' m (by omega) (by rw[j];omega),a1 m (by omega),a2 m G]
  ·have:=h.stands;rw[lC (by rw[j];omega),j,gW,J,c2,a9,W,Y]at this;exact dR (by omega) (lF _) (λ_ _ _=>rfl) (λ_ _ _=>rfl) (lF _) (lF _) _ _ _ this
theorem KZ(b:PB) t(a0:b.At):(b.kU t).At/\(b.kU t).zC.length=b.zC.length+1/\(b.kU t).zK.length=b.zK.length+1/\(b.kU t).last=-1/\(b.kU t).seq=b.zK.length/\(b.kU t).opn=b.opn++[b.zC.length]/\
  (b.kU t).kG=b.kG+(if t.group=1 then 1 else 0)/\(b.kU t).qI b.zC.length=⟨t,if t.group=1 then(b.kG:Int)+1 else 0,mJ,b.zK.length,b.seq,-1⟩/\
  (∀k,k<b.zC.length->(b.kU t).qI k=(b.zO t).qI k)/\(∀k,k<b.zK.length->(b.kU t).xQ k=(b.zO t).xQ k):=by
 obtain⟨a7,I,Y,b3,b4,Z,J,O,b5,a8,a9,b0,b1,b2⟩:=BP b t a0;unfold PB.kU;generalize b.zO t=d at *
 have a1:∀cap:Bool,(d.number b.zC.length cap).zC.length=b.zC.length+1/\(d.number b.zC.length cap).zK=d.zK/\(d.number b.zC.length cap).opn=d.opn/\(d.number b.zC.length cap).kG=d.kG+(if cap then 1 else 0)/\
   (d.number b.zC.length cap).qI b.zC.length=⟨t,if cap then(b.kG:Int)+1 else 0,mJ,-1,b.seq,-1⟩/\(∀k,k<b.zC.length->(d.number b.zC.length cap).qI k=d.qI k):=by
  intro cap;cases cap with
  | false=>exact⟨I,rfl,rfl,rfl,O,λ_ _=>rfl⟩
  | true =>
   refine⟨by simp[PB.number,I],rfl,rfl,rfl,?_,λk j=>?_⟩
   ·show(d.zC.set b.zC.length { d.qI b.zC.length with num:=(d.kG:Int)+1 }).getD b.zC.length pa0=_;rw[fB,lG ⟨rfl,by omega⟩,O,J];rfl
   ·show(d.zC.set b.zC.length _).getD k pa0=_;rw[fB,lC (by omega)];rfl
 obtain⟨a2,W,a3,a4,a5,a6⟩:=a1 (decide (t.group=1));generalize d.number b.zC.length (decide (t.group=1))=e at *
 have U:∀k,(e.into b.zC.length).qI k=if b.zC.length=k then { e.qI b.zC.length with body:=e.zK.length } else e.qI k:=λk=>by
  show(e.zC.set b.zC.length _).getD k pa0=_;rw[fB];by_cases x:b.zC.length=k
  ·rw[lG ⟨x,by omega⟩,lG x]
  ·rw[lC (by omega),lC x];rfl
 have h:∀k,(e.into b.zC.length).xQ k=if k=e.zK.length then ps0 else e.xQ k:=λk=>yB _ _ _ _
 have G:e.zK.length=b.zK.length:=by rw[W,Y]
 refine⟨⟨by simp[PB.into],gG rfl,λ_=>?_,?_⟩,by simp[PB.into,a2],by simp[PB.into,G],rfl,G,by show e.opn++_=_;rw[a3,Z],?_,?_,λk j=>?_,λk j=>?_⟩
 ·show((e.into b.zC.length).xQ e.zK.length).first=-1
  rw[h,lG rfl];rfl
 ·show((e.into b.zC.length).xQ e.zK.length).next=-1
  rw[h,lG rfl];rfl
 ·show e.kG=_;rw[a4,J];simp
 ·rw[U,lG rfl,a5,G];simp
 ·rw[U,lC (by omega),a6 k j]
 ·rw[h,lC (by omega)];unfold PB.xQ;rw[W]
def Fu(n:Int):List zU->Prop
 | []=>True
 | t::r=>(jD t=true->t.n=n+1)/\Fu (n+if jD t then 1 else 0) r
theorem Dp n:∀a b,Fu n (a++b)↔Fu n a/\Fu (n+kD a) b
 | [],b=>by simp[Fu,kD]
 | t::r,b=>by
  simp only[rR,Fu,kD,Dp _ r b];rw[show n+((if jD t=true then 1 else 0)+kD r)=n+(if jD t=true then 1 else 0)+kD r by omega];exact⟨λ⟨a,b,c⟩=>⟨⟨a,b⟩,c⟩,λ⟨⟨a,b⟩,c⟩=>⟨a,b,c⟩⟩
theorem Gf{t}(j:t.kind=6)(J:0<=t.jB/\t.jB<=4):(jQ t).group=1↔jD t=true:=by
 have I:(jQ t).group=Ri t.jB:=by simp[jQ,j]
 rw[I];unfold jD Ri;by_cases h:t.jB=4
 ·simp[h,j]
 ·rw[lC h];have:¬(t.kind=6/\t.jB=4):=λx=>h x.2
  simp only[this,decide_false];by_cases G:t.jB=3
  ·simp[G]
  ·rw[lC G];simp;omega
theorem zCI{b h c:PB}{t a4}{i s}{r}(U:b.At)(c2:t.kind=6)(b9:0<=t.jB/\t.jB<=4)(c0:Hr r)(e1:a4.kind=7)(e5:jD t=true->t.n=(b.kG:Int)+1)
  (G:(b.kU (jQ t)).Did h i) (b8:(h.close.run r.toList).At->(h.close.run r.toList).kG=h.kG->(h.close.run r.toList).Did c s):b.Did c (.Dh t i a4 r s):=by
 obtain⟨g1,g2,g3,g4,g5,g6,g7,g8,d6,b4,d2,d3,d4,d5⟩:=BP b (jQ t) U;obtain⟨h0,e9,f0,b0,c3,c4,f1,f2,f3,e8⟩:=KZ b (jQ t) U;have e6:=G.gr;have d1:=G.stands;rw[b0,lG rfl,c3,e9,f0]at d1;have g9:=G.al;have h1:=G.sl
 have a1:h.qI b.zC.length=⟨jQ t,if(jQ t).group=1 then(b.kG:Int)+1 else 0,mJ,b.zK.length,b.seq,-1⟩:=by
  rw[G.at' _ (by omega) (by rw[b0];omega),f2]
 have a6:∀k,k<b.zC.length->h.qI k=(b.zO (jQ t)).qI k:=λk j=>by rw[G.at' _ (by omega) (by rw[b0];omega),f3 k j]
 have a7:∀k,k<b.zK.length->h.xQ k=(b.zO (jQ t)).xQ k:=λk j=>by rw[G.st _ (by omega) (by rw[c3];omega),e8 k j]
 have top:h.top=b.zC.length:=by unfold PB.top;rw[G.opn,c4];simp
 have f4:h.close.opn=b.opn:=by show h.opn.dropLast=_;rw[G.opn,c4];simp
 have b1:h.close.seq=b.seq:=by show(h.qI h.top).home.toNat=_;rw[top,a1];simp
 have c5:h.close.last=b.zC.length:=by show(h.top:Int)=_;rw[top]
 have a2:∀k,h.close.qI k=h.qI k:=λ_=>rfl
 have c6:∀k,h.close.xQ k=h.xQ k:=λ_=>rfl
 have c7:h.close.zC.length=h.zC.length:=rfl;have b2:h.close.zK.length=h.zK.length:=rfl;have c8:h.close.kG=h.kG:=rfl;have c1:=U.sq
 have d8:h.close.At:=by
  refine⟨by rw[b1,b2];omega,lZ ⟨b.zC.length,c5,by omega,by rw[a2,a1]⟩,λe=>by omega,?_⟩;rw[b1,c6,a7 _ c1];exact d3
 generalize h.close=b5 at *;obtain⟨f5,c9,a3,Z,f6,f7,d0,f8,f9⟩:=Uj b5 d8 b.zC.length c5 (by omega) (by rw[a2,a1]) r c0;have I:=b8 f5 (by rw[d0,c8]);clear b8;generalize b5.run r.toList=d at *;have e2:d.qI b.zC.length=⟨jQ t,if(jQ t).group=1 then(b.kG:Int)+1 else 0,rp r,b.zK.length,b.seq,-1⟩:=by rw[f8,a2,a1]
 have b7:∀k,d.xQ k=h.xQ k:=λk=>by rw[<-c6];unfold PB.xQ;rw[a3]
 have b3:d.seq=b.seq:=by rw[f6,b1]
 obtain⟨x,Y⟩:=I.la b.zC.length (by rw[Z]);rw[e2]at Y;have d7:=I.al;have g0:=I.sl;rw[a3,b2]at g0;rw[c9,c7]at d7;have cs:∀k,k<h.zK.length->k≠b.seq->c.xQ k=h.xQ k:=λk j a8=>by rw[I.st k (by rw[a3];omega) (by omega),b7]
 have a0:∀k,k<h.zC.length->k≠b.zC.length->c.qI k=h.qI k:=λk j e3=>by rw[I.at' k (by omega) (by rw[Z];omega),f9 k e3,a2]
 have b6:(c.xQ b.seq).first=((b.zO (jQ t)).xQ b.seq).first:=by rw[<-b3,I.fi (by rw[Z];omega),b7,b3,a7 _ c1]
 refine⟨by rw[I.opn,f7,f4],by omega,by omega,λk j e4=>?_,λk j=>?_,λk j a8=>?_,λW=>?_,?_,?_⟩
 ·rw[a0 k (by omega) (by omega),a6 k j,d6 k j e4]
 ·rcases U.la with O | ⟨m,O,a5,d9⟩
  ·omega
  ·have:m=k:=by omega
   subst this;exact⟨_,by rw[a0 m (by omega) (by omega),a6 m a5,b4 m j]⟩
 ·rw[cs k (by omega) a8,a7 k j,d2 k a8]
 ·rw[b6,d4 W]
 ·rw[I.gr,d0,c8,e6,f1];have e0:jD a4=false:=by unfold jD;simp[e1]
  simp only[Fs.zJ,kD,dn,Eo c0,e0];have:=Gf c2 b9;cases J:jD t
  ·rw[J]at this;rw[lC (by simpa using this)];simp;omega
  ·rw[J]at this;rw[lG (by simpa using this)];simp;omega
 ·refine⟨b.zC.length,?_,lF _,by omega,by rw[Y],by rw[Y],?_,⟨b.zK.length,by rw[Y],lF _,by omega,?_⟩,?_⟩
  ·by_cases W:b.last=-1
   ·rw[lG W,b6,d5 W]
   ·rw[lC W];rcases U.la with O | ⟨m,O,a5,d9⟩
    ·omega
    ·rw[O,gW,a0 m (by omega) (by omega),a6 m a5,b4 m O]
  ·rw[Y];have:=Gf c2 b9;cases J:jD t
   ·rw[J]at this;simp only;rw[lC (by simpa using this)];simp
   ·rw[J]at this;simp only;rw[lG (by simpa using this),e5 J];simp
  ·rw[cs b.zK.length (by omega) (by omega)];exact dR (by omega) (by omega) (λk e7 a9=>a0 k a9 (by omega)) (λk e7 a9=>cs k a9 (by omega)) (by omega) (by omega) _ _ _ d1
  ·have:=I.stands;rw[lC (by rw[Z];omega),Z,gW,b3,c9,c7,a3,b2]at this;exact dR (by omega) (by omega) (λ_ _ _=>rfl) (λ_ _ _=>rfl) (lF _) (lF _) _ _ _ this
theorem zAe(b:PB)(j:b.At):b.bar.At/\b.bar.zC=b.zC/\b.bar.zK.length=b.zK.length+1/\b.bar.last=-1/\b.bar.seq=b.zK.length/\b.bar.opn=b.opn/\b.bar.kG=b.kG/\
  (∀k,k<b.zK.length->k≠b.seq->b.bar.xQ k=b.xQ k)/\b.bar.xQ b.seq=⟨(b.xQ b.seq).first,b.zK.length⟩:=by
 have h:∀k,b.bar.xQ k=if b.seq=k/\k<b.zK.length+1 then⟨(b.xQ b.seq).first,b.zK.length⟩else if k=b.zK.length then ps0 else b.xQ k:=λk=>by
  show((b.zK++[ps0]).set b.seq _).getD k ps0=_;rw[fB,yB];simp only[lQ,lU,lV];rfl
 have J:=j.sq;refine⟨⟨by simp[PB.bar],gG rfl,λ_=>?_,?_⟩,rfl,by simp[PB.bar],rfl,rfl,rfl,rfl,λk G I=>by rw[h,lC (by omega),lC (by omega)],by rw[h,lG ⟨rfl,by omega⟩]⟩
 ·show(b.bar.xQ b.zK.length).first=-1
  rw[h,lC (by omega),lG rfl];rfl
 ·show(b.bar.xQ b.zK.length).next=-1
  rw[h,lC (by omega),lG rfl];rfl
theorem zCJ{b c:PB}{t r}(j:b.At)(b0:t.kind=5)(h:b.bar.Did c r):b.Did c (.bar t r):=by
 obtain⟨b1,I,a3,Z,U,a4,a5,a6,a7⟩:=zAe b j;have b3:=j.sq;have a2:=h.al;have b4:=h.sl;rw[I]at a2;have a1:=h.stands;rw[Z,lG rfl,U,I,a3]at a1;have a8:∀k,b.bar.qI k=b.qI k:=λk=>by unfold PB.qI;rw[I]
 have cs:c.xQ b.seq=⟨(b.xQ b.seq).first,b.zK.length⟩:=by rw[h.st _ (by omega) (by rw[U];omega),a7]
 have W:∀k,k<b.zC.length->c.qI k=b.qI k:=λk G=>by rw[h.at' k (by rw[I];omega) (by rw[Z];omega),a8]
 refine⟨by rw[h.opn,a4],by omega,by omega,λk G b2=>W k G,λk G=>?_,λk G a9=>by rw[h.st k (by omega) (by rw[U];omega),a6 k G a9],λO=>by rw[cs],?_,?_⟩
 ·rcases j.la with J | ⟨m,J,Y,a0⟩
  ·omega
  ·have:m=k:=by omega
   subst this;exact⟨(b.qI m).next,by rw[W m Y]⟩
 ·rw[h.gr,a5];have:jD t=false:=by unfold jD;simp[b0]
  simp[Fs.zJ,kD,this]
 ·refine⟨?_,b.zK.length,by rw[cs],lF _,by omega,?_⟩
  ·by_cases O:b.last=-1
   ·rw[lG O,cs];exact j.fi O
   ·rw[lC O];rcases j.la with J | ⟨m,J,Y,a0⟩
    ·omega
    ·rw[J,gW,W m Y,a0]
  ·exact dR (by omega) (by omega) (λ_ _ _=>rfl) (λ_ _ _=>rfl) (lF _) (lF _) _ _ _ a1
theorem zCK{b:PB}(h:b.At):b.Did b .nil:=by
 refine⟨rfl,lF _,lF _,λ_ _ _=>rfl,λk _=>⟨(b.qI k).next,rfl⟩,λ_ _ _=>rfl,λ_=>rfl,by simp[Fs.zJ,kD],?_,h.nx⟩;by_cases j:b.last=-1
 ·rw[lG j];exact h.fi j
 ·rw[lC j];rcases h.la with G | ⟨m,G,J,I⟩
  ·omega
  ·rw[G,gW,I]
theorem zm:∀f,f.wf->(∀t∈f.zJ,t.kind=6->0<=t.jB/\t.jB<=4)->∀b:PB,b.At->Fu b.kG f.zJ->b.Did (b.run f.zJ) f
 | .nil,_,_,b,h,_=>zCK h
 | .bar t r,hw,hh,b,h,hn=>by
  have O:=hw.1;have Z:=zAe b h;rw[show(Fs.bar t r).zJ=t::r.zJ from rfl]at hn |-;rw[PB.Dn,Gd b O];refine zCJ h O (zm r hw.2 (λu j=>hh u (by simp[Fs.zJ,j])) b.bar Z.1 ?_);have a7:jD t=false:=by unfold jD;simp[O]
  simpa[Fu,a7,Z.2.2.2.2.2.2.1]using hn
 | .leaf t r s,hw,hh,b,h,hn=>by
  have G:=BP b (jQ t) h;have a3:=Uj (b.zO (jQ t)) G.1 b.zC.length G.2.2.2.1 (by have:=G.2.1;omega) (by rw[G.2.2.2.2.2.2.2.1]) r hw.2.1;rw[show(Fs.leaf t r s).zJ=t::(r.toList++s.zJ)from rfl]at hn |-;rw[PB.Dn,NM b hw.1,PB.Kl];refine zAd h hw.1 hw.2.1 (zm s hw.2.2 (λu j=>hh u (by simp[Fs.zJ,j])) _ a3.1 ?_);simp only[Fu,KY hw.1,Dp,Eo hw.2.1]at hn;have e:((b.zO (jQ t)).run r.toList).kG=b.kG:=by rw[a3.2.2.2.2.2.2.1,G.2.2.2.2.2.2.1]
  rw[e];simpa using hn.2.2
 | .Dh t i c r s,hw,hh,b,h,hn=>by
  obtain⟨J,U,a9,a4,b0⟩:=hw;have a2:=KZ b (jQ t) h;have a1:=hh t (by simp[Fs.zJ]) J;have I:=Gf J a1;rw[show(Fs.Dh t i c r s).zJ=t::(i.zJ++c::(r.toList++s.zJ))from rfl]at hn |-;have a8:jD c=false:=by unfold jD;simp[U]
  simp only[Fu,Dp,a8,Eo a4]at hn;rw[PB.Dn,En b J,PB.Kl,PB.Dn,BQ _ U,PB.Kl]
  have Y:((b.kU (jQ t)).kG:Int)=b.kG+(if jD t=true then 1 else 0):=by
   rw[a2.2.2.2.2.2.2.1];cases a0:jD t
   ·rw[a0]at I;rw[lC (by simpa using I)];simp
   ·rw[a0]at I;rw[lG (by simpa using I)];simp
  have W:=zm i a9 (λu j=>hh u (by simp[Fs.zJ,j])) _ a2.1 (by rw[Y];exact hn.2.1);refine zCI h J a1 a4 U hn.1 W (λa5 a6=>zm s b0 (λu j=>hh u (by simp[Fs.zJ,j])) _ a5 ?_);rw[a6,W.gr,Y];simpa using hn.2.2.2.2
