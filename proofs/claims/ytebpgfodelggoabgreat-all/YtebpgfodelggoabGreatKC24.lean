import Derived.Test.YtebpgfodelggoabGreatKC23
import Derived.Test.YtebpgfodelggoabGreatKC18
import Derived.Test.YtebpgfodelggoabGreatKC09
import Derived.Test.YtebpgfodelggoabGreatKC20
set_option linter.unusedVariables false
set_option linter.unusedSimpArgs false
namespace Mt
theorem mE(x:Re):∀n,(jE x n).len=n*x.len
 | 0=>by simp[jE,Re.len]
 | n+1=>by rw[jE,Re.len,mE x n,Nat.add_mul];omega
def zER(q:zTD):Prop:=0<=q.n/\q.n<=20/\-1<=q.m/\q.m<=20/\0<=q.zTF/\q.zTF<=2/\(q.m=-1\/q.n<=q.m)
def zBe(o:Nat)(q:zTD):Nat:=q.n.toNat*o+(if q.m=-1 then o+3 else(q.m-q.n).toNat*(o+1))+(if q.zTF=2 then 2 else 0)
theorem zNR(x:Re)(q:zTD)(h:zER q):(zF7 x q).len=zBe x.len q:=by
 obtain⟨h1,h2,h3,h4,h5,h6,h7⟩:=h;unfold zF7 zBe;dsimp only
 have c1:(if 0<q.n\/0<q.m then(if q.n<q.m then Re.cat (jE x q.n.toNat) (wG x (decide (q.zTF=1)) (q.m-q.n).toNat)else jE x q.n.toNat)else Re.eps).len=q.n.toNat*x.len+(if q.m=-1 then 0 else(q.m-q.n).toNat*(x.len+1)):=by
  by_cases a:0<q.n\/0<q.m
  ·rw[if_pos a];by_cases b:q.n<q.m
   ·rw[if_pos b,if_neg (by omega),Re.len,mE,zAU]
   ·rw[if_neg b,mE];by_cases c:q.m=-1
    ·rw[if_pos c];omega
    ·rw[if_neg c,show(q.m-q.n).toNat=0 by omega];simp
  ·rw[if_neg a,show q.n.toNat=0 by omega];by_cases c:q.m=-1
   ·rw[if_pos c];simp[Re.len]
   ·rw[if_neg c,show(q.m-q.n).toNat=0 by omega];simp[Re.len]
 generalize (if 0<q.n\/0<q.m then(if q.n<q.m then Re.cat (jE x q.n.toNat) (wG x (decide (q.zTF=1)) (q.m-q.n).toNat)else jE x q.n.toNat)else Re.eps)=z at *
 have c2:(if q.m<0 then Re.cat z (.loop (decide (q.zTF=1)) x)else z).len=q.n.toNat*x.len+(if q.m=-1 then x.len+3 else(q.m-q.n).toNat*(x.len+1)):=by
  by_cases c:q.m=-1
  ·rw[if_pos (by omega),if_pos c,Re.len,Re.len,c1,if_pos c];omega
  ·rw[if_neg (by omega),if_neg c,c1,if_neg c]
 generalize (if q.m<0 then Re.cat z (.loop (decide (q.zTF=1)) x)else z)=z2 at *;by_cases e:q.zTF=2
 ·rw[if_pos e,if_pos e,Re.len,c2]
 ·rw[if_neg e,if_neg e,c2];omega
def lim(n:Nat):Nat:=min n 301
theorem zBS(n:Nat):lim n<=301:=Nat.min_le_right _ _
theorem zPv(o:Nat)(q:zTD)(h:zER q):lim (zBe (lim o) q)=lim (zBe o q):=by
 obtain⟨h1,h2,h3,h4,h5,h6,h7⟩:=h;by_cases a:o<=301
 ·have:lim o=o:=by unfold lim;omega
  rw[this]
 ·have:lim o=301:=by unfold lim;omega
  rw[this];unfold zBe lim
  have key:∀(n c:Nat),0<n->301<=n*(301+c)/\301<=n*(o+c):=λn c hn=>by
   have e1:1*(301+c)<=n*(301+c):=Nat.mul_le_mul_right _ (by omega);have e2:1*(o+c)<=n*(o+c):=Nat.mul_le_mul_right _ (by omega);omega
  by_cases b:0<q.n.toNat
  ·have:=key q.n.toNat 0 b;simp only[Nat.add_zero]at this;omega
  ·have e:q.n.toNat=0:=by omega
   rw[e];simp only[Nat.zero_mul,Nat.zero_add];by_cases c:q.m=-1
   ·rw[if_pos c,if_pos c];omega
   ·rw[if_neg c,if_neg c];by_cases d:0<(q.m-q.n).toNat
    ·have:=key (q.m-q.n).toNat 1 d;omega
    ·rw[show(q.m-q.n).toNat=0 by omega];simp
def nS(o:Nat)(r:Option zTD):Nat:=match r with
 | none=>o
 | some q=>zBe o q
def zBT(r:Option zTD):Prop:=∀q,r=some q->zER q
theorem zNS(x:Re)(r:Option zTD)(h:zBT r):(part r x).len=nS x.len r:=by
 cases r with
 | none=>rfl
 | some q=>exact zNR x q (h q rfl)
theorem zNT(o:Nat)(r:Option zTD)(h:zBT r):lim (nS (lim o) r)=lim (nS o r):=by
 cases r with
 | none=>show lim (lim o)=lim o;unfold lim;omega
 | some q=>exact zPv o q (h q rfl)
def Fs.ok:Fs->Prop
 | .nil=>True
 | .bar _ r=>r.ok
 | .leaf t r s=>zBT r/\s.ok
 | .grp t i c r s=>zBT r/\(0<=t.zTF/\t.zTF<=4)/\i.ok/\s.ok
theorem zJ7(t:zTD):(fA t).len=1:=by
 unfold fA;split
 ·rfl
 split
 ·rfl
 split
 ·rfl
 ·rfl
theorem zLL(t:zTD)(x:Re):(wH t x).len=x.len+if t.zTF=3 then 0 else 2:=by
 unfold wH;by_cases h:t.zTF=3
 ·rw[if_pos h,if_pos h];rfl
 ·rw[if_neg h,if_neg h];split <;> rfl
theorem zQG(f:Fs):f.re.len=f.both.1.len+(match f.rs with | none=>0 | some r=>2+r.re.len):=by
 have h:=f.zJX;unfold Fs.re;generalize f.both=xy at *;obtain⟨x,y⟩:=xy;simp only at h;cases hr:f.rs with
 | none=>rw[hr]at h;simp at h;subst h;rfl
 | some r=>rw[hr]at h;simp at h;subst h;show x.len+r.re.len+2=x.len+(2+r.re.len);omega
theorem zBU{b:PB}:∀(f:Fs) (a n:Int),qG b 0 0 f a n->(f.rs=none/\n=-1)\/∃(r:Fs) (k:Nat),f.rs=some r/\n=k/\k<b.kN.length/\qG b 0 0 r (b.zTO k).first (b.zTO k).next
 | .nil,a,n,h=>Or.inl ⟨rfl,h.2⟩
 | .bar t r,a,n,⟨_,k,h1,_,h2,h3⟩=>Or.inr ⟨r,k,rfl,h1,h2,h3⟩
 | .leaf t r s,a,n,⟨k,_,_,_,_,_,_,h⟩=>zBU s _ _ h
 | .grp t i c r s,a,n,⟨k,_,_,_,_,_,_,_,h⟩=>zBU s _ _ h
theorem zFB:∀(f r:Fs),f.rs=some r->r.kL.length<f.kL.length/\(f.wf->r.wf)/\(f.ok->r.ok)
 | .nil,r,h=>by simp[Fs.rs]at h
 | .bar t s,r,h=>by simp only[Fs.rs,Option.some.injEq]at h;subst h;exact⟨by simp[Fs.kL],λh=>h.2,λh=>h⟩
 | .leaf t q s,r,h=>by have:=zFB s r h;exact⟨by simp[Fs.kL];omega,λhh=>this.2.1 hh.2.2,λhh=>this.2.2 hh.2⟩
 | .grp t i c q s,r,h=>by have:=zFB s r h;exact⟨by simp[Fs.kL];omega,λhh=>this.2.1 hh.2.2.2.2,λhh=>this.2.2 hh.2.2.2⟩
theorem count_le(p:ByteArray)(i:Int)(h:(count p i).2.2.2=true):(count p i).2.1=-1\/(count p i).1<=(count p i).2.1:=by
 rcases zDe p i with ⟨a1,e⟩ | ⟨a1,a2,e⟩ | ⟨a1,a2,⟨a3,e⟩ | ⟨a3,a4,e⟩ | ⟨a3,a4,⟨a5,e⟩ | ⟨a5,⟨a6,e⟩ | ⟨a6,a7,e⟩ | ⟨a6,a7,a8,e⟩ | ⟨a6,a7,a8,a9,e⟩ | ⟨a6,a7,a8,a9,e⟩⟩⟩⟩
 ·rw[e];exact Or.inr (Int.le_refl _)
 ·rw[e];exact Or.inr (Int.le_refl _)
 ·rw[e];exact Or.inr (Int.le_refl _)
 ·rw[e];exact Or.inr (Int.le_refl _)
 ·rw[e];exact Or.inl rfl
 ·rw[e];exact Or.inr (Int.le_refl _)
 ·rw[e];exact Or.inr (Int.le_refl _)
 ·rw[e];exact Or.inr (Int.le_refl _)
 ·rw[e];exact Or.inr (Int.le_refl _)
 ·rw[e];simp only[lJ]at a8;exact Or.inr (by show(number p (i+1)).1<=(number p (i+1+(number p (i+1)).2+1)).1;omega)
theorem zLM(p:ByteArray)(i:Int)(h:(jF p i).2=true):(jF p i).1.m=-1\/(jF p i).1.n<=(jF p i).1.m:=by
 unfold jF at h |-;by_cases h1:zTC p i=43
 ·rw[if_pos h1];exact Or.inl rfl
 ·rw[if_neg h1]at h |-;by_cases h2:zTC p i=63
  ·rw[if_pos h2];exact Or.inr (by simp)
  ·rw[if_neg h2]at h |-;by_cases h3:zTC p i=123
   ·rw[if_pos h3]at h |-;cases hc:(count p i).2.2.2
    ·rw[hc]at h;simp at h
    ·rw[if_pos rfl];exact count_le p i hc
   ·rw[if_neg h3];exact Or.inl rfl
theorem zIa(p:ByteArray)(i:Int):(vD p i).1.kind≠8:=by
 rcases zAt p i with ⟨a1,e⟩ | ⟨a0,a1,⟨a2,e⟩ | ⟨a2,a3,e⟩ | ⟨a2,a3,a4,a5,a6,a7,e⟩ | ⟨a2,a3,a4,e⟩⟩ <;> rw[e] <;> simp
theorem zGU(p:ByteArray)(i:Int):(kW p i).1.kind≠8:=by
 rcases nG p i with ⟨a1,e⟩ | ⟨a1,⟨a2,e⟩ | ⟨a2,a3,e⟩ | ⟨a2,a3,a4,e⟩ | ⟨a2,a3,a4,a5,e⟩ | ⟨a2,a3,a4,a5,e⟩⟩ <;> rw[e] <;> simp
theorem zJ8(p:ByteArray)(i:Int):(qU p i).1.kind≠8:=by
 unfold qU;split <;> simp
theorem zLN(p:ByteArray)(i:Int)(h:(jJ p i).2=0)(hk:(jJ p i).1.kind=8):(jJ p i).1.m=-1\/(jJ p i).1.n<=(jJ p i).1.m:=by
 unfold jJ at h hk |-;by_cases h1:zTC p i=124
 ·rw[if_pos h1]at hk;simp at hk
 rw[if_neg h1]at h hk |-;by_cases h2:zTC p i=41
 ·rw[if_pos h2]at hk;simp at hk
 rw[if_neg h2]at h hk |-;by_cases h3:zTC p i=94
 ·rw[if_pos h3]at hk;simp at hk
 rw[if_neg h3]at h hk |-;by_cases h4:zTC p i=36
 ·rw[if_pos h4]at hk;simp at hk
 rw[if_neg h4]at h hk |-;by_cases h5:zTC p i=92
 ·rw[if_pos h5]at hk;exact absurd hk (zIa p i)
 rw[if_neg h5]at h hk |-;by_cases h6:zTC p i=91
 ·rw[if_pos h6]at hk;exact absurd hk (zJ8 p i)
 rw[if_neg h6]at h hk |-;by_cases h7:zTC p i=40
 ·rw[if_pos h7]at hk;exact absurd hk (zGU p i)
 rw[if_neg h7]at h hk |-;by_cases h8:zTC p i=42\/zTC p i=43\/zTC p i=63\/zTC p i=123
 ·rw[if_pos h8]at h |-;exact zLM p i (by cases x:(jF p i).2 <;> simp[x]at h |-)
 rw[if_neg h8]at h hk |-;by_cases h9:zTC p i=46
 ·rw[if_pos h9]at hk;simp at hk
 ·rw[if_neg h9]at hk;simp at hk
def zLO(l:List zTD):Prop:=∀t∈l,t.kind=8->t.m=-1\/t.n<=t.m
theorem zIb(p:ByteArray):∀(f:Nat) (l:List zTD) (i:Int),0<=i->i<=p.size->(p.size:Int)-i<f->zLO l->zLO (yL p l i).1:=by
 intro f;induction f with
 | zero=>intro l i h0 h1 h2;omega
 | succ f ih =>
  intro l i h0 h1 h2 hl;rw[pF p l i h0 h1];by_cases a:(p.size:Int)<=i
  ·rw[if_pos a];exact hl
  rw[if_neg a];by_cases b:(jJ p i).2≠0
  ·rw[if_pos b];intro t ht;simp at ht
  rw[if_neg b];by_cases c:may l (jJ p i).1≠0
  ·rw[if_pos c];intro t ht;simp at ht
  rw[if_neg c];have hn:=wP p i h0 (by omega) (by omega);refine ih _ _ (by omega) (by omega) (by omega) (λt ht hk=>?_);rcases List.mem_append.1 ht with ht | ht
  ·exact hl t ht hk
  ·simp at ht;have jk:=wZ l (jJ p i).1;subst ht;rw[jk.1]at hk;have e:yQ l (jJ p i).1=(jJ p i).1:=jk.2.2.2.2.1 (by unfold jO;simp[hk]);rw[e];exact zLN p i (by omega) hk
theorem zIc(p:ByteArray)(h:(zY p).2.1=0):zLO (zY p).1:=by
 by_cases hp:p.size<=64
 ·have hr:=zIb p ((p.size:Int)+1).toNat [] 0 (by omega) (by omega) (by omega) (by intro t ht;simp at ht);unfold zY at h |-;rw[if_neg (by omega),xZ p hp]at h |-;split
  ·rename_i h1;rw[if_pos h1]at h;exact absurd h h1
  ·split
   ·intro t ht;simp at ht
   ·exact hr
 ·unfold zY at h;rw[if_pos (by omega)]at h;simp at h
theorem zLP:∀f:Fs,f.wf->(∀t∈f.kL,t.kind=8->zER t)->(∀t∈f.kL,t.kind=6->0<=t.zTF/\t.zTF<=4)->f.ok
 | .nil,_,_,_=>trivial
 | .bar t r,hw,h1,h2=>zLP r hw.2 (λu hu=>h1 u (by simp[Fs.kL,hu])) (λu hu=>h2 u (by simp[Fs.kL,hu]))
 | .leaf t r s,hw,h1,h2=>⟨λq hq=>h1 q (by simp[Fs.kL,hq]) (hw.2.1 q hq),zLP s hw.2.2 (λu hu=>h1 u (by simp[Fs.kL,hu])) (λu hu=>h2 u (by simp[Fs.kL,hu]))⟩
 | .grp t i c r s,hw,h1,h2=>⟨λq hq=>h1 q (by simp[Fs.kL,hq]) (hw.2.2.2.1 q hq),h2 t (by simp[Fs.kL]) hw.1,zLP i hw.2.2.1 (λu hu=>h1 u (by simp[Fs.kL,hu])) (λu hu=>h2 u (by simp[Fs.kL,hu])),zLP s hw.2.2.2.2 (λu hu=>h1 u (by simp[Fs.kL,hu])) (λu hu=>h2 u (by simp[Fs.kL,hu]))⟩
theorem zDO:∀(m:List zTD) (l:List zTD),zF8 (l++m)->zH9 (zZ l) m
 | [],l,h=>trivial
 | t::r,l,h=>by
  have e:l++t::r=(l++[t])++r:=by simp
  refine⟨λhc=>?_,?_⟩
  ·have:=h l.length (by simp) (by rw[lH,List.getElem?_append_right (lG _)];simpa using hc);rw[lH,List.getElem?_append_right (lG _)]at this;simpa using this
  ·have:=zDO r (l++[t]) (by rw[<-e];exact h)
   rwa [nJ]at this
theorem zNU(b:PB)(t:PT):(b.next t).zG.length<=b.zG.length+1/\(b.next t).kN.length<=b.kN.length+1:=by
 have ha:∀t,(b.zS t).zG.length=b.zG.length+1/\(b.zS t).kN.length=b.kN.length:=λt=>by
  unfold PB.zS;split <;> simp
 unfold PB.next
 split
 ·simp[PB.bar]
 split
 ·have:=ha t;unfold PB.kW PB.into PB.number;cases decide (t.group=1) <;> simp[this.1,this.2]
 split
 ·simp[PB.close]
 split
 ·simp[PB.repeated]
 ·have:=ha t;omega
theorem zLQ:∀(l:List zTD) (b:PB),(b.run l).zG.length<=b.zG.length+l.length/\(b.run l).kN.length<=b.kN.length+l.length
 | [],b=>by simp[PB.run]
 | t::r,b=>by
  have h1:=zNU b (yC t);have h2:=zLQ r (b.next (yC t));rw[PB.zBP];simp only[List.length_cons];omega
theorem zNV:PB.start.At:=⟨by decide,Or.inl rfl,λ_=>rfl,rfl⟩
theorem zON(p:ByteArray)(h:(zY p).2.1=0):∃f:Fs,f.wf/\f.ok/\(zY p).1=f.kL/\qG (PB.start.run (zY p).1) 0 0 f ((PB.start.run (zY p).1).zTO 0).first ((PB.start.run (zY p).1).zTO 0).next/\0<(PB.start.run (zY p).1).kN.length /\
  (PB.start.run (zY p).1).zG.length<=64/\(PB.start.run (zY p).1).kN.length<=65/\(300<(coded (zY p).1).length↔300<f.re.len+1)/\(f.re.len+1<=300->coded (zY p).1=f.re.code 0 0++[⟨13,0,0,[]⟩]):=by
 have hv:=zAz p h;have hr:=zIc p h;have hs:=(fZ p).2;obtain⟨f,hw,e⟩:=zDD hv.1 hv.2;have hN:=zAY hv.1
 have hG:∀t∈(zY p).1,zCD t:=by
  intro t ht;obtain⟨k,hk,rfl⟩:=List.mem_iff_getElem.1 ht;have:=(hv.1 k hk).2.1;rw[lH,lK hk]at this;exact this
 rw[e]at hr hs hN hG |-
 have hok:=zLP f hw (λt ht hk=>by
  obtain⟨_,_,_,_,g5⟩:=hG t ht;have:=g5 hk;have:=hr t ht hk;exact⟨by omega,by omega,by omega,by omega,by omega,by omega,this⟩) (λt ht hk=>(hG t ht).2.2.2.1 hk)
 have hd:=wM f hw (λt ht hk=>(hG t ht).2.2.2.1 hk) PB.start zNV (zDO f.kL [] (by simpa using hN));have hl:=zLQ f.kL PB.start;have ht:=zDC f hw hs;have hc:=zGI f.kL;rw[ht]at hc;have st:=hd.stands;have e0:PB.start.last=-1:=rfl;rw[if_pos e0]at st;refine⟨f,hw,hok,rfl,xH (Nat.zero_le _) (Nat.zero_le _) (λ_ _ _=>rfl) (λ_ _ _=>rfl) (lG _) (lG _) _ _ _ st,?_,?_,?_,?_,λzQ5=>?_⟩
 ·have:=hd.sl;exact Nat.lt_of_lt_of_le (by decide) this
 ·have:=hl.1;simp[PB.start]at this |-;omega
 ·have:=hl.2;simp[PB.start]at this |-;omega
 ·constructor
  ·intro x;omega
  ·intro x;exact hc.2 x
 ·have:=(zEK f.kL (by rw[hc.1 zQ5];exact zQ5)).1
  rwa [ht]at this
def vK(i:zTG):Bool:=decide (i.op=4)
def vX(i:zTG):Bool:=decide (i.op=5)
theorem kX(q:zTG->Bool)(n:Nat)(x:zTG)(l:List zTG):((x::l).take n).countP q=(if 0<n/\q x=true then 1 else 0)+(l.take (n-1)).countP q:=by
 cases n with
 | zero=>simp
 | succ n =>
  rw[List.take_succ_cons,List.countP_cons,Nat.add_sub_cancel];cases h:q x <;> simp <;> omega
theorem vL(q:zTG->Bool)(n:Nat)(a b:List zTG):((a++b).take n).countP q=(a.take n).countP q+(b.take (n-a.length)).countP q:=by
 rw[List.take_append,List.countP_append]
theorem dV:∀(r:Re) (p d t:Int),((r.code p d).take (t-p).toNat).countP vK=(r.code p d).countP (xR t)
 | .eps,p,d,t=>by simp[Re.code]
 | .one s,p,d,t=>by rw[Re.code,kX];simp[vK,xR]
 | .back k,p,d,t=>by rw[Re.code,kX];simp[vK,xR]
 | .head,p,d,t=>by rw[Re.code,kX];simp[vK,xR]
 | .tail,p,d,t=>by rw[Re.code,kX];simp[vK,xR]
 | .cat a b,p,d,t=>by
  rw[Re.code,vL,List.countP_append,dV a,Re.zQ,show(t-p).toNat-a.len=(t-(p+a.len)).toNat by omega,dV b]
 | .alt a b,p,d,t=>by
  rw[Re.code,kX,vL,kX,Re.zQ,List.countP_cons,List.countP_append,List.countP_cons,show(t-p).toNat-1=(t-(p+1)).toNat by omega,dV a,show(t-(p+1)).toNat-a.len-1=(t-(p+a.len+2)).toNat by omega,dV b];simp[vK,xR]
 | .cap k a,p,d,t=>by
  rw[Re.code,kX,vL,kX,List.countP_cons,List.countP_append,show(t-p).toNat-1=(t-(p+1)).toNat by omega,dV a];simp[vK,xR]
 | .sub s a,p,d,t=>by
  rw[Re.code,kX,vL,kX,List.countP_cons,List.countP_append,show(t-p).toNat-1=(t-(p+1)).toNat by omega,dV a];simp[vK,xR]
 | .opt late a,p,d,t=>by
  rw[Re.code,kX,List.countP_cons,show(t-p).toNat-1=(t-(p+1)).toNat by omega,dV a];cases late <;> simp[vK,xR,spl]
 | .loop late a,p,d,t=>by
  rw[Re.code,kX,kX,vL,kX,List.countP_cons,List.countP_cons,List.countP_append,show(t-p).toNat-1-1=(t-(p+2)).toNat by omega,dV a];have e:(0<(t-p).toNat-1)↔p+1<t:=by omega
  cases late <;> simp[vK,xR,spl,List.countP_cons] <;> split <;> split <;> omega
theorem bQ:∀(r:Re) (p d t:Int) (x:zTG),x∈(r.code p d).take (t-p).toNat->x.op=5->x.x+1<t
 | .eps,p,d,t,x,h,h5=>by simp[Re.code]at h
 | .one s,p,d,t,x,h,h5=>by have:=List.mem_of_mem_take h;simp[Re.code]at this;subst this;simp at h5
 | .back k,p,d,t,x,h,h5=>by have:=List.mem_of_mem_take h;simp[Re.code]at this;subst this;simp at h5
 | .head,p,d,t,x,h,h5=>by have:=List.mem_of_mem_take h;simp[Re.code]at this;subst this;simp at h5
 | .tail,p,d,t,x,h,h5=>by have:=List.mem_of_mem_take h;simp[Re.code]at this;subst this;simp at h5
 | .cat a b,p,d,t,x,h,h5=>by
  rw[Re.code,List.take_append,List.mem_append,Re.zQ,show(t-p).toNat-a.len=(t-(p+a.len)).toNat by omega]at h;rcases h with h | h
  ·exact bQ a _ _ _ x h h5
  ·exact bQ b _ _ _ x h h5
 | .alt a b,p,d,t,x,h,h5=>by
  rw[Re.code]at h;rcases nT h with rfl | h
  ·simp at h5
  rw[List.take_append,List.mem_append,Re.zQ,show(t-p).toNat-1=(t-(p+1)).toNat by omega]at h;rcases h with h | h
  ·exact bQ a _ _ _ x h h5
  rcases nT h with rfl | h
  ·simp at h5
  rw[show(t-(p+1)).toNat-a.len-1=(t-(p+a.len+2)).toNat by omega]at h;exact bQ b _ _ _ x h h5
 | .cap k a,p,d,t,x,h,h5=>by
  rw[Re.code]at h;rcases nT h with rfl | h
  ·simp at h5
  rw[List.take_append,List.mem_append,show(t-p).toNat-1=(t-(p+1)).toNat by omega]at h;rcases h with h | h
  ·exact bQ a _ _ _ x h h5
  ·have:=List.mem_of_mem_take h;simp at this;subst this;simp at h5
 | .sub s a,p,d,t,x,h,h5=>by
  rw[Re.code]at h;rcases nT h with rfl | h
  ·simp at h5
  rw[List.take_append,List.mem_append,show(t-p).toNat-1=(t-(p+1)).toNat by omega]at h;rcases h with h | h
  ·exact bQ a _ _ _ x h h5
  ·have:=List.mem_of_mem_take h;simp at this;subst this;simp at h5
 | .opt late a,p,d,t,x,h,h5=>by
  rw[Re.code]at h;rcases nT h with rfl | h
  ·cases late <;> simp[spl]at h5
  rw[show(t-p).toNat-1=(t-(p+1)).toNat by omega]at h;exact bQ a _ _ _ x h h5
 | .loop late a,p,d,t,x,h,h5=>by
  rw[Re.code]at h;rcases nT h with rfl | h
  ·cases late <;> simp[spl]at h5
  rcases nT h with rfl | h
  ·simp at h5
  rw[List.take_append,List.mem_append,Re.zQ,show(t-p).toNat-1-1=(t-(p+2)).toNat by omega]at h;rcases h with h | h
  ·exact bQ a _ _ _ x h h5
  ·have h':=List.mem_of_mem_take h;simp at h';subst h'
   have:0<(t-(p+2)).toNat-a.len:=by
    rcases Nat.eq_zero_or_pos ((t-(p+2)).toNat-a.len)with e | e
    ·rw[e]at h;simp at h
    ·exact e
   show p+1<t;omega
where
 nT {x y:zTG} {l:List zTG} {n:Nat} (h:x∈(y::l).take n):x=y\/x∈l.take (n-1):=by
  cases n with
  | zero=>simp at h
  | succ n=>rw[List.take_succ_cons,List.mem_cons]at h;exact h
theorem zCg(r:Re)(c:List zTG)(hc:c=r.code 0 0++[⟨13,0,0,[]⟩])(k:Nat):(c.take k).countP vK=(c.take k).countP vX+jI c k:=by
 have m:=dV r 0 0 k;rw[show((k:Int)-0).toNat=k by omega]at m
 have m1:(c.take k).countP vK=((r.code 0 0).take k).countP vK:=by
  rw[hc,vL,kX];simp[vK]
 have m2:c.countP (xR k)=(r.code 0 0).countP (xR k):=by
  rw[hc,List.countP_append];simp[xR]
 have m3:(c.take k).countP (xR k)=(c.take k).countP vX:=by
  refine List.countP_congr (λx hx=>?_);unfold xR vX;simp only[decide_eq_true_eq];constructor
  ·exact λh=>h.1
  ·intro h;refine⟨h,?_⟩;rw[hc,List.take_append,List.mem_append]at hx;rcases hx with hx | hx
   ·exact bQ r 0 0 k x (by rw[show((k:Int)-0).toNat=k by omega];exact hx) h
   ·have:=List.mem_of_mem_take hx;simp at this;subst this;simp at h
 have m4:c.countP (xR k)=(c.take k).countP (xR k)+(c.drop k).countP (xR k):=by
  rw[<-List.countP_append,List.take_append_drop]
 have m5:jI c k=(c.drop k).countP (xR k):=by
  unfold jI bZ;rw[List.take_of_length_le (by rw[List.length_drop];exact lG _)]
 omega
theorem zES(q:zTG->Bool)(c:List zTG)(k:Nat)(h:k<c.length):(c.take (k+1)).countP q=(c.take k).countP q+if q (c.getD k jY)=true then 1 else 0:=by
 rw[List.take_succ_eq_append_getElem h,List.countP_append,lH,lK h];simp[List.countP_cons]
structure Att where
 G:List Int
 d:Int
 y:Int
 B:List Int
def zBf(A:Int->Att):Re->Int->Att->Prop
 | .eps,p,a=>A p=a
 | .one _,p,a=>A p=a/\A (p+1)=a
 | .back _,p,a=>A p=a/\A (p+1)=a
 | .head,p,a=>A p=a/\A (p+1)=a
 | .tail,p,a=>A p=a/\A (p+1)=a
 | .cat x y,p,a=>zBf A x p a/\zBf A y (p+x.len) a
 | .alt x y,p,a=>A p=a/\zBf A x (p+1) a/\zBf A y (p+x.len+2) a
 | .cap k x,p,a=>A p=a/\zBf A x (p+1) ⟨k::a.G,a.d,a.y,a.B⟩/\A (p+x.len+2)=a
 | .sub _ x,p,a=>A p=a/\zBf A x (p+1) ⟨a.G,a.d,p+x.len+2,a.G⟩/\A (p+x.len+2)=a
 | .opt _ x,p,a=>A p=a/\zBf A x (p+1) a
 | .loop _ x,p,a=>A p=a/\A (p+1)=a/\zBf A x (p+2) ⟨a.G,a.d+1,a.y,a.B⟩/\A (p+x.len+3)=a
theorem zBf.first{A:Int->Att}:∀{r:Re} {p:Int} {a:Att},zBf A r p a->A p=a
 | .eps,p,a,h=>h
 | .one _,p,a,h=>h.1
 | .back _,p,a,h=>h.1
 | .head,p,a,h=>h.1
 | .tail,p,a,h=>h.1
 | .cat x y,p,a,h=>zBf.first h.1
 | .alt x y,p,a,h=>h.1
 | .cap k x,p,a,h=>h.1
 | .sub _ x,p,a,h=>h.1
 | .opt _ x,p,a,h=>h.1
 | .loop _ x,p,a,h=>h.1
theorem zBf.last{A:Int->Att}:∀{r:Re} {p:Int} {a:Att},zBf A r p a->A (p+r.len)=a
 | .eps,p,a,h=>by
  have h':A p=a:=h;rw[<-h'];congr 1;simp only[Re.len];omega
 | .one _,p,a,h=>h.2
 | .back _,p,a,h=>h.2
 | .head,p,a,h=>h.2
 | .tail,p,a,h=>h.2
 | .cat x y,p,a,h=>by have:=zBf.last h.2;simp only[Re.len];rw[<-this];congr 1;omega
 | .alt x y,p,a,h=>by have:=zBf.last h.2.2;simp only[Re.len];rw[<-this];congr 1;omega
 | .cap k x,p,a,h=>by have:=h.2.2;simp only[Re.len];rw[<-this];congr 1;omega
 | .sub _ x,p,a,h=>by have:=h.2.2;simp only[Re.len];rw[<-this];congr 1;omega
 | .opt _ x,p,a,h=>by have:=zBf.last h.2;simp only[Re.len];rw[<-this];congr 1;omega
 | .loop _ x,p,a,h=>by have:=h.2.2.2;simp only[Re.len];rw[<-this];congr 1;omega
theorem zBf.congr{A B:Int->Att}:∀{r:Re} {p:Int} {a:Att},(∀q,p<=q->q<=p+r.len->A q=B q)->zBf A r p a->zBf B r p a
 | .eps,p,a,e,h=>by show B p=a;rw[<-e p (by omega) (by omega)];exact h
 | .one _,p,a,e,h=>⟨by rw[<-e p (by omega) (by omega)];exact h.1,by rw[<-e (p+1) (by omega) (by simp only[Re.len];omega)];exact h.2⟩
 | .back _,p,a,e,h=>⟨by rw[<-e p (by omega) (by omega)];exact h.1,by rw[<-e (p+1) (by omega) (by simp only[Re.len];omega)];exact h.2⟩
 | .head,p,a,e,h=>⟨by rw[<-e p (by omega) (by omega)];exact h.1,by rw[<-e (p+1) (by omega) (by simp only[Re.len];omega)];exact h.2⟩
 | .tail,p,a,e,h=>⟨by rw[<-e p (by omega) (by omega)];exact h.1,by rw[<-e (p+1) (by omega) (by simp only[Re.len];omega)];exact h.2⟩
 | .cat x y,p,a,e,h=>⟨zBf.congr (λq h1 h2=>e q (by omega) (by simp only[Re.len];omega)) h.1,zBf.congr (λq h1 h2=>e q (by omega) (by simp only[Re.len];omega)) h.2⟩
 | .alt x y,p,a,e,h=>⟨by rw[<-e p (by omega) (by omega)];exact h.1,zBf.congr (λq h1 h2=>e q (by omega) (by simp only[Re.len];omega)) h.2.1,zBf.congr (λq h1 h2=>e q (by omega) (by simp only[Re.len];omega)) h.2.2⟩
 | .cap k x,p,a,e,h=>⟨by rw[<-e p (by omega) (by omega)];exact h.1,zBf.congr (λq h1 h2=>e q (by omega) (by simp only[Re.len];omega)) h.2.1,by rw[<-e _ (by omega) (by simp only[Re.len];omega)];exact h.2.2⟩
 | .sub _ x,p,a,e,h=>⟨by rw[<-e p (by omega) (by omega)];exact h.1,zBf.congr (λq h1 h2=>e q (by omega) (by simp only[Re.len];omega)) h.2.1,by rw[<-e _ (by omega) (by simp only[Re.len];omega)];exact h.2.2⟩
 | .opt _ x,p,a,e,h=>⟨by rw[<-e p (by omega) (by omega)];exact h.1,zBf.congr (λq h1 h2=>e q (by omega) (by simp only[Re.len];omega)) h.2⟩
 | .loop _ x,p,a,e,h=>⟨by rw[<-e p (by omega) (by omega)];exact h.1,by rw[<-e (p+1) (by omega) (by simp only[Re.len];omega)];exact h.2.1,zBf.congr (λq h1 h2=>e q (by omega) (by simp only[Re.len];omega)) h.2.2.1,by rw[<-e _ (by omega) (by simp only[Re.len];omega)];exact h.2.2.2⟩
theorem bR:∀(r:Re) (p:Int) (a:Att),∃A,zBf A r p a
 | .eps,p,a=>⟨λ_=>a,rfl⟩
 | .one _,p,a=>⟨λ_=>a,rfl,rfl⟩
 | .back _,p,a=>⟨λ_=>a,rfl,rfl⟩
 | .head,p,a=>⟨λ_=>a,rfl,rfl⟩
 | .tail,p,a=>⟨λ_=>a,rfl,rfl⟩
 | .cat x y,p,a=>by
  obtain⟨A,hA⟩:=bR x p a;obtain⟨B,hB⟩:=bR y (p+x.len) a;refine⟨λq=>if q<p+x.len then A q else B q,hA.congr (λq h1 h2=>?_),hB.congr (λq h1 h2=>?_)⟩
  ·(try dsimp only);split
   ·rfl
   ·have e:q=p+x.len:=by omega
    subst e;rw[hA.last,hB.first]
  ·(try dsimp only);rw[if_neg (by omega)]
 | .alt x y,p,a=>by
  obtain⟨A,hA⟩:=bR x (p+1) a;obtain⟨B,hB⟩:=bR y (p+x.len+2) a;refine⟨λq=>if q<=p then a else if q<p+x.len+2 then A q else B q,?_,hA.congr (λq h1 h2=>?_),hB.congr (λq h1 h2=>?_)⟩
  ·(try dsimp only);rw[if_pos (by omega)]
  ·(try dsimp only);rw[if_neg (by omega),if_pos (by omega)]
  ·(try dsimp only);rw[if_neg (by omega),if_neg (by omega)]
 | .cap k x,p,a=>by
  obtain⟨A,hA⟩:=bR x (p+1) ⟨k::a.G,a.d,a.y,a.B⟩;refine⟨λq=>if q<=p then a else if q<p+x.len+2 then A q else a,?_,hA.congr (λq h1 h2=>?_),?_⟩
  ·(try dsimp only);rw[if_pos (by omega)]
  ·(try dsimp only);rw[if_neg (by omega),if_pos (by omega)]
  ·(try dsimp only);rw[if_neg (by omega),if_neg (by omega)]
 | .sub _ x,p,a=>by
  obtain⟨A,hA⟩:=bR x (p+1) ⟨a.G,a.d,p+x.len+2,a.G⟩;refine⟨λq=>if q<=p then a else if q<p+x.len+2 then A q else a,?_,hA.congr (λq h1 h2=>?_),?_⟩
  ·(try dsimp only);rw[if_pos (by omega)]
  ·(try dsimp only);rw[if_neg (by omega),if_pos (by omega)]
  ·(try dsimp only);rw[if_neg (by omega),if_neg (by omega)]
 | .opt _ x,p,a=>by
  obtain⟨A,hA⟩:=bR x (p+1) a;refine⟨λq=>if q<=p then a else A q,?_,hA.congr (λq h1 h2=>?_)⟩
  ·(try dsimp only);rw[if_pos (by omega)]
  ·(try dsimp only);rw[if_neg (by omega)]
 | .loop _ x,p,a=>by
  obtain⟨A,hA⟩:=bR x (p+2) ⟨a.G,a.d+1,a.y,a.B⟩;refine⟨λq=>if q<=p+1 then a else if q<p+x.len+3 then A q else a,?_,?_,hA.congr (λq h1 h2=>?_),?_⟩
  ·(try dsimp only);rw[if_pos (by omega)]
  ·(try dsimp only);rw[if_pos (by omega)]
  ·(try dsimp only);rw[if_neg (by omega),if_pos (by omega)]
  ·(try dsimp only);rw[if_neg (by omega),if_neg (by omega)]
def Re.inc:Re->Int->Prop
 | .cat a b,n=>a.inc n/\b.inc n
 | .alt a b,n=>a.inc n/\b.inc n
 | .cap k a,n=>n<k/\a.inc k
 | .sub _ a,n=>a.inc n
 | .opt _ a,n=>a.inc n
 | .loop _ a,n=>a.inc n
 | _,_=>True
theorem Re.bS:∀(r:Re) (m n:Int),m<=n->r.inc n->r.inc m
 | .eps,_,_,_,_=>trivial
 | .one _,_,_,_,_=>trivial
 | .back _,_,_,_,_=>trivial
 | .head,_,_,_,_=>trivial
 | .tail,_,_,_,_=>trivial
 | .cat a b,m,n,h,i=>⟨Re.bS a m n h i.1,Re.bS b m n h i.2⟩
 | .alt a b,m,n,h,i=>⟨Re.bS a m n h i.1,Re.bS b m n h i.2⟩
 | .cap k a,m,n,h,i=>⟨by have:=i.1;omega,i.2⟩
 | .sub _ a,m,n,h,i=>Re.bS a m n h i
 | .opt _ a,m,n,h,i=>Re.bS a m n h i
 | .loop _ a,m,n,h,i=>Re.bS a m n h i
theorem zET{x:Re}{m:Int}(h:x.inc m):∀n,(jE x n).inc m
 | 0=>trivial
 | n+1=>⟨h,zET h n⟩
theorem zI1{x:Re}{m:Int}(late:Bool)(h:x.inc m):∀n,(wG x late n).inc m
 | 0=>trivial
 | n+1=>⟨h,zI1 late h n⟩
theorem zNW{x:Re}{m:Int}(h:x.inc m)(r:zTD):(zF7 x r).inc m:=by
 unfold zF7;dsimp only;have t:=zET h r.n.toNat;have o:=zI1 (decide (r.zTF=1)) h (r.m-r.n).toNat
 have c1:(if 0<r.n\/0<r.m then(if r.n<r.m then Re.cat (jE x r.n.toNat) (wG x (decide (r.zTF=1)) (r.m-r.n).toNat)else jE x r.n.toNat)else Re.eps).inc m:=by
  split
  ·split
   ·exact⟨t,o⟩
   ·exact t
  ·trivial
 generalize (if 0<r.n\/0<r.m then(if r.n<r.m then Re.cat (jE x r.n.toNat) (wG x (decide (r.zTF=1)) (r.m-r.n).toNat)else jE x r.n.toNat)else Re.eps)=z at *
 have c2:(if r.m<0 then Re.cat z (.loop (decide (r.zTF=1)) x)else z).inc m:=by
  split
  ·exact⟨c1,h⟩
  ·exact c1
 split
 ·exact c2
 ·exact c2
theorem zI2{x:Re}{m:Int}(h:x.inc m)(r:Option zTD):(part r x).inc m:=by
 cases r with
 | none=>exact h
 | some q=>exact zNW h q
theorem zCh{b:Re × Option Re}{m:Int}(h:b.1.inc m/\∀a,b.2=some a->a.inc m):(zBJ b).inc m:=by
 obtain⟨x,y⟩:=b;cases y with
 | none=>exact h.1
 | some a=>exact⟨h.1,h.2 a rfl⟩
theorem zBV:∀(f:Fs) (n:Int),f.wf->zH9 n f.kL->f.both.1.inc n/\∀a,f.both.2=some a->a.inc n
 | .nil,n,_,_=>⟨trivial,λa e=>(by cases e)⟩
 | .bar t r,n,h,hn=>by
  have hc:jO t=false:=by have:=h.1;unfold jO;simp;omega
  simp only[Fs.kL,zH9,hc]at hn;have ih:=zBV r n h.2 (by simpa using hn.2);refine⟨trivial,λa e=>?_⟩;simp only[Fs.both,Option.some.injEq]at e;subst e;exact zCh ih
 | .leaf t r s,n,h,hn=>by
  simp only[Fs.kL,zH9,zFz h.1,zBQ,zCf h.2.1]at hn;have ih:=zBV s n h.2.2 (by simpa using hn.2.2);refine⟨⟨zI2 ?_ r,ih.1⟩,ih.2⟩;unfold fA
  repeat' split
  all_goals trivial
 | .grp t i c r s,n,h,hn=>by
  have hc7:jO c=false:=by have:=h.2.1;unfold jO;simp;omega
  simp only[Fs.kL,zH9,zBQ,hc7,zCf h.2.2.2.1]at hn;obtain⟨h1,h2,h3,h4⟩:=hn;have hcb:=fM i.kL;have ii:=zBV i _ h.2.2.1 h2;have is:=zBV s _ h.2.2.2.2 h4.2;refine⟨⟨zI2 ?_ r,Re.bS _ n _ ?_ is.1⟩,λa e=>Re.bS _ n _ ?_ (is.2 a e)⟩
  ·have j:=zCh ii;unfold wH;split
   ·exact Re.bS _ n _ (by split <;> omega) j
   split
   ·rename_i h3' h4'
    have hcap:jO t=true:=by have:=h.1;unfold jO;simp[h4',this]
    rw[hcap]at j h1;have e:=h1 rfl;simp only[if_true]at j;exact⟨by omega,by rw[e];exact j⟩
   ·exact Re.bS _ n _ (by split <;> omega) j
  ·simp;split <;> omega
  ·simp;split <;> omega
def Rule(A:Int->Att)(q:Int)(x:zTG):Prop :=
 (x.op=1\/x.op=8\/x.op=9\/x.op=10->A (q+1)=A q)
 /\ (x.op=2->A x.x=A q/\A x.y=A q)
 /\ (x.op=3->A x.x=A q)
 /\ (x.op=4->x.x=(A q).d/\A (q+1)=⟨(A q).G,(A q).d+1,(A q).y,(A q).B⟩/\x.x<11)
 /\ (x.op=5->A x.x=⟨(A q).G,(A q).d-1,(A q).y,(A q).B⟩/\x.y=(A q).d-1/\0<=x.y/\x.y<11)
 /\ (x.op=6->A (q+1)=⟨x.x::(A q).G,(A q).d,(A q).y,(A q).B⟩/\x.x∉(A q).G)
 /\ (x.op=7->∃g,(A q).G=x.x::g/\A (q+1)=⟨g,(A q).d,(A q).y,(A q).B⟩)
 /\ (x.op=11->A (q+1)=⟨(A q).G,(A q).d,x.y,(A q).G⟩/\A x.y=A q/\A (x.y-1)=⟨(A q).G,(A q).d,x.y,(A q).G⟩/\0<x.y)
 /\ (x.op=12->(A q).y=q+1)
 /\ (∀k∈(A q).B,k∈(A q).G)/\(0<=(A q).d/\(A q).d<=11)/\(∀k∈(A q).G,0<=k/\k<10)/\(1<=x.op/\x.op<=12)
theorem zAE{α:Type}{a b:List α}{i:Nat}{x:α}(h:(a++b)[i]?=some x):(i<a.length/\a[i]?=some x)\/(a.length<=i/\b[i-a.length]?=some x):=by
 by_cases hi:i<a.length
 ·rw[List.getElem?_append_left hi]at h;exact .inl ⟨hi,h⟩
 ·rw[List.getElem?_append_right (by omega)]at h;exact .inr ⟨by omega,h⟩
theorem xS{α:Type}{b:List α}{c:α}{i:Nat}{x:α}(h:(c::b)[i]?=some x):(i=0/\x=c)\/(∃j,i=j+1/\b[j]?=some x):=by
 cases i with
 | zero=>simp at h;exact .inl ⟨rfl,h.symm⟩
 | succ j=>rw[List.getElem?_cons_succ]at h;exact .inr ⟨j,rfl,h⟩
theorem zBW{A:Int->Att}{q:Int}{x:zTG}(h:A (q+1)=A q)(ho:x.op=1\/x.op=8\/x.op=9\/x.op=10)(hB:∀k∈(A q).B,k∈(A q).G)(hd:0<=(A q).d/\(A q).d<=11)(hR:∀k∈(A q).G,0<=k/\k<10):Rule A q x :=
 ⟨λ_=>h,λe=>by omega,λe=>by omega,λe=>by omega,λe=>by omega,λe=>by omega,λe=>by omega,λe=>by omega,λe=>by omega,hB,hd,hR,by omega⟩
theorem zFC{A:Int->Att}{q:Int}(u v:Int)(late:Bool)(h1:A u=A q)(h2:A v=A q)(hB:∀k∈(A q).B,k∈(A q).G)(hd:0<=(A q).d/\(A q).d<=11)(hR:∀k∈(A q).G,0<=k/\k<10):Rule A q (spl u v late):=by
 have ho:(spl u v late).op=2:=by cases late <;> rfl
 refine⟨λe=>by omega,λ_=>?_,λe=>by omega,λe=>by omega,λe=>by omega,λe=>by omega,λe=>by omega,λe=>by omega,λe=>by omega,hB,hd,hR,by omega⟩;cases late
 ·exact⟨h1,h2⟩
 ·exact⟨h2,h1⟩
theorem bT(A:Int->Att):∀(r:Re) (p:Int) (a:Att) (m:Int),zBf A r p a->r.inc m->r.fine->(∀k∈a.G,k<=m)->(∀k∈a.G,0<=k/\k<10)->(∀k∈a.B,k∈a.G)->0<=a.d->a.d+r.deep<=11->0<=p ->
  ∀(i:Nat) (x:zTG),(r.code p a.d)[i]?=some x->Rule A (p+i) x
 | .eps,p,a,m,h,hi,hF,hG,hR,hB,h0,hd,hp,i,x,hx=>by simp[Re.code]at hx
 | .one s,p,a,m,h,hi,hF,hG,hR,hB,h0,hd,hp,i,x,hx=>by
  simp only[Re.deep]at hd;rcases xS hx with ⟨rfl,rfl⟩ | ⟨j,_,hj⟩
  ·simp only[Int.natCast_zero,Int.add_zero];exact zBW (h.2.trans h.1.symm) (by simp) (by rw[h.1];exact hB) (by rw[h.1];omega) (by rw[h.1];exact hR)
  ·simp at hj
 | .back s,p,a,m,h,hi,hF,hG,hR,hB,h0,hd,hp,i,x,hx=>by
  simp only[Re.deep]at hd;rcases xS hx with ⟨rfl,rfl⟩ | ⟨j,_,hj⟩
  ·simp only[Int.natCast_zero,Int.add_zero];exact zBW (h.2.trans h.1.symm) (by simp) (by rw[h.1];exact hB) (by rw[h.1];omega) (by rw[h.1];exact hR)
  ·simp at hj
 | .head,p,a,m,h,hi,hF,hG,hR,hB,h0,hd,hp,i,x,hx=>by
  simp only[Re.deep]at hd;rcases xS hx with ⟨rfl,rfl⟩ | ⟨j,_,hj⟩
  ·simp only[Int.natCast_zero,Int.add_zero];exact zBW (h.2.trans h.1.symm) (by simp) (by rw[h.1];exact hB) (by rw[h.1];omega) (by rw[h.1];exact hR)
  ·simp at hj
 | .tail,p,a,m,h,hi,hF,hG,hR,hB,h0,hd,hp,i,x,hx=>by
  simp only[Re.deep]at hd;rcases xS hx with ⟨rfl,rfl⟩ | ⟨j,_,hj⟩
  ·simp only[Int.natCast_zero,Int.add_zero];exact zBW (h.2.trans h.1.symm) (by simp) (by rw[h.1];exact hB) (by rw[h.1];omega) (by rw[h.1];exact hR)
  ·simp at hj
 | .cat u v,p,a,m,h,hi,hF,hG,hR,hB,h0,hd,hp,i,x,hx=>by
  simp only[Re.deep]at hd;rcases zAE hx with ⟨_,hj⟩ | ⟨hl,hj⟩
  ·exact bT A u p a m h.1 hi.1 hF.1 hG hR hB h0 (by omega) hp i x hj
  ·rw[Re.zQ]at hl hj;have:=bT A v _ a m h.2 hi.2 hF.2 hG hR hB h0 (by omega) (by omega) _ x hj;rw[show p+(u.len:Int)+((i-u.len:Nat):Int)=p+i by omega]at this;exact this
 | .alt u v,p,a,m,h,hi,hF,hG,hR,hB,h0,hd,hp,i,x,hx=>by
  simp only[Re.deep]at hd;have hl1:=h.2.1.last;have hl2:=h.2.2.last;rcases xS hx with ⟨rfl,rfl⟩ | ⟨j,rfl,hj⟩
  ·simp only[Int.natCast_zero,Int.add_zero];exact zFC (p+1) (p+u.len+2) false (h.2.1.first.trans h.1.symm) (h.2.2.first.trans h.1.symm) (by rw[h.1];exact hB) (by rw[h.1];omega) (by rw[h.1];exact hR)
  rcases zAE hj with ⟨_,hj⟩ | ⟨hl,hj⟩
  ·have:=bT A u _ a m h.2.1 hi.1 hF.1 hG hR hB h0 (by omega) (by omega) _ x hj;rw[show p+1+(j:Int)=p+((j+1:Nat):Int) by omega]at this;exact this
  ·rw[Re.zQ]at hl hj;rcases xS hj with ⟨e,rfl⟩ | ⟨k,e,hk⟩
   ·have e2:p+((j+1:Nat):Int)=p+1+u.len:=by omega
    rw[e2];refine⟨λe=>by simp at e,λe=>by simp at e,λ_=>?_,λe=>by simp at e,λe=>by simp at e,λe=>by simp at e,λe=>by simp at e,λe=>by simp at e,λe=>by simp at e,by rw[hl1];exact hB,by rw[hl1];omega,by rw[hl1];exact hR,by simp⟩;rw[hl1];exact hl2
   ·have:=bT A v _ a m h.2.2 hi.2 hF.2 hG hR hB h0 (by omega) (by omega) _ x hk;rw[show p+(u.len:Int)+2+(k:Int)=p+((j+1:Nat):Int) by omega]at this;exact this
 | .cap k u,p,a,m,h,hi,hF,hG,hR,hB,h0,hd,hp,i,x,hx=>by
  simp only[Re.deep]at hd
  have hR':∀z∈k::a.G,0<=z/\z<10:=λz hz=>by
   have hk:=hF.1;rcases List.mem_cons.1 hz with rfl | hz
   ·omega
   ·exact hR z hz
  have hl1:=h.2.1.last;have hf:=h.2.1.first
  rcases xS hx with ⟨rfl,rfl⟩ | ⟨j,rfl,hj⟩
  ·simp only[Int.natCast_zero,Int.add_zero];refine⟨λe=>by simp at e,λe=>by simp at e,λe=>by simp at e,λe=>by simp at e,λe=>by simp at e,λ_=>⟨by rw[h.1];exact hf,?_⟩,λe=>by simp at e,λe=>by simp at e,λe=>by simp at e,by rw[h.1];exact hB,by rw[h.1];omega,by rw[h.1];exact hR,by simp⟩;rw[h.1];intro hk;have:=hG _ hk;have:=hi.1;simp at *;omega
  rcases zAE hj with ⟨_,hj⟩ | ⟨hl,hj⟩
  ·have:=bT A u _ _ k h.2.1 hi.2 hF.2 (λz hz=>by
    rcases List.mem_cons.1 hz with rfl | hz
    ·exact Int.le_refl _
    ·have:=hG z hz;have:=hi.1;omega) hR' (λz hz=>List.mem_cons_of_mem _ (hB z hz)) h0 (by simpa using hd) (by omega) _ x hj
   rw[show p+1+(j:Int)=p+((j+1:Nat):Int) by omega]at this;exact this
  ·rw[Re.zQ]at hl hj;rcases xS hj with ⟨e,rfl⟩ | ⟨k',e,hk⟩
   ·have e2:p+((j+1:Nat):Int)=p+1+u.len:=by omega
    rw[e2];refine⟨λe=>by simp at e,λe=>by simp at e,λe=>by simp at e,λe=>by simp at e,λe=>by simp at e,λe=>by simp at e,λ_=>⟨a.G,by rw[hl1],?_⟩,λe=>by simp at e,λe=>by simp at e,by rw[hl1];exact λz hz=>List.mem_cons_of_mem _ (hB z hz),by rw[hl1];dsimp only;omega,by rw[hl1];exact hR',by simp⟩;rw[hl1,show p+1+(u.len:Int)+1=p+u.len+2 by omega,h.2.2]
   ·simp at hk
 | .sub s u,p,a,m,h,hi,hF,hG,hR,hB,h0,hd,hp,i,x,hx=>by
  simp only[Re.deep]at hd;have hl1:=h.2.1.last;have hf:=h.2.1.first
  rcases xS hx with ⟨rfl,rfl⟩ | ⟨j,rfl,hj⟩
  ·simp only[Int.natCast_zero,Int.add_zero];refine⟨λe=>by simp at e,λe=>by simp at e,λe=>by simp at e,λe=>by simp at e,λe=>by simp at e,λe=>by simp at e,λe=>by simp at e,λ_=>⟨by rw[h.1];exact hf,by rw[h.1];exact h.2.2,?_,by dsimp only;omega⟩,λe=>by simp at e,by rw[h.1];exact hB,by rw[h.1];omega,by rw[h.1];exact hR,by simp⟩;dsimp only;rw[show p+(u.len:Int)+2-1=p+1+u.len by omega,hl1,h.1]
  rcases zAE hj with ⟨_,hj⟩ | ⟨hl,hj⟩
  ·have:=bT A u _ _ m h.2.1 hi hF.2 hG hR (λz hz=>hz) h0 (by simpa using hd) (by omega) _ x hj;rw[show p+1+(j:Int)=p+((j+1:Nat):Int) by omega]at this;exact this
  ·rw[Re.zQ]at hl hj;rcases xS hj with ⟨e,rfl⟩ | ⟨k',e,hk⟩
   ·have e2:p+((j+1:Nat):Int)=p+1+u.len:=by omega
    rw[e2];refine⟨λe=>by simp at e,λe=>by simp at e,λe=>by simp at e,λe=>by simp at e,λe=>by simp at e,λe=>by simp at e,λe=>by simp at e,λe=>by simp at e,λ_=>?_,by rw[hl1];exact λz hz=>hz,by rw[hl1];dsimp only;omega,by rw[hl1];exact hR,by simp⟩;rw[hl1];dsimp only;omega
   ·simp at hk
 | .opt late u,p,a,m,h,hi,hF,hG,hR,hB,h0,hd,hp,i,x,hx=>by
  simp only[Re.deep]at hd;have hl1:=h.2.last;rcases xS hx with ⟨rfl,rfl⟩ | ⟨j,rfl,hj⟩
  ·simp only[Int.natCast_zero,Int.add_zero];refine zFC (p+1) (p+u.len+1) late (h.2.first.trans h.1.symm) ?_ (by rw[h.1];exact hB) (by rw[h.1];omega) (by rw[h.1];exact hR);rw[show p+(u.len:Int)+1=p+1+u.len by omega,hl1,h.1]
  ·have:=bT A u _ a m h.2 hi hF hG hR hB h0 (by omega) (by omega) _ x hj;rw[show p+1+(j:Int)=p+((j+1:Nat):Int) by omega]at this;exact this
 | .loop late u,p,a,m,h,hi,hF,hG,hR,hB,h0,hd,hp,i,x,hx=>by
  simp only[Re.deep]at hd;have hl1:=h.2.2.1.last;have hf:=h.2.2.1.first
  rcases xS hx with ⟨rfl,rfl⟩ | ⟨j,rfl,hj⟩
  ·simp only[Int.natCast_zero,Int.add_zero];exact zFC (p+1) (p+u.len+3) late (h.2.1.trans h.1.symm) (h.2.2.2.trans h.1.symm) (by rw[h.1];exact hB) (by rw[h.1];omega) (by rw[h.1];exact hR)
  rcases xS hj with ⟨rfl,rfl⟩ | ⟨j,rfl,hj⟩
  ·simp only[Nat.zero_add,Int.natCast_one];refine⟨λe=>by simp at e,λe=>by simp at e,λe=>by simp at e,λ_=>⟨by rw[h.2.1],by rw[h.2.1,show p+1+1=p+2 by omega];exact hf,by dsimp only;omega⟩,λe=>by simp at e,λe=>by simp at e,λe=>by simp at e,λe=>by simp at e,λe=>by simp at e,by rw[h.2.1];exact hB,by rw[h.2.1];omega,by rw[h.2.1];exact hR,by simp⟩
  rcases zAE hj with ⟨_,hj⟩ | ⟨hl,hj⟩
  ·have:=bT A u _ _ m h.2.2.1 hi hF hG hR hB (by dsimp only;omega) (by dsimp only;omega) (by omega) _ x hj;rw[show p+2+(j:Int)=p+((j+1+1:Nat):Int) by omega]at this;exact this
  ·rw[Re.zQ]at hl hj;rcases xS hj with ⟨e,rfl⟩ | ⟨k',e,hk⟩
   ·have e2:p+((j+1+1:Nat):Int)=p+2+u.len:=by omega
    rw[e2];refine⟨λe=>by simp at e,λe=>by simp at e,λe=>by simp at e,λe=>by simp at e,λ_=>⟨?_,?_,by dsimp only;omega,by dsimp only;omega⟩,λe=>by simp at e,λe=>by simp at e,λe=>by simp at e,λe=>by simp at e,by rw[hl1];exact hB,by rw[hl1];dsimp only;omega,by rw[hl1];exact hR,by simp⟩
    ·rw[hl1,h.1];dsimp only;rw[Int.add_sub_cancel]
    ·rw[hl1];dsimp only;omega
   ·simp at hk
theorem xB(A:Int->Att):∀(r:Re) (p d:Int) (a:Att),zBf A r p a->∀i:Nat,i<=r.len->(A (p+i)).d+((r.code p d).take i).countP vX=a.d+((r.code p d).take i).countP vK
 | .eps,p,d,a,h,i,hi=>by
  have e:i=0:=by simp[Re.len]at hi;exact hi
  subst e;have h':A p=a:=h;simp[h',Re.code]
 | .one s,p,d,a,h,i,hi=>zNX A p a h.1 h.2 ⟨1,0,0,s⟩ rfl rfl i hi
 | .back s,p,d,a,h,i,hi=>zNX A p a h.1 h.2 ⟨8,s,0,[]⟩ rfl rfl i hi
 | .head,p,d,a,h,i,hi=>zNX A p a h.1 h.2 ⟨9,0,0,[]⟩ rfl rfl i hi
 | .tail,p,d,a,h,i,hi=>zNX A p a h.1 h.2 ⟨10,0,0,[]⟩ rfl rfl i hi
 | .cat u v,p,d,a,h,i,hi=>by
  simp only[Re.len]at hi;rw[Re.code,vL,vL,Re.zQ];by_cases hl:i<=u.len
  ·have:=xB A u p d a h.1 i hl;rw[show i-u.len=0 by omega];simpa using this
  ·have h1:=xB A u p d a h.1 u.len (lG _);have h2:=xB A v (p+u.len) d a h.2 (i-u.len) (by omega);rw[show p+(u.len:Int)+((i-u.len:Nat):Int)=p+i by omega]at h2;rw[h.1.last,List.take_of_length_le (by rw[Re.zQ];omega)]at h1;rw[List.take_of_length_le (by rw[Re.zQ];omega)];omega
 | .alt u v,p,d,a,h,i,hi=>by
  simp only[Re.len]at hi;rw[Re.code,kX,kX,vL,vL,kX,kX,Re.zQ];have h1:=xB A u (p+1) d a h.2.1 u.len (lG _);rw[h.2.1.last,List.take_of_length_le (by rw[Re.zQ];omega)]at h1;simp only[vK,vX]at *;simp only[show((2:Int)=4)=False by simp,show((2:Int)=5)=False by simp,show((3:Int)=4)=False by simp,show((3:Int)=5)=False by simp,decide_false,Bool.false_eq_true,and_false,if_false,Nat.zero_add];by_cases h0:i=0
  ·subst h0;simp[h.1]
  by_cases hl:i<=u.len+1
  ·have:=xB A u (p+1) d a h.2.1 (i-1) (by omega);rw[show p+1+((i-1:Nat):Int)=p+i by omega]at this;rw[show i-1-u.len-1=0 by omega];simpa using this
  ·have h2:=xB A v (p+u.len+2) d a h.2.2 (i-u.len-2) (by omega);rw[show p+(u.len:Int)+2+((i-u.len-2:Nat):Int)=p+i by omega]at h2;rw[List.take_of_length_le (by rw[Re.zQ];omega),show i-1-u.len-1=i-u.len-2 by omega];omega
 | .cap k u,p,d,a,h,i,hi=>by
  simp only[Re.len]at hi;exact zLR A u p d a _ h.1 h.2.1 h.2.2 rfl (xB A u (p+1) d _ h.2.1) ⟨6,k,0,[]⟩ ⟨7,k,0,[]⟩ rfl rfl rfl rfl i hi
 | .sub s u,p,d,a,h,i,hi=>by
  simp only[Re.len]at hi;exact zLR A u p d a _ h.1 h.2.1 h.2.2 rfl (xB A u (p+1) d _ h.2.1) ⟨11,s,p+u.len+2,[]⟩ ⟨12,0,0,[]⟩ rfl rfl rfl rfl i hi
 | .opt late u,p,d,a,h,i,hi=>by
  simp only[Re.len]at hi;rw[Re.code,kX,kX];have e1:vK (spl (p+1) (p+u.len+1) late)=false:=by cases late <;> rfl
  have e2:vX (spl (p+1) (p+u.len+1) late)=false:=by cases late <;> rfl
  rw[e1,e2];by_cases h0:i=0
  ·subst h0;simp[h.1]
  ·have:=xB A u (p+1) d a h.2 (i-1) (by omega);rw[show p+1+((i-1:Nat):Int)=p+i by omega]at this;simpa using this
 | .loop late u,p,d,a,h,i,hi=>by
  simp only[Re.len]at hi;rw[Re.code,kX,kX,kX,kX,vL,vL,kX,kX,Re.zQ];have e1:vK (spl (p+1) (p+u.len+3) late)=false:=by cases late <;> rfl
  have e2:vX (spl (p+1) (p+u.len+3) late)=false:=by cases late <;> rfl
  rw[e1,e2];have h1:=xB A u (p+2) (d+1) _ h.2.2.1 u.len (lG _);rw[h.2.2.1.last,List.take_of_length_le (by rw[Re.zQ];omega)]at h1;have f1:vK ⟨4,d,0,[]⟩=true:=rfl;have f2:vX ⟨4,d,0,[]⟩=false:=rfl;have f3:vK ⟨5,p,d,[]⟩=false:=rfl;have f4:vX ⟨5,p,d,[]⟩=true:=rfl;rw[f1,f2,f3,f4];by_cases h0:i=0
  ·subst h0;simp[h.1]
  by_cases h00:i=1
  ·subst h00;have:=h.2.1;simp[this]
  by_cases hl:i<=u.len+2
  ·have:=xB A u (p+2) (d+1) _ h.2.2.1 (i-2) (by omega);rw[show p+2+((i-2:Nat):Int)=p+i by omega]at this;dsimp only at this;rw[show i-1-1-u.len-1=0 by omega,show i-1-1=i-2 by omega,show i-2-u.len=0 by omega];simp only[Bool.false_eq_true,and_false,if_false,Nat.lt_irrefl,and_true,List.take_zero,List.countP_nil];rw[if_pos (by omega)];omega
  ·have e:i=u.len+3:=by omega
   subst e;have:=h.2.2.2;rw[show p+((u.len+3:Nat):Int)=p+u.len+3 by omega,this];rw[List.take_of_length_le (l:=u.code (p+2) (d+1)) (by rw[Re.zQ];omega)];simp only[Bool.false_eq_true,and_false,if_false,and_true,List.take_nil,List.countP_nil];rw[if_pos (by omega),if_pos (by omega)];dsimp only at h1;omega
where
 zNX (A:Int->Att) (p:Int) (a:Att) (h1:A p=a) (h2:A (p+1)=a) (x:zTG) (e1:vK x=false) (e2:vX x=false) (i:Nat) (hi:i<=1):(A (p+i)).d+([x].take i).countP vX=a.d+([x].take i).countP vK:=by
  rw[kX,kX,e1,e2];by_cases h0:i=0
  ·subst h0;simp[h1]
  ·have:i=1:=by omega
   subst this;simp[h2]
 zLR (A:Int->Att) (u:Re) (p d:Int) (a b:Att) (h1:A p=a) (h2:zBf A u (p+1) b) (h3:A (p+u.len+2)=a) (hb:b.d=a.d) (ih:∀i:Nat,i<=u.len->(A (p+1+i)).d+((u.code (p+1) d).take i).countP vX=b.d+((u.code (p+1) d).take i).countP vK) (x y:zTG) (e1:vK x=false) (e2:vX x=false) (e3:vK y=false) (e4:vX y=false) (i:Nat) (hi:i<=u.len+2) :
   (A (p+i)).d+((x::(u.code (p+1) d++[y])).take i).countP vX=a.d+((x::(u.code (p+1) d++[y])).take i).countP vK:=by
  rw[kX,kX,vL,vL,kX,kX,Re.zQ,e1,e2,e3,e4];have l1:=ih u.len (lG _);rw[h2.last,List.take_of_length_le (by rw[Re.zQ];omega)]at l1;by_cases h0:i=0
  ·subst h0;simp[h1]
  by_cases hl:i<=u.len+1
  ·have:=ih (i-1) (by omega);rw[show p+1+((i-1:Nat):Int)=p+i by omega,hb]at this;simpa using this
  ·have e:i=u.len+2:=by omega
   subst e;rw[show p+((u.len+2:Nat):Int)=p+u.len+2 by omega,h3,List.take_of_length_le (by rw[Re.zQ];omega)];simp;omega
structure Known (c:List zTG) (A:Int->Att):Prop where
 ok:codeOk c
 rule:∀q,q+1<c.length->Rule A q (c.getD q jY)
 last:(c.getD (c.length-1) jY).op=13
 pos:0<c.length
 start:A 0=⟨[],0,0,[]⟩
 stop:A ((c.length-1:Nat):Int)=⟨[],0,0,[]⟩
 loops:∀q:Nat,q<c.length->(A q).d=jI c q
 len:c.length<=300
theorem zGV(p:ByteArray)(h:(jN p).1=0):∃A f,Known (kC p).1 A/\zBf A f 0 ⟨[],0,0,[]⟩/\(kC p).1=f.code 0 0++[⟨13,0,0,[]⟩]:=by
 have ht:(zY p).2.1=0:=by
  unfold jN at h;by_cases h0:(zY p).2.1=0
  ·exact h0
  ·rw[if_pos h0]at h;exact h
 have hv:=zAz p ht;obtain⟨f,hw,e,hfi,hde,hle,hc,_⟩:=mM p h;have hN:zF8 (zY p).1:=λj hj=>(hv.1 j hj).2.2
 have hnd:=zDO (zY p).1 [] (by simpa using hN);rw[e]at hnd;have hinc:f.re.inc 0:=zCh (zBV f 0 hw (by simpa[zZ]using hnd));obtain⟨A,hA⟩:=bR f.re 0 ⟨[],0,0,[]⟩;have hlen:(kC p).1.length=f.re.len+1:=by rw[hc,lM,Re.zQ];rfl
 refine⟨A,f.re,⟨by rw[hc];exact zDF f.re hfi hde,λq hq=>?_,?_,by omega,hA.first,?_,λq hq=>?_,by omega⟩,hA,hc⟩
 ·have:=bT A f.re 0 ⟨[],0,0,[]⟩ 0 hA hinc hfi (λk hk=>by simp at hk) (λk hk=>by simp at hk) (λk hk=>hk) (by dsimp only;omega) (by dsimp only;omega) (by omega) q ((kC p).1.getD q jY) (by
   rw[hc,lH,List.getElem?_append_left (by rw[Re.zQ];omega)];dsimp only;rw[lK (by rw[Re.zQ];omega)];rfl)
  rw[Int.zero_add]at this;exact this
 ·rw[hlen,hc,lH,List.getElem?_append_right (by rw[Re.zQ];omega),Re.zQ];simp
 ·have:=hA.last;rw[hlen,show((f.re.len+1-1:Nat):Int)=0+f.re.len by omega];exact this
 ·have h1:=xB A f.re 0 0 _ hA q (by omega);have h2:=zCg f.re _ hc q;rw[hc]at h2;rw[vL,vL]at h2;rw[Re.zQ,show q-f.re.len=0 by omega]at h2;rw[Int.zero_add]at h1;rw[hc];dsimp only at h1;simp only[List.take_zero,List.countP_nil]at h2;omega
theorem dW(p:ByteArray)(h:(jN p).1=0):∃A,Known (kC p).1 A:=by
 obtain⟨A,f,hK,_⟩:=zGV p h;exact⟨A,hK⟩
theorem zDP(E:Env)(hc:codeOk E.c)(hc0:0<E.c.length)(zA:Int):∀(f p n:Nat) (kn:List Bool) (zD:Int),(0<=zD/\zD<=5000)->p+f<=E.t.size+1->(search E zA f p n kn zD).1.at'.length=20
 | 0,p,n,kn,zD,_,_=>by simp[search,nowhere]
 | f+1,p,n,kn,zD,hr,hpf=>by
  have hg:=vI E hc n n (kZ p) kn zD (lG _) (dL _ _ p hc0 (by omega)) hr;rw[search];split
  ·rfl
  split
  ·exact zAc _ _ hg.2.2.2.1
  ·exact zDP E hc hc0 zA f (p+1) _ _ _ hg.2.2.1 (by omega)
theorem zI3{c:List zTG}(hc:codeOk c)(hc0:0<c.length)(t:ByteArray)(zB zI zD zA:Int)(hr:0<=zD/\zD<=5000):∀(F zTE:Nat) (qE:Int) (l:List Fnd),qE<=zA->l.length<=zTE->zTE<=t.size+1->(∀f∈l,f.at'.length=20) ->
  (∀f∈(xO c t zB zI zD zA F zTE qE l).1,f.at'.length=20)/\(xO c t zB zI zD zA F zTE qE l).1.length<=t.size+1
 | 0,zTE,qE,l,_,h2,h3,h4=>by rw[xO];exact⟨h4,by show l.length<=_;omega⟩
 | F+1,zTE,qE,l,h1,h2,h3,h4=>by
  rw[xO];split
  ·exact⟨h4,by show l.length<=_;omega⟩
  rename_i hf
  split
  ·exact⟨λf hf=>by simp at hf,by simp⟩
  rename_i ho
  split
  ·exact⟨h4,by show l.length<=_;omega⟩
  rename_i hok
  have hin:=zBM (wJ c t zB zI) hc hc0 (zA-qE) (t.size+1-zTE) zTE (zA-qE).toNat (List.replicate (c.length*(t.size+1)*12) false) zD (by show zTE+(t.size+1-zTE)<=t.size+1;omega) hr (by omega) (by simpa[kP]using ho);have hl:=zDP (wJ c t zB zI) hc hc0 (zA-qE) (t.size+1-zTE) zTE (zA-qE).toNat (List.replicate (c.length*(t.size+1)*12) false) zD hr (by show zTE+(t.size+1-zTE)<=t.size+1;omega);have hin':(0<=(kP c t zB zI zD (zA-qE) zTE).1.steps/\(kP c t zB zI zD (zA-qE) zTE).1.steps<=zA-qE)/\((kP c t zB zI zD (zA-qE) zTE).1.ok=true->∃a b:Nat,(kP c t zB zI zD (zA-qE) zTE).1.at'.getD 0 0=(a:Int)/\(kP c t zB zI zD (zA-qE) zTE).1.at'.getD 1 0=(b:Int)/\zTE<=a/\a<=b/\b<=t.size):=hin;have hl':(kP c t zB zI zD (zA-qE) zTE).1.at'.length=20:=hl;clear hin hl;generalize kP c t zB zI zD (zA-qE) zTE=S at *;obtain⟨a,b,ha,hb,h5,h6,h7⟩:=hin'.2 (by simpa using hok)
  have hn:zTE+1<=vO S.1/\vO S.1<=t.size+1:=by
   unfold vO;rw[ha,hb];split <;> omega
  refine zI3 hc hc0 t zB zI zD zA hr F _ _ _ (by have:=hin'.1;omega) (by rw[lM];simp;omega) hn.2 (λf hf=>?_);rcases List.mem_append.1 hf with hf | hf
  ·exact h4 f hf
  ·rw[List.mem_singleton.1 hf];exact hl'
theorem zFD(p t:ByteArray)(zB zI zD zA:Int):(∀f∈(qL p t zB zI zD zA).1,f.at'.length=20)/\(qL p t zB zI zD zA).1.length<=300:=by
 unfold qL;split
 ·exact⟨λf hf=>by simp at hf,by simp⟩
 rename_i h0
 split
 ·exact⟨λf hf=>by simp at hf,by simp⟩
 rename_i hm
 have hc:(jN p).1=0:=by
  have h0:(kC p).2=0:=by simpa using h0
  unfold kC at h0;split at h0
  ·rename_i x;exact absurd h0 x
  ·rename_i x;simpa using x
 obtain⟨A,hK⟩:=dW p hc;have hm:xW t.size 0 zB zI zD zA=0:=by simpa using hm
 unfold xW at hm;split at hm
 ·omega
 split at hm
 ·rename_i h1 h2
  obtain⟨_,h3,h4,h5,h6,h7,h8⟩:=h2;have:=zI3 hK.ok hK.pos t zB zI zD zA ⟨h5,h6⟩ (t.size+2) 0 0 [] h7 (by simp) (by omega) (λf hf=>by simp at hf);exact⟨this.1,by have:=this.2;omega⟩
 ·omega
