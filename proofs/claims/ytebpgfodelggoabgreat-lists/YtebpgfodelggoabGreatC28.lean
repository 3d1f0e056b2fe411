import Derived.Test.YtebpgfodelggoabGreatC27
import Derived.Test.YtebpgfodelggoabGreatC19
import Derived.Test.YtebpgfodelggoabGreatC09
import Derived.Test.YtebpgfodelggoabGreatC23
set_option linter.unusedVariables false
set_option linter.unusedSimpArgs false
namespace Mt
theorem zAO (x:Re):∀ n,(kI x n).len=n*x.len
 | 0=>by simp [kI,Re.len]
 | n+1=>by rw [kI,Re.len,zAO x n,Nat.add_mul];omega
def zGB (q:Tok):Prop:=0≤q.n∧q.n≤20∧-1≤q.m∧q.m≤20∧0≤q.how∧q.how≤2∧(q.m=-1∨q.n≤q.m)
def zC5 (o:Nat) (q:Tok):Nat:=q.n.toNat*o+(if q.m=-1 then o+3 else (q.m-q.n).toNat*(o+1))+(if q.how=2 then 2 else 0)
theorem zPd (x:Re) (q:Tok) (h:zGB q):(zHK x q).len=zC5 x.len q:=by
 obtain ⟨h1,h2,h3,h4,h5,h6,h7⟩:=h
 unfold zHK zC5
 dsimp only
 have c1:(if 0<q.n∨0<q.m then (if q.n<q.m then Re.cat (kI x q.n.toNat) (zBJ x (decide (q.how=1)) (q.m-q.n).toNat) else kI x q.n.toNat) else Re.eps).len=q.n.toNat*x.len+(if q.m=-1 then 0 else (q.m-q.n).toNat*(x.len+1)):=by
  by_cases a:0<q.n∨0<q.m
  ·rw [if_pos a]
   by_cases b:q.n<q.m
   ·rw [if_pos b,if_neg (by omega),Re.len,zAO,zCN]
   ·rw [if_neg b,zAO]
    by_cases c:q.m=-1
    ·rw [if_pos c];omega
    ·rw [if_neg c,show (q.m-q.n).toNat=0 by omega];simp
  ·rw [if_neg a,show q.n.toNat=0 by omega]
   by_cases c:q.m=-1
   ·rw [if_pos c];simp [Re.len]
   ·rw [if_neg c,show (q.m-q.n).toNat=0 by omega];simp [Re.len]
 generalize (if 0<q.n∨0<q.m then (if q.n<q.m then Re.cat (kI x q.n.toNat) (zBJ x (decide (q.how=1)) (q.m-q.n).toNat) else kI x q.n.toNat) else Re.eps)=z at *
 have c2:(if q.m<0 then Re.cat z (.loop (decide (q.how=1)) x) else z).len=q.n.toNat*x.len+(if q.m=-1 then x.len+3 else (q.m-q.n).toNat*(x.len+1)):=by
  by_cases c:q.m=-1
  ·rw [if_pos (by omega),if_pos c,Re.len,Re.len,c1,if_pos c];omega
  ·rw [if_neg (by omega),if_neg c,c1,if_neg c]
 generalize (if q.m<0 then Re.cat z (.loop (decide (q.how=1)) x) else z)=z2 at *
 by_cases e:q.how=2
 ·rw [if_pos e,if_pos e,Re.len,c2]
 ·rw [if_neg e,if_neg e,c2];omega
def lim (n:Nat):Nat:=min n 301
theorem zDI (n:Nat):lim n≤301:=Nat.min_le_right _ _
theorem zQV (o:Nat) (q:Tok) (h:zGB q):lim (zC5 (lim o) q)=lim (zC5 o q):=by
 obtain ⟨h1,h2,h3,h4,h5,h6,h7⟩:=h
 by_cases a:o≤301
 ·have:lim o=o:=by unfold lim;omega
  rw [this]
 ·have:lim o=301:=by unfold lim;omega
  rw [this]
  unfold zC5 lim
  have key:∀ (n c:Nat),0<n→301≤n*(301+c)∧301≤n*(o+c):=fun n c hn=>by
   have e1:1*(301+c)≤n*(301+c):=Nat.mul_le_mul_right _ (by omega)
   have e2:1*(o+c)≤n*(o+c):=Nat.mul_le_mul_right _ (by omega)
   omega
  by_cases b:0<q.n.toNat
  ·have:=key q.n.toNat 0 b
   simp only [Nat.add_zero] at this
   omega
  ·have e:q.n.toNat=0:=by omega
   rw [e]
   simp only [Nat.zero_mul,Nat.zero_add]
   by_cases c:q.m=-1
   ·rw [if_pos c,if_pos c];omega
   ·rw [if_neg c,if_neg c]
    by_cases d:0<(q.m-q.n).toNat
    ·have:=key (q.m-q.n).toNat 1 d
     omega
    ·rw [show (q.m-q.n).toNat=0 by omega];simp
def zBh (o:Nat) (r:Option Tok):Nat:=match r with
 | none=>o
 | some q=>zC5 o q
def zDJ (r:Option Tok):Prop:=∀ q,r=some q→zGB q
theorem zPe (x:Re) (r:Option Tok) (h:zDJ r):(part r x).len=zBh x.len r:=by
 cases r with
 | none=>rfl
 | some q=>exact zPd x q (h q rfl)
theorem zPf (o:Nat) (r:Option Tok) (h:zDJ r):lim (zBh (lim o) r)=lim (zBh o r):=by
 cases r with
 | none=>show lim (lim o)=lim o;unfold lim;omega
 | some q=>exact zQV o q (h q rfl)
def Fs.ok:Fs→Prop
 | .nil=>True
 | .bar _ r=>r.ok
 | .leaf t r s=>zDJ r∧s.ok
 | .grp t i c r s=>zDJ r∧(0≤t.how∧t.how≤4)∧i.ok∧s.ok
theorem zLz (t:Tok):(xQ t).len=1:=by
 unfold xQ
 split
 ·rfl
 split
 ·rfl
 split
 ·rfl
 ·rfl
theorem zNa (t:Tok) (x:Re):(zBK t x).len=x.len+if t.how=3 then 0 else 2:=by
 unfold zBK
 by_cases h:t.how=3
 ·rw [if_pos h,if_pos h];rfl
 ·rw [if_neg h,if_neg h];split <;> rfl
theorem zSa (f:Fs):f.re.len=f.both.1.len+(match f.rs with | none=>0 | some r=>2+r.re.len):=by
 have h:=f.zLq
 unfold Fs.re
 generalize f.both=xy at *
 obtain ⟨x,y⟩:=xy
 simp only at h
 cases hr:f.rs with
 | none=>rw [hr] at h;simp at h;subst h;rfl
 | some r=>rw [hr] at h;simp at h;subst h;show x.len+r.re.len+2=x.len+(2+r.re.len);omega
theorem zDK {b:PB}:∀ (f:Fs) (a n:Int),jF b 0 0 f a n→(f.rs=none∧n=-1)∨∃ (r:Fs) (k:Nat),f.rs=some r∧n=k∧k<b.zT.length∧jF b 0 0 r (b.sAt k).first (b.sAt k).next
 | .nil,a,n,h=>Or.inl ⟨rfl,h.2⟩
 | .bar t r,a,n,⟨_,k,h1,_,h2,h3⟩=>Or.inr ⟨r,k,rfl,h1,h2,h3⟩
 | .leaf t r s,a,n,⟨k,_,_,_,_,_,_,h⟩=>zDK s _ _ h
 | .grp t i c r s,a,n,⟨k,_,_,_,_,_,_,_,h⟩=>zDK s _ _ h
theorem zHe:∀ (f r:Fs),f.rs=some r→r.flat.length<f.flat.length∧(f.wf→r.wf)∧(f.ok→r.ok)
 | .nil,r,h=>by simp [Fs.rs] at h
 | .bar t s,r,h=>by simp only [Fs.rs,Option.some.injEq] at h;subst h;exact ⟨by simp [Fs.flat],fun h=>h.2,fun h=>h⟩
 | .leaf t q s,r,h=>by have:=zHe s r h;exact ⟨by simp [Fs.flat];omega,fun hh=>this.2.1 hh.2.2,fun hh=>this.2.2 hh.2⟩
 | .grp t i c q s,r,h=>by have:=zHe s r h;exact ⟨by simp [Fs.flat];omega,fun hh=>this.2.1 hh.2.2.2.2,fun hh=>this.2.2 hh.2.2.2⟩
theorem count_le (p:ByteArray) (i:Int) (h:(count p i).2.2.2=true):(count p i).2.1=-1∨(count p i).1≤(count p i).2.1:=by
 rcases zE0 p i with ⟨a1,e⟩ | ⟨a1,a2,e⟩ | ⟨a1,a2,⟨a3,e⟩ | ⟨a3,a4,e⟩ | ⟨a3,a4,⟨a5,e⟩ | ⟨a5,⟨a6,e⟩ | ⟨a6,a7,e⟩ | ⟨a6,a7,a8,e⟩ | ⟨a6,a7,a8,a9,e⟩ | ⟨a6,a7,a8,a9,e⟩⟩⟩⟩
 ·rw [e];exact Or.inr (Int.le_refl _)
 ·rw [e];exact Or.inr (Int.le_refl _)
 ·rw [e];exact Or.inr (Int.le_refl _)
 ·rw [e];exact Or.inr (Int.le_refl _)
 ·rw [e];exact Or.inl rfl
 ·rw [e];exact Or.inr (Int.le_refl _)
 ·rw [e];exact Or.inr (Int.le_refl _)
 ·rw [e];exact Or.inr (Int.le_refl _)
 ·rw [e];exact Or.inr (Int.le_refl _)
 ·rw [e]
  simp only [decide_eq_false_iff_not] at a8
  exact Or.inr (by show (number p (i+1)).1≤(number p (i+1+(number p (i+1)).2+1)).1;omega)
theorem zNb (p:ByteArray) (i:Int) (h:(kJ p i).2=true):(kJ p i).1.m=-1∨(kJ p i).1.n≤(kJ p i).1.m:=by
 unfold kJ at h ⊢
 by_cases h1:atB p i=43
 ·rw [if_pos h1];exact Or.inl rfl
 ·rw [if_neg h1] at h ⊢
  by_cases h2:atB p i=63
  ·rw [if_pos h2];exact Or.inr (by simp)
  ·rw [if_neg h2] at h ⊢
   by_cases h3:atB p i=123
   ·rw [if_pos h3] at h ⊢
    cases hc:(count p i).2.2.2
    ·rw [hc] at h;simp at h
    ·rw [if_pos rfl];exact count_le p i hc
   ·rw [if_neg h3];exact Or.inl rfl
theorem zJG (p:ByteArray) (i:Int):(escape p i).1.kind≠8:=by
 rcases zCm p i with ⟨a1,e⟩ | ⟨a0,a1,⟨a2,e⟩ | ⟨a2,a3,e⟩ | ⟨a2,a3,a4,a5,a6,a7,e⟩ | ⟨a2,a3,a4,e⟩⟩ <;> rw [e] <;> simp
theorem zIt (p:ByteArray) (i:Int):(opening p i).1.kind≠8:=by
 rcases zA8 p i with ⟨a1,e⟩ | ⟨a1,⟨a2,e⟩ | ⟨a2,a3,e⟩ | ⟨a2,a3,a4,e⟩ | ⟨a2,a3,a4,a5,e⟩ | ⟨a2,a3,a4,a5,e⟩⟩ <;> rw [e] <;> simp
theorem zLA (p:ByteArray) (i:Int):(jN p i).1.kind≠8:=by
 unfold jN;split <;> simp
theorem zNc (p:ByteArray) (i:Int) (h:(kK p i).2=0) (hk:(kK p i).1.kind=8):(kK p i).1.m=-1∨(kK p i).1.n≤(kK p i).1.m:=by
 unfold kK at h hk ⊢
 by_cases h1:atB p i=124
 ·rw [if_pos h1] at hk;simp at hk
 rw [if_neg h1] at h hk ⊢
 by_cases h2:atB p i=41
 ·rw [if_pos h2] at hk;simp at hk
 rw [if_neg h2] at h hk ⊢
 by_cases h3:atB p i=94
 ·rw [if_pos h3] at hk;simp at hk
 rw [if_neg h3] at h hk ⊢
 by_cases h4:atB p i=36
 ·rw [if_pos h4] at hk;simp at hk
 rw [if_neg h4] at h hk ⊢
 by_cases h5:atB p i=92
 ·rw [if_pos h5] at hk;exact absurd hk (zJG p i)
 rw [if_neg h5] at h hk ⊢
 by_cases h6:atB p i=91
 ·rw [if_pos h6] at hk;exact absurd hk (zLA p i)
 rw [if_neg h6] at h hk ⊢
 by_cases h7:atB p i=40
 ·rw [if_pos h7] at hk;exact absurd hk (zIt p i)
 rw [if_neg h7] at h hk ⊢
 by_cases h8:atB p i=42∨atB p i=43∨atB p i=63∨atB p i=123
 ·rw [if_pos h8] at h ⊢
  exact zNb p i (by cases x:(kJ p i).2 <;> simp [x] at h ⊢)
 rw [if_neg h8] at h hk ⊢
 by_cases h9:atB p i=46
 ·rw [if_pos h9] at hk;simp at hk
 ·rw [if_neg h9] at hk;simp at hk
def zNd (l:List Tok):Prop:=∀ t∈l,t.kind=8→t.m=-1∨t.n≤t.m
theorem zJH (p:ByteArray):∀ (f:Nat) (l:List Tok) (i:Int),0≤i→i≤p.size→(p.size:Int)-i<f→zNd l→zNd (qD p l i).1:=by
 intro f
 induction f with
 | zero=>intro l i h0 h1 h2;omega
 | succ f ih =>
  intro l i h0 h1 h2 hl
  rw [vH p l i h0 h1]
  by_cases a:(p.size:Int)≤i
  ·rw [if_pos a];exact hl
  rw [if_neg a]
  by_cases b:(kK p i).2≠0
  ·rw [if_pos b];intro t ht;simp at ht
  rw [if_neg b]
  by_cases c:may l (kK p i).1≠0
  ·rw [if_pos c];intro t ht;simp at ht
  rw [if_neg c]
  have hn:=zBR p i h0 (by omega) (by omega)
  refine ih _ _ (by omega) (by omega) (by omega) (fun t ht hk=>?_)
  rcases List.mem_append.1 ht with ht | ht
  ·exact hl t ht hk
  ·simp at ht
   have jk:=zB1 l (kK p i).1
   subst ht
   rw [jk.1] at hk
   have e:joined l (kK p i).1=(kK p i).1:=jk.2.2.2.2.1 (by unfold kP;simp [hk])
   rw [e];exact zNc p i (by omega) hk
theorem zJI (p:ByteArray) (h:(tokens p).2.1=0):zNd (tokens p).1:=by
 by_cases hp:p.size≤64
 ·have hr:=zJH p ((p.size:Int)+1).toNat [] 0 (by omega) (by omega) (by omega) (by intro t ht;simp at ht)
  unfold tokens at h ⊢
  rw [if_neg (by omega),vF p hp] at h ⊢
  split
  ·rename_i h1;rw [if_pos h1] at h;exact absurd h h1
  ·split
   ·intro t ht;simp at ht
   ·exact hr
 ·unfold tokens at h;rw [if_pos (by omega)] at h;simp at h
theorem zNe:∀ f:Fs,f.wf→(∀ t∈f.flat,t.kind=8→zGB t)→(∀ t∈f.flat,t.kind=6→0≤t.how∧t.how≤4)→f.ok
 | .nil,_,_,_=>trivial
 | .bar t r,hw,h1,h2=>zNe r hw.2 (fun u hu=>h1 u (by simp [Fs.flat,hu])) (fun u hu=>h2 u (by simp [Fs.flat,hu]))
 | .leaf t r s,hw,h1,h2=>⟨fun q hq=>h1 q (by simp [Fs.flat,hq]) (hw.2.1 q hq),zNe s hw.2.2 (fun u hu=>h1 u (by simp [Fs.flat,hu])) (fun u hu=>h2 u (by simp [Fs.flat,hu]))⟩
 | .grp t i c r s,hw,h1,h2=>⟨fun q hq=>h1 q (by simp [Fs.flat,hq]) (hw.2.2.2.1 q hq),h2 t (by simp [Fs.flat]) hw.1,zNe i hw.2.2.1 (fun u hu=>h1 u (by simp [Fs.flat,hu])) (fun u hu=>h2 u (by simp [Fs.flat,hu])),zNe s hw.2.2.2.2 (fun u hu=>h1 u (by simp [Fs.flat,hu])) (fun u hu=>h2 u (by simp [Fs.flat,hu]))⟩
theorem zFx:∀ (m:List Tok) (l:List Tok),zHL (l++m)→zJF (captures l) m
 | [],l,h=>trivial
 | t::r,l,h=>by
  have e:l++t::r=(l++[t])++r:=by simp
  refine ⟨fun hc=>?_,?_⟩
  ·have:=h l.length (by simp) (by rw [List.getD_eq_getElem?_getD,List.getElem?_append_right (Nat.le_refl _)];simpa using hc)
   rw [List.getD_eq_getElem?_getD,List.getElem?_append_right (Nat.le_refl _)] at this
   simpa using this
  ·have:=zFx r (l++[t]) (by rw [← e];exact h)
   rwa [zBb] at this
theorem zPg (b:PB) (t:PT):(b.next t).atoms.length≤b.atoms.length+1∧(b.next t).zT.length≤b.zT.length+1:=by
 have ha:∀ t,(b.addAtom t).atoms.length=b.atoms.length+1∧(b.addAtom t).zT.length=b.zT.length:=fun t=>by
  unfold PB.addAtom;split <;> simp
 unfold PB.next
 split
 ·simp [PB.bar]
 split
 ·have:=ha t
  unfold PB.opening PB.into PB.number
  cases decide (t.group=1) <;> simp [this.1,this.2]
 split
 ·simp [PB.close]
 split
 ·simp [PB.repeated]
 ·have:=ha t;omega
theorem zNf:∀ (l:List Tok) (b:PB),(b.run l).atoms.length≤b.atoms.length+l.length∧(b.run l).zT.length≤b.zT.length+l.length
 | [],b=>by simp [PB.run]
 | t::r,b=>by
  have h1:=zPg b (jW t)
  have h2:=zNf r (b.next (jW t))
  rw [PB.zDF];simp only [List.length_cons];omega
theorem zPh:PB.start.At:=⟨by decide,Or.inl rfl,fun _=>rfl,rfl⟩
theorem zQb (p:ByteArray) (h:(tokens p).2.1=0):∃ f:Fs,f.wf∧f.ok∧(tokens p).1=f.flat∧jF (PB.start.run (tokens p).1) 0 0 f ((PB.start.run (tokens p).1).sAt 0).first ((PB.start.run (tokens p).1).sAt 0).next∧0<(PB.start.run (tokens p).1).zT.length ∧
  (PB.start.run (tokens p).1).atoms.length≤64∧(PB.start.run (tokens p).1).zT.length≤65∧(300<(coded (tokens p).1).length↔300<f.re.len+1)∧(f.re.len+1≤300→coded (tokens p).1=f.re.code 0 0++[⟨13,0,0,[]⟩]):=by
 have hv:=zCu p h
 have hr:=zJI p h
 have hs:=(zAj p).2
 obtain ⟨f,hw,e⟩:=zFo hv.1 hv.2
 have hN:=zCQ hv.1
 have hG:∀ t∈(tokens p).1,zEs t:=by
  intro t ht
  obtain ⟨k,hk,rfl⟩:=List.mem_iff_getElem.1 ht
  have:=(hv.1 k hk).2.1
  rw [List.getD_eq_getElem?_getD,List.getElem?_eq_getElem hk] at this
  exact this
 rw [e] at hr hs hN hG ⊢
 have hok:=zNe f hw (fun t ht hk=>by
  obtain ⟨_,_,_,_,g5⟩:=hG t ht
  have:=g5 hk
  have:=hr t ht hk
  exact ⟨by omega,by omega,by omega,by omega,by omega,by omega,this⟩) (fun t ht hk=>(hG t ht).2.2.2.1 hk)
 have hd:=zBO f hw (fun t ht hk=>(hG t ht).2.2.2.1 hk) PB.start zPh (zFx f.flat [] (by simpa using hN))
 have hl:=zNf f.flat PB.start
 have ht:=zFn f hw hs
 have hc:=zIj f.flat
 rw [ht] at hc
 have st:=hd.stands
 have e0:PB.start.last=-1:=rfl
 rw [if_pos e0] at st
 refine ⟨f,hw,hok,rfl,yQ (Nat.zero_le _) (Nat.zero_le _) (fun _ _ _=>rfl) (fun _ _ _=>rfl) (Nat.le_refl _) (Nat.le_refl _) _ _ _ st,?_,?_,?_,?_,fun zSA=>?_⟩
 ·have:=hd.sl;exact Nat.lt_of_lt_of_le (by decide) this
 ·have:=hl.1;simp [PB.start] at this ⊢;omega
 ·have:=hl.2;simp [PB.start] at this ⊢;omega
 ·constructor
  ·intro x;omega
  ·intro x;exact hc.2 x
 ·have:=(zGu f.flat (by rw [hc.1 zSA];exact zSA)).1
  rwa [ht] at this
def yD (i:Ins):Bool:=decide (i.op=4)
def vD (i:Ins):Bool:=decide (i.op=5)
theorem kC (q:Ins→Bool) (n:Nat) (x:Ins) (l:List Ins):((x::l).take n).countP q=(if 0<n∧q x=true then 1 else 0)+(l.take (n-1)).countP q:=by
 cases n with
 | zero=>simp
 | succ n =>
  rw [List.take_succ_cons,List.countP_cons,Nat.add_sub_cancel]
  cases h:q x <;> simp <;> omega
theorem qV (q:Ins→Bool) (n:Nat) (a b:List Ins):((a++b).take n).countP q=(a.take n).countP q+(b.take (n-a.length)).countP q:=by
 rw [List.take_append,List.countP_append]
theorem xK:∀ (r:Re) (p d t:Int),((r.code p d).take (t-p).toNat).countP yD=(r.code p d).countP (yY t)
 | .eps,p,d,t=>by simp [Re.code]
 | .one s,p,d,t=>by rw [Re.code,kC];simp [yD,yY]
 | .back k,p,d,t=>by rw [Re.code,kC];simp [yD,yY]
 | .head,p,d,t=>by rw [Re.code,kC];simp [yD,yY]
 | .tail,p,d,t=>by rw [Re.code,kC];simp [yD,yY]
 | .cat a b,p,d,t=>by
  rw [Re.code,qV,List.countP_append,xK a,Re.zH,show (t-p).toNat-a.len=(t-(p+a.len)).toNat by omega,xK b]
 | .alt a b,p,d,t=>by
  rw [Re.code,kC,qV,kC,Re.zH,List.countP_cons,List.countP_append,List.countP_cons,show (t-p).toNat-1=(t-(p+1)).toNat by omega,xK a,show (t-(p+1)).toNat-a.len-1=(t-(p+a.len+2)).toNat by omega,xK b]
  simp [yD,yY]
 | .cap k a,p,d,t=>by
  rw [Re.code,kC,qV,kC,List.countP_cons,List.countP_append,show (t-p).toNat-1=(t-(p+1)).toNat by omega,xK a]
  simp [yD,yY]
 | .sub s a,p,d,t=>by
  rw [Re.code,kC,qV,kC,List.countP_cons,List.countP_append,show (t-p).toNat-1=(t-(p+1)).toNat by omega,xK a]
  simp [yD,yY]
 | .opt late a,p,d,t=>by
  rw [Re.code,kC,List.countP_cons,show (t-p).toNat-1=(t-(p+1)).toNat by omega,xK a]
  cases late <;> simp [yD,yY,spl]
 | .loop late a,p,d,t=>by
  rw [Re.code,kC,kC,qV,kC,List.countP_cons,List.countP_cons,List.countP_append,show (t-p).toNat-1-1=(t-(p+2)).toNat by omega,xK a]
  have e:(0<(t-p).toNat-1)↔p+1<t:=by omega
  cases late <;> simp [yD,yY,spl,List.countP_cons] <;> split <;> split <;> omega
theorem zAz:∀ (r:Re) (p d t:Int) (x:Ins),x∈(r.code p d).take (t-p).toNat→x.op=5→x.x+1<t
 | .eps,p,d,t,x,h,h5=>by simp [Re.code] at h
 | .one s,p,d,t,x,h,h5=>by have:=List.mem_of_mem_take h;simp [Re.code] at this;subst this;simp at h5
 | .back k,p,d,t,x,h,h5=>by have:=List.mem_of_mem_take h;simp [Re.code] at this;subst this;simp at h5
 | .head,p,d,t,x,h,h5=>by have:=List.mem_of_mem_take h;simp [Re.code] at this;subst this;simp at h5
 | .tail,p,d,t,x,h,h5=>by have:=List.mem_of_mem_take h;simp [Re.code] at this;subst this;simp at h5
 | .cat a b,p,d,t,x,h,h5=>by
  rw [Re.code,List.take_append,List.mem_append,Re.zH,show (t-p).toNat-a.len=(t-(p+a.len)).toNat by omega] at h
  rcases h with h | h
  ·exact zAz a _ _ _ x h h5
  ·exact zAz b _ _ _ x h h5
 | .alt a b,p,d,t,x,h,h5=>by
  rw [Re.code] at h
  rcases zBi h with rfl | h
  ·simp at h5
  rw [List.take_append,List.mem_append,Re.zH,show (t-p).toNat-1=(t-(p+1)).toNat by omega] at h
  rcases h with h | h
  ·exact zAz a _ _ _ x h h5
  rcases zBi h with rfl | h
  ·simp at h5
  rw [show (t-(p+1)).toNat-a.len-1=(t-(p+a.len+2)).toNat by omega] at h
  exact zAz b _ _ _ x h h5
 | .cap k a,p,d,t,x,h,h5=>by
  rw [Re.code] at h
  rcases zBi h with rfl | h
  ·simp at h5
  rw [List.take_append,List.mem_append,show (t-p).toNat-1=(t-(p+1)).toNat by omega] at h
  rcases h with h | h
  ·exact zAz a _ _ _ x h h5
  ·have:=List.mem_of_mem_take h;simp at this;subst this;simp at h5
 | .sub s a,p,d,t,x,h,h5=>by
  rw [Re.code] at h
  rcases zBi h with rfl | h
  ·simp at h5
  rw [List.take_append,List.mem_append,show (t-p).toNat-1=(t-(p+1)).toNat by omega] at h
  rcases h with h | h
  ·exact zAz a _ _ _ x h h5
  ·have:=List.mem_of_mem_take h;simp at this;subst this;simp at h5
 | .opt late a,p,d,t,x,h,h5=>by
  rw [Re.code] at h
  rcases zBi h with rfl | h
  ·cases late <;> simp [spl] at h5
  rw [show (t-p).toNat-1=(t-(p+1)).toNat by omega] at h
  exact zAz a _ _ _ x h h5
 | .loop late a,p,d,t,x,h,h5=>by
  rw [Re.code] at h
  rcases zBi h with rfl | h
  ·cases late <;> simp [spl] at h5
  rcases zBi h with rfl | h
  ·simp at h5
  rw [List.take_append,List.mem_append,Re.zH,show (t-p).toNat-1-1=(t-(p+2)).toNat by omega] at h
  rcases h with h | h
  ·exact zAz a _ _ _ x h h5
  ·have h':=List.mem_of_mem_take h
   simp at h'
   subst h'
   have:0<(t-(p+2)).toNat-a.len:=by
    rcases Nat.eq_zero_or_pos ((t-(p+2)).toNat-a.len) with e | e
    ·rw [e] at h;simp at h
    ·exact e
   show p+1<t
   omega
where
 zBi {x y:Ins} {l:List Ins} {n:Nat} (h:x∈(y::l).take n):x=y∨x∈l.take (n-1):=by
  cases n with
  | zero=>simp at h
  | succ n=>rw [List.take_succ_cons,List.mem_cons] at h;exact h
theorem zGC (r:Re) (c:List Ins) (hc:c=r.code 0 0++[⟨13,0,0,[]⟩]) (k:Nat):(c.take k).countP yD=(c.take k).countP vD+kS c k:=by
 have m:=xK r 0 0 k
 rw [show ((k:Int)-0).toNat=k by omega] at m
 have m1:(c.take k).countP yD=((r.code 0 0).take k).countP yD:=by
  rw [hc,qV,kC];simp [yD]
 have m2:c.countP (yY k)=(r.code 0 0).countP (yY k):=by
  rw [hc,List.countP_append];simp [yY]
 have m3:(c.take k).countP (yY k)=(c.take k).countP vD:=by
  refine List.countP_congr (fun x hx=>?_)
  unfold yY vD
  simp only [decide_eq_true_eq]
  constructor
  ·exact fun h=>h.1
  ·intro h
   refine ⟨h,?_⟩
   rw [hc,List.take_append,List.mem_append] at hx
   rcases hx with hx | hx
   ·exact zAz r 0 0 k x (by rw [show ((k:Int)-0).toNat=k by omega];exact hx) h
   ·have:=List.mem_of_mem_take hx;simp at this;subst this;simp at h
 have m4:c.countP (yY k)=(c.take k).countP (yY k)+(c.drop k).countP (yY k):=by
  rw [← List.countP_append,List.take_append_drop]
 have m5:kS c k=(c.drop k).countP (yY k):=by
  unfold kS zAI
  rw [List.take_of_length_le (by rw [List.length_drop];exact Nat.le_refl _)]
 omega
theorem zGD (q:Ins→Bool) (c:List Ins) (k:Nat) (h:k<c.length):(c.take (k+1)).countP q=(c.take k).countP q+if q (c.getD k jB)=true then 1 else 0:=by
 rw [List.take_succ_eq_append_getElem h,List.countP_append,List.getD_eq_getElem?_getD,List.getElem?_eq_getElem h]
 simp [List.countP_cons]
structure Att where
 G:List Int
 d:Int
 y:Int
 B:List Int
def zC6 (A:Int→Att):Re→Int→Att→Prop
 | .eps,p,a=>A p=a
 | .one _,p,a=>A p=a∧A (p+1)=a
 | .back _,p,a=>A p=a∧A (p+1)=a
 | .head,p,a=>A p=a∧A (p+1)=a
 | .tail,p,a=>A p=a∧A (p+1)=a
 | .cat x y,p,a=>zC6 A x p a∧zC6 A y (p+x.len) a
 | .alt x y,p,a=>A p=a∧zC6 A x (p+1) a∧zC6 A y (p+x.len+2) a
 | .cap k x,p,a=>A p=a∧zC6 A x (p+1) ⟨k::a.G,a.d,a.y,a.B⟩∧A (p+x.len+2)=a
 | .sub _ x,p,a=>A p=a∧zC6 A x (p+1) ⟨a.G,a.d,p+x.len+2,a.G⟩∧A (p+x.len+2)=a
 | .opt _ x,p,a=>A p=a∧zC6 A x (p+1) a
 | .loop _ x,p,a=>A p=a∧A (p+1)=a∧zC6 A x (p+2) ⟨a.G,a.d+1,a.y,a.B⟩∧A (p+x.len+3)=a
theorem zC6.first {A:Int→Att}:∀ {r:Re} {p:Int} {a:Att},zC6 A r p a→A p=a
 | .eps,p,a,h=>h
 | .one _,p,a,h=>h.1
 | .back _,p,a,h=>h.1
 | .head,p,a,h=>h.1
 | .tail,p,a,h=>h.1
 | .cat x y,p,a,h=>zC6.first h.1
 | .alt x y,p,a,h=>h.1
 | .cap k x,p,a,h=>h.1
 | .sub _ x,p,a,h=>h.1
 | .opt _ x,p,a,h=>h.1
 | .loop _ x,p,a,h=>h.1
theorem zC6.last {A:Int→Att}:∀ {r:Re} {p:Int} {a:Att},zC6 A r p a→A (p+r.len)=a
 | .eps,p,a,h=>by
  have h':A p=a:=h
  rw [← h'];congr 1;simp only [Re.len];omega
 | .one _,p,a,h=>h.2
 | .back _,p,a,h=>h.2
 | .head,p,a,h=>h.2
 | .tail,p,a,h=>h.2
 | .cat x y,p,a,h=>by have:=zC6.last h.2;simp only [Re.len];rw [← this];congr 1;omega
 | .alt x y,p,a,h=>by have:=zC6.last h.2.2;simp only [Re.len];rw [← this];congr 1;omega
 | .cap k x,p,a,h=>by have:=h.2.2;simp only [Re.len];rw [← this];congr 1;omega
 | .sub _ x,p,a,h=>by have:=h.2.2;simp only [Re.len];rw [← this];congr 1;omega
 | .opt _ x,p,a,h=>by have:=zC6.last h.2;simp only [Re.len];rw [← this];congr 1;omega
 | .loop _ x,p,a,h=>by have:=h.2.2.2;simp only [Re.len];rw [← this];congr 1;omega
theorem zC6.congr {A B:Int→Att}:∀ {r:Re} {p:Int} {a:Att},(∀ q,p≤q→q≤p+r.len→A q=B q)→zC6 A r p a→zC6 B r p a
 | .eps,p,a,e,h=>by show B p=a;rw [← e p (by omega) (by omega)];exact h
 | .one _,p,a,e,h=>⟨by rw [← e p (by omega) (by omega)];exact h.1,by rw [← e (p+1) (by omega) (by simp only [Re.len];omega)];exact h.2⟩
 | .back _,p,a,e,h=>⟨by rw [← e p (by omega) (by omega)];exact h.1,by rw [← e (p+1) (by omega) (by simp only [Re.len];omega)];exact h.2⟩
 | .head,p,a,e,h=>⟨by rw [← e p (by omega) (by omega)];exact h.1,by rw [← e (p+1) (by omega) (by simp only [Re.len];omega)];exact h.2⟩
 | .tail,p,a,e,h=>⟨by rw [← e p (by omega) (by omega)];exact h.1,by rw [← e (p+1) (by omega) (by simp only [Re.len];omega)];exact h.2⟩
 | .cat x y,p,a,e,h=>⟨zC6.congr (fun q h1 h2=>e q (by omega) (by simp only [Re.len];omega)) h.1,zC6.congr (fun q h1 h2=>e q (by omega) (by simp only [Re.len];omega)) h.2⟩
 | .alt x y,p,a,e,h=>⟨by rw [← e p (by omega) (by omega)];exact h.1,zC6.congr (fun q h1 h2=>e q (by omega) (by simp only [Re.len];omega)) h.2.1,zC6.congr (fun q h1 h2=>e q (by omega) (by simp only [Re.len];omega)) h.2.2⟩
 | .cap k x,p,a,e,h=>⟨by rw [← e p (by omega) (by omega)];exact h.1,zC6.congr (fun q h1 h2=>e q (by omega) (by simp only [Re.len];omega)) h.2.1,by rw [← e _ (by omega) (by simp only [Re.len];omega)];exact h.2.2⟩
 | .sub _ x,p,a,e,h=>⟨by rw [← e p (by omega) (by omega)];exact h.1,zC6.congr (fun q h1 h2=>e q (by omega) (by simp only [Re.len];omega)) h.2.1,by rw [← e _ (by omega) (by simp only [Re.len];omega)];exact h.2.2⟩
 | .opt _ x,p,a,e,h=>⟨by rw [← e p (by omega) (by omega)];exact h.1,zC6.congr (fun q h1 h2=>e q (by omega) (by simp only [Re.len];omega)) h.2⟩
 | .loop _ x,p,a,e,h=>⟨by rw [← e p (by omega) (by omega)];exact h.1,by rw [← e (p+1) (by omega) (by simp only [Re.len];omega)];exact h.2.1,zC6.congr (fun q h1 h2=>e q (by omega) (by simp only [Re.len];omega)) h.2.2.1,by rw [← e _ (by omega) (by simp only [Re.len];omega)];exact h.2.2.2⟩
theorem zAA:∀ (r:Re) (p:Int) (a:Att),∃ A,zC6 A r p a
 | .eps,p,a=>⟨fun _=>a,rfl⟩
 | .one _,p,a=>⟨fun _=>a,rfl,rfl⟩
 | .back _,p,a=>⟨fun _=>a,rfl,rfl⟩
 | .head,p,a=>⟨fun _=>a,rfl,rfl⟩
 | .tail,p,a=>⟨fun _=>a,rfl,rfl⟩
 | .cat x y,p,a=>by
  obtain ⟨A,hA⟩:=zAA x p a
  obtain ⟨B,hB⟩:=zAA y (p+x.len) a
  refine ⟨fun q=>if q<p+x.len then A q else B q,hA.congr (fun q h1 h2=>?_),hB.congr (fun q h1 h2=>?_)⟩
  ·(try dsimp only);split
   ·rfl
   ·have e:q=p+x.len:=by omega
    subst e;rw [hA.last,hB.first]
  ·(try dsimp only);rw [if_neg (by omega)]
 | .alt x y,p,a=>by
  obtain ⟨A,hA⟩:=zAA x (p+1) a
  obtain ⟨B,hB⟩:=zAA y (p+x.len+2) a
  refine ⟨fun q=>if q≤p then a else if q<p+x.len+2 then A q else B q,?_,hA.congr (fun q h1 h2=>?_),hB.congr (fun q h1 h2=>?_)⟩
  ·(try dsimp only);rw [if_pos (by omega)]
  ·(try dsimp only);rw [if_neg (by omega),if_pos (by omega)]
  ·(try dsimp only);rw [if_neg (by omega),if_neg (by omega)]
 | .cap k x,p,a=>by
  obtain ⟨A,hA⟩:=zAA x (p+1) ⟨k::a.G,a.d,a.y,a.B⟩
  refine ⟨fun q=>if q≤p then a else if q<p+x.len+2 then A q else a,?_,hA.congr (fun q h1 h2=>?_),?_⟩
  ·(try dsimp only);rw [if_pos (by omega)]
  ·(try dsimp only);rw [if_neg (by omega),if_pos (by omega)]
  ·(try dsimp only);rw [if_neg (by omega),if_neg (by omega)]
 | .sub _ x,p,a=>by
  obtain ⟨A,hA⟩:=zAA x (p+1) ⟨a.G,a.d,p+x.len+2,a.G⟩
  refine ⟨fun q=>if q≤p then a else if q<p+x.len+2 then A q else a,?_,hA.congr (fun q h1 h2=>?_),?_⟩
  ·(try dsimp only);rw [if_pos (by omega)]
  ·(try dsimp only);rw [if_neg (by omega),if_pos (by omega)]
  ·(try dsimp only);rw [if_neg (by omega),if_neg (by omega)]
 | .opt _ x,p,a=>by
  obtain ⟨A,hA⟩:=zAA x (p+1) a
  refine ⟨fun q=>if q≤p then a else A q,?_,hA.congr (fun q h1 h2=>?_)⟩
  ·(try dsimp only);rw [if_pos (by omega)]
  ·(try dsimp only);rw [if_neg (by omega)]
 | .loop _ x,p,a=>by
  obtain ⟨A,hA⟩:=zAA x (p+2) ⟨a.G,a.d+1,a.y,a.B⟩
  refine ⟨fun q=>if q≤p+1 then a else if q<p+x.len+3 then A q else a,?_,?_,hA.congr (fun q h1 h2=>?_),?_⟩
  ·(try dsimp only);rw [if_pos (by omega)]
  ·(try dsimp only);rw [if_pos (by omega)]
  ·(try dsimp only);rw [if_neg (by omega),if_pos (by omega)]
  ·(try dsimp only);rw [if_neg (by omega),if_neg (by omega)]
def Re.inc:Re→Int→Prop
 | .cat a b,n=>a.inc n∧b.inc n
 | .alt a b,n=>a.inc n∧b.inc n
 | .cap k a,n=>n<k∧a.inc k
 | .sub _ a,n=>a.inc n
 | .opt _ a,n=>a.inc n
 | .loop _ a,n=>a.inc n
 | _,_=>True
theorem Re.zAB:∀ (r:Re) (m n:Int),m≤n→r.inc n→r.inc m
 | .eps,_,_,_,_=>trivial
 | .one _,_,_,_,_=>trivial
 | .back _,_,_,_,_=>trivial
 | .head,_,_,_,_=>trivial
 | .tail,_,_,_,_=>trivial
 | .cat a b,m,n,h,i=>⟨Re.zAB a m n h i.1,Re.zAB b m n h i.2⟩
 | .alt a b,m,n,h,i=>⟨Re.zAB a m n h i.1,Re.zAB b m n h i.2⟩
 | .cap k a,m,n,h,i=>⟨by have:=i.1;omega,i.2⟩
 | .sub _ a,m,n,h,i=>Re.zAB a m n h i
 | .opt _ a,m,n,h,i=>Re.zAB a m n h i
 | .loop _ a,m,n,h,i=>Re.zAB a m n h i
theorem zGE {x:Re} {m:Int} (h:x.inc m):∀ n,(kI x n).inc m
 | 0=>trivial
 | n+1=>⟨h,zGE h n⟩
theorem zKz {x:Re} {m:Int} (late:Bool) (h:x.inc m):∀ n,(zBJ x late n).inc m
 | 0=>trivial
 | n+1=>⟨h,zKz late h n⟩
theorem zPi {x:Re} {m:Int} (h:x.inc m) (r:Tok):(zHK x r).inc m:=by
 unfold zHK
 dsimp only
 have t:=zGE h r.n.toNat
 have o:=zKz (decide (r.how=1)) h (r.m-r.n).toNat
 have c1:(if 0<r.n∨0<r.m then (if r.n<r.m then Re.cat (kI x r.n.toNat) (zBJ x (decide (r.how=1)) (r.m-r.n).toNat) else kI x r.n.toNat) else Re.eps).inc m:=by
  split
  ·split
   ·exact ⟨t,o⟩
   ·exact t
  ·trivial
 generalize (if 0<r.n∨0<r.m then (if r.n<r.m then Re.cat (kI x r.n.toNat) (zBJ x (decide (r.how=1)) (r.m-r.n).toNat) else kI x r.n.toNat) else Re.eps)=z at *
 have c2:(if r.m<0 then Re.cat z (.loop (decide (r.how=1)) x) else z).inc m:=by
  split
  ·exact ⟨c1,h⟩
  ·exact c1
 split
 ·exact c2
 ·exact c2
theorem zKA {x:Re} {m:Int} (h:x.inc m) (r:Option Tok):(part r x).inc m:=by
 cases r with
 | none=>exact h
 | some q=>exact zPi h q
theorem zD7 {b:Re × Option Re} {m:Int} (h:b.1.inc m∧∀ a,b.2=some a→a.inc m):(zDz b).inc m:=by
 obtain ⟨x,y⟩:=b
 cases y with
 | none=>exact h.1
 | some a=>exact ⟨h.1,h.2 a rfl⟩
theorem zDL:∀ (f:Fs) (n:Int),f.wf→zJF n f.flat→f.both.1.inc n∧∀ a,f.both.2=some a→a.inc n
 | .nil,n,_,_=>⟨trivial,fun a e=>(by cases e)⟩
 | .bar t r,n,h,hn=>by
  have hc:kP t=false:=by have:=h.1;unfold kP;simp;omega
  simp only [Fs.flat,zJF,hc] at hn
  have ih:=zDL r n h.2 (by simpa using hn.2)
  refine ⟨trivial,fun a e=>?_⟩
  simp only [Fs.both,Option.some.injEq] at e;subst e;exact zD7 ih
 | .leaf t r s,n,h,hn=>by
  simp only [Fs.flat,zJF,zHc h.1,zDG,zD6 h.2.1] at hn
  have ih:=zDL s n h.2.2 (by simpa using hn.2.2)
  refine ⟨⟨zKA ?_ r,ih.1⟩,ih.2⟩
  unfold xQ
  repeat' split
  all_goals trivial
 | .grp t i c r s,n,h,hn=>by
  have hc7:kP c=false:=by have:=h.2.1;unfold kP;simp;omega
  simp only [Fs.flat,zJF,zDG,hc7,zD6 h.2.2.2.1] at hn
  obtain ⟨h1,h2,h3,h4⟩:=hn
  have hcb:=zAd i.flat
  have ii:=zDL i _ h.2.2.1 h2
  have is:=zDL s _ h.2.2.2.2 h4.2
  refine ⟨⟨zKA ?_ r,Re.zAB _ n _ ?_ is.1⟩,fun a e=>Re.zAB _ n _ ?_ (is.2 a e)⟩
  ·have j:=zD7 ii
   unfold zBK
   split
   ·exact Re.zAB _ n _ (by split <;> omega) j
   split
   ·rename_i h3' h4'
    have hcap:kP t=true:=by have:=h.1;unfold kP;simp [h4',this]
    rw [hcap] at j h1
    have e:=h1 rfl
    simp only [if_true] at j
    exact ⟨by omega,by rw [e];exact j⟩
   ·exact Re.zAB _ n _ (by split <;> omega) j
  ·simp;split <;> omega
  ·simp;split <;> omega
def Rule (A:Int→Att) (q:Int) (x:Ins):Prop :=
 (x.op=1∨x.op=8∨x.op=9∨x.op=10→A (q+1)=A q)
 ∧ (x.op=2→A x.x=A q∧A x.y=A q)
 ∧ (x.op=3→A x.x=A q)
 ∧ (x.op=4→x.x=(A q).d∧A (q+1)=⟨(A q).G,(A q).d+1,(A q).y,(A q).B⟩∧x.x<11)
 ∧ (x.op=5→A x.x=⟨(A q).G,(A q).d-1,(A q).y,(A q).B⟩∧x.y=(A q).d-1∧0≤x.y∧x.y<11)
 ∧ (x.op=6→A (q+1)=⟨x.x::(A q).G,(A q).d,(A q).y,(A q).B⟩∧x.x∉(A q).G)
 ∧ (x.op=7→∃ g,(A q).G=x.x::g∧A (q+1)=⟨g,(A q).d,(A q).y,(A q).B⟩)
 ∧ (x.op=11→A (q+1)=⟨(A q).G,(A q).d,x.y,(A q).G⟩∧A x.y=A q∧A (x.y-1)=⟨(A q).G,(A q).d,x.y,(A q).G⟩∧0<x.y)
 ∧ (x.op=12→(A q).y=q+1)
 ∧ (∀ k∈(A q).B,k∈(A q).G)∧(0≤(A q).d∧(A q).d≤11)∧(∀ k∈(A q).G,0≤k∧k<10)∧(1≤x.op∧x.op≤12)
theorem zCz {α:Type} {a b:List α} {i:Nat} {x:α} (h:(a++b)[i]?=some x):(i<a.length∧a[i]?=some x)∨(a.length≤i∧b[i-a.length]?=some x):=by
 by_cases hi:i<a.length
 ·rw [List.getElem?_append_left hi] at h;exact .inl ⟨hi,h⟩
 ·rw [List.getElem?_append_right (by omega)] at h;exact .inr ⟨by omega,h⟩
theorem yZ {α:Type} {b:List α} {c:α} {i:Nat} {x:α} (h:(c::b)[i]?=some x):(i=0∧x=c)∨(∃ j,i=j+1∧b[j]?=some x):=by
 cases i with
 | zero=>simp at h;exact .inl ⟨rfl,h.symm⟩
 | succ j=>rw [List.getElem?_cons_succ] at h;exact .inr ⟨j,rfl,h⟩
theorem zDM {A:Int→Att} {q:Int} {x:Ins} (h:A (q+1)=A q) (ho:x.op=1∨x.op=8∨x.op=9∨x.op=10) (hB:∀ k∈(A q).B,k∈(A q).G) (hd:0≤(A q).d∧(A q).d≤11) (hR:∀ k∈(A q).G,0≤k∧k<10):Rule A q x :=
 ⟨fun _=>h,fun e=>by omega,fun e=>by omega,fun e=>by omega,fun e=>by omega,fun e=>by omega,fun e=>by omega,fun e=>by omega,fun e=>by omega,hB,hd,hR,by omega⟩
theorem zHf {A:Int→Att} {q:Int} (u v:Int) (late:Bool) (h1:A u=A q) (h2:A v=A q) (hB:∀ k∈(A q).B,k∈(A q).G) (hd:0≤(A q).d∧(A q).d≤11) (hR:∀ k∈(A q).G,0≤k∧k<10):Rule A q (spl u v late):=by
 have ho:(spl u v late).op=2:=by cases late <;> rfl
 refine ⟨fun e=>by omega,fun _=>?_,fun e=>by omega,fun e=>by omega,fun e=>by omega,fun e=>by omega,fun e=>by omega,fun e=>by omega,fun e=>by omega,hB,hd,hR,by omega⟩
 cases late
 ·exact ⟨h1,h2⟩
 ·exact ⟨h2,h1⟩
theorem zAC (A:Int→Att):∀ (r:Re) (p:Int) (a:Att) (m:Int),zC6 A r p a→r.inc m→r.fine→(∀ k∈a.G,k≤m)→(∀ k∈a.G,0≤k∧k<10)→(∀ k∈a.B,k∈a.G)→0≤a.d→a.d+r.deep≤11→0≤p →
  ∀ (i:Nat) (x:Ins),(r.code p a.d)[i]?=some x→Rule A (p+i) x
 | .eps,p,a,m,h,hi,hF,hG,hR,hB,h0,hd,hp,i,x,hx=>by simp [Re.code] at hx
 | .one s,p,a,m,h,hi,hF,hG,hR,hB,h0,hd,hp,i,x,hx=>by
  simp only [Re.deep] at hd
  rcases yZ hx with ⟨rfl,rfl⟩ | ⟨j,_,hj⟩
  ·simp only [Int.natCast_zero,Int.add_zero];exact zDM (h.2.trans h.1.symm) (by simp) (by rw [h.1];exact hB) (by rw [h.1];omega) (by rw [h.1];exact hR)
  ·simp at hj
 | .back s,p,a,m,h,hi,hF,hG,hR,hB,h0,hd,hp,i,x,hx=>by
  simp only [Re.deep] at hd
  rcases yZ hx with ⟨rfl,rfl⟩ | ⟨j,_,hj⟩
  ·simp only [Int.natCast_zero,Int.add_zero];exact zDM (h.2.trans h.1.symm) (by simp) (by rw [h.1];exact hB) (by rw [h.1];omega) (by rw [h.1];exact hR)
  ·simp at hj
 | .head,p,a,m,h,hi,hF,hG,hR,hB,h0,hd,hp,i,x,hx=>by
  simp only [Re.deep] at hd
  rcases yZ hx with ⟨rfl,rfl⟩ | ⟨j,_,hj⟩
  ·simp only [Int.natCast_zero,Int.add_zero];exact zDM (h.2.trans h.1.symm) (by simp) (by rw [h.1];exact hB) (by rw [h.1];omega) (by rw [h.1];exact hR)
  ·simp at hj
 | .tail,p,a,m,h,hi,hF,hG,hR,hB,h0,hd,hp,i,x,hx=>by
  simp only [Re.deep] at hd
  rcases yZ hx with ⟨rfl,rfl⟩ | ⟨j,_,hj⟩
  ·simp only [Int.natCast_zero,Int.add_zero];exact zDM (h.2.trans h.1.symm) (by simp) (by rw [h.1];exact hB) (by rw [h.1];omega) (by rw [h.1];exact hR)
  ·simp at hj
 | .cat u v,p,a,m,h,hi,hF,hG,hR,hB,h0,hd,hp,i,x,hx=>by
  simp only [Re.deep] at hd
  rcases zCz hx with ⟨_,hj⟩ | ⟨hl,hj⟩
  ·exact zAC A u p a m h.1 hi.1 hF.1 hG hR hB h0 (by omega) hp i x hj
  ·rw [Re.zH] at hl hj
   have:=zAC A v _ a m h.2 hi.2 hF.2 hG hR hB h0 (by omega) (by omega) _ x hj
   rw [show p+(u.len:Int)+((i-u.len:Nat):Int)=p+i by omega] at this;exact this
 | .alt u v,p,a,m,h,hi,hF,hG,hR,hB,h0,hd,hp,i,x,hx=>by
  simp only [Re.deep] at hd
  have hl1:=h.2.1.last
  have hl2:=h.2.2.last
  rcases yZ hx with ⟨rfl,rfl⟩ | ⟨j,rfl,hj⟩
  ·simp only [Int.natCast_zero,Int.add_zero]
   exact zHf (p+1) (p+u.len+2) false (h.2.1.first.trans h.1.symm) (h.2.2.first.trans h.1.symm) (by rw [h.1];exact hB) (by rw [h.1];omega) (by rw [h.1];exact hR)
  rcases zCz hj with ⟨_,hj⟩ | ⟨hl,hj⟩
  ·have:=zAC A u _ a m h.2.1 hi.1 hF.1 hG hR hB h0 (by omega) (by omega) _ x hj
   rw [show p+1+(j:Int)=p+((j+1:Nat):Int) by omega] at this;exact this
  ·rw [Re.zH] at hl hj
   rcases yZ hj with ⟨e,rfl⟩ | ⟨k,e,hk⟩
   ·have e2:p+((j+1:Nat):Int)=p+1+u.len:=by omega
    rw [e2]
    refine ⟨fun e=>by simp at e,fun e=>by simp at e,fun _=>?_,fun e=>by simp at e,fun e=>by simp at e,fun e=>by simp at e,fun e=>by simp at e,fun e=>by simp at e,fun e=>by simp at e,by rw [hl1];exact hB,by rw [hl1];omega,by rw [hl1];exact hR,by simp⟩
    rw [hl1];exact hl2
   ·have:=zAC A v _ a m h.2.2 hi.2 hF.2 hG hR hB h0 (by omega) (by omega) _ x hk
    rw [show p+(u.len:Int)+2+(k:Int)=p+((j+1:Nat):Int) by omega] at this;exact this
 | .cap k u,p,a,m,h,hi,hF,hG,hR,hB,h0,hd,hp,i,x,hx=>by
  simp only [Re.deep] at hd
  have hR':∀ z∈k::a.G,0≤z∧z<10:=fun z hz=>by
   have hk:=hF.1
   rcases List.mem_cons.1 hz with rfl | hz
   ·omega
   ·exact hR z hz
  have hl1:=h.2.1.last
  have hf:=h.2.1.first
  rcases yZ hx with ⟨rfl,rfl⟩ | ⟨j,rfl,hj⟩
  ·simp only [Int.natCast_zero,Int.add_zero]
   refine ⟨fun e=>by simp at e,fun e=>by simp at e,fun e=>by simp at e,fun e=>by simp at e,fun e=>by simp at e,fun _=>⟨by rw [h.1];exact hf,?_⟩,fun e=>by simp at e,fun e=>by simp at e,fun e=>by simp at e,by rw [h.1];exact hB,by rw [h.1];omega,by rw [h.1];exact hR,by simp⟩
   rw [h.1];intro hk;have:=hG _ hk;have:=hi.1;simp at *;omega
  rcases zCz hj with ⟨_,hj⟩ | ⟨hl,hj⟩
  ·have:=zAC A u _ _ k h.2.1 hi.2 hF.2 (fun z hz=>by
    rcases List.mem_cons.1 hz with rfl | hz
    ·exact Int.le_refl _
    ·have:=hG z hz;have:=hi.1;omega) hR' (fun z hz=>List.mem_cons_of_mem _ (hB z hz)) h0 (by simpa using hd) (by omega) _ x hj
   rw [show p+1+(j:Int)=p+((j+1:Nat):Int) by omega] at this;exact this
  ·rw [Re.zH] at hl hj
   rcases yZ hj with ⟨e,rfl⟩ | ⟨k',e,hk⟩
   ·have e2:p+((j+1:Nat):Int)=p+1+u.len:=by omega
    rw [e2]
    refine ⟨fun e=>by simp at e,fun e=>by simp at e,fun e=>by simp at e,fun e=>by simp at e,fun e=>by simp at e,fun e=>by simp at e,fun _=>⟨a.G,by rw [hl1],?_⟩,fun e=>by simp at e,fun e=>by simp at e,by rw [hl1];exact fun z hz=>List.mem_cons_of_mem _ (hB z hz),by rw [hl1];dsimp only;omega,by rw [hl1];exact hR',by simp⟩
    rw [hl1,show p+1+(u.len:Int)+1=p+u.len+2 by omega,h.2.2]
   ·simp at hk
 | .sub s u,p,a,m,h,hi,hF,hG,hR,hB,h0,hd,hp,i,x,hx=>by
  simp only [Re.deep] at hd
  have hl1:=h.2.1.last
  have hf:=h.2.1.first
  rcases yZ hx with ⟨rfl,rfl⟩ | ⟨j,rfl,hj⟩
  ·simp only [Int.natCast_zero,Int.add_zero]
   refine ⟨fun e=>by simp at e,fun e=>by simp at e,fun e=>by simp at e,fun e=>by simp at e,fun e=>by simp at e,fun e=>by simp at e,fun e=>by simp at e,fun _=>⟨by rw [h.1];exact hf,by rw [h.1];exact h.2.2,?_,by dsimp only;omega⟩,fun e=>by simp at e,by rw [h.1];exact hB,by rw [h.1];omega,by rw [h.1];exact hR,by simp⟩
   dsimp only
   rw [show p+(u.len:Int)+2-1=p+1+u.len by omega,hl1,h.1]
  rcases zCz hj with ⟨_,hj⟩ | ⟨hl,hj⟩
  ·have:=zAC A u _ _ m h.2.1 hi hF.2 hG hR (fun z hz=>hz) h0 (by simpa using hd) (by omega) _ x hj
   rw [show p+1+(j:Int)=p+((j+1:Nat):Int) by omega] at this;exact this
  ·rw [Re.zH] at hl hj
   rcases yZ hj with ⟨e,rfl⟩ | ⟨k',e,hk⟩
   ·have e2:p+((j+1:Nat):Int)=p+1+u.len:=by omega
    rw [e2]
    refine ⟨fun e=>by simp at e,fun e=>by simp at e,fun e=>by simp at e,fun e=>by simp at e,fun e=>by simp at e,fun e=>by simp at e,fun e=>by simp at e,fun e=>by simp at e,fun _=>?_,by rw [hl1];exact fun z hz=>hz,by rw [hl1];dsimp only;omega,by rw [hl1];exact hR,by simp⟩
    rw [hl1];dsimp only;omega
   ·simp at hk
 | .opt late u,p,a,m,h,hi,hF,hG,hR,hB,h0,hd,hp,i,x,hx=>by
  simp only [Re.deep] at hd
  have hl1:=h.2.last
  rcases yZ hx with ⟨rfl,rfl⟩ | ⟨j,rfl,hj⟩
  ·simp only [Int.natCast_zero,Int.add_zero]
   refine zHf (p+1) (p+u.len+1) late (h.2.first.trans h.1.symm) ?_ (by rw [h.1];exact hB) (by rw [h.1];omega) (by rw [h.1];exact hR)
   rw [show p+(u.len:Int)+1=p+1+u.len by omega,hl1,h.1]
  ·have:=zAC A u _ a m h.2 hi hF hG hR hB h0 (by omega) (by omega) _ x hj
   rw [show p+1+(j:Int)=p+((j+1:Nat):Int) by omega] at this;exact this
 | .loop late u,p,a,m,h,hi,hF,hG,hR,hB,h0,hd,hp,i,x,hx=>by
  simp only [Re.deep] at hd
  have hl1:=h.2.2.1.last
  have hf:=h.2.2.1.first
  rcases yZ hx with ⟨rfl,rfl⟩ | ⟨j,rfl,hj⟩
  ·simp only [Int.natCast_zero,Int.add_zero]
   exact zHf (p+1) (p+u.len+3) late (h.2.1.trans h.1.symm) (h.2.2.2.trans h.1.symm) (by rw [h.1];exact hB) (by rw [h.1];omega) (by rw [h.1];exact hR)
  rcases yZ hj with ⟨rfl,rfl⟩ | ⟨j,rfl,hj⟩
  ·simp only [Nat.zero_add,Int.natCast_one]
   refine ⟨fun e=>by simp at e,fun e=>by simp at e,fun e=>by simp at e,fun _=>⟨by rw [h.2.1],by rw [h.2.1,show p+1+1=p+2 by omega];exact hf,by dsimp only;omega⟩,fun e=>by simp at e,fun e=>by simp at e,fun e=>by simp at e,fun e=>by simp at e,fun e=>by simp at e,by rw [h.2.1];exact hB,by rw [h.2.1];omega,by rw [h.2.1];exact hR,by simp⟩
  rcases zCz hj with ⟨_,hj⟩ | ⟨hl,hj⟩
  ·have:=zAC A u _ _ m h.2.2.1 hi hF hG hR hB (by dsimp only;omega) (by dsimp only;omega) (by omega) _ x hj
   rw [show p+2+(j:Int)=p+((j+1+1:Nat):Int) by omega] at this;exact this
  ·rw [Re.zH] at hl hj
   rcases yZ hj with ⟨e,rfl⟩ | ⟨k',e,hk⟩
   ·have e2:p+((j+1+1:Nat):Int)=p+2+u.len:=by omega
    rw [e2]
    refine ⟨fun e=>by simp at e,fun e=>by simp at e,fun e=>by simp at e,fun e=>by simp at e,fun _=>⟨?_,?_,by dsimp only;omega,by dsimp only;omega⟩,fun e=>by simp at e,fun e=>by simp at e,fun e=>by simp at e,fun e=>by simp at e,by rw [hl1];exact hB,by rw [hl1];dsimp only;omega,by rw [hl1];exact hR,by simp⟩
    ·rw [hl1,h.1];dsimp only;rw [Int.add_sub_cancel]
    ·rw [hl1];dsimp only;omega
   ·simp at hk
theorem yL (A:Int→Att):∀ (r:Re) (p d:Int) (a:Att),zC6 A r p a→∀ i:Nat,i≤r.len→(A (p+i)).d+((r.code p d).take i).countP vD=a.d+((r.code p d).take i).countP yD
 | .eps,p,d,a,h,i,hi=>by
  have e:i=0:=by simp [Re.len] at hi;exact hi
  subst e
  have h':A p=a:=h
  simp [h',Re.code]
 | .one s,p,d,a,h,i,hi=>zPj A p a h.1 h.2 ⟨1,0,0,s⟩ rfl rfl i hi
 | .back s,p,d,a,h,i,hi=>zPj A p a h.1 h.2 ⟨8,s,0,[]⟩ rfl rfl i hi
 | .head,p,d,a,h,i,hi=>zPj A p a h.1 h.2 ⟨9,0,0,[]⟩ rfl rfl i hi
 | .tail,p,d,a,h,i,hi=>zPj A p a h.1 h.2 ⟨10,0,0,[]⟩ rfl rfl i hi
 | .cat u v,p,d,a,h,i,hi=>by
  simp only [Re.len] at hi
  rw [Re.code,qV,qV,Re.zH]
  by_cases hl:i≤u.len
  ·have:=yL A u p d a h.1 i hl
   rw [show i-u.len=0 by omega];simpa using this
  ·have h1:=yL A u p d a h.1 u.len (Nat.le_refl _)
   have h2:=yL A v (p+u.len) d a h.2 (i-u.len) (by omega)
   rw [show p+(u.len:Int)+((i-u.len:Nat):Int)=p+i by omega] at h2
   rw [h.1.last,List.take_of_length_le (by rw [Re.zH];omega)] at h1
   rw [List.take_of_length_le (by rw [Re.zH];omega)]
   omega
 | .alt u v,p,d,a,h,i,hi=>by
  simp only [Re.len] at hi
  rw [Re.code,kC,kC,qV,qV,kC,kC,Re.zH]
  have h1:=yL A u (p+1) d a h.2.1 u.len (Nat.le_refl _)
  rw [h.2.1.last,List.take_of_length_le (by rw [Re.zH];omega)] at h1
  simp only [yD,vD] at *
  simp only [show ((2:Int)=4)=False by simp,show ((2:Int)=5)=False by simp,show ((3:Int)=4)=False by simp,show ((3:Int)=5)=False by simp,decide_false,Bool.false_eq_true,and_false,if_false,Nat.zero_add]
  by_cases h0:i=0
  ·subst h0;simp [h.1]
  by_cases hl:i≤u.len+1
  ·have:=yL A u (p+1) d a h.2.1 (i-1) (by omega)
   rw [show p+1+((i-1:Nat):Int)=p+i by omega] at this
   rw [show i-1-u.len-1=0 by omega];simpa using this
  ·have h2:=yL A v (p+u.len+2) d a h.2.2 (i-u.len-2) (by omega)
   rw [show p+(u.len:Int)+2+((i-u.len-2:Nat):Int)=p+i by omega] at h2
   rw [List.take_of_length_le (by rw [Re.zH];omega),show i-1-u.len-1=i-u.len-2 by omega]
   omega
 | .cap k u,p,d,a,h,i,hi=>by
  simp only [Re.len] at hi
  exact zNg A u p d a _ h.1 h.2.1 h.2.2 rfl (yL A u (p+1) d _ h.2.1) ⟨6,k,0,[]⟩ ⟨7,k,0,[]⟩ rfl rfl rfl rfl i hi
 | .sub s u,p,d,a,h,i,hi=>by
  simp only [Re.len] at hi
  exact zNg A u p d a _ h.1 h.2.1 h.2.2 rfl (yL A u (p+1) d _ h.2.1) ⟨11,s,p+u.len+2,[]⟩ ⟨12,0,0,[]⟩ rfl rfl rfl rfl i hi
 | .opt late u,p,d,a,h,i,hi=>by
  simp only [Re.len] at hi
  rw [Re.code,kC,kC]
  have e1:yD (spl (p+1) (p+u.len+1) late)=false:=by cases late <;> rfl
  have e2:vD (spl (p+1) (p+u.len+1) late)=false:=by cases late <;> rfl
  rw [e1,e2]
  by_cases h0:i=0
  ·subst h0;simp [h.1]
  ·have:=yL A u (p+1) d a h.2 (i-1) (by omega)
   rw [show p+1+((i-1:Nat):Int)=p+i by omega] at this
   simpa using this
 | .loop late u,p,d,a,h,i,hi=>by
  simp only [Re.len] at hi
  rw [Re.code,kC,kC,kC,kC,qV,qV,kC,kC,Re.zH]
  have e1:yD (spl (p+1) (p+u.len+3) late)=false:=by cases late <;> rfl
  have e2:vD (spl (p+1) (p+u.len+3) late)=false:=by cases late <;> rfl
  rw [e1,e2]
  have h1:=yL A u (p+2) (d+1) _ h.2.2.1 u.len (Nat.le_refl _)
  rw [h.2.2.1.last,List.take_of_length_le (by rw [Re.zH];omega)] at h1
  have f1:yD ⟨4,d,0,[]⟩=true:=rfl
  have f2:vD ⟨4,d,0,[]⟩=false:=rfl
  have f3:yD ⟨5,p,d,[]⟩=false:=rfl
  have f4:vD ⟨5,p,d,[]⟩=true:=rfl
  rw [f1,f2,f3,f4]
  by_cases h0:i=0
  ·subst h0;simp [h.1]
  by_cases h00:i=1
  ·subst h00;have:=h.2.1;simp [this]
  by_cases hl:i≤u.len+2
  ·have:=yL A u (p+2) (d+1) _ h.2.2.1 (i-2) (by omega)
   rw [show p+2+((i-2:Nat):Int)=p+i by omega] at this
   dsimp only at this
   rw [show i-1-1-u.len-1=0 by omega,show i-1-1=i-2 by omega,show i-2-u.len=0 by omega]
   simp only [Bool.false_eq_true,and_false,if_false,Nat.lt_irrefl,and_true,List.take_zero,List.countP_nil]
   rw [if_pos (by omega)]
   omega
  ·have e:i=u.len+3:=by omega
   subst e
   have:=h.2.2.2
   rw [show p+((u.len+3:Nat):Int)=p+u.len+3 by omega,this]
   rw [List.take_of_length_le (l:=u.code (p+2) (d+1)) (by rw [Re.zH];omega)]
   simp only [Bool.false_eq_true,and_false,if_false,and_true,List.take_nil,List.countP_nil]
   rw [if_pos (by omega),if_pos (by omega)]
   dsimp only at h1
   omega
where
 zPj (A:Int→Att) (p:Int) (a:Att) (h1:A p=a) (h2:A (p+1)=a) (x:Ins) (e1:yD x=false) (e2:vD x=false) (i:Nat) (hi:i≤1):(A (p+i)).d+([x].take i).countP vD=a.d+([x].take i).countP yD:=by
  rw [kC,kC,e1,e2]
  by_cases h0:i=0
  ·subst h0;simp [h1]
  ·have:i=1:=by omega
   subst this;simp [h2]
 zNg (A:Int→Att) (u:Re) (p d:Int) (a b:Att) (h1:A p=a) (h2:zC6 A u (p+1) b) (h3:A (p+u.len+2)=a) (hb:b.d=a.d) (ih:∀ i:Nat,i≤u.len→(A (p+1+i)).d+((u.code (p+1) d).take i).countP vD=b.d+((u.code (p+1) d).take i).countP yD) (x y:Ins) (e1:yD x=false) (e2:vD x=false) (e3:yD y=false) (e4:vD y=false) (i:Nat) (hi:i≤u.len+2) :
   (A (p+i)).d+((x::(u.code (p+1) d++[y])).take i).countP vD=a.d+((x::(u.code (p+1) d++[y])).take i).countP yD:=by
  rw [kC,kC,qV,qV,kC,kC,Re.zH,e1,e2,e3,e4]
  have l1:=ih u.len (Nat.le_refl _)
  rw [h2.last,List.take_of_length_le (by rw [Re.zH];omega)] at l1
  by_cases h0:i=0
  ·subst h0;simp [h1]
  by_cases hl:i≤u.len+1
  ·have:=ih (i-1) (by omega)
   rw [show p+1+((i-1:Nat):Int)=p+i by omega,hb] at this
   simpa using this
  ·have e:i=u.len+2:=by omega
   subst e
   rw [show p+((u.len+2:Nat):Int)=p+u.len+2 by omega,h3,List.take_of_length_le (by rw [Re.zH];omega)]
   simp
   omega
structure Known (c:List Ins) (A:Int→Att):Prop where
 ok:codeOk c
 rule:∀ q,q+1<c.length→Rule A q (c.getD q jB)
 last:(c.getD (c.length-1) jB).op=13
 pos:0<c.length
 start:A 0=⟨[],0,0,[]⟩
 stop:A ((c.length-1:Nat):Int)=⟨[],0,0,[]⟩
 loops:∀ q:Nat,q<c.length→(A q).d=kS c q
 len:c.length≤300
theorem zIu (p:ByteArray) (h:(jQ p).1=0):∃ A f,Known (kR p).1 A∧zC6 A f 0 ⟨[],0,0,[]⟩∧(kR p).1=f.code 0 0++[⟨13,0,0,[]⟩]:=by
 have ht:(tokens p).2.1=0:=by
  unfold jQ at h
  by_cases h0:(tokens p).2.1=0
  ·exact h0
  ·rw [if_pos h0] at h;exact h
 have hv:=zCu p ht
 obtain ⟨f,hw,e,hfi,hde,hle,hc,_⟩:=zBt p h
 have hN:zHL (tokens p).1:=fun j hj=>(hv.1 j hj).2.2
 have hnd:=zFx (tokens p).1 [] (by simpa using hN)
 rw [e] at hnd
 have hinc:f.re.inc 0:=zD7 (zDL f 0 hw (by simpa [captures] using hnd))
 obtain ⟨A,hA⟩:=zAA f.re 0 ⟨[],0,0,[]⟩
 have hlen:(kR p).1.length=f.re.len+1:=by rw [hc,List.length_append,Re.zH];rfl
 refine ⟨A,f.re,⟨by rw [hc];exact zFq f.re hfi hde,fun q hq=>?_,?_,by omega,hA.first,?_,fun q hq=>?_,by omega⟩,hA,hc⟩
 ·have:=zAC A f.re 0 ⟨[],0,0,[]⟩ 0 hA hinc hfi (fun k hk=>by simp at hk) (fun k hk=>by simp at hk) (fun k hk=>hk) (by dsimp only;omega) (by dsimp only;omega) (by omega) q ((kR p).1.getD q jB) (by
   rw [hc,List.getD_eq_getElem?_getD,List.getElem?_append_left (by rw [Re.zH];omega)]
   dsimp only
   rw [List.getElem?_eq_getElem (by rw [Re.zH];omega)];rfl)
  rw [Int.zero_add] at this;exact this
 ·rw [hlen,hc,List.getD_eq_getElem?_getD,List.getElem?_append_right (by rw [Re.zH];omega),Re.zH]
  simp
 ·have:=hA.last
  rw [hlen,show ((f.re.len+1-1:Nat):Int)=0+f.re.len by omega];exact this
 ·have h1:=yL A f.re 0 0 _ hA q (by omega)
  have h2:=zGC f.re _ hc q
  rw [hc] at h2
  rw [qV,qV] at h2
  rw [Re.zH,show q-f.re.len=0 by omega] at h2
  rw [Int.zero_add] at h1
  rw [hc]
  dsimp only at h1
  simp only [List.take_zero,List.countP_nil] at h2
  omega
theorem zB7 (p:ByteArray) (h:(jQ p).1=0):∃ A,Known (kR p).1 A:=by
 obtain ⟨A,f,hK,_⟩:=zIu p h
 exact ⟨A,hK⟩
theorem zFy (E:Env) (hc:codeOk E.c) (hc0:0<E.c.length) (budget:Int):∀ (f p n:Nat) (kn:List Bool) (room:Int),(0≤room∧room≤5000)→p+f≤E.t.size+1→(search E budget f p n kn room).1.at'.length=20
 | 0,p,n,kn,room,_,_=>by simp [search,nowhere]
 | f+1,p,n,kn,room,hr,hpf=>by
  have hg:=yC E hc n n (kH p) kn room (Nat.le_refl _) (zAm _ _ p hc0 (by omega)) hr
  rw [search]
  split
  ·rfl
  split
  ·exact zDg _ _ hg.2.2.2.1
  ·exact zFy E hc hc0 budget f (p+1) _ _ _ hg.2.2.1 (by omega)
theorem zKB {c:List Ins} (hc:codeOk c) (hc0:0<c.length) (t:ByteArray) (policy mask room budget:Int) (hr:0≤room∧room≤5000):∀ (F frm:Nat) (used:Int) (l:List Fnd),used≤budget→l.length≤frm→frm≤t.size+1→(∀ f∈l,f.at'.length=20) →
  (∀ f∈(yU c t policy mask room budget F frm used l).1,f.at'.length=20)∧(yU c t policy mask room budget F frm used l).1.length≤t.size+1
 | 0,frm,used,l,_,h2,h3,h4=>by rw [yU];exact ⟨h4,by show l.length≤_;omega⟩
 | F+1,frm,used,l,h1,h2,h3,h4=>by
  rw [yU]
  split
  ·exact ⟨h4,by show l.length≤_;omega⟩
  rename_i hf
  split
  ·exact ⟨fun f hf=>by simp at hf,by simp⟩
  rename_i ho
  split
  ·exact ⟨h4,by show l.length≤_;omega⟩
  rename_i hok
  have hin:=zDC (zDh c t policy mask) hc hc0 (budget-used) (t.size+1-frm) frm (budget-used).toNat (List.replicate (c.length*(t.size+1)*12) false) room (by show frm+(t.size+1-frm)≤t.size+1;omega) hr (by omega) (by simpa [zX] using ho)
  have hl:=zFy (zDh c t policy mask) hc hc0 (budget-used) (t.size+1-frm) frm (budget-used).toNat (List.replicate (c.length*(t.size+1)*12) false) room hr (by show frm+(t.size+1-frm)≤t.size+1;omega)
  have hin':(0≤(zX c t policy mask room (budget-used) frm).1.steps∧(zX c t policy mask room (budget-used) frm).1.steps≤budget-used)∧((zX c t policy mask room (budget-used) frm).1.ok=true→∃ a b:Nat,(zX c t policy mask room (budget-used) frm).1.at'.getD 0 0=(a:Int)∧(zX c t policy mask room (budget-used) frm).1.at'.getD 1 0=(b:Int)∧frm≤a∧a≤b∧b≤t.size):=hin
  have hl':(zX c t policy mask room (budget-used) frm).1.at'.length=20:=hl
  clear hin hl
  generalize zX c t policy mask room (budget-used) frm=S at *
  obtain ⟨a,b,ha,hb,h5,h6,h7⟩:=hin'.2 (by simpa using hok)
  have hn:frm+1≤qX S.1∧qX S.1≤t.size+1:=by
   unfold qX
   rw [ha,hb]
   split <;> omega
  refine zKB hc hc0 t policy mask room budget hr F _ _ _ (by have:=hin'.1;omega) (by rw [List.length_append];simp;omega) hn.2 (fun f hf=>?_)
  rcases List.mem_append.1 hf with hf | hf
  ·exact h4 f hf
  ·rw [List.mem_singleton.1 hf];exact hl'
theorem zHg (p t:ByteArray) (policy mask room budget:Int):(∀ f∈(jI p t policy mask room budget).1,f.at'.length=20)∧(jI p t policy mask room budget).1.length≤300:=by
 unfold jI
 split
 ·exact ⟨fun f hf=>by simp at hf,by simp⟩
 rename_i h0
 split
 ·exact ⟨fun f hf=>by simp at hf,by simp⟩
 rename_i hm
 have hc:(jQ p).1=0:=by
  have h0:(kR p).2=0:=by simpa using h0
  unfold kR at h0
  split at h0
  ·rename_i x;exact absurd h0 x
  ·rename_i x;simpa using x
 obtain ⟨A,hK⟩:=zB7 p hc
 have hm:zAx t.size 0 policy mask room budget=0:=by simpa using hm
 unfold zAx at hm
 split at hm
 ·omega
 split at hm
 ·rename_i h1 h2
  obtain ⟨_,h3,h4,h5,h6,h7,h8⟩:=h2
  have:=zKB hK.ok hK.pos t policy mask room budget ⟨h5,h6⟩ (t.size+2) 0 0 [] h7 (by simp) (by omega) (fun f hf=>by simp at hf)
  exact ⟨this.1,by have:=this.2;omega⟩
 ·omega
end Mt
