import Derived.Test.YtebpgfodelggoabC00
import Derived.Test.YtebpgfodelggoabC02
import Derived.Test.YtebpgfodelggoabC06
set_option linter.unusedVariables false
set_option linter.unusedSimpArgs false
namespace Mt
structure Stands (p p':ByteArray) (s:Int):Prop where
 lo:0≤s
 hi:(p.size:Int)+s<p'.size
 at':∀ j:Int,0≤j→j<p.size→atB p' (j+s)=atB p j
 stop:atB p' (p.size+s)=41
section
variable {p p':ByteArray} {s:Int}
theorem Stands.cases (h:Stands p p' s) (j:Int) (h0:0≤j) (h1:j≤p.size):(j<p.size∧atB p' (j+s)=atB p j∧0≤atB p j)∨(j=p.size∧atB p' (j+s)=41∧atB p j=-1):=by
 by_cases e:j<p.size
 ·exact Or.inl ⟨e,h.at' j h0 e,by rw [atB_in p j h0 e];omega⟩
 ·have:j=p.size:=by omega
  subst this
  exact Or.inr ⟨rfl,h.stop,atB_out p _ (Or.inr (Int.le_refl _))⟩
def mv (s:Int) (t:Tok):Tok:={ t with frm:=t.frm+s,to:=t.to+s }
end
structure PA where
 tok:PT
 num:Int
 rep:PT
 body:Int
 home:Int
 next:Int
structure PS where
 first:Int
 next:Int
structure PB where
 seqs:List PS
 atoms:List PA
 seq:Nat
 last:Int
 opn:List Nat
 groups:Nat
 clo:List Bool
def ps0:PS:=⟨-1,-1⟩
def pa0:PA:=⟨pt0,0,pt0,-1,0,-1⟩
def PB.sAt (b:PB) (k:Nat):PS:=b.seqs.getD k ps0
def PB.aAt (b:PB) (k:Nat):PA:=b.atoms.getD k pa0
def PB.start:PB:=⟨[ps0],[],0,-1,[],0,List.replicate 10 false⟩
def PB.addAtom (b:PB) (t:PT):PB :=
 if b.last=-1 then { b with atoms:=b.atoms++[(⟨t,0,pt0,-1,b.seq,-1⟩:PA)],seqs:=b.seqs.set b.seq ⟨b.atoms.length,(b.sAt b.seq).next⟩,last:=b.atoms.length }
 else { b with atoms:=(b.atoms++[(⟨t,0,pt0,-1,b.seq,-1⟩:PA)]).set b.last.toNat { b.aAt b.last.toNat with next:=b.atoms.length },last:=b.atoms.length }
def PB.bar (b:PB):PB:={ b with seqs:=(b.seqs++[ps0]).set b.seq ⟨(b.sAt b.seq).first,b.seqs.length⟩,seq:=b.seqs.length,last:=-1 }
def PB.number (b:PB) (g:Nat) (cap:Bool):PB:=if cap then { b with groups:=b.groups+1,atoms:=b.atoms.set g { b.aAt g with num:=(b.groups:Int)+1 } } else b
def PB.into (b:PB) (g:Nat):PB:={ b with opn:=b.opn++[g],seqs:=b.seqs++[ps0],atoms:=b.atoms.set g { b.aAt g with body:=b.seqs.length },seq:=b.seqs.length,last:=-1 }
def PB.opening (b:PB) (t:PT):PB:=((b.addAtom t).number b.atoms.length (decide (t.group=1))).into b.atoms.length
def PB.top (b:PB):Nat:=b.opn.getLastD 0
def PB.close (b:PB):PB:={ b with opn:=b.opn.dropLast,clo:=b.clo.set (b.aAt b.top).num.toNat true,seq:=(b.aAt b.top).home.toNat,last:=b.top }
def PB.repeated (b:PB) (t:PT):PB:={ b with atoms:=b.atoms.set b.last.toNat { b.aAt b.last.toNat with rep:=t } }
def PB.next (b:PB) (t:PT):PB :=
 if t.kind=1 then b.bar else if t.kind=2 then b.opening t else if t.kind=3 then b.close else if t.kind=4 then b.repeated t else b.addAtom t
def PB.err (b:PB) (t:PT):Int :=
 if t.kind=1 then 0
 else if t.kind=2 then (if 10≤b.opn.length then 8 else if t.group=1∧9≤b.groups then 9 else 0)
 else if t.kind=3 then (if b.opn.length=0 then 10 else 0)
 else if t.kind=4 then (if b.last=-1∨(b.aAt b.last.toNat).rep.kind≠0 then 7 else 0)
 else if t.kind=6 then (if (b.groups:Int)<t.number∨b.clo.getD t.number.toNat false=false then 6 else 0)
 else 0
def PB.run (b:PB) (l:List Tok):PB:=l.foldl (fun b t=>b.next (ptok t)) b
theorem PB.run_nil (b:PB):b.run []=b:=rfl
theorem PB.run_cons (b:PB) (t:Tok) (l:List Tok):b.run (t::l)=(b.next (ptok t)).run l:=rfl
theorem PB.run_app (b:PB) (l m:List Tok):b.run (l++m)=(b.run l).run m:=by simp [PB.run]
theorem getD_set' {α:Type} (l:List α) (i j:Nat) (v d:α):(l.set i v).getD j d=if i=j∧j<l.length then v else l.getD j d:=by
 rw [List.getD_eq_getElem?_getD,List.getElem?_set,List.getD_eq_getElem?_getD]
 by_cases h:i=j
 ·subst h
  by_cases h2:i<l.length
  ·simp [h2]
  ·simp [h2]
 ·simp [h]
theorem getD_app {α:Type} (l:List α) (x:α) (j:Nat) (d:α):(l++[x]).getD j d=if j=l.length then x else l.getD j d:=by
 rw [List.getD_eq_getElem?_getD,List.getD_eq_getElem?_getD]
 by_cases h:j<l.length
 ·rw [List.getElem?_append_left h,if_neg (by omega)]
 ·rw [List.getElem?_append_right (by omega)]
  by_cases h2:j=l.length
  ·subst h2;simp
  ·rw [if_neg h2,List.getElem?_eq_none (by simp;omega),List.getElem?_eq_none (by omega)]
def rp (r:Option Tok):PT:=match r with
 | none=>pt0
 | some q=>ptok q
def standsF (b:PB) (lo slo:Nat):Fs→Int→Int→Prop
 | .nil,a,n=>a=-1∧n=-1
 | .bar t r,a,n=>a=-1∧∃ k:Nat,n=k∧slo≤k∧k<b.seqs.length∧standsF b lo slo r (b.sAt k).first (b.sAt k).next
 | .leaf t r s,a,n=>∃ k:Nat,a=k∧lo≤k∧k<b.atoms.length∧(b.aAt k).tok=ptok t∧(b.aAt k).rep=rp r∧(b.aAt k).body=-1∧standsF b lo slo s (b.aAt k).next n
 | .grp t i c r s,a,n=>∃ k:Nat,a=k∧lo≤k∧k<b.atoms.length∧(b.aAt k).tok=ptok t∧(b.aAt k).rep=rp r∧(b.aAt k).num=(if isCap t then t.n else 0) ∧
   (∃ q:Nat,(b.aAt k).body=q∧slo≤q∧q<b.seqs.length∧standsF b lo slo i (b.sAt q).first (b.sAt q).next)∧standsF b lo slo s (b.aAt k).next n
theorem standsF_mono {b c:PB} {lo slo lo' slo':Nat} (hl:lo'≤lo) (hs:slo'≤slo) (h1:∀ k,lo≤k→k<b.atoms.length→c.aAt k=b.aAt k) (h2:∀ k,slo≤k→k<b.seqs.length→c.sAt k=b.sAt k) (h3:b.atoms.length≤c.atoms.length) (h4:b.seqs.length≤c.seqs.length) :
  ∀ (f:Fs) (a n:Int),standsF b lo slo f a n→standsF c lo' slo' f a n
 | .nil,a,n,h=>h
 | .bar t r,a,n,⟨ha,k,hn,h5,h6,h7⟩=>⟨ha,k,hn,by omega,by omega,by rw [h2 k h5 h6];exact standsF_mono hl hs h1 h2 h3 h4 r _ _ h7⟩
 | .leaf t r s,a,n,⟨k,ha,h5,h6,h7,h8,h9,h10⟩=>⟨k,ha,by omega,by omega,by rw [h1 k h5 h6];exact h7,by rw [h1 k h5 h6];exact h8,by rw [h1 k h5 h6];exact h9,by rw [h1 k h5 h6];exact standsF_mono hl hs h1 h2 h3 h4 s _ _ h10⟩
 | .grp t i c' r s,a,n,⟨k,ha,h5,h6,h7,h8,h9,⟨q,g1,g2,g3,g4⟩,h10⟩ =>
  ⟨k,ha,by omega,by omega,by rw [h1 k h5 h6];exact h7,by rw [h1 k h5 h6];exact h8,by rw [h1 k h5 h6];exact h9,
   ⟨q,by rw [h1 k h5 h6];exact g1,by omega,by omega,by rw [h2 q g2 g3];exact standsF_mono hl hs h1 h2 h3 h4 i _ _ g4⟩,by rw [h1 k h5 h6];exact standsF_mono hl hs h1 h2 h3 h4 s _ _ h10⟩
structure PB.At (b:PB):Prop where
 sq:b.seq<b.seqs.length
 la:b.last=-1∨∃ k:Nat,b.last=k∧k<b.atoms.length∧(b.aAt k).next=-1
 fi:b.last=-1→(b.sAt b.seq).first=-1
 nx:(b.sAt b.seq).next=-1
structure PB.Did (b c:PB) (f:Fs):Prop where
 opn:c.opn=b.opn
 al:b.atoms.length≤c.atoms.length
 sl:b.seqs.length≤c.seqs.length
 at':∀ k,k<b.atoms.length→(k:Int)≠b.last→c.aAt k=b.aAt k
 la:∀ k:Nat,b.last=k→∃ x,c.aAt k={ b.aAt k with next:=x }
 st:∀ k,k<b.seqs.length→k≠b.seq→c.sAt k=b.sAt k
 fi:b.last≠-1→(c.sAt b.seq).first=(b.sAt b.seq).first
 gr:(c.groups:Int)=b.groups+captures f.flat
 stands:standsF c b.atoms.length b.seqs.length f (if b.last=-1 then (c.sAt b.seq).first else (c.aAt b.last.toNat).next) (c.sAt b.seq).next
theorem ptok_kind (t:Tok):(ptok t).kind=kindP t.kind:=rfl
theorem addAtom_at (b:PB) (t:PT) (h:b.At):(b.addAtom t).At∧(b.addAtom t).atoms.length=b.atoms.length+1∧(b.addAtom t).seqs.length=b.seqs.length∧(b.addAtom t).last=b.atoms.length∧(b.addAtom t).seq=b.seq∧(b.addAtom t).opn=b.opn∧(b.addAtom t).groups=b.groups ∧
  (b.addAtom t).aAt b.atoms.length=⟨t,0,pt0,-1,b.seq,-1⟩∧(∀ k,k<b.atoms.length→(k:Int)≠b.last→(b.addAtom t).aAt k=b.aAt k)∧(∀ k:Nat,b.last=k→(b.addAtom t).aAt k={ b.aAt k with next:=b.atoms.length }) ∧
  (∀ k,k≠b.seq→(b.addAtom t).sAt k=b.sAt k)∧((b.addAtom t).sAt b.seq).next=-1∧(b.last≠-1→(b.addAtom t).sAt b.seq=b.sAt b.seq)∧(b.last=-1→((b.addAtom t).sAt b.seq).first=b.atoms.length):=by
 obtain ⟨h1,h2,h3,h4⟩:=h
 unfold PB.addAtom
 by_cases hl:b.last=-1
 ·rw [if_pos hl]
  have ea:∀ k,({ b with atoms:=b.atoms++[(⟨t,0,pt0,-1,b.seq,-1⟩:PA)],seqs:=b.seqs.set b.seq ⟨b.atoms.length,(b.sAt b.seq).next⟩,last:=b.atoms.length }:PB).aAt k=if k=b.atoms.length then ⟨t,0,pt0,-1,b.seq,-1⟩ else b.aAt k:=fun k=>getD_app _ _ _ _
  have es:∀ k,({ b with atoms:=b.atoms++[(⟨t,0,pt0,-1,b.seq,-1⟩:PA)],seqs:=b.seqs.set b.seq ⟨b.atoms.length,(b.sAt b.seq).next⟩,last:=b.atoms.length }:PB).sAt k=if b.seq=k∧k<b.seqs.length then ⟨b.atoms.length,(b.sAt b.seq).next⟩ else b.sAt k:=fun k=>getD_set' _ _ _ _ _
  refine ⟨⟨by simp;exact h1,Or.inr ⟨b.atoms.length,rfl,by simp,by rw [ea,if_pos rfl]⟩,fun e=>by simp only at e;omega,by rw [es,if_pos ⟨rfl,h1⟩];exact h4⟩,by simp,by simp,rfl,rfl,rfl,rfl,by rw [ea,if_pos rfl],fun k hk _=>by rw [ea,if_neg (by omega)],fun k hk=>by omega,fun k hk=>by rw [es,if_neg (by omega)],by rw [es,if_pos ⟨rfl,h1⟩];exact h4,fun hn=>absurd hl hn,fun _=>by rw [es,if_pos ⟨rfl,h1⟩]⟩
 ·rw [if_neg hl]
  rcases h2 with h2 | ⟨m,hm,hml,hmn⟩
  ·exact absurd h2 hl
  have ea:∀ k,({ b with atoms:=(b.atoms++[(⟨t,0,pt0,-1,b.seq,-1⟩:PA)]).set b.last.toNat { b.aAt b.last.toNat with next:=b.atoms.length },last:=b.atoms.length }:PB).aAt k=if m=k then { b.aAt m with next:=b.atoms.length } else if k=b.atoms.length then ⟨t,0,pt0,-1,b.seq,-1⟩ else b.aAt k:=fun k=>by
   unfold PB.aAt
   dsimp only
   rw [getD_set',getD_app,hm,Int.toNat_natCast]
   by_cases e:m=k
   ·subst e;rw [if_pos ⟨rfl,by simp;omega⟩,if_pos rfl]
   ·rw [if_neg (by omega),if_neg e]
  refine ⟨⟨h1,Or.inr ⟨b.atoms.length,rfl,by simp,by rw [ea,if_neg (by omega),if_pos rfl]⟩,fun e=>by simp only at e;omega,h4⟩,by simp,by simp,rfl,rfl,rfl,rfl,by rw [ea,if_neg (by omega),if_pos rfl],fun k hk hkl=>by rw [ea,if_neg (by omega),if_neg (by omega)],fun k hk=>by rw [ea,if_pos (by omega)];rw [show m=k by omega],fun k hk=>rfl,h4,fun _=>rfl,fun e=>absurd e hl⟩
theorem next_leaf (b:PB) {t:Tok} (h:leafK t):b.next (ptok t)=b.addAtom (ptok t):=by
 unfold PB.next
 have:(ptok t).kind=5∨(ptok t).kind=6∨(ptok t).kind=7∨(ptok t).kind=8:=by
  rw [ptok_kind];rcases h with h | h | h | h <;> rw [h] <;> decide
 rw [if_neg (by omega),if_neg (by omega),if_neg (by omega),if_neg (by omega)]
theorem next_rep (b:PB) {t:Tok} (h:t.kind=8):b.next (ptok t)=b.repeated (ptok t):=by
 unfold PB.next
 have:(ptok t).kind=4:=by rw [ptok_kind,h];decide
 rw [if_neg (by omega),if_neg (by omega),if_neg (by omega),if_pos this]
theorem next_open (b:PB) {t:Tok} (h:t.kind=6):b.next (ptok t)=b.opening (ptok t):=by
 unfold PB.next
 have:(ptok t).kind=2:=by rw [ptok_kind,h];decide
 rw [if_neg (by omega),if_pos this]
theorem next_close (b:PB) {t:Tok} (h:t.kind=7):b.next (ptok t)=b.close:=by
 unfold PB.next
 have:(ptok t).kind=3:=by rw [ptok_kind,h];decide
 rw [if_neg (by omega),if_neg (by omega),if_pos this]
theorem next_bar (b:PB) {t:Tok} (h:t.kind=5):b.next (ptok t)=b.bar:=by
 unfold PB.next
 have:(ptok t).kind=1:=by rw [ptok_kind,h];decide
 rw [if_pos this]
theorem rep_at (b:PB) (h:b.At) (k:Nat) (hk:b.last=k) (hkl:k<b.atoms.length) (h0:(b.aAt k).rep=pt0) (r:Option Tok) (hr:repK r) :
  (b.run r.toList).At∧(b.run r.toList).atoms.length=b.atoms.length∧(b.run r.toList).seqs=b.seqs∧(b.run r.toList).last=k∧(b.run r.toList).seq=b.seq∧(b.run r.toList).opn=b.opn∧(b.run r.toList).groups=b.groups ∧
  (b.run r.toList).aAt k={ b.aAt k with rep:=rp r }∧(∀ j,j≠k→(b.run r.toList).aAt j=b.aAt j):=by
 cases r with
 | none=>exact ⟨h,rfl,rfl,hk,rfl,rfl,rfl,by simp only [Option.toList_none,PB.run_nil,rp,← h0],fun _ _=>rfl⟩
 | some q =>
  have e:b.run (some q).toList=b.repeated (ptok q):=next_rep b (hr q rfl)
  rw [e]
  have ea:∀ j,(b.repeated (ptok q)).aAt j=if k=j then { b.aAt k with rep:=ptok q } else b.aAt j:=fun j=>by
   unfold PB.repeated PB.aAt
   dsimp only
   rw [getD_set',hk,Int.toNat_natCast]
   by_cases e:k=j
   ·subst e;rw [if_pos ⟨rfl,hkl⟩,if_pos rfl]
   ·rw [if_neg (by omega),if_neg e]
  refine ⟨⟨h.sq,Or.inr ⟨k,hk,by simp [PB.repeated];exact hkl,?_⟩,fun e=>h.fi e,h.nx⟩,by simp [PB.repeated],rfl,hk,rfl,rfl,rfl,by rw [ea,if_pos rfl];rfl,fun j hj=>by rw [ea,if_neg (Ne.symm hj)]⟩
  rw [ea,if_pos rfl]
  rcases h.la with h1 | ⟨m,h1,h2,h3⟩
  ·omega
  ·have:m=k:=by omega
   subst this;exact h3
theorem cap_leaf {t:Tok} (h:leafK t):isCap t=false:=by
 unfold isCap;rcases h with h | h | h | h <;> simp [h]
theorem cap_rep {r:Option Tok} (h:repK r):captures r.toList=0:=by
 cases r with
 | none=>rfl
 | some q =>
       have:isCap q=false:=by unfold isCap;simp [h q rfl]
       simp [captures,this]
theorem did_leaf {b c:PB} {t:Tok} {r:Option Tok} {s:Fs} (h:b.At) (ht:leafK t) (hr:repK r) (hc:((b.addAtom (ptok t)).run r.toList).Did c s):b.Did c (.leaf t r s):=by
 obtain ⟨a1,a2,a3,a4,a5,a6,a7,a8,a9,a10,a11,a12,a13,a14⟩:=addAtom_at b (ptok t) h
 obtain ⟨r1,r2,r3,r4,r5,r6,r7,r8,r9⟩:=rep_at (b.addAtom (ptok t)) a1 b.atoms.length a4 (by omega) (by rw [a8]) r hr
 generalize (b.addAtom (ptok t)).run r.toList=d at *
 have es:∀ k,d.sAt k=(b.addAtom (ptok t)).sAt k:=fun k=>by unfold PB.sAt;rw [r3]
 have hd:d.aAt b.atoms.length=⟨ptok t,0,rp r,-1,b.seq,-1⟩:=by rw [r8,a8]
 obtain ⟨x,hx⟩:=hc.la b.atoms.length (by rw [r4])
 rw [hd] at hx
 have hal:=hc.al
 have hsl:=hc.sl
 rw [r3,a3] at hsl
 have seqe:d.seq=b.seq:=by rw [r5,a5]
 refine ⟨by rw [hc.opn,r6,a6],by omega,by omega,fun k hk hkl=>?_,fun k hk=>?_,fun k hk hks=>?_,fun hl=>?_,?_,?_⟩
 ·rw [hc.at' k (by omega) (by rw [r4];omega),r9 k (by omega),a9 k hk hkl]
 ·rcases h.la with h1 | ⟨m,h1,h2,h3⟩
  ·omega
  ·have:m=k:=by omega
   subst this
   exact ⟨_,by rw [hc.at' m (by omega) (by rw [r4];omega),r9 m (by omega),a10 m hk]⟩
 ·rw [hc.st k (by rw [r3,a3];omega) (by omega),es,a11 k hks]
 ·rw [← seqe,hc.fi (by rw [r4];omega),es,seqe,a13 hl]
 ·rw [hc.gr,r7,a7]
  simp only [Fs.flat,captures,cap_leaf ht,captures_append,cap_rep hr]
  simp
 ·refine ⟨b.atoms.length,?_,Nat.le_refl _,by omega,by rw [hx],by rw [hx],by rw [hx],?_⟩
  ·by_cases hl:b.last=-1
   ·rw [if_pos hl,← seqe,hc.fi (by rw [r4];omega),es,seqe,a14 hl]
   ·rw [if_neg hl]
    rcases h.la with h1 | ⟨m,h1,h2,h3⟩
    ·omega
    ·rw [h1,Int.toNat_natCast,hc.at' m (by omega) (by rw [r4];omega),r9 m (by omega),a10 m h1]
  ·have:=hc.stands
   rw [if_neg (by rw [r4];omega),r4,Int.toNat_natCast,seqe,r2,a2,r3,a3] at this
   exact standsF_mono (by omega) (Nat.le_refl _) (fun _ _ _=>rfl) (fun _ _ _=>rfl) (Nat.le_refl _) (Nat.le_refl _) _ _ _ this
theorem opening_at (b:PB) (t:PT) (h:b.At):(b.opening t).At∧(b.opening t).atoms.length=b.atoms.length+1∧(b.opening t).seqs.length=b.seqs.length+1∧(b.opening t).last=-1∧(b.opening t).seq=b.seqs.length∧(b.opening t).opn=b.opn++[b.atoms.length] ∧
  (b.opening t).groups=b.groups+(if t.group=1 then 1 else 0)∧(b.opening t).aAt b.atoms.length=⟨t,if t.group=1 then (b.groups:Int)+1 else 0,pt0,b.seqs.length,b.seq,-1⟩ ∧
  (∀ k,k<b.atoms.length→(b.opening t).aAt k=(b.addAtom t).aAt k)∧(∀ k,k<b.seqs.length→(b.opening t).sAt k=(b.addAtom t).sAt k):=by
 obtain ⟨a1,a2,a3,a4,a5,a6,a7,a8,a9,a10,a11,a12,a13,a14⟩:=addAtom_at b t h
 unfold PB.opening
 generalize b.addAtom t=d at *
 have hn:∀ cap:Bool,(d.number b.atoms.length cap).atoms.length=b.atoms.length+1∧(d.number b.atoms.length cap).seqs=d.seqs∧(d.number b.atoms.length cap).opn=d.opn∧(d.number b.atoms.length cap).groups=d.groups+(if cap then 1 else 0) ∧
   (d.number b.atoms.length cap).aAt b.atoms.length=⟨t,if cap then (b.groups:Int)+1 else 0,pt0,-1,b.seq,-1⟩∧(∀ k,k<b.atoms.length→(d.number b.atoms.length cap).aAt k=d.aAt k):=by
  intro cap
  cases cap with
  | false=>exact ⟨a2,rfl,rfl,rfl,a8,fun _ _=>rfl⟩
  | true =>
   refine ⟨by simp [PB.number,a2],rfl,rfl,rfl,?_,fun k hk=>?_⟩
   ·show (d.atoms.set b.atoms.length { d.aAt b.atoms.length with num:=(d.groups:Int)+1 }).getD b.atoms.length pa0=_
    rw [getD_set',if_pos ⟨rfl,by omega⟩,a8,a7];rfl
   ·show (d.atoms.set b.atoms.length _).getD k pa0=_
    rw [getD_set',if_neg (by omega)];rfl
 obtain ⟨n1,n2,n3,n4,n5,n6⟩:=hn (decide (t.group=1))
 generalize d.number b.atoms.length (decide (t.group=1))=e at *
 have ea:∀ k,(e.into b.atoms.length).aAt k=if b.atoms.length=k then { e.aAt b.atoms.length with body:=e.seqs.length } else e.aAt k:=fun k=>by
  show (e.atoms.set b.atoms.length _).getD k pa0=_
  rw [getD_set']
  by_cases x:b.atoms.length=k
  ·rw [if_pos ⟨x,by omega⟩,if_pos x]
  ·rw [if_neg (by omega),if_neg x];rfl
 have es:∀ k,(e.into b.atoms.length).sAt k=if k=e.seqs.length then ps0 else e.sAt k:=fun k=>getD_app _ _ _ _
 have hse:e.seqs.length=b.seqs.length:=by rw [n2,a3]
 refine ⟨⟨by simp [PB.into],Or.inl rfl,fun _=>?_,?_⟩,by simp [PB.into,n1],by simp [PB.into,hse],rfl,hse,by show e.opn++_=_;rw [n3,a6],?_,?_,fun k hk=>?_,fun k hk=>?_⟩
 ·show ((e.into b.atoms.length).sAt e.seqs.length).first=-1
  rw [es,if_pos rfl];rfl
 ·show ((e.into b.atoms.length).sAt e.seqs.length).next=-1
  rw [es,if_pos rfl];rfl
 ·show e.groups=_
  rw [n4,a7];simp
 ·rw [ea,if_pos rfl,n5,hse]
  simp
 ·rw [ea,if_neg (by omega),n6 k hk]
 ·rw [es,if_neg (by omega)];unfold PB.sAt;rw [n2]
def numd (n:Int):List Tok→Prop
 | []=>True
 | t::r=>(isCap t=true→t.n=n+1)∧numd (n+if isCap t then 1 else 0) r
theorem numd_app (n:Int):∀ (a b:List Tok),numd n (a++b)↔numd n a∧numd (n+captures a) b
 | [],b=>by simp [numd,captures]
 | t::r,b=>by
  simp only [List.cons_append,numd,captures,numd_app _ r b]
  rw [show n+((if isCap t=true then 1 else 0)+captures r)=n+(if isCap t=true then 1 else 0)+captures r by omega]
  exact ⟨fun ⟨a,b,c⟩=>⟨⟨a,b⟩,c⟩,fun ⟨⟨a,b⟩,c⟩=>⟨a,b,c⟩⟩
theorem grp_cap {t:Tok} (h:t.kind=6) (ho:0≤t.how∧t.how≤4):(ptok t).group=1↔isCap t=true:=by
 have e1:(ptok t).group=grpP t.how:=by simp [ptok,h]
 rw [e1]
 unfold isCap grpP
 by_cases h4:t.how=4
 ·simp [h4,h]
 ·rw [if_neg h4]
  have:¬ (t.kind=6∧t.how=4):=fun x=>h4 x.2
  simp only [this,decide_false]
  by_cases h3:t.how=3
  ·simp [h3]
  ·rw [if_neg h3];simp;omega
theorem did_grp {b c1 c:PB} {t cl:Tok} {i s:Fs} {r:Option Tok} (h:b.At) (ht:t.kind=6) (hh:0≤t.how∧t.how≤4) (hr:repK r) (hcl:cl.kind=7) (hn:isCap t=true→t.n=(b.groups:Int)+1)
  (h1:(b.opening (ptok t)).Did c1 i) (h2:(c1.close.run r.toList).At→(c1.close.run r.toList).groups=c1.groups→(c1.close.run r.toList).Did c s):b.Did c (.grp t i cl r s):=by
 obtain ⟨a1,a2,a3,a4,a5,a6,a7,a8,a9,a10,a11,a12,a13,a14⟩:=addAtom_at b (ptok t) h
 obtain ⟨o1,o2,o3,o4,o5,o6,o7,o8,o9,o10⟩:=opening_at b (ptok t) h
 have ig:=h1.gr
 have st1:=h1.stands
 rw [o4,if_pos rfl,o5,o2,o3] at st1
 have al1:=h1.al
 have sl1:=h1.sl
 have g1:c1.aAt b.atoms.length=⟨ptok t,if (ptok t).group=1 then (b.groups:Int)+1 else 0,pt0,b.seqs.length,b.seq,-1⟩:=by
  rw [h1.at' _ (by omega) (by rw [o4];omega),o8]
 have g2:∀ k,k<b.atoms.length→c1.aAt k=(b.addAtom (ptok t)).aAt k:=fun k hk=>by rw [h1.at' _ (by omega) (by rw [o4];omega),o9 k hk]
 have g3:∀ k,k<b.seqs.length→c1.sAt k=(b.addAtom (ptok t)).sAt k:=fun k hk=>by rw [h1.st _ (by omega) (by rw [o5];omega),o10 k hk]
 have top:c1.top=b.atoms.length:=by unfold PB.top;rw [h1.opn,o6];simp
 have q1:c1.close.opn=b.opn:=by show c1.opn.dropLast=_;rw [h1.opn,o6];simp
 have q2:c1.close.seq=b.seq:=by show (c1.aAt c1.top).home.toNat=_;rw [top,g1];simp
 have q3:c1.close.last=b.atoms.length:=by show (c1.top:Int)=_;rw [top]
 have q4:∀ k,c1.close.aAt k=c1.aAt k:=fun _=>rfl
 have q5:∀ k,c1.close.sAt k=c1.sAt k:=fun _=>rfl
 have q6:c1.close.atoms.length=c1.atoms.length:=rfl
 have q7:c1.close.seqs.length=c1.seqs.length:=rfl
 have q8:c1.close.groups=c1.groups:=rfl
 have hsq:=h.sq
 have ca:c1.close.At:=by
  refine ⟨by rw [q2,q7];omega,Or.inr ⟨b.atoms.length,q3,by omega,by rw [q4,g1]⟩,fun e=>by omega,?_⟩
  rw [q2,q5,g3 _ hsq];exact a12
 generalize c1.close=c2 at *
 obtain ⟨r1,r2,r3,r4,r5,r6,r7,r8,r9⟩:=rep_at c2 ca b.atoms.length q3 (by omega) (by rw [q4,g1]) r hr
 have h2':=h2 r1 (by rw [r7,q8])
 clear h2
 generalize c2.run r.toList=d at *
 have hd:d.aAt b.atoms.length=⟨ptok t,if (ptok t).group=1 then (b.groups:Int)+1 else 0,rp r,b.seqs.length,b.seq,-1⟩:=by rw [r8,q4,g1]
 have es:∀ k,d.sAt k=c1.sAt k:=fun k=>by rw [← q5];unfold PB.sAt;rw [r3]
 have seqe:d.seq=b.seq:=by rw [r5,q2]
 obtain ⟨x,hx⟩:=h2'.la b.atoms.length (by rw [r4])
 rw [hd] at hx
 have al2:=h2'.al
 have sl2:=h2'.sl
 rw [r3,q7] at sl2
 rw [r2,q6] at al2
 have cs:∀ k,k<c1.seqs.length→k≠b.seq→c.sAt k=c1.sAt k:=fun k hk hks=>by rw [h2'.st k (by rw [r3];omega) (by omega),es]
 have caa:∀ k,k<c1.atoms.length→k≠b.atoms.length→c.aAt k=c1.aAt k:=fun k hk hka=>by rw [h2'.at' k (by omega) (by rw [r4];omega),r9 k hka,q4]
 have cfi:(c.sAt b.seq).first=((b.addAtom (ptok t)).sAt b.seq).first:=by rw [← seqe,h2'.fi (by rw [r4];omega),es,seqe,g3 _ hsq]
 refine ⟨by rw [h2'.opn,r6,q1],by omega,by omega,fun k hk hkl=>?_,fun k hk=>?_,fun k hk hks=>?_,fun hl=>?_,?_,?_⟩
 ·rw [caa k (by omega) (by omega),g2 k hk,a9 k hk hkl]
 ·rcases h.la with e1 | ⟨m,e1,e2,e3⟩
  ·omega
  ·have:m=k:=by omega
   subst this
   exact ⟨_,by rw [caa m (by omega) (by omega),g2 m e2,a10 m hk]⟩
 ·rw [cs k (by omega) hks,g3 k hk,a11 k hks]
 ·rw [cfi,a13 hl]
 ·rw [h2'.gr,r7,q8,ig,o7]
  have hc7:isCap cl=false:=by unfold isCap;simp [hcl]
  simp only [Fs.flat,captures,captures_append,cap_rep hr,hc7]
  have:=grp_cap ht hh
  cases hcp:isCap t
  ·rw [hcp] at this;rw [if_neg (by simpa using this)];simp;omega
  ·rw [hcp] at this;rw [if_pos (by simpa using this)];simp;omega
 ·refine ⟨b.atoms.length,?_,Nat.le_refl _,by omega,by rw [hx],by rw [hx],?_,⟨b.seqs.length,by rw [hx],Nat.le_refl _,by omega,?_⟩,?_⟩
  ·by_cases hl:b.last=-1
   ·rw [if_pos hl,cfi,a14 hl]
   ·rw [if_neg hl]
    rcases h.la with e1 | ⟨m,e1,e2,e3⟩
    ·omega
    ·rw [e1,Int.toNat_natCast,caa m (by omega) (by omega),g2 m e2,a10 m e1]
  ·rw [hx]
   have:=grp_cap ht hh
   cases hcp:isCap t
   ·rw [hcp] at this;simp only;rw [if_neg (by simpa using this)];simp
   ·rw [hcp] at this;simp only;rw [if_pos (by simpa using this),hn hcp];simp
  ·rw [cs b.seqs.length (by omega) (by omega)]
   exact standsF_mono (by omega) (by omega) (fun k k1 k2=>caa k k2 (by omega)) (fun k k1 k2=>cs k k2 (by omega)) (by omega) (by omega) _ _ _ st1
  ·have:=h2'.stands
   rw [if_neg (by rw [r4];omega),r4,Int.toNat_natCast,seqe,r2,q6,r3,q7] at this
   exact standsF_mono (by omega) (by omega) (fun _ _ _=>rfl) (fun _ _ _=>rfl) (Nat.le_refl _) (Nat.le_refl _) _ _ _ this
theorem bar_at (b:PB) (h:b.At):b.bar.At∧b.bar.atoms=b.atoms∧b.bar.seqs.length=b.seqs.length+1∧b.bar.last=-1∧b.bar.seq=b.seqs.length∧b.bar.opn=b.opn∧b.bar.groups=b.groups ∧
  (∀ k,k<b.seqs.length→k≠b.seq→b.bar.sAt k=b.sAt k)∧b.bar.sAt b.seq=⟨(b.sAt b.seq).first,b.seqs.length⟩:=by
 have es:∀ k,b.bar.sAt k=if b.seq=k∧k<b.seqs.length+1 then ⟨(b.sAt b.seq).first,b.seqs.length⟩ else if k=b.seqs.length then ps0 else b.sAt k:=fun k=>by
  show ((b.seqs++[ps0]).set b.seq _).getD k ps0=_
  rw [getD_set',getD_app];simp only [List.length_append,List.length_cons,List.length_nil];rfl
 have hs:=h.sq
 refine ⟨⟨by simp [PB.bar],Or.inl rfl,fun _=>?_,?_⟩,rfl,by simp [PB.bar],rfl,rfl,rfl,rfl,fun k hk hks=>by rw [es,if_neg (by omega),if_neg (by omega)],by rw [es,if_pos ⟨rfl,by omega⟩]⟩
 ·show (b.bar.sAt b.seqs.length).first=-1
  rw [es,if_neg (by omega),if_pos rfl];rfl
 ·show (b.bar.sAt b.seqs.length).next=-1
  rw [es,if_neg (by omega),if_pos rfl];rfl
theorem did_bar {b c:PB} {t:Tok} {r:Fs} (h:b.At) (ht:t.kind=5) (hc:b.bar.Did c r):b.Did c (.bar t r):=by
 obtain ⟨b1,b2,b3,b4,b5,b6,b7,b8,b9⟩:=bar_at b h
 have hs:=h.sq
 have al:=hc.al
 have sl:=hc.sl
 rw [b2] at al
 have st:=hc.stands
 rw [b4,if_pos rfl,b5,b2,b3] at st
 have ea:∀ k,b.bar.aAt k=b.aAt k:=fun k=>by unfold PB.aAt;rw [b2]
 have cs:c.sAt b.seq=⟨(b.sAt b.seq).first,b.seqs.length⟩:=by rw [hc.st _ (by omega) (by rw [b5];omega),b9]
 have ca:∀ k,k<b.atoms.length→c.aAt k=b.aAt k:=fun k hk=>by rw [hc.at' k (by rw [b2];omega) (by rw [b4];omega),ea]
 refine ⟨by rw [hc.opn,b6],by omega,by omega,fun k hk hkl=>ca k hk,fun k hk=>?_,fun k hk hks=>by rw [hc.st k (by omega) (by rw [b5];omega),b8 k hk hks],fun hl=>by rw [cs],?_,?_⟩
 ·rcases h.la with e1 | ⟨m,e1,e2,e3⟩
  ·omega
  ·have:m=k:=by omega
   subst this;exact ⟨(b.aAt m).next,by rw [ca m e2]⟩
 ·rw [hc.gr,b7]
  have:isCap t=false:=by unfold isCap;simp [ht]
  simp [Fs.flat,captures,this]
 ·refine ⟨?_,b.seqs.length,by rw [cs],Nat.le_refl _,by omega,?_⟩
  ·by_cases hl:b.last=-1
   ·rw [if_pos hl,cs];exact h.fi hl
   ·rw [if_neg hl]
    rcases h.la with e1 | ⟨m,e1,e2,e3⟩
    ·omega
    ·rw [e1,Int.toNat_natCast,ca m e2,e3]
  ·exact standsF_mono (by omega) (by omega) (fun _ _ _=>rfl) (fun _ _ _=>rfl) (Nat.le_refl _) (Nat.le_refl _) _ _ _ st
theorem did_nil {b:PB} (h:b.At):b.Did b .nil:=by
 refine ⟨rfl,Nat.le_refl _,Nat.le_refl _,fun _ _ _=>rfl,fun k _=>⟨(b.aAt k).next,rfl⟩,fun _ _ _=>rfl,fun _=>rfl,by simp [Fs.flat,captures],?_,h.nx⟩
 by_cases hl:b.last=-1
 ·rw [if_pos hl];exact h.fi hl
 ·rw [if_neg hl]
  rcases h.la with e1 | ⟨m,e1,e2,e3⟩
  ·omega
  ·rw [e1,Int.toNat_natCast,e3]
theorem run_forest:∀ (f:Fs),f.wf→(∀ t∈f.flat,t.kind=6→0≤t.how∧t.how≤4)→∀ b:PB,b.At→numd b.groups f.flat→b.Did (b.run f.flat) f
 | .nil,_,_,b,h,_=>did_nil h
 | .bar t r,hw,hh,b,h,hn=>by
  have ht:t.kind=5:=hw.1
  have hb:=bar_at b h
  rw [show (Fs.bar t r).flat=t::r.flat from rfl] at hn ⊢
  rw [PB.run_cons,next_bar b ht]
  refine did_bar h ht (run_forest r hw.2 (fun u hu=>hh u (by simp [Fs.flat,hu])) b.bar hb.1 ?_)
  have hc:isCap t=false:=by unfold isCap;simp [ht]
  simpa [numd,hc,hb.2.2.2.2.2.2.1] using hn
 | .leaf t r s,hw,hh,b,h,hn=>by
  have ha:=addAtom_at b (ptok t) h
  have hq:=rep_at (b.addAtom (ptok t)) ha.1 b.atoms.length ha.2.2.2.1 (by have:=ha.2.1;omega) (by rw [ha.2.2.2.2.2.2.2.1]) r hw.2.1
  rw [show (Fs.leaf t r s).flat=t::(r.toList++s.flat) from rfl] at hn ⊢
  rw [PB.run_cons,next_leaf b hw.1,PB.run_app]
  refine did_leaf h hw.1 hw.2.1 (run_forest s hw.2.2 (fun u hu=>hh u (by simp [Fs.flat,hu])) _ hq.1 ?_)
  simp only [numd,cap_leaf hw.1,numd_app,cap_rep hw.2.1] at hn
  have e:((b.addAtom (ptok t)).run r.toList).groups=b.groups:=by rw [hq.2.2.2.2.2.2.1,ha.2.2.2.2.2.2.1]
  rw [e]
  simpa using hn.2.2
 | .grp t i c r s,hw,hh,b,h,hn=>by
  obtain ⟨hw1,hw2,hw3,hw4,hw5⟩:=hw
  have ho:=opening_at b (ptok t) h
  have hht:=hh t (by simp [Fs.flat]) hw1
  have hgc:=grp_cap hw1 hht
  rw [show (Fs.grp t i c r s).flat=t::(i.flat++c::(r.toList++s.flat)) from rfl] at hn ⊢
  have hc7:isCap c=false:=by unfold isCap;simp [hw2]
  simp only [numd,numd_app,hc7,cap_rep hw4] at hn
  rw [PB.run_cons,next_open b hw1,PB.run_app,PB.run_cons,next_close _ hw2,PB.run_app]
  have eg:((b.opening (ptok t)).groups:Int)=b.groups+(if isCap t=true then 1 else 0):=by
   rw [ho.2.2.2.2.2.2.1]
   cases hcp:isCap t
   ·rw [hcp] at hgc;rw [if_neg (by simpa using hgc)];simp
   ·rw [hcp] at hgc;rw [if_pos (by simpa using hgc)];simp
  have d1:=run_forest i hw3 (fun u hu=>hh u (by simp [Fs.flat,hu])) _ ho.1 (by rw [eg];exact hn.2.1)
  refine did_grp h hw1 hht hw4 hw2 hn.1 d1 (fun hA hG=>run_forest s hw5 (fun u hu=>hh u (by simp [Fs.flat,hu])) _ hA ?_)
  rw [hG,d1.gr,eg]
  simpa using hn.2.2.2.2
end Mt
