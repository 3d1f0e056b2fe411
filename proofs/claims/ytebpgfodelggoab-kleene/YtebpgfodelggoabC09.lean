import Derived.Test.YtebpgfodelggoabC08
set_option linter.unusedVariables false
set_option linter.unusedSimpArgs false
namespace Mt
theorem closeFrom_snoc (t:Tok):∀ (x:List Tok) (n:Int) (j:Nat),closeFrom (x++[t]) n j=if closeFrom x n j<j+x.length then closeFrom x n j else if n+opened x+delta t=0 then j+x.length else j+x.length+1
 | [],n,j=>by simp [closeFrom,opened]
 | a::r,n,j=>by
  have e1:∀ s:List Tok,closeFrom (a::s) n j=if n+delta a=0 then j else closeFrom s (n+delta a) (j+1):=fun _=>rfl
  rw [List.cons_append,e1,e1,opened,List.length_cons]
  by_cases h:n+delta a=0
  ·simp only [if_pos h]
   rw [if_pos (by omega)]
  ·simp only [if_neg h]
   rw [closeFrom_snoc t r]
   rw [show n+delta a+opened r+delta t=n+(delta a+opened r)+delta t by omega,show j+1+r.length=j+(r.length+1) by omega]
theorem closing_snoc (l:List Tok) (t:Tok) (j:Nat) (h:j≤l.length):closing (l++[t]) j=if closing l j<l.length then closing l j else if opened (l.drop j)+delta t=0 then l.length else l.length+1:=by
 unfold closing
 rw [List.drop_append_of_le_length h,closeFrom_snoc,List.length_drop,show j+(l.length-j)=l.length by omega]
 rw [show (0:Int)+opened (l.drop j)+delta t=opened (l.drop j)+delta t by omega]
theorem closing_new (l:List Tok) (t:Tok) (h:delta t≠0):closing (l++[t]) l.length=l.length+1:=by
 unfold closing
 rw [List.drop_left]
 simp only [closeFrom]
 rw [if_neg (by omega)]
def Nums (l:List Tok):Prop:=∀ j,j<l.length→isCap (l.getD j tok0)=true→(l.getD j tok0).n=captures (l.take j)+1
theorem captures_mono (l:List Tok):∀ (i d:Nat),i+d≤l.length→captures (l.take i)≤captures (l.take (i+d))
 | i,0,_=>Int.le_refl _
 | i,d+1,h=>by
  have:=captures_mono l i d (by omega)
  rw [show i+(d+1)=i+d+1 by omega,captures_next l (i+d) (by omega)]
  split <;> omega
theorem nums_one {l:List Tok} (h:Nums l) {i j:Nat} (hi:i<l.length) (hj:j<l.length) (ci:isCap (l.getD i tok0)=true) (cj:isCap (l.getD j tok0)=true) (e:(l.getD i tok0).n=(l.getD j tok0).n):i=j:=by
 have key:∀ i j,i<j→i<l.length→j<l.length→isCap (l.getD i tok0)=true→isCap (l.getD j tok0)=true→(l.getD i tok0).n≠(l.getD j tok0).n:=by
  intro i j hij hi hj ci cj e
  have a:=h i hi ci
  have b:=h j hj cj
  have c:=captures_next l i hi
  rw [if_pos ci] at c
  have d:=captures_mono l (i+1) (j-(i+1)) (by omega)
  rw [show i+1+(j-(i+1))=j by omega] at d
  omega
 rcases Nat.lt_trichotomy i j with h1 | h1 | h1
 ·exact absurd e (key i j h1 hi hj ci cj)
 ·exact h1
 ·exact absurd e.symm (key j i h1 hj hi cj ci)
theorem closed_iff {l:List Tok} (h:Nums l) (k:Int):closed l k=true↔∃ j,j<l.length∧isCap (l.getD j tok0)=true∧(l.getD j tok0).n=k∧closing l j<l.length:=by
 have key:∀ (m j:Nat),j+m=l.length→(closedFrom l k (l.drop j) j=true↔∃ i,j≤i∧i<l.length∧isCap (l.getD i tok0)=true∧(l.getD i tok0).n=k∧closing l i<l.length):=by
  intro m
  induction m with
  | zero=>intro j hj;rw [List.drop_eq_nil_of_le (by omega)];simp only [closedFrom];exact ⟨fun e=>by simp at e,fun ⟨i,h1,h2,_⟩=>by omega⟩
  | succ m ih =>
   intro j hj
   rw [closedFrom_step l k j (by omega)]
   by_cases hc:isCap (l.getD j tok0)=true∧(l.getD j tok0).n=k
   ·rw [if_pos hc,decide_eq_true_eq]
    constructor
    ·intro e;exact ⟨j,Nat.le_refl _,by omega,hc.1,hc.2,e⟩
    ·rintro ⟨i,h1,h2,h3,h4,h5⟩
     have:i=j:=nums_one h h2 (by omega) h3 hc.1 (by rw [h4,hc.2])
     subst this;exact h5
   ·rw [if_neg hc,ih (j+1) (by omega)]
    constructor
    ·rintro ⟨i,h1,h2⟩;exact ⟨i,by omega,h2⟩
    ·rintro ⟨i,h1,h2,h3,h4,h5⟩
     refine ⟨i,?_,h2,h3,h4,h5⟩
     by_cases e:i=j
     ·subst e;exact absurd ⟨h3,h4⟩ hc
     ·omega
 have:=key l.length 0 (by omega)
 unfold closed
 rw [show closedFrom l k l 0=closedFrom l k (l.drop 0) 0 from rfl,this]
 exact ⟨fun ⟨i,_,h⟩=>⟨i,h⟩,fun ⟨i,h⟩=>⟨i,Nat.zero_le _,h⟩⟩
structure PB.Rel (b:PB) (l:List Tok) (stk:List Nat):Prop where
 sq:b.seq<b.seqs.length
 la:b.last=-1∨∃ k:Nat,b.last=k∧k<b.atoms.length
 homes:∀ k,k<b.atoms.length→∃ h:Nat,(b.aAt k).home=h∧h<b.seqs.length
 nums:∀ k,k<b.atoms.length→0≤(b.aAt k).num∧(b.aAt k).num≤9
 len:b.opn.length=stk.length
 op:(stk.length:Int)=opened l
 gr:(b.groups:Int)=captures l
 tops:∀ i,i<stk.length→b.opn.getD i 0<b.atoms.length∧(b.aAt (b.opn.getD i 0)).num=(if isCap (l.getD (stk.getD i 0) tok0) then (l.getD (stk.getD i 0) tok0).n else 0)∧(b.aAt (b.opn.getD i 0)).rep.kind=0∧(b.opn.getD i 0:Int)≠b.last
 stks:∀ i,i<stk.length→stk.getD i 0<l.length∧(l.getD (stk.getD i 0) tok0).kind=6∧closing l (stk.getD i 0)=l.length∧opened (l.drop (stk.getD i 0))=(stk.length:Int)-i
 oth:∀ j,j<l.length→(l.getD j tok0).kind=6→(∀ i,i<stk.length→stk.getD i 0≠j)→closing l j<l.length
 inj:∀ i j,i<j→j<stk.length→b.opn.getD i 0<b.opn.getD j 0
 clo:∀ k:Nat,1≤k→k≤9→b.clo.getD k false=closed l k
 cl:b.clo.length=10
 en:(b.last≠-1∧(b.aAt b.last.toNat).rep.kind=0)↔atomEnds l=true
 al:b.atoms.length≤l.length
 sl:b.seqs.length≤l.length+1
theorem rel_start:PB.start.Rel [] []:=by
 refine ⟨by decide,Or.inl rfl,fun k hk=>by simp [PB.start] at hk,fun k hk=>by simp [PB.start] at hk,rfl,rfl,rfl,fun i hi=>by simp at hi,fun i hi=>by simp at hi,fun j hj=>by simp at hj,fun i j _ hj=>by simp at hj,fun k h1 h2=>?_,rfl,?_,by simp [PB.start],by simp [PB.start]⟩
 ·show (List.replicate 10 false).getD k false=closed [] k
  rw [List.getD_eq_getElem?_getD,List.getElem?_replicate,if_pos (by omega)];rfl
 ·simp [PB.start,atomEnds]
theorem atomEnds_snoc (l:List Tok) (t:Tok):atomEnds (l++[t])=endK t:=by unfold atomEnds endK;simp
theorem opened_snoc (l:List Tok) (t:Tok):opened (l++[t])=opened l+delta t:=by rw [opened_append];simp [opened]
theorem captures_snoc (l:List Tok) (t:Tok):captures (l++[t])=captures l+if isCap t then 1 else 0:=by rw [captures_append];simp [captures]
theorem rel_same {b c:PB} {l:List Tok} {stk:List Nat} {t:Tok} (h:b.Rel l stk) (hN:Nums l) (hN':Nums (l++[t])) (hd:delta t=0) (h6:t.kind≠6)
  (c1:c.seq<c.seqs.length) (c2:c.last=-1∨∃ k:Nat,c.last=k∧k<c.atoms.length) (c3:∀ k,k<c.atoms.length→∃ h:Nat,(c.aAt k).home=h∧h<c.seqs.length) (c4:∀ k,k<c.atoms.length→0≤(c.aAt k).num∧(c.aAt k).num≤9)
  (c5:c.opn=b.opn) (c6:c.groups=b.groups) (c7:c.clo=b.clo) (c8:b.atoms.length≤c.atoms.length)
  (c9:∀ i,i<stk.length→(c.aAt (b.opn.getD i 0)).num=(b.aAt (b.opn.getD i 0)).num∧(c.aAt (b.opn.getD i 0)).rep.kind=0∧(b.opn.getD i 0:Int)≠c.last)
  (c10:(c.last≠-1∧(c.aAt c.last.toNat).rep.kind=0)↔endK t=true) (c11:c.atoms.length≤l.length+1) (c12:c.seqs.length≤l.length+2):c.Rel (l++[t]) stk:=by
 have hcap:isCap t=false:=by unfold isCap;simp [h6]
 have gl:∀ j,j<l.length→(l++[t]).getD j tok0=l.getD j tok0:=fun j hj=>by rw [getD_app,if_neg (by omega)]
 have hcl:∀ j,j<l.length→(l.getD j tok0).kind=6→(closing (l++[t]) j<l.length+1↔closing l j<l.length):=by
  intro j hj hk
  rw [closing_snoc l t j (by omega)]
  by_cases e:closing l j<l.length
  ·rw [if_pos e];exact ⟨fun _=>e,fun _=>by omega⟩
  ·rw [if_neg e,hd]
   have:∃ i,i<stk.length∧stk.getD i 0=j:=by
    refine Classical.byContradiction fun hh=>e (h.oth j hj hk (fun i hi he=>hh ⟨i,hi,he⟩))
   obtain ⟨i,hi,rfl⟩:=this
   have:=(h.stks i hi).2.2.2
   rw [if_neg (by omega)]
   exact ⟨fun x=>by omega,fun x=>absurd x e⟩
 refine ⟨c1,c2,c3,c4,by rw [c5];exact h.len,by rw [opened_snoc,hd,h.op];omega,by rw [c6,h.gr,captures_snoc,hcap];simp,fun i hi=>?_,fun i hi=>?_,fun j hj hk hs=>?_,fun i j hij hj=>by rw [c5];exact h.inj i j hij hj,fun k h1 h2=>?_,by rw [c7];exact h.cl,by rw [atomEnds_snoc];exact c10,by simp;exact c11,by simp;omega⟩
 ·have t1:=h.tops i hi
  have t2:=c9 i hi
  have t3:=(h.stks i hi).1
  rw [c5,gl _ t3]
  exact ⟨by omega,by rw [t2.1];exact t1.2.1,t2.2.1,t2.2.2⟩
 ·obtain ⟨s1,s2,s3,s4⟩:=h.stks i hi
  rw [gl _ s1]
  refine ⟨by simp only [List.length_append,List.length_cons,List.length_nil];omega,s2,?_,?_⟩
  ·rw [closing_snoc l t _ (by omega),if_neg (by omega),if_neg (by omega)];simp
  ·rw [List.drop_append_of_le_length (by omega),opened_snoc,s4,hd];omega
 ·simp only [List.length_append,List.length_cons,List.length_nil] at hj ⊢
  by_cases e:j=l.length
  ·subst e;rw [getD_app,if_pos rfl] at hk;exact absurd hk h6
  ·rw [gl j (by omega)] at hk
   exact (hcl j (by omega) hk).2 (h.oth j (by omega) hk hs)
 ·rw [c7,h.clo k h1 h2]
  have a:=closed_iff hN (k:Int)
  have b':=closed_iff hN' (k:Int)
  apply Bool.eq_iff_iff.2
  rw [a,b']
  constructor
  ·rintro ⟨j,j1,j2,j3,j4⟩
   refine ⟨j,by simp;omega,by rw [gl j j1];exact j2,by rw [gl j j1];exact j3,?_⟩
   have hk:(l.getD j tok0).kind=6:=by simp [isCap] at j2;exact j2.1
   simp only [List.length_append,List.length_cons,List.length_nil]
   exact (hcl j j1 hk).2 j4
  ·rintro ⟨j,j1,j2,j3,j4⟩
   simp only [List.length_append,List.length_cons,List.length_nil] at j1 j4
   by_cases e:j=l.length
   ·subst e;rw [getD_app,if_pos rfl,hcap] at j2;simp at j2
   ·rw [gl j (by omega)] at j2 j3
    have hk:(l.getD j tok0).kind=6:=by simp [isCap] at j2;exact j2.1
    exact ⟨j,by omega,j2,j3,(hcl j (by omega) hk).1 j4⟩
theorem addAtom_ok {b:PB} (t:PT) (h1:b.seq<b.seqs.length) (h2:b.last=-1∨∃ k:Nat,b.last=k∧k<b.atoms.length) :
  (b.addAtom t).atoms.length=b.atoms.length+1∧(b.addAtom t).seqs.length=b.seqs.length∧(b.addAtom t).last=b.atoms.length∧(b.addAtom t).seq=b.seq∧(b.addAtom t).opn=b.opn∧(b.addAtom t).groups=b.groups∧(b.addAtom t).clo=b.clo ∧
  (b.addAtom t).aAt b.atoms.length=⟨t,0,pt0,-1,b.seq,-1⟩∧(∀ k,k<b.atoms.length→((b.addAtom t).aAt k).num=(b.aAt k).num∧((b.addAtom t).aAt k).rep=(b.aAt k).rep∧((b.addAtom t).aAt k).home=(b.aAt k).home):=by
 unfold PB.addAtom
 by_cases hl:b.last=-1
 ·rw [if_pos hl]
  refine ⟨by simp,by simp,rfl,rfl,rfl,rfl,rfl,?_,fun k hk=>?_⟩
  ·show (b.atoms++[_]).getD _ pa0=_;rw [getD_app,if_pos rfl]
  ·have:({ b with atoms:=b.atoms++[(⟨t,0,pt0,-1,b.seq,-1⟩:PA)],seqs:=b.seqs.set b.seq ⟨b.atoms.length,(b.sAt b.seq).next⟩,last:=b.atoms.length }:PB).aAt k=b.aAt k:=by
    show (b.atoms++[_]).getD _ pa0=_;rw [getD_app,if_neg (by omega)];rfl
   rw [this];exact ⟨rfl,rfl,rfl⟩
 ·rw [if_neg hl]
  rcases h2 with h2 | ⟨m,hm,hml⟩
  ·exact absurd h2 hl
  have ea:∀ k,({ b with atoms:=(b.atoms++[(⟨t,0,pt0,-1,b.seq,-1⟩:PA)]).set b.last.toNat { b.aAt b.last.toNat with next:=b.atoms.length },last:=b.atoms.length }:PB).aAt k=if m=k then { b.aAt m with next:=b.atoms.length } else if k=b.atoms.length then ⟨t,0,pt0,-1,b.seq,-1⟩ else b.aAt k:=fun k=>by
   unfold PB.aAt
   dsimp only
   rw [getD_set',getD_app,hm,Int.toNat_natCast]
   by_cases e:m=k
   ·subst e;rw [if_pos ⟨rfl,by simp;omega⟩,if_pos rfl]
   ·rw [if_neg (by omega),if_neg e]
  refine ⟨by simp,by simp,rfl,rfl,rfl,rfl,rfl,?_,fun k hk=>?_⟩
  ·rw [ea,if_neg (by omega),if_pos rfl]
  ·rw [ea]
   by_cases e:m=k
   ·subst e;rw [if_pos rfl];exact ⟨rfl,rfl,rfl⟩
   ·rw [if_neg e,if_neg (by omega)];exact ⟨rfl,rfl,rfl⟩
theorem rel_leaf {b:PB} {l:List Tok} {stk:List Nat} {t:Tok} (h:b.Rel l stk) (hN:Nums l) (hN':Nums (l++[t])) (hk:leafK t) (p:PT):(b.addAtom p).Rel (l++[t]) stk:=by
 obtain ⟨a1,a2,a3,a4,a5,a6,a7,a8,a9⟩:=addAtom_ok p h.sq h.la
 have hd:delta t=0:=by unfold delta;rcases hk with e | e | e | e <;> simp [e]
 have h6:t.kind≠6:=by rcases hk with e | e | e | e <;> omega
 have al:=h.al
 have sl:=h.sl
 have hsq:=h.sq
 refine rel_same h hN hN' hd h6 (by omega) (Or.inr ⟨b.atoms.length,a3,by omega⟩) (fun k hk'=>?_) (fun k hk'=>?_) a5 a6 a7 (by omega) (fun i hi=>?_) ?_ (by omega) (by omega)
 ·by_cases e:k=b.atoms.length
  ·subst e;rw [a8];exact ⟨b.seq,rfl,by omega⟩
  ·obtain ⟨x,x1,x2⟩:=h.homes k (by omega)
   exact ⟨x,by rw [(a9 k (by omega)).2.2];exact x1,by omega⟩
 ·by_cases e:k=b.atoms.length
  ·subst e;rw [a8];simp
  ·rw [(a9 k (by omega)).1];exact h.nums k (by omega)
 ·have t1:=h.tops i hi
  have t2:=a9 _ t1.1
  exact ⟨t2.1,by rw [t2.2.1];exact t1.2.2.1,by rw [a3];have:=t1.1;omega⟩
 ·rw [a3]
  constructor
  ·intro _;unfold endK;rcases hk with e | e | e | e <;> simp [e]
  ·intro _;refine ⟨by omega,?_⟩
   rw [Int.toNat_natCast,a8];rfl
theorem rel_rep {b:PB} {l:List Tok} {stk:List Nat} {t:Tok} (h:b.Rel l stk) (hN:Nums l) (hN':Nums (l++[t])) (hk:t.kind=8) (p:PT) (hp:p.kind=4) (hl:b.last≠-1):(b.repeated p).Rel (l++[t]) stk:=by
 have al:=h.al
 have sl:=h.sl
 rcases h.la with h2 | ⟨m,hm,hml⟩
 ·exact absurd h2 hl
 have ea:∀ j,(b.repeated p).aAt j=if m=j then { b.aAt m with rep:=p } else b.aAt j:=fun j=>by
  unfold PB.repeated PB.aAt
  dsimp only
  rw [getD_set',hm,Int.toNat_natCast]
  by_cases e:m=j
  ·subst e;rw [if_pos ⟨rfl,hml⟩,if_pos rfl]
  ·rw [if_neg (by omega),if_neg e]
 have ln:(b.repeated p).atoms.length=b.atoms.length:=by simp [PB.repeated]
 refine rel_same h hN hN' (by unfold delta;simp [hk]) (by omega) h.sq (Or.inr ⟨m,hm,by omega⟩) (fun k hk'=>?_) (fun k hk'=>?_) rfl rfl rfl (by omega) (fun i hi=>?_) ?_ (by omega) (show b.seqs.length≤_ by omega)
 ·obtain ⟨x,x1,x2⟩:=h.homes k (by omega)
  refine ⟨x,?_,x2⟩
  rw [ea];split
  ·rename_i e;subst e;exact x1
  ·exact x1
 ·have:=h.nums k (by omega)
  rw [ea];split
  ·rename_i e;subst e;exact this
  ·exact this
 ·have t1:=h.tops i hi
  have ne:m≠b.opn.getD i 0:=by have:=t1.2.2.2;omega
  rw [ea,if_neg ne]
  exact ⟨rfl,t1.2.2.1,t1.2.2.2⟩
 ·constructor
  ·intro ⟨_,x⟩
   have e:(b.repeated p).last=m:=hm
   rw [e,Int.toNat_natCast,ea,if_pos rfl] at x
   simp only at x;omega
  ·intro x;unfold endK at x;simp [hk] at x
theorem rel_bar {b:PB} {l:List Tok} {stk:List Nat} {t:Tok} (h:b.Rel l stk) (hN:Nums l) (hN':Nums (l++[t])) (hk:t.kind=5):b.bar.Rel (l++[t]) stk:=by
 have al:=h.al
 have sl:=h.sl
 have ln:b.bar.seqs.length=b.seqs.length+1:=by simp [PB.bar]
 refine rel_same h hN hN' (by unfold delta;simp [hk]) (by omega) (by rw [ln];exact Nat.lt_succ_self _) (Or.inl rfl) (fun k hk'=>?_) (fun k hk'=>h.nums k hk') rfl rfl rfl (Nat.le_refl _) (fun i hi=>?_) ?_ (show b.atoms.length≤_ by omega) (by omega)
 ·obtain ⟨x,x1,x2⟩:=h.homes k hk'
  exact ⟨x,x1,by omega⟩
 ·have t1:=h.tops i hi
  exact ⟨rfl,t1.2.2.1,by show _≠(-1:Int);omega⟩
 ·constructor
  ·intro ⟨x,_⟩;exact absurd rfl x
  ·intro x;unfold endK at x;simp [hk] at x
theorem rel_open {b:PB} {l:List Tok} {stk:List Nat} {t:Tok} (h:b.Rel l stk) (hN:Nums l) (hN':Nums (l++[t])) (hk:t.kind=6) (hh:0≤t.how∧t.how≤4) (h9:isCap t=true→captures l<9):(b.opening (ptok t)).Rel (l++[t]) (stk++[l.length]):=by
 obtain ⟨a1,a2,a3,a4,a5,a6,a7,a8,a9⟩:=addAtom_ok (ptok t) h.sq h.la
 have al:=h.al
 have sl:=h.sl
 have hsq:=h.sq
 have hgc:=grp_cap hk hh
 have hd:delta t=1:=by unfold delta;simp [hk]
 have hcp0:=captures_bd l
 have hgr:=h.gr
 have hn:∀ cap:Bool,((b.addAtom (ptok t)).number b.atoms.length cap).atoms.length=b.atoms.length+1∧((b.addAtom (ptok t)).number b.atoms.length cap).seqs=(b.addAtom (ptok t)).seqs∧((b.addAtom (ptok t)).number b.atoms.length cap).opn=b.opn∧((b.addAtom (ptok t)).number b.atoms.length cap).clo=b.clo∧((b.addAtom (ptok t)).number b.atoms.length cap).groups=b.groups+(if cap then 1 else 0) ∧
   ((b.addAtom (ptok t)).number b.atoms.length cap).aAt b.atoms.length=⟨ptok t,if cap then (b.groups:Int)+1 else 0,pt0,-1,b.seq,-1⟩∧(∀ k,k<b.atoms.length→((b.addAtom (ptok t)).number b.atoms.length cap).aAt k=(b.addAtom (ptok t)).aAt k):=by
  intro cap
  generalize b.addAtom (ptok t)=d at *
  cases cap with
  | false=>exact ⟨a1,rfl,a5,a7,a6,a8,fun _ _=>rfl⟩
  | true =>
   refine ⟨by simp [PB.number,a1],rfl,a5,a7,by simp [PB.number,a6],?_,fun k hk=>?_⟩
   ·show (d.atoms.set b.atoms.length { d.aAt b.atoms.length with num:=(d.groups:Int)+1 }).getD b.atoms.length pa0=_
    rw [getD_set',if_pos ⟨rfl,by omega⟩,a8,a6];rfl
   ·show (d.atoms.set b.atoms.length _).getD k pa0=_
    rw [getD_set',if_neg (by omega)];rfl
 obtain ⟨n1,n2,n3,n4,n5,n6,n7⟩:=hn (decide ((ptok t).group=1))
 unfold PB.opening
 have n8:∀ k,k<b.atoms.length→(((b.addAtom (ptok t)).number b.atoms.length (decide ((ptok t).group=1))).aAt k).num=(b.aAt k).num∧(((b.addAtom (ptok t)).number b.atoms.length (decide ((ptok t).group=1))).aAt k).rep=(b.aAt k).rep∧(((b.addAtom (ptok t)).number b.atoms.length (decide ((ptok t).group=1))).aAt k).home=(b.aAt k).home:=fun k hk=>by rw [n7 k hk];exact a9 k hk
 have n2':((b.addAtom (ptok t)).number b.atoms.length (decide ((ptok t).group=1))).seqs.length=b.seqs.length:=by rw [n2,a2]
 generalize (b.addAtom (ptok t)).number b.atoms.length (decide ((ptok t).group=1))=e at *
 have ea:∀ k,(e.into b.atoms.length).aAt k=if b.atoms.length=k then { e.aAt b.atoms.length with body:=e.seqs.length } else e.aAt k:=fun k=>by
  show (e.atoms.set b.atoms.length _).getD k pa0=_
  rw [getD_set']
  by_cases x:b.atoms.length=k
  ·rw [if_pos ⟨x,by omega⟩,if_pos x]
  ·rw [if_neg (by omega),if_neg x];rfl
 have la:(e.into b.atoms.length).atoms.length=b.atoms.length+1:=by simp [PB.into,n1]
 have ls:(e.into b.atoms.length).seqs.length=b.seqs.length+1:=by simp [PB.into,n2']
 have lo:(e.into b.atoms.length).opn=b.opn++[b.atoms.length]:=by show e.opn++_=_;rw [n3]
 have num:(if decide ((ptok t).group=1)=true then (b.groups:Int)+1 else 0)=if isCap t=true then t.n else 0:=by
  cases hcp:isCap t
  ·rw [hcp] at hgc;rw [if_neg (by simpa using hgc),if_neg (by simp)]
  ·rw [hcp] at hgc
   rw [if_pos (by simpa using hgc),if_pos rfl]
   have:=hN' l.length (by simp) (by rw [getD_app,if_pos rfl];exact hcp)
   rw [getD_app,if_pos rfl,List.take_left] at this
   omega
 have gl:∀ j,j<l.length→(l++[t]).getD j tok0=l.getD j tok0:=fun j hj=>by rw [getD_app,if_neg (by omega)]
 have q1:(stk++[l.length]).getD stk.length 0=l.length:=by rw [getD_app,if_pos rfl]
 have q2:(b.opn++[b.atoms.length]).getD stk.length 0=b.atoms.length:=by rw [getD_app,if_pos h.len.symm]
 have q3:(l++[t]).getD l.length tok0=t:=by rw [getD_app,if_pos rfl]
 have gs:∀ i,i<stk.length→(stk++[l.length]).getD i 0=stk.getD i 0:=fun i hi=>by rw [getD_app,if_neg (by omega)]
 have go:∀ i,i<stk.length→(b.opn++[b.atoms.length]).getD i 0=b.opn.getD i 0:=fun i hi=>by rw [getD_app,if_neg (by rw [h.len];omega)]
 have hcl:∀ j,j<l.length→(l.getD j tok0).kind=6→(closing (l++[t]) j<l.length+1↔closing l j<l.length):=by
  intro j hj hk'
  rw [closing_snoc l t j (by omega)]
  by_cases x:closing l j<l.length
  ·rw [if_pos x];exact ⟨fun _=>x,fun _=>by omega⟩
  ·rw [if_neg x,hd]
   have:∃ i,i<stk.length∧stk.getD i 0=j:=by
    refine Classical.byContradiction fun hh=>x (h.oth j hj hk' (fun i hi he=>hh ⟨i,hi,he⟩))
   obtain ⟨i,hi,rfl⟩:=this
   have:=(h.stks i hi).2.2.2
   rw [if_neg (by omega)]
   exact ⟨fun y=>by omega,fun y=>absurd y x⟩
 refine ⟨by rw [ls];show e.seqs.length<_;omega,Or.inl rfl,fun k hk'=>?_,fun k hk'=>?_,by rw [lo];simp [h.len],by rw [opened_snoc,hd,← h.op];simp,?_,fun i hi=>?_,fun i hi=>?_,fun j hj hkj hs=>?_,fun i j hij hj=>?_,fun k h1 h2=>?_,by show e.clo.length=10;rw [n4];exact h.cl,?_,by rw [la];simp;omega,by rw [ls];simp;omega⟩
 ·rw [la] at hk'
  rw [ea]
  split
  ·rw [n6];exact ⟨b.seq,rfl,by omega⟩
  ·obtain ⟨x,x1,x2⟩:=h.homes k (by omega)
   exact ⟨x,by rw [(n8 k (by omega)).2.2];exact x1,by omega⟩
 ·rw [la] at hk'
  rw [ea]
  split
  ·rw [n6]
   dsimp only
   rw [num]
   split
   ·rename_i hcp
    have:=hN' l.length (by simp) (by rw [getD_app,if_pos rfl];exact hcp)
    rw [getD_app,if_pos rfl,List.take_left] at this
    have:=h9 hcp
    omega
   ·omega
  ·rw [(n8 k (by omega)).1];exact h.nums k (by omega)
 ·show (e.groups:Int)=_
  rw [n5,captures_snoc]
  cases hcp:isCap t
  ·rw [hcp] at hgc;rw [if_neg (by simpa using hgc)];simp;omega
  ·rw [hcp] at hgc;rw [if_pos (by simpa using hgc)];simp;omega
 ·simp only [List.length_append,List.length_cons,List.length_nil] at hi
  rw [lo]
  by_cases x:i<stk.length
  ·have t1:=h.tops i x
   have t3:=(h.stks i x).1
   rw [go i x,gs i x,gl _ t3,ea,if_neg (by omega)]
   exact ⟨by omega,by rw [(n8 _ t1.1).1];exact t1.2.1,by rw [(n8 _ t1.1).2.1];exact t1.2.2.1,by show _≠(-1:Int);omega⟩
  ·have ei:i=stk.length:=by omega
   subst ei
   rw [q2,q1,q3,ea,if_pos rfl,n6]
   exact ⟨by omega,num,rfl,by show _≠(-1:Int);omega⟩
 ·simp only [List.length_append,List.length_cons,List.length_nil] at hi ⊢
  by_cases x:i<stk.length
  ·obtain ⟨s1,s2,s3,s4⟩:=h.stks i x
   rw [gs i x,gl _ s1]
   refine ⟨by omega,s2,?_,?_⟩
   ·rw [closing_snoc l t _ (by omega),if_neg (by omega),if_neg (by omega)]
   ·rw [List.drop_append_of_le_length (by omega),opened_snoc,s4,hd];omega
  ·have ei:i=stk.length:=by omega
   subst ei
   rw [q1,q3]
   refine ⟨by omega,hk,closing_new l t (by omega),?_⟩
   rw [List.drop_left];simp [opened,hd];omega
 ·simp only [List.length_append,List.length_cons,List.length_nil] at hj hs ⊢
  by_cases x:j=l.length
  ·subst x
   have:=hs stk.length (by omega)
   rw [getD_app,if_pos rfl] at this
   exact absurd rfl this
  ·rw [gl j (by omega)] at hkj
   exact (hcl j (by omega) hkj).2 (h.oth j (by omega) hkj (fun i hi=>by have:=hs i (by omega);rwa [gs i hi] at this))
 ·simp only [List.length_append,List.length_cons,List.length_nil] at hj
  rw [lo,go i (by omega)]
  by_cases x:j<stk.length
  ·rw [go j x];exact h.inj i j hij x
  ·rw [getD_app,if_pos (by rw [h.len];omega)]
   exact (h.tops i (by omega)).1
 ·show e.clo.getD k false=_
  rw [n4,h.clo k h1 h2]
  have a:=closed_iff hN (k:Int)
  have b':=closed_iff hN' (k:Int)
  apply Bool.eq_iff_iff.2
  rw [a,b']
  constructor
  ·rintro ⟨j,j1,j2,j3,j4⟩
   refine ⟨j,by simp;omega,by rw [gl j j1];exact j2,by rw [gl j j1];exact j3,?_⟩
   have hk':(l.getD j tok0).kind=6:=by simp [isCap] at j2;exact j2.1
   simp only [List.length_append,List.length_cons,List.length_nil]
   exact (hcl j j1 hk').2 j4
  ·rintro ⟨j,j1,j2,j3,j4⟩
   simp only [List.length_append,List.length_cons,List.length_nil] at j1 j4
   by_cases x:j=l.length
   ·subst x;rw [closing_new l t (by omega)] at j4;omega
   ·rw [gl j (by omega)] at j2 j3
    have hk':(l.getD j tok0).kind=6:=by simp [isCap] at j2;exact j2.1
    exact ⟨j,by omega,j2,j3,(hcl j (by omega) hk').1 j4⟩
 ·rw [atomEnds_snoc]
  constructor
  ·intro ⟨x,_⟩;exact absurd rfl x
  ·intro x;unfold endK at x;simp [hk] at x
theorem getD_dropLast {α:Type} (l:List α) (i:Nat) (d:α) (h:i+1<l.length):l.dropLast.getD i d=l.getD i d:=by
 rw [List.getD_eq_getElem?_getD,List.getD_eq_getElem?_getD,List.getElem?_dropLast,if_pos (by omega)]
theorem getLastD_at {α:Type} (l:List α) (d:α) (h:0<l.length):l.getLastD d=l.getD (l.length-1) d:=by
 rw [List.getLastD_eq_getLast?,List.getLast?_eq_getElem?,List.getD_eq_getElem?_getD]
theorem rel_close {b:PB} {l:List Tok} {stk:List Nat} {t:Tok} (h:b.Rel l stk) (hN:Nums l) (hN':Nums (l++[t])) (hk:t.kind=7) (hp:0<stk.length):b.close.Rel (l++[t]) stk.dropLast:=by
 have al:=h.al
 have sl:=h.sl
 have hd:delta t=-1:=by unfold delta;simp [hk]
 have hcap:isCap t=false:=by unfold isCap;simp [hk]
 have hlen:=h.len
 have htop:b.top=b.opn.getD (stk.length-1) 0:=by unfold PB.top;rw [getLastD_at _ _ (by omega),hlen]
 have T:=h.tops (stk.length-1) (by omega)
 have S:=h.stks (stk.length-1) (by omega)
 rw [← htop] at T
 obtain ⟨hm,hm1,hm2⟩:=h.homes b.top T.1
 have gl:∀ j,j<l.length→(l++[t]).getD j tok0=l.getD j tok0:=fun j hj=>by rw [getD_app,if_neg (by omega)]
 have dl:stk.dropLast.length=stk.length-1:=by simp
 have gs:∀ i,i<stk.length-1→stk.dropLast.getD i 0=stk.getD i 0:=fun i hi=>getD_dropLast _ _ _ (by omega)
 have go:∀ i,i<stk.length-1→b.opn.dropLast.getD i 0=b.opn.getD i 0:=fun i hi=>getD_dropLast _ _ _ (by omega)
 have hcl:∀ j,j<l.length→(l.getD j tok0).kind=6→(closing (l++[t]) j<l.length+1↔closing l j<l.length∨j=stk.getD (stk.length-1) 0):=by
  intro j hj hk'
  rw [closing_snoc l t j (by omega)]
  by_cases x:closing l j<l.length
  ·rw [if_pos x];exact ⟨fun _=>Or.inl x,fun _=>by omega⟩
  ·rw [if_neg x,hd]
   have:∃ i,i<stk.length∧stk.getD i 0=j:=by
    refine Classical.byContradiction fun hh=>x (h.oth j hj hk' (fun i hi he=>hh ⟨i,hi,he⟩))
   obtain ⟨i,hi,rfl⟩:=this
   have o:=(h.stks i hi).2.2.2
   by_cases z:i=stk.length-1
   ·subst z
    rw [if_pos (by omega)];exact ⟨fun _=>Or.inr rfl,fun _=>by omega⟩
   ·rw [if_neg (by omega)]
    refine ⟨fun y=>by omega,fun y=>?_⟩
    rcases y with y | y
    ·exact absurd y x
    ·have o2:=S.2.2.2
     rw [← y] at o2
     omega
 have hnum:(b.aAt b.top).num.toNat<10:=by have:=h.nums b.top T.1;omega
 have hsq:=h.sq
 refine ⟨?_,Or.inr ⟨b.top,rfl,T.1⟩,h.homes,h.nums,by show b.opn.dropLast.length=_;simp [hlen],?_,by show (b.groups:Int)=_;rw [h.gr,captures_snoc,hcap];simp,fun i hi=>?_,fun i hi=>?_,fun j hj hkj hs=>?_,fun i j hij hj=>?_,fun k h1 h2=>?_,by show (b.clo.set _ _).length=10;rw [List.length_set];exact h.cl,?_,by show b.atoms.length≤_;simp;omega,by show b.seqs.length≤_;simp;omega⟩
 ·show (b.aAt b.top).home.toNat<b.seqs.length
  rw [hm1];simpa using hm2
 ·rw [opened_snoc,hd,← h.op,dl];omega
 ·rw [dl] at hi
  show b.opn.dropLast.getD i 0<_∧(b.aAt (b.opn.dropLast.getD i 0)).num=_∧(b.aAt (b.opn.dropLast.getD i 0)).rep.kind=0∧(b.opn.dropLast.getD i 0:Int)≠b.top
  have t1:=h.tops i (by omega)
  have t3:=(h.stks i (by omega)).1
  rw [go i hi,gs i hi,gl _ t3]
  refine ⟨t1.1,t1.2.1,t1.2.2.1,?_⟩
  have:=h.inj i (stk.length-1) (by omega) (by omega)
  rw [← htop] at this
  omega
 ·rw [dl] at hi
  obtain ⟨s1,s2,s3,s4⟩:=h.stks i (by omega)
  rw [gs i hi,gl _ s1]
  refine ⟨by simp only [List.length_append,List.length_cons,List.length_nil];omega,s2,?_,?_⟩
  ·rw [closing_snoc l t _ (by omega),if_neg (by omega),if_neg (by omega)];simp
  ·rw [List.drop_append_of_le_length (by omega),opened_snoc,s4,hd,dl];omega
 ·simp only [List.length_append,List.length_cons,List.length_nil] at hj ⊢
  by_cases x:j=l.length
  ·subst x;rw [getD_app,if_pos rfl] at hkj;omega
  ·rw [gl j (by omega)] at hkj
   refine (hcl j (by omega) hkj).2 ?_
   by_cases y:j=stk.getD (stk.length-1) 0
   ·exact Or.inr y
   ·refine Or.inl (h.oth j (by omega) hkj (fun i hi=>?_))
    by_cases z:i=stk.length-1
    ·subst z;exact Ne.symm y
    ·have:=hs i (by rw [dl];omega)
     rwa [gs i (by omega)] at this
 ·rw [dl] at hj
  show b.opn.dropLast.getD i 0<b.opn.dropLast.getD j 0
  rw [go i (by omega),go j (by omega)]
  exact h.inj i j hij (by omega)
 ·show (b.clo.set (b.aAt b.top).num.toNat true).getD k false=_
  rw [getD_set']
  have a:=closed_iff hN (k:Int)
  have b':=closed_iff hN' (k:Int)
  have hc:=h.clo k h1 h2
  have e1:closed (l++[t]) (k:Int)=true↔(closed l (k:Int)=true∨(b.aAt b.top).num=k):=by
   rw [a,b']
   constructor
   ·rintro ⟨j,j1,j2,j3,j4⟩
    simp only [List.length_append,List.length_cons,List.length_nil] at j1 j4
    by_cases x:j=l.length
    ·subst x;rw [getD_app,if_pos rfl,hcap] at j2;simp at j2
    ·rw [gl j (by omega)] at j2 j3
     have hk':(l.getD j tok0).kind=6:=by simp [isCap] at j2;exact j2.1
     rcases (hcl j (by omega) hk').1 j4 with y | y
     ·exact Or.inl ⟨j,by omega,j2,j3,y⟩
     ·right
      rw [T.2.1,← y,if_pos j2,j3]
   ·rintro (⟨j,j1,j2,j3,j4⟩ | y)
    ·refine ⟨j,by simp;omega,by rw [gl j j1];exact j2,by rw [gl j j1];exact j3,?_⟩
     have hk':(l.getD j tok0).kind=6:=by simp [isCap] at j2;exact j2.1
     simp only [List.length_append,List.length_cons,List.length_nil]
     exact (hcl j j1 hk').2 (Or.inl j4)
    ·rw [T.2.1] at y
     by_cases z:isCap (l.getD (stk.getD (stk.length-1) 0) tok0)=true
     ·rw [if_pos z] at y
      refine ⟨stk.getD (stk.length-1) 0,by simp only [List.length_append,List.length_cons,List.length_nil];have:=S.1;omega,by rw [gl _ S.1];exact z,by rw [gl _ S.1];exact y,?_⟩
      simp only [List.length_append,List.length_cons,List.length_nil]
      exact (hcl _ S.1 S.2.1).2 (Or.inr rfl)
     ·rw [if_neg z] at y;omega
  by_cases z:(b.aAt b.top).num=k
  ·have zk:(b.aAt b.top).num.toNat=k∧k<10:=by clear a b' e1 hcl hc;omega
   rw [if_pos ⟨zk.1,by rw [h.cl];exact zk.2⟩,(e1.2 (Or.inr z))]
  ·have:=h.nums b.top T.1
   have zk:¬ (b.aAt b.top).num.toNat=k:=by clear a b' e1 hcl hc;omega
   rw [if_neg (fun x=>zk x.1),hc]
   apply Bool.eq_iff_iff.2
   rw [e1]
   exact ⟨Or.inl,fun x=>by rcases x with x | x;exact x;exact absurd x z⟩
 ·rw [atomEnds_snoc]
  show ((b.top:Int)≠-1∧(b.aAt (b.top:Int).toNat).rep.kind=0)↔_
  rw [Int.toNat_natCast]
  exact ⟨fun _=>by unfold endK;simp [hk],fun _=>⟨by omega,T.2.2.1⟩⟩
theorem err_same {b:PB} {l:List Tok} {stk:List Nat} {t:Tok} (h:b.Rel l stk) (hN:Nums l) (hg:tokG t):b.err (ptok t)=may l t:=by
 obtain ⟨⟨k1,k2⟩,g2,g3,g4,g5⟩:=hg
 have hk:t.kind=1∨t.kind=2∨t.kind=3∨t.kind=4∨t.kind=5∨t.kind=6∨t.kind=7∨t.kind=8:=by omega
 have hop:=h.op
 have hlen:=h.len
 have hgr:=h.gr
 rcases hk with e | e | e | e | e | e | e | e
 ·unfold PB.err may;rw [ptok_kind,e];simp [kindP]
 ·obtain ⟨n1,n2⟩:=g3 e
  have hn:(ptok t).number=t.n:=by simp [ptok,e]
  have eL:b.err (ptok t)=if (b.groups:Int)<t.n∨b.clo.getD t.n.toNat false=false then 6 else 0:=by
   unfold PB.err;rw [ptok_kind,e,if_neg (by decide),if_neg (by decide),if_neg (by decide),if_neg (by decide),if_pos (by decide),hn]
  have eR:may l t=if closed l t.n then 0 else 6:=by unfold may;rw [if_pos e]
  rw [eL,eR]
  have hc:=h.clo t.n.toNat (by omega) (by omega)
  rw [show ((t.n.toNat:Nat):Int)=t.n by omega] at hc
  rw [hc]
  cases hcl:closed l t.n
  ·rw [if_pos (Or.inr rfl)];rfl
  ·have:=(closed_iff hN t.n).1 hcl
   obtain ⟨j,j1,j2,j3,j4⟩:=this
   have a:=hN j j1 j2
   have c:=captures_next l j j1
   rw [if_pos j2] at c
   have d:=captures_mono l (j+1) (l.length-(j+1)) (by omega)
   rw [show j+1+(l.length-(j+1))=l.length by omega,List.take_length] at d
   rw [if_neg (by simp;omega)];rfl
 ·unfold PB.err may;rw [ptok_kind,e];simp [kindP]
 ·unfold PB.err may;rw [ptok_kind,e];simp [kindP]
 ·unfold PB.err may;rw [ptok_kind,e];simp [kindP]
 ·have hgc:=grp_cap e (g4 e)
  have eL:b.err (ptok t)=if 10≤b.opn.length then 8 else if (ptok t).group=1∧9≤b.groups then 9 else 0:=by
   unfold PB.err;rw [ptok_kind,e,if_neg (by decide),if_pos (by decide)]
  have eR:may l t=if 10≤opened l then 8 else if t.how=4∧9≤captures l then 9 else 0:=by unfold may;rw [if_neg (by omega),if_neg (by omega),if_pos e]
  rw [eL,eR]
  by_cases x:10≤opened l
  ·rw [if_pos x,if_pos (by omega)]
  ·rw [if_neg x,if_neg (by omega)]
   by_cases y:t.how=4∧9≤captures l
   ·rw [if_pos y,if_pos ⟨hgc.2 (by unfold isCap;simp [e,y.1]),by omega⟩]
   ·rw [if_neg y,if_neg]
    rintro ⟨z1,z2⟩
    have:=hgc.1 z1
    simp [isCap] at this
    exact y ⟨this.2,by omega⟩
 ·have eL:b.err (ptok t)=if b.opn.length=0 then 10 else 0:=by
   unfold PB.err;rw [ptok_kind,e,if_neg (by decide),if_neg (by decide),if_pos (by decide)]
  have eR:may l t=if opened l=0 then 10 else 0:=by unfold may;rw [if_neg (by omega),if_neg (by omega),if_neg (by omega),if_pos e]
  rw [eL,eR]
  by_cases x:opened l=0
  ·rw [if_pos x,if_pos (by omega)]
  ·rw [if_neg x,if_neg (by omega)]
 ·have eL:b.err (ptok t)=if b.last=-1∨(b.aAt b.last.toNat).rep.kind≠0 then 7 else 0:=by
   unfold PB.err;rw [ptok_kind,e,if_neg (by decide),if_neg (by decide),if_neg (by decide),if_pos (by decide)]
  have eR:may l t=if atomEnds l then 0 else 7:=by unfold may;rw [if_neg (by omega),if_pos e]
  rw [eL,eR]
  have hen:=h.en
  cases ha:atomEnds l
  ·rw [ha] at hen
   rw [if_pos]
   ·rfl
   ·by_cases x:b.last=-1
    ·exact Or.inl x
    ·exact Or.inr fun y=>by simpa using hen.1 ⟨x,y⟩
  ·rw [ha] at hen
   have:=hen.2 rfl
   rw [if_neg (by rintro (x | x);exact this.1 x;exact x this.2)];rfl
theorem nums_valid {l:List Tok} (h:Valid l):Nums l:=fun j hj hc=>(h j hj).2.2 hc
theorem ptok_joined (l:List Tok) (t:Tok):ptok (joined l t)=ptok t:=by
 unfold joined
 split
 ·rename_i h
  have:t.kind=6:=by simp [isCap] at h;exact h.1
  unfold ptok;simp [this]
 ·rfl
theorem rel_next {b:PB} {l:List Tok} {stk:List Nat} {t:Tok} (h:b.Rel l stk) (hv:Valid l) (hg:tokG t) (hm:may l t=0):∃ stk',(b.next (ptok t)).Rel (l++[joined l t]) stk':=by
 have hN:=nums_valid hv
 have hN':=nums_valid (valid_next hv hg hm)
 have jk:=joined_kind l t
 have herr:=err_same h hN hg
 rw [hm] at herr
 obtain ⟨⟨k1,k2⟩,g2,g3,g4,g5⟩:=hg
 have hk:t.kind=1∨t.kind=2∨t.kind=3∨t.kind=4∨t.kind=5∨t.kind=6∨t.kind=7∨t.kind=8:=by omega
 have leaf:leafK t→∃ stk',(b.next (ptok t)).Rel (l++[joined l t]) stk':=fun hl=>by
  rw [next_leaf b hl]
  exact ⟨stk,rel_leaf h hN hN' (by unfold leafK at *;rw [jk.1];exact hl) _⟩
 rcases hk with e | e | e | e | e | e | e | e
 ·exact leaf (Or.inl e)
 ·exact leaf (Or.inr (Or.inl e))
 ·exact leaf (Or.inr (Or.inr (Or.inl e)))
 ·exact leaf (Or.inr (Or.inr (Or.inr e)))
 ·rw [next_bar b e];exact ⟨stk,rel_bar h hN hN' (by rw [jk.1];exact e)⟩
 ·rw [next_open b e,← ptok_joined l t]
  refine ⟨stk++[l.length],rel_open h hN hN' (by rw [jk.1];exact e) (by rw [jk.2.1];exact g4 e) (fun hc=>?_)⟩
  have hc':t.how=4:=by simp [isCap] at hc;rw [← jk.2.1];exact hc.2
  unfold may at hm
  rw [if_neg (by omega),if_neg (by omega),if_pos e] at hm
  by_cases x:10≤opened l
  ·rw [if_pos x] at hm;omega
  ·rw [if_neg x] at hm
   by_cases y:t.how=4∧9≤captures l
   ·rw [if_pos y] at hm;omega
   ·have:¬ 9≤captures l:=fun z=>y ⟨hc',z⟩
    omega
 ·rw [next_close b e]
  have ho:¬ opened l=0:=fun x=>by
   unfold may at hm
   rw [if_neg (by omega),if_neg (by omega),if_neg (by omega),if_pos e,if_pos x] at hm;omega
  have:=h.op
  exact ⟨stk.dropLast,rel_close h hN hN' (by rw [jk.1];exact e) (by omega)⟩
 ·rw [next_rep b e]
  refine ⟨stk,rel_rep h hN hN' (by rw [jk.1];exact e) _ (by rw [ptok_kind,e];decide) (fun x=>?_)⟩
  unfold PB.err at herr
  rw [ptok_kind,e,if_neg (by decide),if_neg (by decide),if_neg (by decide),if_pos (by decide),if_pos (Or.inl x)] at herr
  omega
end Mt
