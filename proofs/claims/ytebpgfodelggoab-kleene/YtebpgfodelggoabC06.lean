import Derived.Test.YtebpgfodelggoabC05
import Derived.Test.YtebpgfodelggoabC04
set_option linter.unusedVariables false
set_option linter.unusedSimpArgs false
namespace Mt
def tokG (t:Tok):Prop:=(1≤t.kind∧t.kind≤8)∧t.set.length≤256∧(t.kind=2→1≤t.n∧t.n≤9)∧(t.kind=6→0≤t.how∧t.how≤4)
 ∧ (t.kind=8→0≤t.n∧t.n≤20∧-1≤t.m∧t.m≤20∧0≤t.how∧t.how≤2)
theorem all_len (p:ByteArray) (a b:Int) (no:Bool):(all p a b no).length≤256:=by
 unfold all allTo
 rw [List.length_map]
 refine Nat.le_trans (List.length_filter_le _ _) ?_
 simp
theorem nextT_G (p:ByteArray) (i:Int) (h:(nextT p i).2=0):tokG (nextT p i).1:=by
 unfold nextT at h ⊢
 split
 ·simp [tokG]
 split
 ·simp [tokG]
 split
 ·simp [tokG]
 split
 ·simp [tokG]
 split
 ·unfold escape
  split
  ·simp [tokG]
  split
  ·simp [tokG,all_len]
  split
  ·simp only [tokG];simp;omega
  ·simp [tokG]
 split
 ·rename_i a b c d e f
  rw [if_neg a,if_neg b,if_neg c,if_neg d,if_neg e,if_pos f] at h
  unfold classT at h ⊢
  split
  ·rename_i g;rw [if_pos g] at h;simp at h
  ·simp [tokG,all_len]
 split
 ·unfold opening
  repeat' split
  all_goals simp [tokG]
 split
 ·have m1:=mood_how p (i+1)
  have m2:=mood_how p (count p i).2.2.1
  have c1:=count_nm p i
  unfold repeatT
  split
  ·simp only [tokG];simp;omega
  split
  ·simp only [tokG];simp;omega
  split
  ·split
   ·simp only [tokG];simp;omega
   ·simp [tokG]
  ·simp only [tokG];simp;omega
 split
 ·simp [tokG,all_len]
 ·simp [tokG]
def Valid (l:List Tok):Prop:=∀ k,k<l.length→may (l.take k) (l.getD k tok0)=0∧tokG (l.getD k tok0)∧(isCap (l.getD k tok0)=true→(l.getD k tok0).n=captures (l.take k)+1)
theorem joined_kind (l:List Tok) (t:Tok):(joined l t).kind=t.kind∧(joined l t).how=t.how∧(joined l t).set=t.set∧(joined l t).m=t.m∧(isCap t=false→joined l t=t)∧(isCap t=true→(joined l t).n=captures l+1):=by
 unfold joined
 split <;> simp_all
theorem may_joined (l:List Tok) (t:Tok):may l (joined l t)=may l t:=by
 obtain ⟨h1,h2,_,_,h5,_⟩:=joined_kind l t
 by_cases hc:isCap t=true
 ·have hk:t.kind=6:=by simp [isCap] at hc;exact hc.1
  unfold may
  rw [h1,h2]
  rw [if_neg (by omega),if_neg (by omega)]
  rw [if_neg (show ¬ t.kind=2 by omega)]
 ·rw [h5 (by simpa using hc)]
theorem valid_next {l:List Tok} {t:Tok} (h:Valid l) (hg:tokG t) (hm:may l t=0):Valid (l++[joined l t]):=by
 obtain ⟨h1,h2,h3,h4,h5,h6⟩:=joined_kind l t
 intro k hk
 rw [List.length_append] at hk
 by_cases hlt:k<l.length
 ·rw [List.take_append_of_le_length (by omega),List.getD_eq_getElem?_getD,List.getElem?_append_left hlt,← List.getD_eq_getElem?_getD]
  exact h k hlt
 ·have e:k=l.length:=by simp at hk;omega
  subst e
  rw [List.take_left',List.getD_eq_getElem?_getD,List.getElem?_append_right (Nat.le_refl _)]
  ·simp only [Nat.sub_self,List.getElem?_cons_zero,Option.getD_some]
   refine ⟨by rw [may_joined];exact hm,?_,fun hc=>?_⟩
   ·by_cases hc:isCap t=true
    ·have hk:t.kind=6:=by simp [isCap] at hc;exact hc.1
     unfold tokG at *
     rw [h1,h2,h3,h4]
     omega
    ·rw [h5 (by simpa using hc)];exact hg
   ·refine h6 ?_
    unfold isCap at *
    rw [h1,h2] at hc;exact hc
  ·rfl
theorem readOn_valid (p:ByteArray):∀ (f:Nat) (l:List Tok) (i:Int),0≤i→i≤p.size→(p.size:Int)-i<f→Valid l→(readOn p l i).2.1=0→Valid (readOn p l i).1:=by
 intro f
 induction f with
 | zero=>intro l i h0 h1 h2;omega
 | succ f ih =>
  intro l i h0 h1 h2 hl he
  rw [readOn_step p l i h0 h1] at he ⊢
  split
  ·exact hl
  ·rename_i a
   rw [if_neg a] at he
   split
   ·rename_i b;rw [if_pos b] at he;exact absurd he b
   ·rename_i b
    rw [if_neg b] at he
    split
    ·rename_i c;rw [if_pos c] at he;exact absurd he c
    ·rename_i c
     rw [if_neg c] at he
     have ht:=nextT_to p i h0 (by omega) (by omega)
     exact ih _ _ (by omega) (by omega) (by omega) (valid_next hl (nextT_G p i (by omega)) (by omega)) he
theorem tokens_valid (p:ByteArray) (h:(tokens p).2.1=0):Valid (tokens p).1∧¬ 0<opened (tokens p).1:=by
 unfold tokens at h ⊢
 split
 ·rename_i a;rw [if_pos a] at h;simp at h
 ·rename_i a
  rw [if_neg a] at h
  split
  ·rename_i b;rw [if_pos b] at h;exact absurd h b
  ·rename_i b
   rw [if_neg b] at h
   split
   ·rename_i c;rw [if_pos c] at h;simp at h
   ·rename_i c
    refine ⟨?_,c⟩
    rw [readOn_start p (by omega)]
    exact readOn_valid p (p.size+1) [] 0 (by omega) (by omega) (by omega) (fun k hk=>by simp at hk) (by rw [← readOn_start p (by omega)];omega)
theorem valid_opened {l:List Tok} (h:Valid l):∀ k,k≤l.length→0≤opened (l.take k)∧opened (l.take k)≤10
 | 0,_=>by simp [opened]
 | k+1,hk=>by
  have ih:=valid_opened h k (by omega)
  have hm:=(h k (by omega)).1
  rw [opened_next l k (by omega)]
  unfold may at hm
  unfold delta
  by_cases h6:(l.getD k tok0).kind=6
  ·rw [if_neg (by omega),if_neg (by omega),if_pos h6] at hm
   rw [if_pos h6]
   split at hm <;> omega
  ·rw [if_neg h6]
   by_cases h7:(l.getD k tok0).kind=7
   ·rw [if_neg (by omega),if_neg (by omega),if_neg h6,if_pos h7] at hm
    rw [if_pos h7]
    split at hm <;> omega
   ·rw [if_neg h7];omega
theorem opened_drop (l:List Tok) (k:Nat):opened (l.take k)+opened (l.drop k)=opened l:=by
 rw [← opened_append,List.take_append_drop]
def endK (t:Tok):Bool:=decide (t.kind=1∨t.kind=2∨t.kind=3∨t.kind=4∨t.kind=7)
def repOk:Bool→List Tok→Prop
 | _,[]=>True
 | b,t::s=>(t.kind=8→b=true)∧repOk (endK t) s
theorem valid_rep {l:List Tok} (h:Valid l):∀ (n k:Nat),k+n=l.length→repOk (atomEnds (l.take k)) (l.drop k)
 | 0,k,e=>by rw [List.drop_eq_nil_of_le (by omega)];trivial
 | n+1,k,e=>by
  have hm:=(h k (by omega)).1
  rw [drop_next l k (by omega)]
  refine ⟨fun h8=>?_,?_⟩
  ·unfold may at hm
   rw [if_neg (by omega),if_pos h8] at hm
   cases hx:atomEnds (l.take k) with
   | true=>rfl
   | false=>rw [hx] at hm;simp at hm
  ·have:=valid_rep h n (k+1) (by omega)
   rw [take_next l k (by omega)] at this
   have e2:atomEnds (l.take k++[l.getD k tok0])=endK (l.getD k tok0):=by
    unfold atomEnds endK;simp
   rw [e2] at this;exact this
theorem repOk_false {b:Bool}:∀ {s:List Tok},repOk b s→(∀ t u,s=t::u→t.kind≠8)→repOk false s
 | [],_,_=>trivial
 | t::u,h,h2=>⟨fun h8=>absurd h8 (h2 t u rfl),h.2⟩
theorem opened_flat:∀ f:Fs,f.wf→opened f.flat=0
 | .nil,_=>rfl
 | .bar t r,h=>by
  have hd:delta t=0:=by have:=h.1;unfold delta;rw [if_neg (by omega),if_neg (by omega)]
  simp only [Fs.flat,opened];rw [hd,opened_flat r h.2];rfl
 | .leaf t r s,h=>by
  have hd:delta t=0:=by have:=h.1;unfold leafK at this;unfold delta;rw [if_neg (by omega),if_neg (by omega)]
  have hr:opened r.toList=0:=by
   cases r with
   | none=>rfl
   | some q=>have:=h.2.1 q rfl;simp only [Option.toList,opened];unfold delta;rw [if_neg (by omega),if_neg (by omega)];rfl
  simp only [Fs.flat,opened,opened_append];rw [hd,hr,opened_flat s h.2.2];rfl
 | .grp t i c r s,h=>by
  have hd:delta t=1:=by have:=h.1;unfold delta;rw [if_pos (by omega)]
  have hc:delta c=-1:=by have:=h.2.1;unfold delta;rw [if_neg (by omega),if_pos (by omega)]
  have hr:opened r.toList=0:=by
   cases r with
   | none=>rfl
   | some q=>have:=h.2.2.2.1 q rfl;simp only [Option.toList,opened];unfold delta;rw [if_neg (by omega),if_neg (by omega)];rfl
  simp only [Fs.flat,opened,opened_append];rw [hd,hc,hr,opened_flat i h.2.2.1,opened_flat s h.2.2.2.2];rfl
theorem parse:∀ (N:Nat) (s:List Tok),s.length≤N→(∀ t∈s,1≤t.kind∧t.kind≤8)→repOk false s→(∀ k,opened (s.drop k)≤0) →
  ∃ (f:Fs) (rest:List Tok),f.wf∧s=f.flat++rest∧(rest=[]∨∃ c u,rest=c::u∧c.kind=7)
 | N,[],_,_,_,_=>⟨.nil,[],trivial,rfl,.inl rfl⟩
 | 0,t::s,h,_,_,_=>by simp at h
 | N+1,t::s,hN,hk,hr,ho=>by
  have hks:∀ u∈s,1≤u.kind∧u.kind≤8:=fun u hu=>hk u (List.mem_cons_of_mem _ hu)
  have hos:∀ k,opened (s.drop k)≤0:=fun k=>ho (k+1)
  have ht:=hk t (List.mem_cons_self ..)
  have hNs:s.length≤N:=by simpa using hN
  have behindAtom:∀ v:List Tok,v.length≤N→(∀ u∈v,1≤u.kind∧u.kind≤8)→repOk true v→(∀ k,opened (v.drop k)≤0) →
    ∃ (r:Option Tok) (f:Fs) (rest:List Tok),repK r∧f.wf∧v=r.toList++(f.flat++rest)∧(rest=[]∨∃ c u,rest=c::u∧c.kind=7):=by
   intro v hv hkv hrv hov
   match v with
   | []=>exact ⟨none,.nil,[],fun q e=>(by cases e),trivial,rfl,.inl rfl⟩
   | q::w =>
    by_cases h8:q.kind=8
    ·have hrw:repOk false w:=by
      have:=hrv.2
      have e:endK q=false:=by unfold endK;simp;omega
      rwa [e] at this
     obtain ⟨f,rest,hw,e,hrest⟩:=parse N w (by simp at hv;omega) (fun u hu=>hkv u (List.mem_cons_of_mem _ hu)) hrw (fun k=>hov (k+1))
     exact ⟨some q,f,rest,fun q' e'=>(by cases e';exact h8),hw,by rw [e];rfl,hrest⟩
    ·obtain ⟨f,rest,hw,e,hrest⟩:=parse N (q::w) hv hkv (repOk_false hrv (fun t' u' e'=>by cases e';exact h8)) hov
     exact ⟨none,f,rest,fun q e=>(by cases e),hw,e,hrest⟩
  by_cases h7:t.kind=7
  ·exact ⟨.nil,t::s,trivial,rfl,.inr ⟨t,s,rfl,h7⟩⟩
  by_cases h5:t.kind=5
  ·have hrs:repOk false s:=by
    have:=hr.2
    have e:endK t=false:=by unfold endK;simp;omega
    rwa [e] at this
   obtain ⟨f,rest,hw,e,hrest⟩:=parse N s hNs hks hrs hos
   exact ⟨.bar t f,rest,⟨h5,hw⟩,by rw [e];rfl,hrest⟩
  by_cases h6:t.kind=6
  ·have hrs:repOk false s:=by
    have:=hr.2
    have e:endK t=false:=by unfold endK;simp;omega
    rwa [e] at this
   obtain ⟨i,rest,hw,e,hrest⟩:=parse N s hNs hks hrs hos
   have hd:delta t=1:=by unfold delta;rw [if_pos (by omega)]
   rcases hrest with rfl | ⟨c,u,rfl,hc⟩
   ·exfalso
    have h0:=ho 0
    simp only [List.drop_zero,opened] at h0
    rw [hd,e,List.append_nil,opened_flat i hw] at h0
    omega
   ·have hd1:∀ k,s.drop (i.flat.length+k)=(c::u).drop k:=fun k=>by rw [e,← List.drop_drop,List.drop_left]
    have hu:u=s.drop (i.flat.length+1):=by rw [hd1 1];rfl
    have hru:repOk true u:=by
     have key:∀ (x:List Tok) (b:Bool),repOk b (x++c::u)→repOk true u:=by
      intro x
      induction x with
      | nil =>
          intro b hb;have:=hb.2;have e7:endK c=true:=by unfold endK;simp;omega
          rwa [e7] at this
      | cons y ys ih=>intro b hb;exact ih _ hb.2
     have:=hrs
     rw [e] at this
     exact key _ _ this
    have hul:u.length+1+i.flat.length≤N:=by
     have:=hNs;rw [e] at this;simp at this;omega
    obtain ⟨r,f,rest,hr1,hf,hu1,hrest⟩:=behindAtom u (by omega) (fun x hx=>hks x (by rw [e];simp [hx])) hru (fun k=>by rw [hu,List.drop_drop];exact hos _)
    exact ⟨.grp t i c r f,rest,⟨h6,hc,hw,hr1,hf⟩,by rw [e,hu1];simp [Fs.flat],hrest⟩
  have h8:t.kind≠8:=fun h8=>by have:=hr.1 h8;simp at this
  have hrs:repOk true s:=by
   have:=hr.2
   have e:endK t=true:=by unfold endK;simp;omega
   rwa [e] at this
  obtain ⟨r,f,rest,hr1,hf,hu1,hrest⟩:=behindAtom s hNs hks hrs hos
  exact ⟨.leaf t r f,rest,⟨by unfold leafK;omega,hr1,hf⟩,by rw [hu1];simp [Fs.flat],hrest⟩
theorem valid_parse {l:List Tok} (h:Valid l) (ho:¬ 0<opened l):∃ f:Fs,f.wf∧l=f.flat:=by
 have hv:=valid_opened h
 have h0:=hv l.length (Nat.le_refl _)
 rw [List.take_length] at h0
 have hr:=valid_rep h l.length 0 (by omega)
 simp only [List.take_zero,List.drop_zero] at hr
 obtain ⟨f,rest,hw,e,hrest⟩:=parse l.length l (Nat.le_refl _) (fun t ht=>by
  obtain ⟨k,hk,rfl⟩:=List.mem_iff_getElem.1 ht
  have:=(h k hk).2.1
  rw [List.getD_eq_getElem?_getD,List.getElem?_eq_getElem hk] at this
  exact this.1) hr (fun k=>by
  by_cases hk:k≤l.length
  ·have:=opened_drop l k
   have:=hv k hk
   omega
  ·rw [List.drop_eq_nil_of_le (by omega)];simp [opened])
 rcases hrest with rfl | ⟨c,u,rfl,hc⟩
 ·exact ⟨f,hw,by rw [e,List.append_nil]⟩
 ·exfalso
  have hlen:f.flat.length+1≤l.length:=by rw [e];simp
  have:=hv (f.flat.length+1) hlen
  have ht:l.take (f.flat.length+1)=f.flat++[c]:=by rw [e];rw [List.take_append,List.take_of_length_le (by omega)];simp
  rw [ht,opened_append,opened_flat f hw] at this
  simp only [opened] at this
  have hd:delta c=-1:=by unfold delta;rw [if_neg (by omega),if_pos (by omega)]
  rw [hd] at this
  omega
def Fs.dp:Fs→Nat
 | .nil=>0
 | .bar _ r=>r.dp
 | .leaf _ _ s=>s.dp
 | .grp _ i _ _ s=>max (i.dp+1) s.dp
theorem dp_le:∀ (f:Fs),f.wf→∀ (n:Int),n≤10→(∀ k,k≤f.flat.length→n+opened (f.flat.take k)≤10)→n+f.dp≤10
 | .nil,_,n,hn,_=>by simp [Fs.dp];omega
 | .bar t r,h,n,hn,hk=>by
  have hd:delta t=0:=by have:=h.1;unfold delta;rw [if_neg (by omega),if_neg (by omega)]
  refine dp_le r h.2 n hn (fun k hkl=>?_)
  have:=hk (k+1) (by simp [Fs.flat];omega)
  simp only [Fs.flat,List.take_succ_cons,opened,hd] at this
  omega
 | .leaf t r s,h,n,hn,hk=>by
  have hd:delta t=0:=by have:=h.1;unfold leafK at this;unfold delta;rw [if_neg (by omega),if_neg (by omega)]
  have hr:opened r.toList=0:=by
   cases r with
   | none=>rfl
   | some q=>have:=h.2.1 q rfl;simp only [Option.toList,opened];unfold delta;rw [if_neg (by omega),if_neg (by omega)];rfl
  refine dp_le s h.2.2 n hn (fun k hkl=>?_)
  have:=hk (r.toList.length+k+1) (by simp [Fs.flat];omega)
  simp only [Fs.flat,List.take_succ_cons,opened,hd] at this
  rw [List.take_append,List.take_of_length_le (by omega),opened_append,hr,show r.toList.length+k-r.toList.length=k by omega] at this
  omega
 | .grp t i c r s,h,n,hn,hk=>by
  have hd:delta t=1:=by have:=h.1;unfold delta;rw [if_pos (by omega)]
  have hc:delta c=-1:=by have:=h.2.1;unfold delta;rw [if_neg (by omega),if_pos (by omega)]
  have hr:opened r.toList=0:=by
   cases r with
   | none=>rfl
   | some q=>have:=h.2.2.2.1 q rfl;simp only [Option.toList,opened];unfold delta;rw [if_neg (by omega),if_neg (by omega)];rfl
  have hi:=opened_flat i h.2.2.1
  have h1:n+1+i.dp≤10:=by
   have h00:=hk 1 (by simp [Fs.flat])
   simp only [Fs.flat,List.take_succ_cons,List.take_zero,opened,hd] at h00
   refine dp_le i h.2.2.1 (n+1) (by omega) (fun k hkl=>?_)
   have:=hk (k+1) (by simp [Fs.flat];omega)
   simp only [Fs.flat,List.take_succ_cons,opened,hd] at this
   rw [List.take_append_of_le_length hkl] at this
   omega
  have h2:n+s.dp≤10:=by
   refine dp_le s h.2.2.2.2 n hn (fun k hkl=>?_)
   have:=hk (i.flat.length+(r.toList.length+k+1)+1) (by simp [Fs.flat];omega)
   simp only [Fs.flat,List.take_succ_cons,opened,hd] at this
   rw [List.take_append,List.take_of_length_le (by omega),opened_append,hi,show i.flat.length+(r.toList.length+k+1)-i.flat.length=r.toList.length+k+1 by omega,List.take_succ_cons,opened,hc,
    List.take_append,List.take_of_length_le (by omega),opened_append,hr,show r.toList.length+k-r.toList.length=k by omega] at this
   omega
  simp only [Fs.dp]
  omega
def Re.fine:Re→Prop
 | .eps=>True
 | .one s=>s.length≤256
 | .back k=>1≤k∧k≤9
 | .head=>True
 | .tail=>True
 | .cat a b=>a.fine∧b.fine
 | .alt a b=>a.fine∧b.fine
 | .cap k a=>(1≤k∧k≤9)∧a.fine
 | .sub s a=>(0≤s∧s≤2)∧a.fine
 | .opt _ a=>a.fine
 | .loop _ a=>a.fine
def Re.deep:Re→Nat
 | .eps=>0
 | .one _=>0
 | .back _=>0
 | .head=>0
 | .tail=>0
 | .cat a b=>max a.deep b.deep
 | .alt a b=>max a.deep b.deep
 | .cap _ a=>a.deep
 | .sub _ a=>a.deep
 | .opt _ a=>a.deep
 | .loop _ a=>a.deep+1
theorem timesA_fine {x:Re} (h:x.fine):∀ n,(timesA x n).fine∧(timesA x n).deep≤x.deep
 | 0=>⟨trivial,Nat.zero_le _⟩
 | n+1=>by have:=timesA_fine h n;exact ⟨⟨h,this.1⟩,by simp only [timesA,Re.deep];omega⟩
theorem optA_fine {x:Re} (late:Bool) (h:x.fine):∀ n,(optA x late n).fine∧(optA x late n).deep≤x.deep
 | 0=>⟨trivial,Nat.zero_le _⟩
 | n+1=>by have:=optA_fine late h n;exact ⟨⟨h,this.1⟩,by simp only [optA,Re.deep];omega⟩
theorem repA_fine {x:Re} (h:x.fine) (r:Tok):(repA x r).fine∧(repA x r).deep≤x.deep+1:=by
 unfold repA
 dsimp only
 have t:=timesA_fine h r.n.toNat
 have o:=optA_fine (decide (r.how=1)) h (r.m-r.n).toNat
 have c1:(if 0<r.n∨0<r.m then (if r.n<r.m then Re.cat (timesA x r.n.toNat) (optA x (decide (r.how=1)) (r.m-r.n).toNat) else timesA x r.n.toNat) else Re.eps).fine∧(if 0<r.n∨0<r.m then (if r.n<r.m then Re.cat (timesA x r.n.toNat) (optA x (decide (r.how=1)) (r.m-r.n).toNat) else timesA x r.n.toNat) else Re.eps).deep≤x.deep:=by
  split
  ·split
   ·exact ⟨⟨t.1,o.1⟩,by simp only [Re.deep];omega⟩
   ·exact t
  ·exact ⟨trivial,Nat.zero_le _⟩
 generalize (if 0<r.n∨0<r.m then (if r.n<r.m then Re.cat (timesA x r.n.toNat) (optA x (decide (r.how=1)) (r.m-r.n).toNat) else timesA x r.n.toNat) else Re.eps)=z at *
 have c2:(if r.m<0 then Re.cat z (.loop (decide (r.how=1)) x) else z).fine∧(if r.m<0 then Re.cat z (.loop (decide (r.how=1)) x) else z).deep≤x.deep+1:=by
  split
  ·exact ⟨⟨c1.1,h⟩,by simp only [Re.deep];omega⟩
  ·exact ⟨c1.1,by omega⟩
 generalize (if r.m<0 then Re.cat z (.loop (decide (r.how=1)) x) else z)=z2 at *
 split
 ·exact ⟨⟨by omega,c2.1⟩,c2.2⟩
 ·exact c2
theorem part_fine {x:Re} (h:x.fine) (r:Option Tok):(part r x).fine∧(part r x).deep≤x.deep+1:=by
 cases r with
 | none=>exact ⟨h,Nat.le_succ _⟩
 | some q=>exact repA_fine h q
def tokF (t:Tok):Prop:=t.set.length≤256∧(t.kind=2→1≤t.n∧t.n≤9)∧(t.kind=6→0≤t.how∧t.how≤4)∧(t.kind=6→t.how=4→1≤t.n∧t.n≤9)
theorem joinRe_fine (b:Re × Option Re) (h1:b.1.fine) (h2:∀ a,b.2=some a→a.fine):(joinRe b).fine:=by
 obtain ⟨x,y⟩:=b
 cases y with
 | none=>exact h1
 | some a=>exact ⟨h1,h2 a rfl⟩
theorem joinRe_deep (b:Re × Option Re) (n:Nat) (h1:b.1.deep≤n) (h2:∀ a,b.2=some a→a.deep≤n):(joinRe b).deep≤n:=by
 obtain ⟨x,y⟩:=b
 cases y with
 | none=>exact h1
 | some a=>have:=h2 a rfl;simp only [joinRe,Re.deep] at *;omega
theorem both_fine:∀ (f:Fs),f.wf→(∀ t∈f.flat,tokF t)→(f.both.1.fine∧∀ a,f.both.2=some a→a.fine)∧(f.both.1.deep≤f.dp+1∧∀ a,f.both.2=some a→a.deep≤f.dp+1)
 | .nil,_,_=>⟨⟨trivial,fun a e=>(by cases e)⟩,Nat.zero_le _,fun a e=>(by cases e)⟩
 | .bar t r,h,ht=>by
  have ih:=both_fine r h.2 (fun u hu=>ht u (by simp [Fs.flat,hu]))
  refine ⟨⟨trivial,fun a e=>?_⟩,Nat.zero_le _,fun a e=>?_⟩
  ·simp only [Fs.both,Option.some.injEq] at e;subst e;exact joinRe_fine _ ih.1.1 ih.1.2
  ·simp only [Fs.both,Option.some.injEq] at e;subst e;exact joinRe_deep _ _ ih.2.1 ih.2.2
 | .leaf t r s,h,ht=>by
  have ih:=both_fine s h.2.2 (fun u hu=>ht u (by simp [Fs.flat,hu]))
  have hl:(leafRe t).fine∧(leafRe t).deep=0:=by
   have hf:=ht t (by simp [Fs.flat])
   unfold tokF at hf
   unfold leafRe
   split
   ·exact ⟨hf.1,rfl⟩
   split
   ·rename_i h2;exact ⟨hf.2.1 h2,rfl⟩
   split
   ·exact ⟨trivial,rfl⟩
   ·exact ⟨trivial,rfl⟩
  have hp:=part_fine hl.1 r
  exact ⟨⟨⟨hp.1,ih.1.1⟩,ih.1.2⟩,by simp only [Fs.both,Re.deep,Fs.dp];have:=ih.2.1;omega,ih.2.2⟩
 | .grp t i c r s,h,ht=>by
  have ii:=both_fine i h.2.2.1 (fun u hu=>ht u (by simp [Fs.flat,hu]))
  have is:=both_fine s h.2.2.2.2 (fun u hu=>ht u (by simp [Fs.flat,hu]))
  have hf:=ht t (by simp [Fs.flat])
  unfold tokF at hf
  have j1:=joinRe_fine _ ii.1.1 ii.1.2
  have j2:=joinRe_deep _ _ ii.2.1 ii.2.2
  have hg:(grpRe t (joinRe i.both)).fine∧(grpRe t (joinRe i.both)).deep≤i.dp+1:=by
   have h6:=hf.2.2.1 h.1
   unfold grpRe
   split
   ·exact ⟨j1,j2⟩
   split
   ·rename_i h4;exact ⟨⟨hf.2.2.2 h.1 h4,j1⟩,j2⟩
   ·exact ⟨⟨by omega,j1⟩,j2⟩
  have hp:=part_fine hg.1 r
  refine ⟨⟨⟨hp.1,is.1.1⟩,is.1.2⟩,?_,fun a e=>?_⟩
  ·simp only [Fs.both,Re.deep,Fs.dp];have:=is.2.1;omega
  ·have:=is.2.2 a e;simp only [Fs.dp];omega
theorem re_fine (f:Fs) (hw:f.wf) (ht:∀ t∈f.flat,tokF t):f.re.fine∧f.re.deep≤f.dp+1:=by
 have:=both_fine f hw ht
 exact ⟨joinRe_fine _ this.1.1 this.1.2,joinRe_deep _ _ this.2.1 this.2.2⟩
def insOk' (L:Nat) (x:Ins):Prop :=
 (x.op=2→0≤x.x∧x.x<L∧0≤x.y∧x.y<L)∧(x.op=3→0≤x.x∧x.x<L)∧(x.op=4→0≤x.x∧x.x<12)∧(x.op=5→0≤x.x∧x.x<L∧0≤x.y∧x.y<12)
 ∧ (x.op=6∨x.op=7∨x.op=8→0≤x.x∧x.x<10)∧(x.op=11→0≤x.y∧x.y<L∧0≤x.x∧x.x≤2)∧x.op≠13∧x.set.length≤256
theorem spl_ok {L:Nat} (x y:Int) (late:Bool) (h:0≤x∧x<L∧0≤y∧y<L):insOk' L (spl x y late):=by
 unfold spl insOk'
 cases late <;> simp <;> omega
theorem code_ok (L:Nat):∀ (r:Re) (p d:Int),r.fine→0≤p→p+r.len<L→0≤d→d+r.deep≤12→∀ x∈r.code p d,insOk' L x
 | .eps,p,d,_,_,_,_,_,x,hx=>by simp [Re.code] at hx
 | .one s,p,d,hf,_,_,_,_,x,hx=>by simp [Re.code] at hx;subst hx;simp only [insOk',Re.fine] at *;simp;omega
 | .back k,p,d,hf,_,_,_,_,x,hx=>by simp [Re.code] at hx;subst hx;simp only [insOk',Re.fine] at *;simp;omega
 | .head,p,d,hf,_,_,_,_,x,hx=>by simp [Re.code] at hx;subst hx;simp [insOk']
 | .tail,p,d,hf,_,_,_,_,x,hx=>by simp [Re.code] at hx;subst hx;simp [insOk']
 | .cat a b,p,d,hf,hp,hl,hd,hdd,x,hx=>by
  simp only [Re.len,Re.deep,Re.fine,Re.code,List.mem_append] at *
  rcases hx with hx | hx
  ·exact code_ok L a p d hf.1 hp (by omega) hd (by omega) x hx
  ·exact code_ok L b _ d hf.2 (by omega) (by omega) hd (by omega) x hx
 | .alt a b,p,d,hf,hp,hl,hd,hdd,x,hx=>by
  simp only [Re.len,Re.deep,Re.fine,Re.code,List.mem_append,List.mem_cons] at *
  rcases hx with rfl | hx | rfl | hx
  ·simp only [insOk'];simp;omega
  ·exact code_ok L a _ d hf.1 (by omega) (by omega) hd (by omega) x hx
  ·simp only [insOk'];simp;omega
  ·exact code_ok L b _ d hf.2 (by omega) (by omega) hd (by omega) x hx
 | .cap k a,p,d,hf,hp,hl,hd,hdd,x,hx=>by
  simp only [Re.len,Re.deep,Re.fine,Re.code,List.mem_append,List.mem_cons,List.not_mem_nil,or_false] at *
  rcases hx with rfl | hx | rfl
  ·simp only [insOk'];simp;omega
  ·exact code_ok L a _ d hf.2 (by omega) (by omega) hd (by omega) x hx
  ·simp only [insOk'];simp;omega
 | .sub s a,p,d,hf,hp,hl,hd,hdd,x,hx=>by
  simp only [Re.len,Re.deep,Re.fine,Re.code,List.mem_append,List.mem_cons,List.not_mem_nil,or_false] at *
  rcases hx with rfl | hx | rfl
  ·simp only [insOk'];simp;omega
  ·exact code_ok L a _ d hf.2 (by omega) (by omega) hd (by omega) x hx
  ·simp [insOk']
 | .opt late a,p,d,hf,hp,hl,hd,hdd,x,hx=>by
  simp only [Re.len,Re.deep,Re.fine,Re.code,List.mem_cons] at *
  rcases hx with rfl | hx
  ·exact spl_ok _ _ _ (by omega)
  ·exact code_ok L a _ d hf (by omega) (by omega) hd (by omega) x hx
 | .loop late a,p,d,hf,hp,hl,hd,hdd,x,hx=>by
  simp only [Re.len,Re.deep,Re.fine,Re.code,List.mem_append,List.mem_cons,List.not_mem_nil,or_false] at *
  rcases hx with rfl | rfl | hx | rfl
  ·exact spl_ok _ _ _ (by omega)
  ·simp only [insOk'];simp;omega
  ·exact code_ok L a _ (d+1) hf (by omega) (by omega) (by omega) (by omega) x hx
  ·simp only [insOk'];simp;omega
theorem valid_tokF {l:List Tok} (h:Valid l):∀ t∈l,tokF t:=by
 intro t ht
 obtain ⟨k,hk,rfl⟩:=List.mem_iff_getElem.1 ht
 have hv:=h k hk
 rw [List.getD_eq_getElem?_getD,List.getElem?_eq_getElem hk] at hv
 simp only [Option.getD_some] at hv
 obtain ⟨h1,⟨g1,g2,g3,g4,g5⟩,h3⟩:=hv
 refine ⟨g2,g3,g4,fun h6 h4=>?_⟩
 have hn:=h3 (by simp [isCap,h6,h4])
 have:=captures_bd (l.take k)
 unfold may at h1
 rw [if_neg (by omega),if_neg (by omega),if_pos h6] at h1
 by_cases ho:10≤opened (l.take k)
 ·rw [if_pos ho] at h1;omega
 ·rw [if_neg ho] at h1
  by_cases hc:l[k].how=4∧9≤captures (l.take k)
  ·rw [if_pos hc] at h1;omega
  ·have:¬ 9≤captures (l.take k):=fun h9=>hc ⟨h4,h9⟩
   omega
theorem pattern_tree (p:ByteArray) (h:(checkR p).1=0):∃ f:Fs,f.wf∧(tokens p).1=f.flat∧f.re.fine∧f.re.deep≤11∧f.re.len+1≤300∧(codeR p).1=f.re.code 0 0++[⟨13,0,0,[]⟩]∧(codeR p).2=0:=by
 have ht:(tokens p).2.1=0:=by
  unfold checkR at h
  by_cases h0:(tokens p).2.1=0
  ·exact h0
  ·rw [if_pos h0] at h;exact h
 have hv:=tokens_valid p ht
 obtain ⟨f,hw,e⟩:=valid_parse hv.1 hv.2
 have hsm:=(tokens_small p).2
 have hl:=checkR_len p h
 have ht2:=treeOf_flat f hw (by rw [← e];exact hsm)
 have hc:=coded_tree (tokens p).1 hl
 rw [e,ht2] at hc
 have hfi:=re_fine f hw (by rw [← e];exact valid_tokF hv.1)
 have hdp:=dp_le f hw 0 (by omega) (fun k hk=>by
  have:=valid_opened hv.1 k (by rw [e];exact hk)
  rw [e] at this;omega)
 refine ⟨f,hw,e,hfi.1,by omega,hc.2,?_,?_⟩
 ·unfold codeR
  rw [if_neg (by omega),e,hc.1]
 ·unfold codeR
  rw [if_neg (by omega)]
theorem code_codeOk (r:Re) (hf:r.fine) (hd:r.deep≤11):codeOk (r.code 0 0++[⟨13,0,0,[]⟩]):=by
 intro q hq
 have hl:(r.code 0 0++[(⟨13,0,0,[]⟩:Ins)]).length=r.len+1:=by rw [List.length_append,Re.code_len];rfl
 rw [hl] at hq
 by_cases hlt:q<r.len
 ·have hm:(r.code 0 0++[(⟨13,0,0,[]⟩:Ins)]).getD q ins0∈r.code 0 0:=by
   rw [List.getD_eq_getElem?_getD,List.getElem?_append_left (by rw [Re.code_len];exact hlt),List.getElem?_eq_getElem (by rw [Re.code_len];exact hlt)]
   exact List.getElem_mem _
  have:=code_ok (r.len+1) r 0 0 hf (by omega) (by omega) (by omega) (by omega) _ hm
  unfold insOk' at this
  unfold insOk
  rw [hl]
  obtain ⟨a,b,c,d,e,f,g,i⟩:=this
  exact ⟨a,b,c,d,e,f,fun _=>by omega,i⟩
 ·have e:q=r.len:=by omega
  subst e
  rw [List.getD_eq_getElem?_getD,List.getElem?_append_right (by rw [Re.code_len];exact Nat.le_refl _),Re.code_len,Nat.sub_self]
  simp [insOk]
structure Fnd where
 ok:Bool
 at':List Int
 steps:Int
def nowhere:List Int:=List.replicate 20 (-1)
def fnd0:Fnd:=⟨false,List.replicate 20 0,0⟩
def startSt (p:Int):Sta:=0::p::(nowhere++List.replicate 22 0)
theorem startSt_len (p:Int):(startSt p).length=44:=by simp [startSt,nowhere]
theorem startSt_good (L T:Nat) (p:Nat) (hL:0<L) (hp:p≤T):Good L T (startSt p):=by
 have e0:gt (startSt p) 0=0:=rfl
 have e1:gt (startSt p) 1=p:=rfl
 refine ⟨startSt_len _,by omega,by omega,by omega,by omega,fun k hk=>?_,fun k hk=>?_⟩
 ·left
  have:gt (startSt p) (2+2*k)=-1:=by
   unfold gt startSt nowhere
   rw [List.getD_eq_getElem?_getD,show 2+2*k=(2*k)+1+1 by omega,List.getElem?_cons_succ,List.getElem?_cons_succ,List.getElem?_append_left (by simp;omega),List.getElem?_replicate,if_pos (by omega)];rfl
  omega
 ·have:gt (startSt p) (22+k)=0:=by
   unfold gt startSt nowhere
   rw [List.getD_eq_getElem?_getD,show 22+k=(20+k)+1+1 by omega,List.getElem?_cons_succ,List.getElem?_cons_succ,List.getElem?_append_right (by simp),List.getElem?_replicate,if_pos (by simp;omega)];rfl
  omega
def foundAt (p:Int) (r:Sta):List Int:=p::gt r 1::(r.drop 4).take 18
theorem foundAt_len (p:Int) (r:Sta) (h:r.length=44):(foundAt p r).length=20:=by simp [foundAt,h]
def search (E:Env) (budget:Int):Nat→Nat→Nat→List Bool→Int→Fnd × Bool
 | 0,_,n,_,_=>(⟨false,nowhere,budget-n⟩,false)
 | f+1,p,n,kn,room =>
  if (look E n (startSt p) kn room).over then (fnd0,true)
  else if (look E n (startSt p) kn room).ok then (⟨true,foundAt p (look E n (startSt p) kn room).st,budget-(look E n (startSt p) kn room).n⟩,false)
  else search E budget f (p+1) (look E n (startSt p) kn room).n (look E n (startSt p) kn room).kn (look E n (startSt p) kn room).room
def envOf (c:List Ins) (text:ByteArray) (policy mask:Int):Env:=⟨c,text,chosen c policy mask,(List.range c.length).map fun p=>(loopsAt c p:Int)⟩
def searchAll (c:List Ins) (text:ByteArray) (policy mask room budget:Int) (frm:Nat):Fnd × Bool :=
 search (envOf c text policy mask) budget (text.size+1-frm) frm budget.toNat (List.replicate (c.length*(text.size+1)*12) false) room
def mayFind (T:Nat) (frm policy mask room budget:Int):Int :=
 if 60<T then 1
 else if maySelect policy mask=true∧0≤frm∧frm≤T∧0≤room∧room≤5000∧0≤budget∧budget≤10000 then 0 else 13
def findR (p text:ByteArray) (frm policy mask room budget:Int):Fnd × Int :=
 if (codeR p).2≠0 then (fnd0,(codeR p).2)
 else if mayFind text.size frm policy mask room budget≠0 then (fnd0,mayFind text.size frm policy mask room budget)
 else if (searchAll (codeR p).1 text policy mask room budget frm.toNat).2 then (fnd0,14)
 else ((searchAll (codeR p).1 text policy mask room budget frm.toNat).1,0)
end Mt
