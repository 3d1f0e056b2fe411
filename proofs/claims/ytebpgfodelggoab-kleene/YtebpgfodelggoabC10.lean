import Derived.Test.YtebpgfodelggoabC09
import Derived.Test.YtebpgfodelggoabC08
import Derived.Test.YtebpgfodelggoabC00
import Derived.Test.YtebpgfodelggoabC06
set_option linter.unusedVariables false
set_option linter.unusedSimpArgs false
namespace Mt
theorem timesA_len (x:Re):∀ n,(timesA x n).len=n*x.len
 | 0=>by simp [timesA,Re.len]
 | n+1=>by rw [timesA,Re.len,timesA_len x n,Nat.add_mul];omega
def repOk' (q:Tok):Prop:=0≤q.n∧q.n≤20∧-1≤q.m∧q.m≤20∧0≤q.how∧q.how≤2∧(q.m=-1∨q.n≤q.m)
def repLen (o:Nat) (q:Tok):Nat:=q.n.toNat*o+(if q.m=-1 then o+3 else (q.m-q.n).toNat*(o+1))+(if q.how=2 then 2 else 0)
theorem repA_len (x:Re) (q:Tok) (h:repOk' q):(repA x q).len=repLen x.len q:=by
 obtain ⟨h1,h2,h3,h4,h5,h6,h7⟩:=h
 unfold repA repLen
 dsimp only
 have c1:(if 0<q.n∨0<q.m then (if q.n<q.m then Re.cat (timesA x q.n.toNat) (optA x (decide (q.how=1)) (q.m-q.n).toNat) else timesA x q.n.toNat) else Re.eps).len=q.n.toNat*x.len+(if q.m=-1 then 0 else (q.m-q.n).toNat*(x.len+1)):=by
  by_cases a:0<q.n∨0<q.m
  ·rw [if_pos a]
   by_cases b:q.n<q.m
   ·rw [if_pos b,if_neg (by omega),Re.len,timesA_len,optA_len]
   ·rw [if_neg b,timesA_len]
    by_cases c:q.m=-1
    ·rw [if_pos c];omega
    ·rw [if_neg c,show (q.m-q.n).toNat=0 by omega];simp
  ·rw [if_neg a,show q.n.toNat=0 by omega]
   by_cases c:q.m=-1
   ·rw [if_pos c];simp [Re.len]
   ·rw [if_neg c,show (q.m-q.n).toNat=0 by omega];simp [Re.len]
 generalize (if 0<q.n∨0<q.m then (if q.n<q.m then Re.cat (timesA x q.n.toNat) (optA x (decide (q.how=1)) (q.m-q.n).toNat) else timesA x q.n.toNat) else Re.eps)=z at *
 have c2:(if q.m<0 then Re.cat z (.loop (decide (q.how=1)) x) else z).len=q.n.toNat*x.len+(if q.m=-1 then x.len+3 else (q.m-q.n).toNat*(x.len+1)):=by
  by_cases c:q.m=-1
  ·rw [if_pos (by omega),if_pos c,Re.len,Re.len,c1,if_pos c];omega
  ·rw [if_neg (by omega),if_neg c,c1,if_neg c]
 generalize (if q.m<0 then Re.cat z (.loop (decide (q.how=1)) x) else z)=z2 at *
 by_cases e:q.how=2
 ·rw [if_pos e,if_pos e,Re.len,c2]
 ·rw [if_neg e,if_neg e,c2];omega
def lim (n:Nat):Nat:=min n 301
theorem lim_le (n:Nat):lim n≤301:=Nat.min_le_right _ _
theorem lim_rep (o:Nat) (q:Tok) (h:repOk' q):lim (repLen (lim o) q)=lim (repLen o q):=by
 obtain ⟨h1,h2,h3,h4,h5,h6,h7⟩:=h
 by_cases a:o≤301
 ·have:lim o=o:=by unfold lim;omega
  rw [this]
 ·have:lim o=301:=by unfold lim;omega
  rw [this]
  unfold repLen lim
  have key:∀ (n c:Nat),0<n→301≤n*(301+c)∧301≤n*(o+c):=fun n c hn=>by
   have e1:1*(301+c)≤n*(301+c):=Nat.mul_le_mul_right _ (by omega)
   have e2:1*(o+c)≤n*(o+c):=Nat.mul_le_mul_right _ (by omega)
   omega
  by_cases b:0<q.n.toNat
  ·have:=key q.n.toNat 0 b
   simp only [Nat.add_zero] at this
   omega
  ·have e:q.n.toNat=0:=by omega
   rw [e]
   simp only [Nat.zero_mul,Nat.zero_add]
   by_cases c:q.m=-1
   ·rw [if_pos c,if_pos c];omega
   ·rw [if_neg c,if_neg c]
    by_cases d:0<(q.m-q.n).toNat
    ·have:=key (q.m-q.n).toNat 1 d
     omega
    ·rw [show (q.m-q.n).toNat=0 by omega];simp
def partLen (o:Nat) (r:Option Tok):Nat:=match r with
 | none=>o
 | some q=>repLen o q
def repsOk (r:Option Tok):Prop:=∀ q,r=some q→repOk' q
theorem part_len (x:Re) (r:Option Tok) (h:repsOk r):(part r x).len=partLen x.len r:=by
 cases r with
 | none=>rfl
 | some q=>exact repA_len x q (h q rfl)
theorem lim_part (o:Nat) (r:Option Tok) (h:repsOk r):lim (partLen (lim o) r)=lim (partLen o r):=by
 cases r with
 | none=>show lim (lim o)=lim o;unfold lim;omega
 | some q=>exact lim_rep o q (h q rfl)
def Fs.ok:Fs→Prop
 | .nil=>True
 | .bar _ r=>r.ok
 | .leaf t r s=>repsOk r∧s.ok
 | .grp t i c r s=>repsOk r∧(0≤t.how∧t.how≤4)∧i.ok∧s.ok
theorem leafRe_len (t:Tok):(leafRe t).len=1:=by
 unfold leafRe
 split
 ·rfl
 split
 ·rfl
 split
 ·rfl
 ·rfl
theorem grpRe_len (t:Tok) (x:Re):(grpRe t x).len=x.len+if t.how=3 then 0 else 2:=by
 unfold grpRe
 by_cases h:t.how=3
 ·rw [if_pos h,if_pos h];rfl
 ·rw [if_neg h,if_neg h];split <;> rfl
theorem re_len (f:Fs):f.re.len=f.both.1.len+(match f.rs with | none=>0 | some r=>2+r.re.len):=by
 have h:=f.both2
 unfold Fs.re
 generalize f.both=xy at *
 obtain ⟨x,y⟩:=xy
 simp only at h
 cases hr:f.rs with
 | none=>rw [hr] at h;simp at h;subst h;rfl
 | some r=>rw [hr] at h;simp at h;subst h;show x.len+r.re.len+2=x.len+(2+r.re.len);omega
theorem stands_rs {b:PB}:∀ (f:Fs) (a n:Int),standsF b 0 0 f a n→(f.rs=none∧n=-1)∨∃ (r:Fs) (k:Nat),f.rs=some r∧n=k∧k<b.seqs.length∧standsF b 0 0 r (b.sAt k).first (b.sAt k).next
 | .nil,a,n,h=>Or.inl ⟨rfl,h.2⟩
 | .bar t r,a,n,⟨_,k,h1,_,h2,h3⟩=>Or.inr ⟨r,k,rfl,h1,h2,h3⟩
 | .leaf t r s,a,n,⟨k,_,_,_,_,_,_,h⟩=>stands_rs s _ _ h
 | .grp t i c r s,a,n,⟨k,_,_,_,_,_,_,_,h⟩=>stands_rs s _ _ h
theorem rs_less:∀ (f r:Fs),f.rs=some r→r.flat.length<f.flat.length∧(f.wf→r.wf)∧(f.ok→r.ok)
 | .nil,r,h=>by simp [Fs.rs] at h
 | .bar t s,r,h=>by simp only [Fs.rs,Option.some.injEq] at h;subst h;exact ⟨by simp [Fs.flat],fun h=>h.2,fun h=>h⟩
 | .leaf t q s,r,h=>by have:=rs_less s r h;exact ⟨by simp [Fs.flat];omega,fun hh=>this.2.1 hh.2.2,fun hh=>this.2.2 hh.2⟩
 | .grp t i c q s,r,h=>by have:=rs_less s r h;exact ⟨by simp [Fs.flat];omega,fun hh=>this.2.1 hh.2.2.2.2,fun hh=>this.2.2 hh.2.2.2⟩
theorem count_le (p:ByteArray) (i:Int) (h:(count p i).2.2.2=true):(count p i).2.1=-1∨(count p i).1≤(count p i).2.1:=by
 rcases count_cases p i with ⟨a1,e⟩ | ⟨a1,a2,e⟩ | ⟨a1,a2,⟨a3,e⟩ | ⟨a3,a4,e⟩ | ⟨a3,a4,⟨a5,e⟩ | ⟨a5,⟨a6,e⟩ | ⟨a6,a7,e⟩ | ⟨a6,a7,a8,e⟩ | ⟨a6,a7,a8,a9,e⟩ | ⟨a6,a7,a8,a9,e⟩⟩⟩⟩
 ·rw [e];exact Or.inr (Int.le_refl _)
 ·rw [e];exact Or.inr (Int.le_refl _)
 ·rw [e];exact Or.inr (Int.le_refl _)
 ·rw [e];exact Or.inr (Int.le_refl _)
 ·rw [e];exact Or.inl rfl
 ·rw [e];exact Or.inr (Int.le_refl _)
 ·rw [e];exact Or.inr (Int.le_refl _)
 ·rw [e];exact Or.inr (Int.le_refl _)
 ·rw [e];exact Or.inr (Int.le_refl _)
 ·rw [e]
  simp only [decide_eq_false_iff_not] at a8
  exact Or.inr (by show (number p (i+1)).1≤(number p (i+1+(number p (i+1)).2+1)).1;omega)
theorem repeat_le (p:ByteArray) (i:Int) (h:(repeatT p i).2=true):(repeatT p i).1.m=-1∨(repeatT p i).1.n≤(repeatT p i).1.m:=by
 unfold repeatT at h ⊢
 by_cases h1:atB p i=43
 ·rw [if_pos h1];exact Or.inl rfl
 ·rw [if_neg h1] at h ⊢
  by_cases h2:atB p i=63
  ·rw [if_pos h2];exact Or.inr (by simp)
  ·rw [if_neg h2] at h ⊢
   by_cases h3:atB p i=123
   ·rw [if_pos h3] at h ⊢
    cases hc:(count p i).2.2.2
    ·rw [hc] at h;simp at h
    ·rw [if_pos rfl];exact count_le p i hc
   ·rw [if_neg h3];exact Or.inl rfl
theorem escape_kind (p:ByteArray) (i:Int):(escape p i).1.kind≠8:=by
 rcases escape_cases p i with ⟨a1,e⟩ | ⟨a0,a1,⟨a2,e⟩ | ⟨a2,a3,e⟩ | ⟨a2,a3,a4,a5,a6,a7,e⟩ | ⟨a2,a3,a4,e⟩⟩ <;> rw [e] <;> simp
theorem opening_kind (p:ByteArray) (i:Int):(opening p i).1.kind≠8:=by
 rcases opening_cases p i with ⟨a1,e⟩ | ⟨a1,⟨a2,e⟩ | ⟨a2,a3,e⟩ | ⟨a2,a3,a4,e⟩ | ⟨a2,a3,a4,a5,e⟩ | ⟨a2,a3,a4,a5,e⟩⟩ <;> rw [e] <;> simp
theorem class_kind (p:ByteArray) (i:Int):(classT p i).1.kind≠8:=by
 unfold classT;split <;> simp
theorem nextT_rep (p:ByteArray) (i:Int) (h:(nextT p i).2=0) (hk:(nextT p i).1.kind=8):(nextT p i).1.m=-1∨(nextT p i).1.n≤(nextT p i).1.m:=by
 unfold nextT at h hk ⊢
 by_cases h1:atB p i=124
 ·rw [if_pos h1] at hk;simp at hk
 rw [if_neg h1] at h hk ⊢
 by_cases h2:atB p i=41
 ·rw [if_pos h2] at hk;simp at hk
 rw [if_neg h2] at h hk ⊢
 by_cases h3:atB p i=94
 ·rw [if_pos h3] at hk;simp at hk
 rw [if_neg h3] at h hk ⊢
 by_cases h4:atB p i=36
 ·rw [if_pos h4] at hk;simp at hk
 rw [if_neg h4] at h hk ⊢
 by_cases h5:atB p i=92
 ·rw [if_pos h5] at hk;exact absurd hk (escape_kind p i)
 rw [if_neg h5] at h hk ⊢
 by_cases h6:atB p i=91
 ·rw [if_pos h6] at hk;exact absurd hk (class_kind p i)
 rw [if_neg h6] at h hk ⊢
 by_cases h7:atB p i=40
 ·rw [if_pos h7] at hk;exact absurd hk (opening_kind p i)
 rw [if_neg h7] at h hk ⊢
 by_cases h8:atB p i=42∨atB p i=43∨atB p i=63∨atB p i=123
 ·rw [if_pos h8] at h ⊢
  exact repeat_le p i (by cases x:(repeatT p i).2 <;> simp [x] at h ⊢)
 rw [if_neg h8] at h hk ⊢
 by_cases h9:atB p i=46
 ·rw [if_pos h9] at hk;simp at hk
 ·rw [if_neg h9] at hk;simp at hk
def repsLe (l:List Tok):Prop:=∀ t∈l,t.kind=8→t.m=-1∨t.n≤t.m
theorem readOn_reps (p:ByteArray):∀ (f:Nat) (l:List Tok) (i:Int),0≤i→i≤p.size→(p.size:Int)-i<f→repsLe l→repsLe (readOn p l i).1:=by
 intro f
 induction f with
 | zero=>intro l i h0 h1 h2;omega
 | succ f ih =>
  intro l i h0 h1 h2 hl
  rw [readOn_step p l i h0 h1]
  by_cases a:(p.size:Int)≤i
  ·rw [if_pos a];exact hl
  rw [if_neg a]
  by_cases b:(nextT p i).2≠0
  ·rw [if_pos b];intro t ht;simp at ht
  rw [if_neg b]
  by_cases c:may l (nextT p i).1≠0
  ·rw [if_pos c];intro t ht;simp at ht
  rw [if_neg c]
  have hn:=nextT_to p i h0 (by omega) (by omega)
  refine ih _ _ (by omega) (by omega) (by omega) (fun t ht hk=>?_)
  rcases List.mem_append.1 ht with ht | ht
  ·exact hl t ht hk
  ·simp at ht
   have jk:=joined_kind l (nextT p i).1
   subst ht
   rw [jk.1] at hk
   have e:joined l (nextT p i).1=(nextT p i).1:=jk.2.2.2.2.1 (by unfold isCap;simp [hk])
   rw [e];exact nextT_rep p i (by omega) hk
theorem tokens_reps (p:ByteArray) (h:(tokens p).2.1=0):repsLe (tokens p).1:=by
 by_cases hp:p.size≤64
 ·have hr:=readOn_reps p ((p.size:Int)+1).toNat [] 0 (by omega) (by omega) (by omega) (by intro t ht;simp at ht)
  unfold tokens at h ⊢
  rw [if_neg (by omega),readOn_start p hp] at h ⊢
  split
  ·rename_i h1;rw [if_pos h1] at h;exact absurd h h1
  ·split
   ·intro t ht;simp at ht
   ·exact hr
 ·unfold tokens at h;rw [if_pos (by omega)] at h;simp at h
theorem fs_ok:∀ f:Fs,f.wf→(∀ t∈f.flat,t.kind=8→repOk' t)→(∀ t∈f.flat,t.kind=6→0≤t.how∧t.how≤4)→f.ok
 | .nil,_,_,_=>trivial
 | .bar t r,hw,h1,h2=>fs_ok r hw.2 (fun u hu=>h1 u (by simp [Fs.flat,hu])) (fun u hu=>h2 u (by simp [Fs.flat,hu]))
 | .leaf t r s,hw,h1,h2=>⟨fun q hq=>h1 q (by simp [Fs.flat,hq]) (hw.2.1 q hq),fs_ok s hw.2.2 (fun u hu=>h1 u (by simp [Fs.flat,hu])) (fun u hu=>h2 u (by simp [Fs.flat,hu]))⟩
 | .grp t i c r s,hw,h1,h2=>⟨fun q hq=>h1 q (by simp [Fs.flat,hq]) (hw.2.2.2.1 q hq),h2 t (by simp [Fs.flat]) hw.1,fs_ok i hw.2.2.1 (fun u hu=>h1 u (by simp [Fs.flat,hu])) (fun u hu=>h2 u (by simp [Fs.flat,hu])),fs_ok s hw.2.2.2.2 (fun u hu=>h1 u (by simp [Fs.flat,hu])) (fun u hu=>h2 u (by simp [Fs.flat,hu]))⟩
theorem nums_numd:∀ (m:List Tok) (l:List Tok),Nums (l++m)→numd (captures l) m
 | [],l,h=>trivial
 | t::r,l,h=>by
  have e:l++t::r=(l++[t])++r:=by simp
  refine ⟨fun hc=>?_,?_⟩
  ·have:=h l.length (by simp) (by rw [List.getD_eq_getElem?_getD,List.getElem?_append_right (Nat.le_refl _)];simpa using hc)
   rw [List.getD_eq_getElem?_getD,List.getElem?_append_right (Nat.le_refl _)] at this
   simpa using this
  ·have:=nums_numd r (l++[t]) (by rw [← e];exact h)
   rwa [captures_snoc] at this
theorem next_len (b:PB) (t:PT):(b.next t).atoms.length≤b.atoms.length+1∧(b.next t).seqs.length≤b.seqs.length+1:=by
 have ha:∀ t,(b.addAtom t).atoms.length=b.atoms.length+1∧(b.addAtom t).seqs.length=b.seqs.length:=fun t=>by
  unfold PB.addAtom;split <;> simp
 unfold PB.next
 split
 ·simp [PB.bar]
 split
 ·have:=ha t
  unfold PB.opening PB.into PB.number
  cases decide (t.group=1) <;> simp [this.1,this.2]
 split
 ·simp [PB.close]
 split
 ·simp [PB.repeated]
 ·have:=ha t;omega
theorem run_len:∀ (l:List Tok) (b:PB),(b.run l).atoms.length≤b.atoms.length+l.length∧(b.run l).seqs.length≤b.seqs.length+l.length
 | [],b=>by simp [PB.run]
 | t::r,b=>by
  have h1:=next_len b (ptok t)
  have h2:=run_len r (b.next (ptok t))
  rw [PB.run_cons];simp only [List.length_cons];omega
theorem start_at:PB.start.At:=⟨by decide,Or.inl rfl,fun _=>rfl,rfl⟩
theorem forest (p:ByteArray) (h:(tokens p).2.1=0):∃ f:Fs,f.wf∧f.ok∧(tokens p).1=f.flat∧standsF (PB.start.run (tokens p).1) 0 0 f ((PB.start.run (tokens p).1).sAt 0).first ((PB.start.run (tokens p).1).sAt 0).next∧0<(PB.start.run (tokens p).1).seqs.length ∧
  (PB.start.run (tokens p).1).atoms.length≤64∧(PB.start.run (tokens p).1).seqs.length≤65∧(300<(coded (tokens p).1).length↔300<f.re.len+1)∧(f.re.len+1≤300→coded (tokens p).1=f.re.code 0 0++[⟨13,0,0,[]⟩]):=by
 have hv:=tokens_valid p h
 have hr:=tokens_reps p h
 have hs:=(tokens_small p).2
 obtain ⟨f,hw,e⟩:=valid_parse hv.1 hv.2
 have hN:=nums_valid hv.1
 have hG:∀ t∈(tokens p).1,tokG t:=by
  intro t ht
  obtain ⟨k,hk,rfl⟩:=List.mem_iff_getElem.1 ht
  have:=(hv.1 k hk).2.1
  rw [List.getD_eq_getElem?_getD,List.getElem?_eq_getElem hk] at this
  exact this
 rw [e] at hr hs hN hG ⊢
 have hok:=fs_ok f hw (fun t ht hk=>by
  obtain ⟨_,_,_,_,g5⟩:=hG t ht
  have:=g5 hk
  have:=hr t ht hk
  exact ⟨by omega,by omega,by omega,by omega,by omega,by omega,this⟩) (fun t ht hk=>(hG t ht).2.2.2.1 hk)
 have hd:=run_forest f hw (fun t ht hk=>(hG t ht).2.2.2.1 hk) PB.start start_at (nums_numd f.flat [] (by simpa using hN))
 have hl:=run_len f.flat PB.start
 have ht:=treeOf_flat f hw hs
 have hc:=coded_len f.flat
 rw [ht] at hc
 have st:=hd.stands
 have e0:PB.start.last=-1:=rfl
 rw [if_pos e0] at st
 refine ⟨f,hw,hok,rfl,standsF_mono (Nat.zero_le _) (Nat.zero_le _) (fun _ _ _=>rfl) (fun _ _ _=>rfl) (Nat.le_refl _) (Nat.le_refl _) _ _ _ st,?_,?_,?_,?_,fun h300=>?_⟩
 ·have:=hd.sl;exact Nat.lt_of_lt_of_le (by decide) this
 ·have:=hl.1;simp [PB.start] at this ⊢;omega
 ·have:=hl.2;simp [PB.start] at this ⊢;omega
 ·constructor
  ·intro x;omega
  ·intro x;exact hc.2 x
 ·have:=(coded_tree f.flat (by rw [hc.1 h300];exact h300)).1
  rwa [ht] at this
inductive Lex (p:ByteArray):Int→List Tok→Int→Prop
 | nil (i:Int):Lex p i [] i
 | cons {i j:Int} {t:Tok} {l:List Tok} (h0:0≤i) (h1:i<p.size) (ht:nextT p i=(t,0)) (hl:Lex p t.to l j):Lex p i (t::l) j
theorem Lex.app {p:ByteArray} {i j k:Int} {l m:List Tok} (h:Lex p i l j) (g:Lex p j m k):Lex p i (l++m) k:=by
 induction h with
 | nil i=>exact g
 | cons h0 h1 ht hl ih=>exact Lex.cons h0 h1 ht (ih g)
theorem Lex.one {p:ByteArray} {i:Int} {t:Tok} (h0:0≤i) (h1:i<p.size) (ht:nextT p i=(t,0)):Lex p i [t] t.to:=Lex.cons h0 h1 ht (Lex.nil _)
def MayAll:List Tok→List Tok→Prop
 | _,[]=>True
 | l,t::r=>may l t=0∧isCap t=false∧MayAll (l++[t]) r
theorem MayAll.app:∀ {l a b:List Tok},MayAll l a→MayAll (l++a) b→MayAll l (a++b)
 | l,[],b,_,h=>by simpa using h
 | l,t::r,b,h,g=>⟨h.1,h.2.1,MayAll.app h.2.2 (by simpa using g)⟩
def NoCap (p:ByteArray):Prop:=∀ i:Int,atB p i=40→atB p (i+1)=63
def codeOf (r:Re):List Ins × Int:=if 300<r.len+1 then ([],12) else (r.code 0 0++[⟨13,0,0,[]⟩],0)
def opens:List Tok→Int
 | []=>0
 | t::r=>(if t.kind=6 then 1 else 0)+opens r
def mvF (s:Int):Fs→Fs
 | .nil=>.nil
 | .bar t r=>.bar (mv s t) (mvF s r)
 | .leaf t r k=>.leaf (mv s t) (r.map (mv s)) (mvF s k)
 | .grp t i c r k=>.grp (mv s t) (mvF s i) (mv s c) (r.map (mv s)) (mvF s k)
def bp (l:List UInt8):ByteArray:=⟨l.toArray⟩
theorem bp_size (l:List UInt8):(bp l).size=l.length:=by simp [bp,ByteArray.size]
def Holds (p:ByteArray):Int→List UInt8→Prop
 | i,[]=>0≤i∧i≤p.size
 | i,c::r=>0≤i∧i<p.size∧atB p i=(c.toNat:Int)∧Holds p (i+1) r
def Calm (p:ByteArray) (i:Int):Prop:=atB p i≠63∧atB p i≠43
section
variable {p:ByteArray} {j:Int}
end
def nextFrom (f:Fnd):Nat:=if f.at'.getD 0 0=f.at'.getD 1 0 then (f.at'.getD 1 0).toNat+1 else (f.at'.getD 1 0).toNat
def allFrom (c:List Ins) (text:ByteArray) (policy mask room budget:Int):Nat→Nat→Int→List Fnd→List Fnd × Int × Int
 | 0,_,used,l=>(l,used,0)
 | F+1,frm,used,l =>
  if text.size<frm then (l,used,0)
  else if (searchAll c text policy mask room (budget-used) frm).2 then ([],0,14)
  else if (searchAll c text policy mask room (budget-used) frm).1.ok=false then (l,used+(searchAll c text policy mask room (budget-used) frm).1.steps,0)
  else allFrom c text policy mask room budget F (nextFrom (searchAll c text policy mask room (budget-used) frm).1) (used+(searchAll c text policy mask room (budget-used) frm).1.steps) (l++[(searchAll c text policy mask room (budget-used) frm).1])
def findAllR (p text:ByteArray) (policy mask room budget:Int):List Fnd × Int × Int :=
 if (codeR p).2≠0 then ([],0,(codeR p).2)
 else if mayFind text.size 0 policy mask room budget≠0 then ([],0,mayFind text.size 0 policy mask room budget)
 else allFrom (codeR p).1 text policy mask room budget (text.size+2) 0 0 []
end Mt
