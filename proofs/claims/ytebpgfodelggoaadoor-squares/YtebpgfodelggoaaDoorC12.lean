import Derived.Test.YtebpgfodelggoaaDoorC11
import Derived.Test.YtebpgfodelggoaaDoorC09
import Derived.Test.YtebpgfodelggoaaDoorC02
set_option linter.unusedVariables false
set_option linter.unusedSimpArgs false
namespace Mt
theorem timesA_len (x:Re):∀ n,(timesA x n).len=n*x.len
 | 0=>by simp [timesA,Re.len]
 | n+1=>by rw [timesA,Re.len,timesA_len x n,Nat.add_mul];omega
def repOk' (q:Tok):Prop:=0≤q.n∧q.n≤20∧-1≤q.m∧q.m≤20∧0≤q.how∧q.how≤2∧(q.m=-1∨q.n≤q.m)
def repLen (o:Nat) (q:Tok):Nat:=q.n.toNat*o+(if q.m=-1 then o+3 else (q.m-q.n).toNat*(o+1))+(if q.how=2 then 2 else 0)
theorem repA_len (x:Re) (q:Tok) (h:repOk' q):(repA x q).len=repLen x.len q:=by
 obtain ⟨h1,h2,h3,h4,h5,h6,h7⟩:=h
 unfold repA repLen
 dsimp only
 have c1:(if 0<q.n∨0<q.m then (if q.n<q.m then Re.cat (timesA x q.n.toNat) (optA x (decide (q.how=1)) (q.m-q.n).toNat) else timesA x q.n.toNat) else Re.eps).len=q.n.toNat*x.len+(if q.m=-1 then 0 else (q.m-q.n).toNat*(x.len+1)):=by
  by_cases a:0<q.n∨0<q.m
  ·rw [if_pos a]
   by_cases b:q.n<q.m
   ·rw [if_pos b,if_neg (by omega),Re.len,timesA_len,optA_len]
   ·rw [if_neg b,timesA_len]
    by_cases c:q.m=-1
    ·rw [if_pos c];omega
    ·rw [if_neg c,show (q.m-q.n).toNat=0 by omega];simp
  ·rw [if_neg a,show q.n.toNat=0 by omega]
   by_cases c:q.m=-1
   ·rw [if_pos c];simp [Re.len]
   ·rw [if_neg c,show (q.m-q.n).toNat=0 by omega];simp [Re.len]
 generalize (if 0<q.n∨0<q.m then (if q.n<q.m then Re.cat (timesA x q.n.toNat) (optA x (decide (q.how=1)) (q.m-q.n).toNat) else timesA x q.n.toNat) else Re.eps)=z at *
 have c2:(if q.m<0 then Re.cat z (.loop (decide (q.how=1)) x) else z).len=q.n.toNat*x.len+(if q.m=-1 then x.len+3 else (q.m-q.n).toNat*(x.len+1)):=by
  by_cases c:q.m=-1
  ·rw [if_pos (by omega),if_pos c,Re.len,Re.len,c1,if_pos c];omega
  ·rw [if_neg (by omega),if_neg c,c1,if_neg c]
 generalize (if q.m<0 then Re.cat z (.loop (decide (q.how=1)) x) else z)=z2 at *
 by_cases e:q.how=2
 ·rw [if_pos e,if_pos e,Re.len,c2]
 ·rw [if_neg e,if_neg e,c2];omega
def lim (n:Nat):Nat:=min n 301
theorem lim_le (n:Nat):lim n≤301:=Nat.min_le_right _ _
theorem lim_add (a b:Nat):lim (lim a+lim b)=lim (a+b):=by unfold lim;omega
theorem lim_add2 (a b c:Nat):lim (lim a+c+lim b)=lim (a+c+b):=by unfold lim;omega
theorem lim_rep (o:Nat) (q:Tok) (h:repOk' q):lim (repLen (lim o) q)=lim (repLen o q):=by
 obtain ⟨h1,h2,h3,h4,h5,h6,h7⟩:=h
 by_cases a:o≤301
 ·have:lim o=o:=by unfold lim;omega
  rw [this]
 ·have:lim o=301:=by unfold lim;omega
  rw [this]
  unfold repLen lim
  have key:∀ (n c:Nat),0<n→301≤n*(301+c)∧301≤n*(o+c):=fun n c hn=>by
   have e1:1*(301+c)≤n*(301+c):=Nat.mul_le_mul_right _ (by omega)
   have e2:1*(o+c)≤n*(o+c):=Nat.mul_le_mul_right _ (by omega)
   omega
  by_cases b:0<q.n.toNat
  ·have:=key q.n.toNat 0 b
   simp only [Nat.add_zero] at this
   omega
  ·have e:q.n.toNat=0:=by omega
   rw [e]
   simp only [Nat.zero_mul,Nat.zero_add]
   by_cases c:q.m=-1
   ·rw [if_pos c,if_pos c];omega
   ·rw [if_neg c,if_neg c]
    by_cases d:0<(q.m-q.n).toNat
    ·have:=key (q.m-q.n).toNat 1 d
     omega
    ·rw [show (q.m-q.n).toNat=0 by omega];simp
def partLen (o:Nat) (r:Option Tok):Nat:=match r with
 | none=>o
 | some q=>repLen o q
def repsOk (r:Option Tok):Prop:=∀ q,r=some q→repOk' q
theorem part_len (x:Re) (r:Option Tok) (h:repsOk r):(part r x).len=partLen x.len r:=by
 cases r with
 | none=>rfl
 | some q=>exact repA_len x q (h q rfl)
theorem lim_part (o:Nat) (r:Option Tok) (h:repsOk r):lim (partLen (lim o) r)=lim (partLen o r):=by
 cases r with
 | none=>show lim (lim o)=lim o;unfold lim;omega
 | some q=>exact lim_rep o q (h q rfl)
def Fs.ok:Fs→Prop
 | .nil=>True
 | .bar _ r=>r.ok
 | .leaf t r s=>repsOk r∧s.ok
 | .grp t i c r s=>repsOk r∧(0≤t.how∧t.how≤4)∧i.ok∧s.ok
theorem leafRe_len (t:Tok):(leafRe t).len=1:=by
 unfold leafRe
 split
 ·rfl
 split
 ·rfl
 split
 ·rfl
 ·rfl
theorem grpRe_len (t:Tok) (x:Re):(grpRe t x).len=x.len+if t.how=3 then 0 else 2:=by
 unfold grpRe
 by_cases h:t.how=3
 ·rw [if_pos h,if_pos h];rfl
 ·rw [if_neg h,if_neg h];split <;> rfl
theorem re_len (f:Fs):f.re.len=f.both.1.len+(match f.rs with | none=>0 | some r=>2+r.re.len):=by
 have h:=f.both2
 unfold Fs.re
 generalize f.both=xy at *
 obtain ⟨x,y⟩:=xy
 simp only at h
 cases hr:f.rs with
 | none=>rw [hr] at h;simp at h;subst h;rfl
 | some r=>rw [hr] at h;simp at h;subst h;show x.len+r.re.len+2=x.len+(2+r.re.len);omega
theorem stands_rs {b:PB}:∀ (f:Fs) (a n:Int),standsF b 0 0 f a n→(f.rs=none∧n=-1)∨∃ (r:Fs) (k:Nat),f.rs=some r∧n=k∧k<b.seqs.length∧standsF b 0 0 r (b.sAt k).first (b.sAt k).next
 | .nil,a,n,h=>Or.inl ⟨rfl,h.2⟩
 | .bar t r,a,n,⟨_,k,h1,_,h2,h3⟩=>Or.inr ⟨r,k,rfl,h1,h2,h3⟩
 | .leaf t r s,a,n,⟨k,_,_,_,_,_,_,h⟩=>stands_rs s _ _ h
 | .grp t i c r s,a,n,⟨k,_,_,_,_,_,_,_,h⟩=>stands_rs s _ _ h
theorem rs_less:∀ (f r:Fs),f.rs=some r→r.flat.length<f.flat.length∧(f.wf→r.wf)∧(f.ok→r.ok)
 | .nil,r,h=>by simp [Fs.rs] at h
 | .bar t s,r,h=>by simp only [Fs.rs,Option.some.injEq] at h;subst h;exact ⟨by simp [Fs.flat],fun h=>h.2,fun h=>h⟩
 | .leaf t q s,r,h=>by have:=rs_less s r h;exact ⟨by simp [Fs.flat];omega,fun hh=>this.2.1 hh.2.2,fun hh=>this.2.2 hh.2⟩
 | .grp t i c q s,r,h=>by have:=rs_less s r h;exact ⟨by simp [Fs.flat];omega,fun hh=>this.2.1 hh.2.2.2.2,fun hh=>this.2.2 hh.2.2.2⟩
theorem count_le (p:ByteArray) (i:Int) (h:(count p i).2.2.2=true):(count p i).2.1=-1∨(count p i).1≤(count p i).2.1:=by
 rcases count_cases p i with ⟨a1,e⟩ | ⟨a1,a2,e⟩ | ⟨a1,a2,⟨a3,e⟩ | ⟨a3,a4,e⟩ | ⟨a3,a4,⟨a5,e⟩ | ⟨a5,⟨a6,e⟩ | ⟨a6,a7,e⟩ | ⟨a6,a7,a8,e⟩ | ⟨a6,a7,a8,a9,e⟩ | ⟨a6,a7,a8,a9,e⟩⟩⟩⟩
 ·rw [e];exact Or.inr (Int.le_refl _)
 ·rw [e];exact Or.inr (Int.le_refl _)
 ·rw [e];exact Or.inr (Int.le_refl _)
 ·rw [e];exact Or.inr (Int.le_refl _)
 ·rw [e];exact Or.inl rfl
 ·rw [e];exact Or.inr (Int.le_refl _)
 ·rw [e];exact Or.inr (Int.le_refl _)
 ·rw [e];exact Or.inr (Int.le_refl _)
 ·rw [e];exact Or.inr (Int.le_refl _)
 ·rw [e]
  simp only [decide_eq_false_iff_not] at a8
  exact Or.inr (by show (number p (i+1)).1≤(number p (i+1+(number p (i+1)).2+1)).1;omega)
theorem repeat_le (p:ByteArray) (i:Int) (h:(repeatT p i).2=true):(repeatT p i).1.m=-1∨(repeatT p i).1.n≤(repeatT p i).1.m:=by
 unfold repeatT at h ⊢
 by_cases h1:atB p i=43
 ·rw [if_pos h1];exact Or.inl rfl
 ·rw [if_neg h1] at h ⊢
  by_cases h2:atB p i=63
  ·rw [if_pos h2];exact Or.inr (by simp)
  ·rw [if_neg h2] at h ⊢
   by_cases h3:atB p i=123
   ·rw [if_pos h3] at h ⊢
    cases hc:(count p i).2.2.2
    ·rw [hc] at h;simp at h
    ·rw [if_pos rfl];exact count_le p i hc
   ·rw [if_neg h3];exact Or.inl rfl
theorem escape_kind (p:ByteArray) (i:Int):(escape p i).1.kind≠8:=by
 rcases escape_cases p i with ⟨a1,e⟩ | ⟨a0,a1,⟨a2,e⟩ | ⟨a2,a3,e⟩ | ⟨a2,a3,a4,a5,a6,a7,e⟩ | ⟨a2,a3,a4,e⟩⟩ <;> rw [e] <;> simp
theorem opening_kind (p:ByteArray) (i:Int):(opening p i).1.kind≠8:=by
 rcases opening_cases p i with ⟨a1,e⟩ | ⟨a1,⟨a2,e⟩ | ⟨a2,a3,e⟩ | ⟨a2,a3,a4,e⟩ | ⟨a2,a3,a4,a5,e⟩ | ⟨a2,a3,a4,a5,e⟩⟩ <;> rw [e] <;> simp
theorem class_kind (p:ByteArray) (i:Int):(classT p i).1.kind≠8:=by
 unfold classT;split <;> simp
theorem nextT_rep (p:ByteArray) (i:Int) (h:(nextT p i).2=0) (hk:(nextT p i).1.kind=8):(nextT p i).1.m=-1∨(nextT p i).1.n≤(nextT p i).1.m:=by
 unfold nextT at h hk ⊢
 by_cases h1:atB p i=124
 ·rw [if_pos h1] at hk;simp at hk
 rw [if_neg h1] at h hk ⊢
 by_cases h2:atB p i=41
 ·rw [if_pos h2] at hk;simp at hk
 rw [if_neg h2] at h hk ⊢
 by_cases h3:atB p i=94
 ·rw [if_pos h3] at hk;simp at hk
 rw [if_neg h3] at h hk ⊢
 by_cases h4:atB p i=36
 ·rw [if_pos h4] at hk;simp at hk
 rw [if_neg h4] at h hk ⊢
 by_cases h5:atB p i=92
 ·rw [if_pos h5] at hk;exact absurd hk (escape_kind p i)
 rw [if_neg h5] at h hk ⊢
 by_cases h6:atB p i=91
 ·rw [if_pos h6] at hk;exact absurd hk (class_kind p i)
 rw [if_neg h6] at h hk ⊢
 by_cases h7:atB p i=40
 ·rw [if_pos h7] at hk;exact absurd hk (opening_kind p i)
 rw [if_neg h7] at h hk ⊢
 by_cases h8:atB p i=42∨atB p i=43∨atB p i=63∨atB p i=123
 ·rw [if_pos h8] at h ⊢
  exact repeat_le p i (by cases x:(repeatT p i).2 <;> simp [x] at h ⊢)
 rw [if_neg h8] at h hk ⊢
 by_cases h9:atB p i=46
 ·rw [if_pos h9] at hk;simp at hk
 ·rw [if_neg h9] at hk;simp at hk
def repsLe (l:List Tok):Prop:=∀ t∈l,t.kind=8→t.m=-1∨t.n≤t.m
theorem readOn_reps (p:ByteArray):∀ (f:Nat) (l:List Tok) (i:Int),0≤i→i≤p.size→(p.size:Int)-i<f→repsLe l→repsLe (readOn p l i).1:=by
 intro f
 induction f with
 | zero=>intro l i h0 h1 h2;omega
 | succ f ih =>
  intro l i h0 h1 h2 hl
  rw [readOn_step p l i h0 h1]
  by_cases a:(p.size:Int)≤i
  ·rw [if_pos a];exact hl
  rw [if_neg a]
  by_cases b:(nextT p i).2≠0
  ·rw [if_pos b];intro t ht;simp at ht
  rw [if_neg b]
  by_cases c:may l (nextT p i).1≠0
  ·rw [if_pos c];intro t ht;simp at ht
  rw [if_neg c]
  have hn:=nextT_to p i h0 (by omega) (by omega)
  refine ih _ _ (by omega) (by omega) (by omega) (fun t ht hk=>?_)
  rcases List.mem_append.1 ht with ht | ht
  ·exact hl t ht hk
  ·simp at ht
   have jk:=joined_kind l (nextT p i).1
   subst ht
   rw [jk.1] at hk
   have e:joined l (nextT p i).1=(nextT p i).1:=jk.2.2.2.2.1 (by unfold isCap;simp [hk])
   rw [e];exact nextT_rep p i (by omega) hk
theorem tokens_reps (p:ByteArray) (h:(tokens p).2.1=0):repsLe (tokens p).1:=by
 by_cases hp:p.size≤64
 ·have hr:=readOn_reps p ((p.size:Int)+1).toNat [] 0 (by omega) (by omega) (by omega) (by intro t ht;simp at ht)
  unfold tokens at h ⊢
  rw [if_neg (by omega),readOn_start p hp] at h ⊢
  split
  ·rename_i h1;rw [if_pos h1] at h;exact absurd h h1
  ·split
   ·intro t ht;simp at ht
   ·exact hr
 ·unfold tokens at h;rw [if_pos (by omega)] at h;simp at h
theorem fs_ok:∀ f:Fs,f.wf→(∀ t∈f.flat,t.kind=8→repOk' t)→(∀ t∈f.flat,t.kind=6→0≤t.how∧t.how≤4)→f.ok
 | .nil,_,_,_=>trivial
 | .bar t r,hw,h1,h2=>fs_ok r hw.2 (fun u hu=>h1 u (by simp [Fs.flat,hu])) (fun u hu=>h2 u (by simp [Fs.flat,hu]))
 | .leaf t r s,hw,h1,h2=>⟨fun q hq=>h1 q (by simp [Fs.flat,hq]) (hw.2.1 q hq),fs_ok s hw.2.2 (fun u hu=>h1 u (by simp [Fs.flat,hu])) (fun u hu=>h2 u (by simp [Fs.flat,hu]))⟩
 | .grp t i c r s,hw,h1,h2=>⟨fun q hq=>h1 q (by simp [Fs.flat,hq]) (hw.2.2.2.1 q hq),h2 t (by simp [Fs.flat]) hw.1,fs_ok i hw.2.2.1 (fun u hu=>h1 u (by simp [Fs.flat,hu])) (fun u hu=>h2 u (by simp [Fs.flat,hu])),fs_ok s hw.2.2.2.2 (fun u hu=>h1 u (by simp [Fs.flat,hu])) (fun u hu=>h2 u (by simp [Fs.flat,hu]))⟩
theorem nums_numd:∀ (m:List Tok) (l:List Tok),Nums (l++m)→numd (captures l) m
 | [],l,h=>trivial
 | t::r,l,h=>by
  have e:l++t::r=(l++[t])++r:=by simp
  refine ⟨fun hc=>?_,?_⟩
  ·have:=h l.length (by simp) (by rw [List.getD_eq_getElem?_getD,List.getElem?_append_right (Nat.le_refl _)];simpa using hc)
   rw [List.getD_eq_getElem?_getD,List.getElem?_append_right (Nat.le_refl _)] at this
   simpa using this
  ·have:=nums_numd r (l++[t]) (by rw [← e];exact h)
   rwa [captures_snoc] at this
theorem next_len (b:PB) (t:PT):(b.next t).atoms.length≤b.atoms.length+1∧(b.next t).seqs.length≤b.seqs.length+1:=by
 have ha:∀ t,(b.addAtom t).atoms.length=b.atoms.length+1∧(b.addAtom t).seqs.length=b.seqs.length:=fun t=>by
  unfold PB.addAtom;split <;> simp
 unfold PB.next
 split
 ·simp [PB.bar]
 split
 ·have:=ha t
  unfold PB.opening PB.into PB.number
  cases decide (t.group=1) <;> simp [this.1,this.2]
 split
 ·simp [PB.close]
 split
 ·simp [PB.repeated]
 ·have:=ha t;omega
theorem run_len:∀ (l:List Tok) (b:PB),(b.run l).atoms.length≤b.atoms.length+l.length∧(b.run l).seqs.length≤b.seqs.length+l.length
 | [],b=>by simp [PB.run]
 | t::r,b=>by
  have h1:=next_len b (ptok t)
  have h2:=run_len r (b.next (ptok t))
  rw [PB.run_cons];simp only [List.length_cons];omega
theorem start_at:PB.start.At:=⟨by decide,Or.inl rfl,fun _=>rfl,rfl⟩
theorem forest (p:ByteArray) (h:(tokens p).2.1=0):∃ f:Fs,f.wf∧f.ok∧(tokens p).1=f.flat∧standsF (PB.start.run (tokens p).1) 0 0 f ((PB.start.run (tokens p).1).sAt 0).first ((PB.start.run (tokens p).1).sAt 0).next∧0<(PB.start.run (tokens p).1).seqs.length ∧
  (PB.start.run (tokens p).1).atoms.length≤64∧(PB.start.run (tokens p).1).seqs.length≤65∧(300<(coded (tokens p).1).length↔300<f.re.len+1)∧(f.re.len+1≤300→coded (tokens p).1=f.re.code 0 0++[⟨13,0,0,[]⟩]):=by
 have hv:=tokens_valid p h
 have hr:=tokens_reps p h
 have hs:=(tokens_small p).2
 obtain ⟨f,hw,e⟩:=valid_parse hv.1 hv.2
 have hN:=nums_valid hv.1
 have hG:∀ t∈(tokens p).1,tokG t:=by
  intro t ht
  obtain ⟨k,hk,rfl⟩:=List.mem_iff_getElem.1 ht
  have:=(hv.1 k hk).2.1
  rw [List.getD_eq_getElem?_getD,List.getElem?_eq_getElem hk] at this
  exact this
 rw [e] at hr hs hN hG ⊢
 have hok:=fs_ok f hw (fun t ht hk=>by
  obtain ⟨_,_,_,_,g5⟩:=hG t ht
  have:=g5 hk
  have:=hr t ht hk
  exact ⟨by omega,by omega,by omega,by omega,by omega,by omega,this⟩) (fun t ht hk=>(hG t ht).2.2.2.1 hk)
 have hd:=run_forest f hw (fun t ht hk=>(hG t ht).2.2.2.1 hk) PB.start start_at (nums_numd f.flat [] (by simpa using hN))
 have hl:=run_len f.flat PB.start
 have ht:=treeOf_flat f hw hs
 have hc:=coded_len f.flat
 rw [ht] at hc
 have st:=hd.stands
 have e0:PB.start.last=-1:=rfl
 rw [if_pos e0] at st
 refine ⟨f,hw,hok,rfl,standsF_mono (Nat.zero_le _) (Nat.zero_le _) (fun _ _ _=>rfl) (fun _ _ _=>rfl) (Nat.le_refl _) (Nat.le_refl _) _ _ _ st,?_,?_,?_,?_,fun h300=>?_⟩
 ·have:=hd.sl;exact Nat.lt_of_lt_of_le (by decide) this
 ·have:=hl.1;simp [PB.start] at this ⊢;omega
 ·have:=hl.2;simp [PB.start] at this ⊢;omega
 ·constructor
  ·intro x;omega
  ·intro x;exact hc.2 x
 ·have:=(coded_tree f.flat (by rw [hc.1 h300];exact h300)).1
  rwa [ht] at this
inductive Lex (p:ByteArray):Int→List Tok→Int→Prop
 | nil (i:Int):Lex p i [] i
 | cons {i j:Int} {t:Tok} {l:List Tok} (h0:0≤i) (h1:i<p.size) (ht:nextT p i=(t,0)) (hl:Lex p t.to l j):Lex p i (t::l) j
theorem Lex.app {p:ByteArray} {i j k:Int} {l m:List Tok} (h:Lex p i l j) (g:Lex p j m k):Lex p i (l++m) k:=by
 induction h with
 | nil i=>exact g
 | cons h0 h1 ht hl ih=>exact Lex.cons h0 h1 ht (ih g)
theorem Lex.one {p:ByteArray} {i:Int} {t:Tok} (h0:0≤i) (h1:i<p.size) (ht:nextT p i=(t,0)):Lex p i [t] t.to:=Lex.cons h0 h1 ht (Lex.nil _)
theorem Lex.move {p p':ByteArray} {s:Int} (h:Stands p p' s) {i j:Int} {l:List Tok} (g:Lex p i l j):Lex p' (i+s) (l.map (mv s)) (j+s):=by
 induction g with
 | nil i=>exact Lex.nil _
 | @cons i j t l h0 h1 ht hl ih =>
  have hn:=next_sh h i h0 h1 (by rw [ht])
  rw [ht] at hn
  refine Lex.cons (by have:=h.lo;omega) (by have:=h.hi;omega) hn.1 ?_
  exact ih
def MayAll:List Tok→List Tok→Prop
 | _,[]=>True
 | l,t::r=>may l t=0∧isCap t=false∧MayAll (l++[t]) r
theorem MayAll.app:∀ {l a b:List Tok},MayAll l a→MayAll (l++a) b→MayAll l (a++b)
 | l,[],b,_,h=>by simpa using h
 | l,t::r,b,h,g=>⟨h.1,h.2.1,MayAll.app h.2.2 (by simpa using g)⟩
def NoCap (p:ByteArray):Prop:=∀ i:Int,atB p i=40→atB p (i+1)=63
theorem next_nocap {p:ByteArray} (h:NoCap p) (i:Int) (hn:(nextT p i).2=0):isCap (nextT p i).1=false:=by
 unfold nextT at hn ⊢
 split
 ·rfl
 split
 ·rfl
 split
 ·rfl
 split
 ·rfl
 split
 ·unfold escape;repeat' split
  all_goals rfl
 split
 ·unfold classT;repeat' split
  all_goals rfl
 split
 ·rename_i a b c d e f g
  rw [if_neg a,if_neg b,if_neg c,if_neg d,if_neg e,if_neg f,if_pos g] at hn
  have hq:=h i g
  unfold opening at hn ⊢
  rw [if_neg (by omega)] at hn ⊢
  split
  ·rfl
  split
  ·rfl
  split
  ·rfl
  split
  ·rfl
  ·rename_i x y z u
   rw [if_neg x,if_neg y,if_neg z,if_neg u] at hn;simp at hn
 split
 ·unfold repeatT;repeat' split
  all_goals rfl
 split
 ·rfl
 ·rfl
theorem read_lex {p:ByteArray} (hc:NoCap p):∀ (f:Nat) (l:List Tok) (i:Int),0≤i→i≤p.size→(p.size:Int)-i<f→(readOn p l i).2.1=0→∃ m,Lex p i m p.size∧MayAll l m∧(readOn p l i).1=l++m
 | 0,l,i,h0,h1,hf,he=>by omega
 | f+1,l,i,h0,h1,hf,he=>by
  rw [readOn_step p l i h0 h1] at he ⊢
  by_cases a:(p.size:Int)≤i
  ·rw [if_pos a]
   have:i=p.size:=by omega
   subst this
   exact ⟨[],Lex.nil _,trivial,by simp⟩
  rw [if_neg a] at he ⊢
  by_cases b:(nextT p i).2≠0
  ·rw [if_pos b] at he;exact absurd he b
  rw [if_neg b] at he ⊢
  by_cases c:may l (nextT p i).1≠0
  ·rw [if_pos c] at he;exact absurd he c
  rw [if_neg c] at he ⊢
  have hz:(nextT p i).2=0:=by omega
  have ht:=nextT_to p i h0 (by omega) hz
  have hk:=next_nocap hc i hz
  have hj:joined l (nextT p i).1=(nextT p i).1:=by unfold joined;rw [if_neg (by rw [hk];simp)]
  rw [hj] at he ⊢
  obtain ⟨m,m1,m2,m3⟩:=read_lex hc f _ _ (by omega) ht.2 (by omega) he
  refine ⟨(nextT p i).1::m,Lex.cons h0 (by omega) (by rw [← hz]) m1,⟨by omega,hk,m2⟩,?_⟩
  rw [m3];simp
theorem lex_read {p:ByteArray} {i j:Int} {m:List Tok} (h:Lex p i m j):∀ l,MayAll l m→j=p.size→0≤j→readOn p l i=(l++m,0,(p.size:Int)):=by
 induction h with
 | nil i =>
  intro l _ e h0
  rw [readOn_step p l i h0 (by omega),if_pos (by omega),e];simp
 | @cons i j t r h0 h1 ht hl ih =>
  intro l hm e hj
  rw [readOn_step p l i h0 (by omega),if_neg (by omega),ht,if_neg (by simp),if_neg (by rw [hm.1];simp)]
  have hjn:joined l t=t:=by unfold joined;rw [if_neg (by rw [hm.2.1];simp)]
  rw [hjn,ih _ hm.2.2 e hj];simp
def codeOf (r:Re):List Ins × Int:=if 300<r.len+1 then ([],12) else (r.code 0 0++[⟨13,0,0,[]⟩],0)
theorem code_of (p:ByteArray) (T:Fs) (hp:p.size≤64) (hw:T.wf) (hl:Lex p 0 T.flat p.size) (hm:MayAll [] T.flat) (ho:¬ 0<opened T.flat) (hn:T.flat.length≤64):codeR p=codeOf T.re:=by
 have hr:=lex_read hl [] hm rfl (by omega)
 rw [List.nil_append] at hr
 have ht:tokens p=(T.flat,0,0):=by
  unfold tokens
  rw [if_neg (by omega),readOn_start p hp,hr,if_neg (by simp),if_neg ho]
 have e:=treeOf_flat T hw hn
 have hc:=coded_len T.flat
 rw [e] at hc
 have hk:checkR p=if 300<(coded T.flat).length then (12,0) else (0,0):=by unfold checkR;rw [ht];simp
 unfold codeR codeOf
 rw [hk,ht]
 by_cases x:300<T.re.len+1
 ·rw [if_pos x,if_pos (hc.2 x)];simp
 ·have hlen:=hc.1 (by omega)
  have:=(coded_tree T.flat (by omega)).1
  rw [e] at this
  rw [if_neg x,if_neg (show ¬ 300<(coded T.flat).length by omega)]
  simp [this]
theorem tokens_lex (p:ByteArray) (hc:NoCap p) (h:(checkR p).1=0):∃ f:Fs,f.wf∧f.ok∧Lex p 0 f.flat p.size∧MayAll [] f.flat∧opened f.flat=0∧f.flat.length≤64∧p.size≤64:=by
 have h0:(tokens p).2.1=0:=by
  unfold checkR at h
  split at h
  ·rename_i x;exact absurd h x
  ·rename_i x;simpa using x
 obtain ⟨f,hw,hok,hfl,_⟩:=forest p h0
 have hs:=(tokens_small p).2
 have hv:=tokens_valid p h0
 have ho:=valid_opened hv.1 (tokens p).1.length (Nat.le_refl _)
 rw [List.take_length] at ho
 unfold tokens at h0
 by_cases a:64<p.size
 ·rw [if_pos a] at h0;simp at h0
 rw [if_neg a] at h0
 by_cases b:(readFrom p 65 [] 0).2.1≠0
 ·rw [if_pos b] at h0;exact absurd h0 b
 rw [readOn_start p (by omega)] at b
 obtain ⟨m,m1,m2,m3⟩:=read_lex hc (p.size+1) [] 0 (by omega) (by omega) (by omega) (by omega)
 have e:(tokens p).1=m:=by
  have hv2:=hv.2
  unfold tokens at hv2 ⊢
  rw [if_neg a,readOn_start p (by omega),if_neg b] at hv2 ⊢
  by_cases c:0<opened (readOn p [] 0).1
  ·rw [readOn_start p (by omega),if_neg b,if_pos c] at h0;simp at h0
  ·rw [if_neg c];rw [m3];simp
 rw [e] at hfl hs ho
 have hv2:=hv.2
 rw [e] at hv2
 exact ⟨f,hw,hok,by rw [← hfl];exact m1,by rw [← hfl];exact m2,by rw [← hfl];omega,by rw [← hfl];exact hs,by omega⟩
theorem mv_kind (s:Int) (t:Tok):(mv s t).kind=t.kind∧(mv s t).n=t.n∧(mv s t).m=t.m∧(mv s t).how=t.how∧(mv s t).set=t.set∧isCap (mv s t)=isCap t∧delta (mv s t)=delta t:=⟨rfl,rfl,rfl,rfl,rfl,rfl,rfl⟩
theorem opened_mv (s:Int):∀ l:List Tok,opened (l.map (mv s))=opened l
 | []=>rfl
 | t::r=>by simp only [List.map_cons,opened,opened_mv s r];rfl
def opens:List Tok→Int
 | []=>0
 | t::r=>(if t.kind=6 then 1 else 0)+opens r
theorem opens_nn:∀ l,0≤opens l
 | []=>Int.le_refl _
 | t::r=>by have:=opens_nn r;simp only [opens];split <;> omega
theorem next_open' {p:ByteArray} (h:NoCap p) (i:Int) (hn:(nextT p i).2=0) (hk:(nextT p i).1.kind=6):(nextT p i).1.to=i+3:=by
 unfold nextT at hn hk ⊢
 by_cases a1:atB p i=124
 ·rw [if_pos a1] at hk;simp at hk
 rw [if_neg a1] at hn hk ⊢
 by_cases a2:atB p i=41
 ·rw [if_pos a2] at hk;simp at hk
 rw [if_neg a2] at hn hk ⊢
 by_cases a3:atB p i=94
 ·rw [if_pos a3] at hk;simp at hk
 rw [if_neg a3] at hn hk ⊢
 by_cases a4:atB p i=36
 ·rw [if_pos a4] at hk;simp at hk
 rw [if_neg a4] at hn hk ⊢
 by_cases a5:atB p i=92
 ·rw [if_pos a5] at hk
  unfold escape at hk
  repeat' split at hk
  all_goals simp at hk
 rw [if_neg a5] at hn hk ⊢
 by_cases a6:atB p i=91
 ·rw [if_pos a6] at hk
  unfold classT at hk
  split at hk <;> simp at hk
 rw [if_neg a6] at hn hk ⊢
 by_cases a7:atB p i=40
 ·rw [if_pos a7] at hn hk ⊢
  have hq:=h i a7
  unfold opening at hn ⊢
  rw [if_neg (by omega)] at hn ⊢
  repeat' split
  all_goals rfl
 rw [if_neg a7] at hn hk ⊢
 by_cases a8:atB p i=42∨atB p i=43∨atB p i=63∨atB p i=123
 ·rw [if_pos a8] at hk
  unfold repeatT at hk
  repeat' split at hk
  all_goals simp at hk
 rw [if_neg a8] at hn hk ⊢
 split at hk <;> simp at hk
theorem lex_opens {p:ByteArray} (hc:NoCap p) {i j:Int} {m:List Tok} (h:Lex p i m j):3*opens m≤j-i∧i≤j:=by
 induction h with
 | nil i=>simp [opens]
 | @cons i j t l h0 h1 ht hl ih =>
  have hn:=nextT_to p i h0 h1 (by rw [ht])
  rw [ht] at hn
  simp only [opens]
  split
  ·rename_i k
   have:=next_open' hc i (by rw [ht]) (by rw [ht];exact k)
   rw [ht] at this
   simp only at this
   omega
  ·simp only at hn;omega
theorem closed_none:∀ (l:List Tok) (k:Int) (r:List Tok) (j:Nat),(∀ t∈r,isCap t=false)→closedFrom l k r j=false
 | l,k,[],j,_=>rfl
 | l,k,t::r,j,h=>by
  simp only [closedFrom]
  rw [if_neg (by rw [h t (List.mem_cons_self ..)];simp),closed_none l k r _ (fun t ht=>h t (List.mem_cons_of_mem _ ht))]
theorem ends_snoc (l:List Tok) (t:Tok):atomEnds (l++[t])=decide (t.kind=1∨t.kind=2∨t.kind=3∨t.kind=4∨t.kind=7):=by
 unfold atomEnds;simp
theorem opened_one (l:List Tok) (t:Tok):opened (l++[t])=opened l+delta t:=by rw [opened_append];simp [opened]
theorem mayAll_move (s:Int):∀ (m l1 l0:List Tok),MayAll l1 m→(∀ t∈l1,isCap t=false)→0≤opened l1→opened l1+opens m≤4→opened l1≤opened l0→opened l0≤opened l1+5→(atomEnds l1=true→atomEnds l0=true)→MayAll l0 (m.map (mv s))
 | [],_,_,_,_,_,_,_,_,_=>trivial
 | t::r,l1,l0,⟨h1,h2,h3⟩,hc,o1,o2,o3,o4,he=>by
  have hn:=opens_nn r
  have hd:(t.kind=6→delta t=1)∧(t.kind=7→delta t=-1)∧(t.kind≠6→t.kind≠7→delta t=0):=by
   unfold delta
   refine ⟨fun x=>by rw [if_pos x],fun x=>by rw [if_neg (by omega),if_pos x],fun x y=>by rw [if_neg x,if_neg y]⟩
  have h4:¬ (t.kind=6∧t.how=4):=by unfold isCap at h2;simpa using h2
  have hm:may l0 (mv s t)=0∧(t.kind=7→1≤opened l1)∧(t.kind=6→opened l1≤3):=by
   unfold may at h1 ⊢
   simp only [(mv_kind s t).1,(mv_kind s t).2.1,(mv_kind s t).2.2.2.1]
   simp only [opens] at o2
   by_cases k2:t.kind=2
   ·rw [if_pos k2] at h1
    have:closed l1 t.n=false:=closed_none _ _ _ _ hc
    rw [this] at h1;simp at h1
   rw [if_neg k2] at h1 ⊢
   by_cases k8:t.kind=8
   ·rw [if_pos k8] at h1 ⊢
    have:atomEnds l1=true:=by
     cases x:atomEnds l1
     ·rw [x] at h1;simp at h1
     ·rfl
    rw [he this]
    exact ⟨rfl,fun _=>by omega,fun _=>by omega⟩
   rw [if_neg k8] at h1 ⊢
   by_cases k6:t.kind=6
   ·rw [if_pos k6] at h1 ⊢
    rw [if_pos k6] at o2
    rw [if_neg (by omega),if_neg (by omega)]
    exact ⟨rfl,fun _=>by omega,fun _=>by omega⟩
   rw [if_neg k6] at h1 ⊢
   by_cases k7:t.kind=7
   ·rw [if_pos k7] at h1 ⊢
    have:opened l1≠0:=fun x=>by rw [if_pos x] at h1;simp at h1
    rw [if_neg (by omega)]
    exact ⟨rfl,fun _=>by omega,fun _=>by omega⟩
   ·rw [if_neg k7]
    exact ⟨rfl,fun _=>by omega,fun _=>by omega⟩
  refine ⟨hm.1,h2,mayAll_move s r (l1++[t]) (l0++[mv s t]) h3 ?_ ?_ ?_ ?_ ?_ ?_⟩
  ·intro u hu
   rcases List.mem_append.1 hu with x | x
   ·exact hc u x
   ·simp at x;subst x;exact h2
  ·rw [opened_one]
   by_cases k7:t.kind=7
   ·have:=hm.2.1 k7;have:=hd.2.1 k7;omega
   ·by_cases k6:t.kind=6
    ·have:=hd.1 k6;omega
    ·have:=hd.2.2 k6 k7;omega
  ·rw [opened_one]
   simp only [opens] at o2
   by_cases k6:t.kind=6
   ·rw [if_pos k6] at o2;have:=hd.1 k6;omega
   ·rw [if_neg k6] at o2
    by_cases k7:t.kind=7
    ·have:=hd.2.1 k7;omega
    ·have:=hd.2.2 k6 k7;omega
  ·rw [opened_one,opened_one,(mv_kind s t).2.2.2.2.2.2];omega
  ·rw [opened_one,opened_one,(mv_kind s t).2.2.2.2.2.2];omega
  ·rw [ends_snoc,ends_snoc,(mv_kind s t).1];exact fun x=>x
def mvF (s:Int):Fs→Fs
 | .nil=>.nil
 | .bar t r=>.bar (mv s t) (mvF s r)
 | .leaf t r k=>.leaf (mv s t) (r.map (mv s)) (mvF s k)
 | .grp t i c r k=>.grp (mv s t) (mvF s i) (mv s c) (r.map (mv s)) (mvF s k)
theorem mvF_flat (s:Int):∀ f:Fs,(mvF s f).flat=f.flat.map (mv s)
 | .nil=>rfl
 | .bar t r=>by simp [mvF,Fs.flat,mvF_flat s r]
 | .leaf t r k=>by cases r <;> simp [mvF,Fs.flat,mvF_flat s k]
 | .grp t i c r k=>by cases r <;> simp [mvF,Fs.flat,mvF_flat s k,mvF_flat s i]
theorem mvF_wf (s:Int):∀ f:Fs,f.wf→(mvF s f).wf
 | .nil,_=>trivial
 | .bar t r,h=>⟨h.1,mvF_wf s r h.2⟩
 | .leaf t r k,h=>⟨h.1,fun q hq=>by
   cases r with
   | none=>simp at hq
   | some u=>simp at hq;subst hq;exact h.2.1 u rfl,mvF_wf s k h.2.2⟩
 | .grp t i c r k,h=>⟨h.1,h.2.1,mvF_wf s i h.2.2.1,fun q hq=>by
   cases r with
   | none=>simp at hq
   | some u=>simp at hq;subst hq;exact h.2.2.2.1 u rfl,mvF_wf s k h.2.2.2.2⟩
theorem part_mv (s:Int) (r:Option Tok) (x:Re):part (r.map (mv s)) x=part r x:=by
 cases r <;> rfl
theorem mvF_both (s:Int):∀ f:Fs,(mvF s f).both=f.both
 | .nil=>rfl
 | .bar t r=>by simp only [mvF,Fs.both,mvF_both s r]
 | .leaf t r k=>by simp only [mvF,Fs.both,mvF_both s k,part_mv];rfl
 | .grp t i c r k=>by simp only [mvF,Fs.both,mvF_both s k,mvF_both s i,part_mv];rfl
end Mt
