import Derived.Test.YtebpgfodelggoaaDoorC22
import Derived.Test.YtebpgfodelggoaaDoorC12
set_option linter.unusedVariables false
set_option linter.unusedSimpArgs false
namespace Mt
def cutL (u v w:List UInt8):List UInt8:=40::63::62::(quoteL u++124::(quoteL v++41::quoteL w))
theorem cutL_len (u v w:List UInt8):(cutL u v w).length=(quoteL u).length+(quoteL v).length+(quoteL w).length+5:=by simp [cutL];omega
def seeL (c:UInt8) (u v:List UInt8):List UInt8:=40::63::c::(quoteL u++41::quoteL v)
theorem seeL_len (c:UInt8) (u v:List UInt8):(seeL c u v).length=(quoteL u).length+(quoteL v).length+4:=by simp [seeL];omega
theorem holds_one {p:ByteArray} {i:Int} {x:UInt8} {r:List UInt8} (h:Holds p i (x::r)):Holds p i [x]:=(holds_app [x] r i h).1
theorem cut_code (u v w:List UInt8) (hu:u.length≤8) (hv:v.length≤8) (hw:w.length≤8):codeR (bp (cutL u v w))=(cutC u v w,0):=by
 have lu:=quoteL_len u
 have lv:=quoteL_len v
 have lw:=quoteL_len w
 have hs:=holds_self (cutL u v w)
 have hsz:(bp (cutL u v w)).size=(quoteL u).length+(quoteL v).length+(quoteL w).length+5:=by rw [bp_size,cutL_len]
 obtain ⟨p,hp⟩:∃ p,p=bp (cutL u v w):=⟨_,rfl⟩
 rw [← hp] at hs hsz ⊢
 have hs1:Holds p 0 ([40,63,62]++(quoteL u++124::(quoteL v++41::quoteL w))):=hs
 obtain ⟨a1,a2⟩:=holds_app _ _ _ hs1
 have e3:(0:Int)+(([40,63,62]:List UInt8).length:Int)=3:=rfl
 rw [e3] at a2
 obtain ⟨b1,b2⟩:=holds_app _ _ _ a2
 obtain ⟨c1,c2⟩:=holds_app _ _ _ b2.2.2.2
 have d:=c2.2.2.2
 have r1:Reads p [] 0 [⟨6,0,3,0,0,0,[]⟩] 3:=reads_group a1 (.inr (.inl ⟨rfl,rfl⟩)) (by simp [opened])
 have rr:=r1.app ((reads_word u _ 3 b1).app ((reads_bar (holds_one b2)).app ((reads_word v _ _ c1).app ((reads_close (holds_one c2) (by simp only [opened_append,qToks_opened,opened,delta];simp)).app (reads_word w _ _ d)))))
 have hT:codeR p=codeOf (Fs.grp ⟨6,0,3,0,0,0,[]⟩ (qFs u 3 (.bar ⟨5,3+(quoteL u).length,3+(quoteL u).length+1,0,0,0,[]⟩ (qFs v (3+(quoteL u).length+1) .nil))) ⟨7,3+(quoteL u).length+1+(quoteL v).length,3+(quoteL u).length+1+(quoteL v).length+1,0,0,0,[]⟩ none (qFs w (3+(quoteL u).length+1+(quoteL v).length+1) .nil)).re:=by
  refine code_reads p _ (by rw [hsz];omega) ⟨rfl,rfl,qFs_wf _ _ _ ⟨rfl,qFs_wf _ _ _ trivial⟩,fun q h=>by simp at h,qFs_wf _ _ _ trivial⟩ ?_ ?_ ?_
  ·rw [hsz]
   rw [show (((quoteL u).length+(quoteL v).length+(quoteL w).length+5:Nat):Int)=3+(quoteL u).length+1+(quoteL v).length+1+(quoteL w).length by push_cast;omega]
   simpa only [Fs.flat,qFs_flat,Option.toList,List.append_nil,List.append_assoc,List.nil_append,List.cons_append] using rr
  ·simp only [Fs.flat,qFs_flat,Option.toList,List.append_nil,List.nil_append,opened_append,qToks_opened,opened,delta];simp
  ·simp only [Fs.flat,qFs_flat,Option.toList,List.length_append,qToks_len,List.length_cons,List.length_nil];omega
 rw [hT]
 have e:(Fs.grp ⟨6,0,3,0,0,0,[]⟩ (qFs u 3 (.bar ⟨5,3+(quoteL u).length,3+(quoteL u).length+1,0,0,0,[]⟩ (qFs v (3+(quoteL u).length+1) .nil))) ⟨7,3+(quoteL u).length+1+(quoteL v).length,3+(quoteL u).length+1+(quoteL v).length+1,0,0,0,[]⟩ none (qFs w (3+(quoteL u).length+1+(quoteL v).length+1) .nil)).re=cutRe u v w:=by
  simp only [Fs.re,Fs.both,qFs_both,joinRe,part,grpRe,wordBe_eps,cutRe];simp
 rw [e]
 unfold codeOf cutC
 rw [cutRe_len,if_neg (by omega)]
theorem see_code (u v:List UInt8) (c:UInt8) (s:Int) (hs:(c=61∧s=1)∨(c=33∧s=2)) (hu:u.length≤8) (hv:v.length≤8):codeR (bp (seeL c u v))=(seeC s u v,0):=by
 have lu:=quoteL_len u
 have lv:=quoteL_len v
 have hh:=holds_self (seeL c u v)
 have hsz:(bp (seeL c u v)).size=(quoteL u).length+(quoteL v).length+4:=by rw [bp_size,seeL_len]
 obtain ⟨p,hp⟩:∃ p,p=bp (seeL c u v):=⟨_,rfl⟩
 rw [← hp] at hh hsz ⊢
 have hs1:Holds p 0 ([40,63,c]++(quoteL u++41::quoteL v)):=hh
 obtain ⟨a1,a2⟩:=holds_app _ _ _ hs1
 have e3:(0:Int)+(([40,63,c]:List UInt8).length:Int)=3:=rfl
 rw [e3] at a2
 obtain ⟨c1,c2⟩:=holds_app _ _ _ a2
 have d:=c2.2.2.2
 have r1:Reads p [] 0 [⟨6,0,3,0,0,s,[]⟩] 3:=reads_group a1 (.inr (.inr hs)) (by simp [opened])
 have rr:=r1.app ((reads_word u _ _ c1).app ((reads_close (holds_one c2) (by simp only [opened_append,qToks_opened,opened,delta];simp)).app (reads_word v _ _ d)))
 have hT:codeR p=codeOf (Fs.grp ⟨6,0,3,0,0,s,[]⟩ (qFs u 3 .nil) ⟨7,3+(quoteL u).length,3+(quoteL u).length+1,0,0,0,[]⟩ none (qFs v (3+(quoteL u).length+1) .nil)).re:=by
  refine code_reads p _ (by rw [hsz];omega) ⟨rfl,rfl,qFs_wf _ _ _ trivial,fun q h=>by simp at h,qFs_wf _ _ _ trivial⟩ ?_ ?_ ?_
  ·rw [hsz]
   rw [show (((quoteL u).length+(quoteL v).length+4:Nat):Int)=3+(quoteL u).length+1+(quoteL v).length by push_cast;omega]
   simpa only [Fs.flat,qFs_flat,Option.toList,List.append_nil,List.append_assoc,List.nil_append,List.cons_append] using rr
  ·simp only [Fs.flat,qFs_flat,Option.toList,List.append_nil,List.nil_append,opened_append,qToks_opened,opened,delta];simp
  ·simp only [Fs.flat,qFs_flat,Option.toList,List.length_append,qToks_len,List.length_cons,List.length_nil];omega
 rw [hT]
 have e:(Fs.grp ⟨6,0,3,0,0,s,[]⟩ (qFs u 3 .nil) ⟨7,3+(quoteL u).length,3+(quoteL u).length+1,0,0,0,[]⟩ none (qFs v (3+(quoteL u).length+1) .nil)).re=seeRe s u v:=by
  have h3:s≠3∧s≠4:=by omega
  simp only [Fs.re,Fs.both,qFs_both,joinRe,part,grpRe,wordBe_eps,seeRe]
  rw [if_neg h3.1,if_neg h3.2]
 rw [e]
 unfold codeOf seeC
 rw [seeRe_len,if_neg (by omega)]
structure FirstIs (t:ByteArray) (f:Nat→Option Nat) (G:Fnd × Int):Prop where
 err:G.2=0
 len:G.1.at'.length=20
 s1:1≤G.1.steps
 s2:G.1.steps≤10000
 hit:∀ i,i≤t.size→(∀ q,q<i→f q=none)→∀ n,f i=some n→G.1.ok=true∧G.1.at'=(i:Int)::((i+n:Nat):Int)::List.replicate 18 (-1)
 miss:(∀ q,q≤t.size→f q=none)→G.1.ok=false∧G.1.at'=nowhere
theorem least_some (f:Nat→Option Nat):∀ n:Nat,(∀ q,q<n→f q=none)∨∃ a m,a<n∧(∀ q,q<a→f q=none)∧f a=some m
 | 0=>.inl fun q h=>by omega
 | n+1=>by
  rcases least_some f n with h | ⟨a,m,h1,h2,h3⟩
  ·cases hn:f n with
   | none =>
    refine .inl fun q hq=>?_
    by_cases e:q<n
    ·exact h q e
    ·have:q=n:=by omega
     subst this;exact hn
   | some m=>exact .inr ⟨n,m,by omega,h,hn⟩
  ·exact .inr ⟨a,m,by omega,h2,h3⟩
theorem first_is {p t:ByteArray} {P M Q:Int} {c:List Ins} {K H:Nat} (hp:codeR p=(c,0)) (hT:t.size≤60) (ho:Opt P M Q 10000) (f:Nat→Option Nat)
  (hn:∀ q,q≤t.size→f q=none→Within (envOf c t 0 0) K (0::(q:Int)::free) none)
  (hs:∀ q,q≤t.size→∀ n,f q=some n→∃ (x:Int) (R':List Int),(R'.drop 2).take 18=List.replicate 18 (-1)∧Within (envOf c t 0 0) H (0::(q:Int)::free) (some (x::((q+n:Nat):Int)::R')))
  (hB:61*K+H≤10000):FirstIs t f (findR p t 0 P M Q 10000):=by
 have hit:∀ i,i≤t.size→(∀ q,q<i→f q=none)→∀ n,f i=some n→(findR p t 0 P M Q 10000).2=0∧Inside t.size 0 (findR p t 0 P M Q 10000).1∧(findR p t 0 P M Q 10000).1.ok=true∧(findR p t 0 P M Q 10000).1.at'=(i:Int)::((i+n:Nat):Int)::List.replicate 18 (-1):=fun i hi hq n hf=>by
  obtain ⟨x,R',e,h⟩:=hs i hi n hf
  have:=find_hit hp hT ho i hi (fun q h=>hn q (by omega) (hq q h)) h (by omega)
  rw [e] at this
  exact this
 have miss:(∀ q,q≤t.size→f q=none)→_:=fun hq=>find_miss hp hT ho (fun q h=>hn q h (hq q h)) (by omega)
 generalize findR p t 0 P M Q 10000=G at *
 have any:G.2=0∧Inside t.size 0 G.1:=by
  rcases least_some f (t.size+1) with h | ⟨a,m,h1,h2,h3⟩
  ·exact ⟨(miss fun q hq=>h q (by omega)).1,(miss fun q hq=>h q (by omega)).2.1⟩
  ·exact ⟨(hit a (by omega) h2 m h3).1,(hit a (by omega) h2 m h3).2.1⟩
 exact ⟨any.1,any.2.len,any.2.steps1,any.2.steps2,fun i hi hq n hf=>(hit i hi hq n hf).2.2,fun hq=>(miss hq).2.2⟩
theorem free_rest:(free.drop 2).take 18=List.replicate 18 (-1):=rfl
theorem cut_first (u v w:List UInt8) (t:ByteArray) (P M Q:Int) (hu:u.length≤8) (hv:v.length≤8) (hw:w.length≤8) (hT:t.size≤60) (ho:Opt P M Q 10000):FirstIs t (cutAt t u v w) (findR (bp (cutL u v w)) t 0 P M Q 10000) :=
 first_is (K:=29) (H:=29) (cut_code u v w hu hv hw) hT ho _
  (fun q _ h=>((cut_run (E:=envOf (cutC u v w) t 0 0) (R:=free) rfl).1 h).mono (by omega))
  (fun q _ n h=>⟨_,free,free_rest,((cut_run (E:=envOf (cutC u v w) t 0 0) (R:=free) rfl).2 n h).mono (by omega)⟩) (by omega)
theorem see_first (u v:List UInt8) (t:ByteArray) (P M Q:Int) (c:UInt8) (s:Int) (yes:Bool) (hc:(c=61∧s=1)∨(c=33∧s=2)) (hy:(s=1∧yes=true)∨(s=2∧yes=false)) (hu:u.length≤8) (hv:v.length≤8) (hT:t.size≤60) (ho:Opt P M Q 10000):FirstIs t (seeAt t u v yes) (findR (bp (seeL c u v)) t 0 P M Q 10000) :=
 first_is (K:=29) (H:=29) (see_code u v c s hc hu hv) hT ho _
  (fun q _ h=>((see_run (E:=envOf (seeC s u v) t 0 0) (R:=free) hy rfl).1 h).mono (by omega))
  (fun q _ n h=>⟨_,free,free_rest,((see_run (E:=envOf (seeC s u v) t 0 0) (R:=free) hy rfl).2 n h).mono (by omega)⟩) (by omega)
variable {E:Env} {r:Option Sta} {R:List Int} {K L:Nat} {pc pos:Nat} {w:List UInt8}
def timesN (t:ByteArray) (w:List UInt8):Nat→Nat→Nat
 | 0,_=>0
 | f+1,i=>if standsB t i w then 1+timesN t w f (i+w.length) else 0
def standsN (t:ByteArray) (w:List UInt8):Nat→Nat→Bool
 | 0,_=>true
 | n+1,i=>standsB t i w&&standsN t w n (i+w.length)
theorem times_split (t:ByteArray) (w:List UInt8):∀ f n i,n≤timesN t w f i→timesN t w f i=n+timesN t w (f-n) (i+n*w.length)
 | f,0,i,_=>by simp
 | 0,n+1,i,h=>by simp [timesN] at h
 | f+1,n+1,i,h=>by
  simp only [timesN] at h ⊢
  cases e:standsB t i w
  ·rw [e] at h;simp at h
  ·rw [e] at h
   simp only [if_true] at h ⊢
   rw [times_split t w f n _ (by omega),show f+1-(n+1)=f-n by omega,Nat.add_mul,Nat.one_mul,show i+w.length+n*w.length=i+(n*w.length+w.length) by omega];omega
theorem timesN_le (t:ByteArray) (w:List UInt8):∀ f i,timesN t w f i≤f
 | 0,_=>Nat.le_refl _
 | f+1,i=>by
  have:=timesN_le t w f (i+w.length)
  simp only [timesN];split <;> omega
theorem standsN_of (t:ByteArray) (w:List UInt8):∀ f n i,n≤timesN t w f i→standsN t w n i=true
 | _,0,_,_=>rfl
 | 0,n+1,i,h=>by simp [timesN] at h
 | f+1,n+1,i,h=>by
  simp only [timesN] at h
  cases e:standsB t i w
  ·rw [e] at h;simp at h
  ·rw [e] at h
   simp only [if_true] at h
   simp only [standsN,e,Bool.true_and]
   exact standsN_of t w f n _ (by omega)
theorem standsN_not (t:ByteArray) (w:List UInt8):∀ f n i,n≤f→timesN t w f i<n→standsN t w n i=false
 | _,0,_,_,h=>by omega
 | 0,n+1,i,h,_=>by omega
 | f+1,n+1,i,h,h2=>by
  simp only [timesN] at h2
  simp only [standsN]
  cases e:standsB t i w
  ·rfl
  ·rw [e] at h2
   simp only [if_true] at h2
   rw [Bool.true_and]
   exact standsN_not t w f n _ (by omega) (by omega)
theorem standsB_le (t:ByteArray):∀ (w:List UInt8) (i:Nat),w≠[]→standsB t i w=true→i+w.length≤t.size
 | [],i,h,_=>absurd rfl h
 | [c],i,_,h=>by
  simp only [standsB,Bool.and_true] at h
  unfold byteAt at h
  split at h
  ·simp;omega
  ·simp at h
 | c::d::w,i,_,h=>by
  rw [standsB,Bool.and_eq_true] at h
  have:=standsB_le t (d::w) (i+1) (by simp) h.2
  simp only [List.length_cons] at this ⊢;omega
theorem standsN_le (t:ByteArray) (w:List UInt8) (hw:w≠[]):∀ n i,i≤t.size→standsN t w n i=true→i+n*w.length≤t.size
 | 0,i,hi,_=>by omega
 | n+1,i,hi,h=>by
  simp only [standsN,Bool.and_eq_true] at h
  have a:=standsB_le t w i hw h.1
  have:=standsN_le t w hw n (i+w.length) a h.2
  rw [Nat.add_mul];omega
theorem times_end (t:ByteArray) (w:List UInt8) (hw:w≠[]):∀ f i,t.size≤i+f→standsB t (i+timesN t w f i*w.length) w=false
 | 0,i,h=>by
  cases e:standsB t (i+timesN t w 0 i*w.length) w
  ·rfl
  ·have:=standsB_le t w _ hw e
   have hl:=List.length_pos_iff.2 hw
   simp only [timesN] at this
   omega
 | f+1,i,h=>by
  have hl:=List.length_pos_iff.2 hw
  cases e:standsB t i w
  ·simp only [timesN,e];simpa using e
  ·have:=times_end t w hw f (i+w.length) (by omega)
   simp only [timesN,e,if_true]
   rw [Nat.add_mul,Nat.one_mul,← Nat.add_assoc];exact this
theorem stands_n (t:ByteArray) (w:List UInt8) (hw:w≠[]) (n i:Nat) (hi:i≤t.size):standsN t w n i=decide (n≤timesN t w t.size i):=by
 by_cases h:n≤timesN t w t.size i
 ·rw [standsN_of t w _ n i h];simp [h]
 ·have h2:decide (n≤timesN t w t.size i)=false:=by simpa using h
  rw [h2]
  by_cases h3:n≤t.size
  ·exact standsN_not t w t.size n i h3 (by omega)
  ·cases e:standsN t w n i
   ·rfl
   ·have:=standsN_le t w hw n i hi e
    have hl:=List.length_pos_iff.2 hw
    have:n*1≤n*w.length:=Nat.mul_le_mul_left _ hl
    omega
theorem times_yes:∀ (n pc pos:Nat) (d:Int),Here E.c pc ((timesA (wordRe w) n).code pc d)→standsN E.t w n pos=true→Within E K (((pc+n*w.length:Nat):Int)::((pos+n*w.length:Nat):Int)::R) r→Within E (K+n*w.length) ((pc:Int)::(pos:Int)::R) r
 | 0,pc,pos,d,_,_,g=>by simpa using g
 | n+1,pc,pos,d,h,hs,g=>by
  simp only [standsN,Bool.and_eq_true] at hs
  obtain ⟨a,b⟩:=here_cat h
  rw [wordRe_len] at b
  rw [wordRe_code] at a
  rw [Nat.add_mul,Nat.one_mul] at g ⊢
  have:=times_yes n (pc+w.length) (pos+w.length) d b hs.2 (by rw [show pc+w.length+n*w.length=pc+(n*w.length+w.length) by omega,show pos+w.length+n*w.length=pos+(n*w.length+w.length) by omega];exact g)
  exact (w_word w pc pos a hs.1 this).mono (by omega)
theorem times_no:∀ (n pc pos:Nat) (d:Int),Here E.c pc ((timesA (wordRe w) n).code pc d)→standsN E.t w n pos=false→Within E (n*w.length) ((pc:Int)::(pos:Int)::R) none
 | 0,pc,pos,d,_,hs=>by simp [standsN] at hs
 | n+1,pc,pos,d,h,hs=>by
  obtain ⟨a,b⟩:=here_cat h
  rw [wordRe_len] at b
  rw [wordRe_code] at a
  rw [Nat.add_mul,Nat.one_mul]
  cases e:standsB E.t pos w
  ·exact (w_noword w pc pos a e).mono (by omega)
  ·simp only [standsN,e,Bool.true_and] at hs
   exact w_word w pc pos a e (times_no n _ _ d b hs)
theorem here_opt {c:List Ins} {a:Re} {p:Nat} {d:Int} {late:Bool} (h:Here c p ((Re.opt late a).code p d)):c.getD p ins0=(if late then ⟨2,((p+a.len+1:Nat):Int),((p+1:Nat):Int),[]⟩ else ⟨2,((p+1:Nat):Int),((p+a.len+1:Nat):Int),[]⟩)∧Here c (p+1) (a.code ((p+1:Nat):Int) d):=by
 rw [Re.code] at h
 obtain ⟨h1,h2⟩:=h
 exact ⟨by rw [h1];unfold spl;cases late <;> simp,by simpa using h2⟩
theorem opt_greedy {u:Sta} (t:ByteArray) (ht:t=E.t) (hw:w≠[]):∀ (n f pc pos:Nat) (d:Int),t.size≤pos+f→Here E.c pc ((optA (wordRe w) false n).code pc d)→Within E K (((pc+n*(w.length+1):Nat):Int)::((pos+min n (timesN t w f pos)*w.length:Nat):Int)::R) (some u)→Within E (K+n*(w.length+1)) ((pc:Int)::(pos:Int)::R) (some u)
 | 0,f,pc,pos,d,_,_,g=>by simpa using g
 | n+1,f,pc,pos,d,hf,h,g=>by
  have hl:=List.length_pos_iff.2 hw
  obtain ⟨a,b⟩:=here_opt h
  obtain ⟨b1,b2⟩:=here_cat b
  simp only [Re.len,wordRe_len,optA_len] at a b2
  rw [wordRe_code] at b1
  simp only [Bool.false_eq_true,if_false] at a
  have e1:(n+1)*(w.length+1)=n*(w.length+1)+w.length+1:=by rw [Nat.add_mul];omega
  rw [e1] at g ⊢
  cases e:standsB t pos w
  ·have e0:timesN t w f pos=0:=by cases f <;> simp [timesN,e]
   rw [e0,Nat.min_zero,Nat.zero_mul,Nat.add_zero] at g
   have h0:=w_noword (R:=R) w (pc+1) pos b1 (by rw [← ht];exact e)
   exact (w_right a h0 (by rw [show pc+(w.length+n*(w.length+1))+1=pc+(n*(w.length+1)+w.length+1) by omega];exact g)).mono (by omega)
  ·have hle:=standsB_le t w pos hw e
   obtain ⟨f,rfl⟩:∃ f',f=f'+1:=⟨f-1,by omega⟩
   have e0:timesN t w (f+1) pos=1+timesN t w f (pos+w.length):=by simp [timesN,e]
   rw [e0,show min (n+1) (1+timesN t w f (pos+w.length))=min n (timesN t w f (pos+w.length))+1 by omega,Nat.add_mul,Nat.one_mul] at g
   have:=opt_greedy t ht hw n f (pc+1+w.length) (pos+w.length) d (by omega) b2 (by
    rw [show pc+1+w.length+n*(w.length+1)=pc+(n*(w.length+1)+w.length+1) by omega,show pos+w.length+min n (timesN t w f (pos+w.length))*w.length=pos+(min n (timesN t w f (pos+w.length))*w.length+w.length) by omega];exact g)
   exact (w_left a (w_word w (pc+1) pos b1 (by rw [← ht];exact e) this)).mono (by omega)
theorem opt_lazy {u:Sta} (n:Nat) (d:Int) (h:Here E.c pc ((optA (wordRe w) true n).code pc d)) (g:Within E K (((pc+n*(w.length+1):Nat):Int)::(pos:Int)::R) (some u)):Within E (K+1) ((pc:Int)::(pos:Int)::R) (some u):=by
 cases n with
 | zero=>exact (by simpa using g:Within E K ((pc:Int)::(pos:Int)::R) (some u)).mono (by omega)
 | succ n =>
  obtain ⟨a,b⟩:=here_opt h
  simp only [Re.len,wordRe_len,optA_len,if_true] at a
  have e1:(n+1)*(w.length+1)=n*(w.length+1)+w.length+1:=by rw [Nat.add_mul];omega
  rw [e1] at g
  exact w_left a (by rw [show pc+(w.length+n*(w.length+1))+1=pc+(n*(w.length+1)+w.length+1) by omega];exact g)
theorem w_mark {d:Nat} (hc:E.c.getD pc ins0=⟨4,(d:Int),0,[]⟩) (g:Within E K (((pc+1:Nat):Int)::(pos:Int)::R.set (30+d) pos) r):Within E (K+1) ((pc:Int)::(pos:Int)::R) r:=by
 have hi:=ins_at E pc ((pos:Int)::R)
 rw [hc] at hi
 have e:oneP E.t ((pc:Int)::(pos:Int)::R) (E.ins ((pc:Int)::(pos:Int)::R))=(((pc+1:Nat):Int)::(pos:Int)::R.set (30+d) pos,true):=by
  rw [hi]
  show ((((pc:Int)::(pos:Int)::R).set (32+(d:Int).toNat) (pos:Int)).set 0 ((pc:Int)+1),true)=_
  rw [Int.toNat_natCast,show 32+d=30+d+1+1 by omega,List.set_cons_succ,List.set_cons_succ];rfl
 exact within_one (by rw [hi];simp) (by rw [hi];simp) (by rw [hi];simp) (by rw [hi];simp) (by rw [e]) (by rw [e];exact g)
theorem w_again {q d:Nat} (hc:E.c.getD pc ins0=⟨5,(q:Int),(d:Int),[]⟩) (hm:R.getD (30+d) 0≠(pos:Int)) (g:Within E K ((q:Int)::(pos:Int)::R) r):Within E (K+1) ((pc:Int)::(pos:Int)::R) r:=by
 have hi:=ins_at E pc ((pos:Int)::R)
 rw [hc] at hi
 have e:oneP E.t ((pc:Int)::(pos:Int)::R) (E.ins ((pc:Int)::(pos:Int)::R))=((q:Int)::(pos:Int)::R,true):=by
  rw [hi]
  show (((pc:Int)::(pos:Int)::R).set 0 (q:Int),gt ((pc:Int)::(pos:Int)::R) (32+(d:Int).toNat) != (pos:Int))=_
  have e1:gt ((pc:Int)::(pos:Int)::R) (32+(d:Int).toNat)=R.getD (30+d) 0:=by
   unfold gt
   rw [Int.toNat_natCast,show 32+d=30+d+1+1 by omega,List.getD_cons_succ,List.getD_cons_succ]
  rw [e1]
  have:(R.getD (30+d) 0 != (pos:Int))=true:=by simpa using hm
  rw [this];rfl
 exact within_one (by rw [hi];simp) (by rw [hi];simp) (by rw [hi];simp) (by rw [hi];simp) (by rw [e]) (by rw [e];exact g)
theorem here_loop {c:List Ins} {a:Re} {p:Nat} {d:Nat} {late:Bool} (h:Here c p ((Re.loop late a).code p d)):c.getD p ins0=(if late then ⟨2,((p+a.len+3:Nat):Int),((p+1:Nat):Int),[]⟩ else ⟨2,((p+1:Nat):Int),((p+a.len+3:Nat):Int),[]⟩)∧c.getD (p+1) ins0=⟨4,(d:Int),0,[]⟩∧Here c (p+2) (a.code ((p+2:Nat):Int) ((d+1:Nat):Int))∧c.getD (p+2+a.len) ins0=⟨5,(p:Int),(d:Int),[]⟩:=by
 rw [Re.code] at h
 obtain ⟨h1,h2,h3⟩:=h
 obtain ⟨h4,h5⟩:=here_app h3
 rw [Re.code_len] at h5
 exact ⟨by rw [h1];unfold spl;cases late <;> simp,h2,by simpa using h4,h5.1⟩
def Alike20 (R R':List Int):Prop:=R'.length=R.length∧R'.take 20=R.take 20
theorem Alike20.refl (R:List Int):Alike20 R R:=⟨rfl,rfl⟩
theorem Alike20.trans {R S T:List Int} (h:Alike20 R S) (g:Alike20 S T):Alike20 R T:=⟨g.1.trans h.1,g.2.trans h.2⟩
theorem Alike20.set (R:List Int) (d:Nat) (x:Int):Alike20 R (R.set (30+d) x):=⟨by simp,by rw [List.take_set_of_le (by omega)]⟩
theorem loop_greedy (t:ByteArray) (ht:t=E.t) (hw:w≠[]):∀ (f pc pos:Nat) (R:List Int),t.size≤pos+f→31≤R.length→Here E.c pc ((Re.loop false (wordRe w)).code pc ((0:Nat):Int))→∃ R',Alike20 R R'∧∀ (K:Nat) (u:Sta),Within E K (((pc+w.length+3:Nat):Int)::((pos+timesN t w f pos*w.length:Nat):Int)::R') (some u)→Within E (K+timesN t w f pos*(w.length+3)+w.length+2) ((pc:Int)::(pos:Int)::R) (some u):=by
 have hl:=List.length_pos_iff.2 hw
 intro f
 induction f with
 | zero =>
  intro pc pos R hf hR h
  obtain ⟨a,b,c,d⟩:=here_loop h
  rw [wordRe_len] at a d
  rw [wordRe_code] at c
  simp only [Bool.false_eq_true,if_false] at a
  have hs:standsB t pos w=false:=by simpa [timesN] using times_end t w hw 0 pos hf
  have h0:=w_mark (pos:=pos) (R:=R) b (w_noword w (pc+2) pos c (by rw [← ht];exact hs))
  exact ⟨R,Alike20.refl R,fun K u g=>(w_right a h0 (by simpa [timesN] using g)).mono (by simp only [timesN];omega)⟩
 | succ f ih =>
  intro pc pos R hf hR h
  obtain ⟨a,b,c,d⟩:=here_loop h
  rw [wordRe_len] at a d
  rw [wordRe_code] at c
  simp only [Bool.false_eq_true,if_false] at a
  cases e:standsB t pos w
  ·have e0:timesN t w (f+1) pos=0:=by simp [timesN,e]
   rw [e0]
   have h0:=w_mark (pos:=pos) (R:=R) b (w_noword w (pc+2) pos c (by rw [← ht];exact e))
   exact ⟨R,Alike20.refl R,fun K u g=>(w_right a h0 (by simpa using g)).mono (by omega)⟩
  ·have e0:timesN t w (f+1) pos=1+timesN t w f (pos+w.length):=by simp [timesN,e]
   rw [e0]
   obtain ⟨R',hR',k⟩:=ih pc (pos+w.length) (R.set (30+0) (pos:Int)) (by omega) (by simpa using hR) h
   refine ⟨R',(Alike20.set R 0 _).trans hR',fun K u g=>?_⟩
   rw [Nat.add_mul,Nat.one_mul] at g
   have k1:=k K u (by rw [show pos+w.length+timesN t w f (pos+w.length)*w.length=pos+(w.length+timesN t w f (pos+w.length)*w.length) by omega];exact g)
   have k2:=w_again d (by
    rw [List.getD_eq_getElem?_getD,List.getElem?_set_self (by omega)];simp;omega) k1
   have k3:=w_mark (pos:=pos) (R:=R) b (w_word w (pc+2) pos c (by rw [← ht];exact e) k2)
   refine (w_left a k3).mono ?_
   rw [Nat.add_mul];omega
theorem loop_lazy {u:Sta} (h:Here E.c pc ((Re.loop true (wordRe w)).code pc ((0:Nat):Int))) (g:Within E K (((pc+w.length+3:Nat):Int)::(pos:Int)::R) (some u)):Within E (K+1) ((pc:Int)::(pos:Int)::R) (some u):=by
 obtain ⟨a,b,c,d⟩:=here_loop h
 rw [wordRe_len] at a
 simp only [if_true] at a
 exact w_left a g
end Mt
namespace Mt
def digL (n:Nat):List UInt8:=if n<10 then [UInt8.ofNat (48+n)] else [UInt8.ofNat (48+n/10),UInt8.ofNat (48+n % 10)]
theorem digL_len (n:Nat):1≤(digL n).length∧(digL n).length≤2:=by unfold digL;split <;> simp
theorem number_dig {p:ByteArray} {i:Int} {n:Nat} {c:UInt8} {r:List UInt8} (hn:n≤20) (hc:(c.toNat:Int)<48∨57<(c.toNat:Int)) (h:Holds p i (digL n++c::r)):number p i=((n:Int),((digL n).length:Int)):=by
 unfold digL at h ⊢
 by_cases h1:n<10
 ·rw [if_pos h1] at h ⊢
  obtain ⟨_,_,a,_,_,b,_⟩:=h
  have e:(UInt8.ofNat (48+n)).toNat=48+n:=by rw [UInt8.toNat_ofNat'];omega
  rw [e] at a
  unfold number
  rw [a,b,if_neg (by omega),if_pos hc]
  show (((48+n:Nat):Int)-48,(1:Int))=_
  simp;omega
 ·rw [if_neg h1] at h ⊢
  obtain ⟨_,_,a,_,_,b,_⟩:=h
  have e:(UInt8.ofNat (48+n/10)).toNat=48+n/10:=by rw [UInt8.toNat_ofNat'];omega
  have e2:(UInt8.ofNat (48+n % 10)).toNat=48+n % 10:=by rw [UInt8.toNat_ofNat'];omega
  rw [e] at a
  rw [e2] at b
  unfold number
  rw [a,b,if_neg (by omega),if_neg (by omega)]
  simp;omega
theorem count_range {p:ByteArray} {i:Int} {n m:Nat} {r:List UInt8} (hnm:n≤m) (hm:m≤20) (h:Holds p i (123::(digL n++44::(digL m++125::r)))):count p i=((n:Int),(m:Int),i+1+(digL n).length+2+(digL m).length,true):=by
 have h1:=h.2.2.2
 have d1:=digL_len n
 have d2:=digL_len m
 have e1:=number_dig (n:=n) (by omega) (by decide) h1
 obtain ⟨_,h2⟩:=holds_app _ _ _ h1
 have a2:atB p (i+1+(digL n).length)=44:=h2.2.2.1
 have h3:=h2.2.2.2
 have e2:=number_dig (n:=m) (by omega) (by decide) h3
 obtain ⟨h4,h5⟩:=holds_app _ _ _ h3
 have a5:atB p (i+1+(digL n).length+1+(digL m).length)=125:=h5.2.2.1
 have a3:atB p (i+1+(digL n).length+1)≠125:=by
  obtain ⟨c,l,hl⟩:∃ c l,digL m=c::l∧c.toNat≤57:=by
   unfold digL
   split
   ·exact ⟨_,_,rfl,by rw [UInt8.toNat_ofNat'];omega⟩
   ·exact ⟨_,_,rfl,by rw [UInt8.toNat_ofNat'];omega⟩
  rw [hl.1] at h4
  rw [h4.2.2.1]
  have:=hl.2
  omega
 unfold count
 rw [e1]
 dsimp only
 rw [a2,if_neg (by omega),if_neg (by omega),if_neg (by omega),if_neg a3,e2]
 dsimp only
 rw [a5,if_neg (by omega)]
theorem count_open {p:ByteArray} {i:Int} {n:Nat} {r:List UInt8} (hn:n≤20) (h:Holds p i (123::(digL n++44::125::r))):count p i=((n:Int),-1,i+1+(digL n).length+2,true):=by
 have h1:=h.2.2.2
 have d1:=digL_len n
 have e1:=number_dig (n:=n) (by omega) (by decide) h1
 obtain ⟨_,h2⟩:=holds_app _ _ _ h1
 have a2:atB p (i+1+(digL n).length)=44:=h2.2.2.1
 have a3:atB p (i+1+(digL n).length+1)=125:=h2.2.2.2.2.2.1
 unfold count
 rw [e1]
 dsimp only
 rw [a2,a3,if_neg (by omega),if_neg (by omega),if_neg (by omega),if_pos rfl]
theorem count_just {p:ByteArray} {i:Int} {n:Nat} {r:List UInt8} (hn:n≤20) (h:Holds p i (123::(digL n++125::r))):count p i=((n:Int),(n:Int),i+1+(digL n).length+1,true):=by
 have h1:=h.2.2.2
 have d1:=digL_len n
 have e1:=number_dig (n:=n) (by omega) (by decide) h1
 obtain ⟨_,h2⟩:=holds_app _ _ _ h1
 have a2:atB p (i+1+(digL n).length)=125:=h2.2.2.1
 unfold count
 rw [e1]
 dsimp only
 rw [a2,if_neg (by omega),if_pos rfl]
theorem next_count {p:ByteArray} {i N M Z how to:Int} (h:atB p i=123) (hc:count p i=(N,M,Z,true)) (hm:mood p Z=(how,to)):nextT p i=(⟨8,i,to,N,M,how,[]⟩,0):=by
 unfold nextT
 rw [h,if_neg (by omega),if_neg (by omega),if_neg (by omega),if_neg (by omega),if_neg (by omega),if_neg (by omega),if_neg (by omega),if_pos (by omega)]
 unfold repeatT
 rw [h,if_neg (by omega),if_neg (by omega),if_pos rfl,hc,hm];rfl
theorem reads_count {p:ByteArray} {l:List Tok} {i N M Z how to:Int} (h0:0≤i) (h1:i<p.size) (h:atB p i=123) (hc:count p i=(N,M,Z,true)) (hm:mood p Z=(how,to)) (ha:atomEnds l=true):Reads p l i [⟨8,i,to,N,M,how,[]⟩] to :=
 Reads.one h0 h1 (next_count h hc hm) (by unfold may;simp [ha]) (by unfold joined isCap;simp)
def moodL (how:Int):List UInt8:=if how=1 then [63] else if how=2 then [43] else []
def maxL (m:Int):List UInt8:=if m<0 then [] else digL m.toNat
def countL (w:List UInt8) (n:Nat) (m how:Int):List UInt8:=40::63::58::(quoteL w++41::123::(digL n++44::(maxL m++125::moodL how)))
theorem countL_len (w:List UInt8) (n:Nat) (m how:Int):(countL w n m how).length=(quoteL w).length+(digL n).length+(maxL m).length+(moodL how).length+7:=by simp [countL];omega
def countRe (w:List UInt8) (n:Nat) (m how:Int):Re:=.cat (repA (wordRe w) ⟨8,0,0,n,m,how,[]⟩) .eps
def countC (w:List UInt8) (n:Nat) (m how:Int):List Ins:=(countRe w n m how).code 0 0++[⟨13,0,0,[]⟩]
def bodyRe (w:List UInt8) (n:Nat) (m:Int) (late:Bool):Re :=
 if m<0 then .cat (timesA (wordRe w) n) (.loop late (wordRe w)) else if (n:Int)<m then .cat (timesA (wordRe w) n) (optA (wordRe w) late (m.toNat-n)) else timesA (wordRe w) n
theorem rep_body (w:List UInt8) (n:Nat) (m how:Int):repA (wordRe w) ⟨8,0,0,n,m,how,[]⟩=if how=2 then .sub 0 (bodyRe w n m (decide (how=1))) else bodyRe w n m (decide (how=1)):=by
 have e:∀ X Y:Re,X=Y→(if how=2 then Re.sub 0 X else X)=(if how=2 then Re.sub 0 Y else Y):=fun X Y h=>by rw [h]
 unfold repA
 refine e _ _ ?_
 unfold bodyRe
 dsimp only
 by_cases hm:m<0
 ·rw [if_pos hm,if_pos hm]
  congr 1
  by_cases h0:0<(n:Int)∨0<m
  ·rw [if_pos h0,if_neg (by omega),Int.toNat_natCast]
  ·rw [if_neg h0]
   have:n=0:=by omega
   subst this;rfl
 ·rw [if_neg hm,if_neg hm]
  by_cases h0:0<(n:Int)∨0<m
  ·rw [if_pos h0,Int.toNat_natCast,show (m-(n:Int)).toNat=m.toNat-n by omega]
  ·rw [if_neg h0]
   have:n=0:=by omega
   subst this
   rw [if_neg (by omega)];rfl
theorem body_len (w:List UInt8) (n:Nat) (m:Int) (late:Bool) (hw:w.length≤6) (hn:n≤20) (hm:m≤20):(bodyRe w n m late).len≤269:=by
 have a:n*w.length≤20*6:=Nat.mul_le_mul hn hw
 unfold bodyRe
 split
 ·simp only [Re.len,timesA_len,wordRe_len];omega
 ·split
  ·simp only [Re.len,timesA_len,wordRe_len,optA_len]
   have b:(m.toNat-n)*(w.length+1)≤20*7:=Nat.mul_le_mul (by omega) (by omega)
   omega
  ·simp only [timesA_len,wordRe_len];omega
theorem count_len (w:List UInt8) (n:Nat) (m how:Int) (hw:w.length≤6) (hn:n≤20) (hm:m≤20):(countRe w n m how).len≤271:=by
 have:=body_len w n m (decide (how=1)) hw hn hm
 unfold countRe
 rw [Re.len,rep_body]
 split
 ·simp only [Re.len];omega
 ·simp only [Re.len];omega
theorem count_code (w:List UInt8) (n:Nat) (m how:Int) (hw:w.length≤6) (hn:n≤20) (hm:m<0∧m=-1∨(n:Int)≤m∧m≤20) (hh:how=0∨how=1∨how=2):codeR (bp (countL w n m how))=(countC w n m how,0):=by
 have lw:=quoteL_len w
 have d1:=digL_len n
 have d2:(maxL m).length≤2:=by unfold maxL;split;simp;exact (digL_len _).2
 have d3:(moodL how).length≤1:=by unfold moodL;split;simp;split <;> simp
 have hh0:=holds_self (countL w n m how)
 have hsz:(bp (countL w n m how)).size=(quoteL w).length+(digL n).length+(maxL m).length+(moodL how).length+7:=by rw [bp_size,countL_len]
 obtain ⟨p,hp⟩:∃ p,p=bp (countL w n m how):=⟨_,rfl⟩
 rw [← hp] at hh0 hsz ⊢
 have hs1:Holds p 0 ([40,63,58]++(quoteL w++41::123::(digL n++44::(maxL m++125::moodL how)))):=hh0
 obtain ⟨a1,a2⟩:=holds_app _ _ _ hs1
 have e3:(0:Int)+(([40,63,58]:List UInt8).length:Int)=3:=rfl
 rw [e3] at a2
 obtain ⟨c1,c2⟩:=holds_app _ _ _ a2
 have d:=c2.2.2.2
 have hcount:∃ Z:Int,count p (3+(quoteL w).length+1)=((n:Int),m,Z,true)∧Holds p Z (moodL how)∧Z+(moodL how).length=p.size:=by
  rcases hm with ⟨h1,rfl⟩ | ⟨h1,h2⟩
  ·have em:maxL (-1)=[]:=rfl
   rw [em] at d hsz
   refine ⟨_,count_open hn d,?_,?_⟩
   ·have:=(holds_app _ _ _ d.2.2.2).2.2.2.2.2.2.2
    rw [show (3:Int)+(quoteL w).length+1+1+(digL n).length+2=3+(quoteL w).length+1+1+(digL n).length+1+1 by omega];exact this
   ·rw [hsz];push_cast;simp;omega
  ·obtain ⟨M,rfl⟩:=Int.eq_ofNat_of_zero_le (show 0≤m by omega)
   have em:maxL (M:Int)=digL M:=by unfold maxL;rw [if_neg (by omega)];rfl
   rw [em] at d hsz
   refine ⟨_,count_range (by omega) (by omega) d,?_,?_⟩
   ·have:=(holds_app _ _ _ (holds_app _ _ _ d.2.2.2).2.2.2.2).2.2.2.2
    rw [show (3:Int)+(quoteL w).length+1+1+(digL n).length+2+(digL M).length=3+(quoteL w).length+1+1+(digL n).length+1+(digL M).length+1 by omega];exact this
   ·rw [hsz];push_cast;omega
 obtain ⟨Z,hc,hz,hz2⟩:=hcount
 have hmood:mood p Z=(how,(p.size:Int)):=by
  unfold mood
  rcases hh with rfl | rfl | rfl
  ·have e:moodL 0=[]:=rfl
   rw [e] at hz2
   have:atB p Z=-1:=at_end (by simpa using hz2)
   rw [this,if_neg (by omega),if_neg (by omega)]
   have:Z=p.size:=by simpa using hz2
   rw [this]
  ·have e:moodL 1=[63]:=rfl
   rw [e] at hz hz2
   have:atB p Z=63:=hz.2.2.1
   rw [this,if_pos rfl]
   have:Z+1=p.size:=by simpa using hz2
   rw [this]
  ·have e:moodL 2=[43]:=rfl
   rw [e] at hz hz2
   have:atB p Z=43:=hz.2.2.1
   rw [this,if_neg (by omega),if_pos rfl]
   have:Z+1=p.size:=by simpa using hz2
   rw [this]
 have r1:Reads p [] 0 [⟨6,0,3,0,0,3,[]⟩] 3:=reads_group a1 (.inl ⟨rfl,rfl⟩) (by simp [opened])
 have rr:=r1.app ((reads_word w _ _ c1).app ((reads_close (holds_one c2) (by simp only [opened_append,qToks_opened,opened,delta];simp)).app (reads_count d.1 d.2.1 d.2.2.1 hc hmood (by unfold atomEnds;rw [List.getLast?_concat];simp))))
 have hT:codeR p=codeOf (Fs.grp ⟨6,0,3,0,0,3,[]⟩ (qFs w 3 .nil) ⟨7,3+(quoteL w).length,3+(quoteL w).length+1,0,0,0,[]⟩ (some ⟨8,3+(quoteL w).length+1,p.size,n,m,how,[]⟩) .nil).re:=by
  refine code_reads p _ (by rw [hsz];omega) ⟨rfl,rfl,qFs_wf _ _ _ trivial,fun q h=>by injection h with h;rw [← h],trivial⟩ ?_ ?_ ?_
  ·simpa only [Fs.flat,qFs_flat,Option.toList,List.append_nil,List.append_assoc,List.nil_append,List.cons_append] using rr
  ·simp only [Fs.flat,qFs_flat,Option.toList,List.append_nil,List.nil_append,opened_append,qToks_opened,opened,delta];simp
  ·simp only [Fs.flat,qFs_flat,Option.toList,List.length_append,qToks_len,List.length_cons,List.length_nil];omega
 rw [hT]
 have e:(Fs.grp ⟨6,0,3,0,0,3,[]⟩ (qFs w 3 .nil) ⟨7,3+(quoteL w).length,3+(quoteL w).length+1,0,0,0,[]⟩ (some ⟨8,3+(quoteL w).length+1,p.size,n,m,how,[]⟩) .nil).re=countRe w n m how:=by
  simp only [Fs.re,Fs.both,qFs_both,joinRe,part,grpRe,wordBe_eps,countRe,if_true]
  rfl
 rw [e]
 have:=count_len w n m how hw hn (by omega)
 unfold codeOf countC
 rw [if_neg (by omega)]
end Mt
