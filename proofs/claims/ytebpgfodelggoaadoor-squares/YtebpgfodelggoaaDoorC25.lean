import Derived.Test.YtebpgfodelggoaaDoorC23
set_option linter.unusedVariables false
set_option linter.unusedSimpArgs false
namespace Mt
variable {E:Env} {r:Option Sta} {R:List Int} {K L:Nat} {pc pos:Nat}
def dotS:List UInt8:=(List.range 256).map UInt8.ofNat
theorem all_dot (p:ByteArray) (i:Int):all p i i true=dotS:=by
 have e:∀ c:Int,inClass p i i c=false:=fun c=>by rw [inClass_step,if_pos (Int.le_refl _)]
 have e2:(List.range 256).filter (fun c:Nat=>inClass p i i (c:Int) != true)=List.range 256:=by
  rw [List.filter_eq_self]
  intro a _
  rw [e];rfl
 unfold all allTo dotS
 rw [e2]
theorem byteAt_dot (t:ByteArray) (i:Nat):byteAt t i dotS=decide (i<t.size):=by
 unfold byteAt
 by_cases h:i<t.size
 ·rw [if_pos (by omega)]
  have:decide (i<t.size)=true:=by simpa using h
  rw [this]
  unfold hasB byI
  rw [dif_pos h]
  rw [List.any_eq_true]
  refine ⟨t[i]'h,?_,by simp⟩
  unfold dotS
  simp only [List.mem_map,List.mem_range]
  exact ⟨(t[i]'h).toNat,(t[i]'h).toNat_lt,by simp⟩
 ·rw [if_neg (by omega)]
  simpa using h
def squareRe (k:Nat):Re:=.cat (.cap 1 (.cat (timesA (.one dotS) k) .eps)) (.cat (.back 1) .eps)
theorem squareRe_len (k:Nat):(squareRe k).len=k+3:=by simp [squareRe,Re.len,timesA_len]
def squareC (k:Nat):List Ins:=(squareRe k).code 0 0++[⟨13,0,0,[]⟩]
def squareL (k:Nat):List UInt8:=40::46::123::(digL k++[125,41,92,49])
theorem squareL_len (k:Nat):(squareL k).length=(digL k).length+7:=by simp [squareL]
theorem square_code (k:Nat) (hk:k≤20):codeR (bp (squareL k))=(squareC k,0):=by
 have d1:=digL_len k
 have hh0:=holds_self (squareL k)
 have hsz:(bp (squareL k)).size=(digL k).length+7:=by rw [bp_size,squareL_len]
 obtain ⟨p,hp⟩:∃ p,p=bp (squareL k):=⟨_,rfl⟩
 rw [← hp] at hh0 hsz ⊢
 unfold squareL at hh0
 have h1:=hh0.2.2.2
 have h2:=h1.2.2.2
 have h3:=(holds_app _ _ _ h2.2.2.2).2
 have h4:=h3.2.2.2
 have h5:=h4.2.2.2
 have r1:Reads p [] 0 [⟨6,0,0+1,captures []+1,0,4,[]⟩] (0+1):=reads_cap hh0 (by simp) (by simp) (by simp [opened]) (by simp [captures])
 have n2:nextT p (0+1)=(⟨1,0+1,0+1+1,0,0,0,dotS⟩,0):=by
  have:atB p (0+1)=46:=h1.2.2.1
  unfold nextT
  rw [this,if_neg (by omega),if_neg (by omega),if_neg (by omega),if_neg (by omega),if_neg (by omega),if_neg (by omega),if_neg (by omega),if_neg (by omega),if_pos rfl,all_dot]
 have hmood:mood p (0+1+1+1+(digL k).length+1)=(0,(0:Int)+1+1+1+((digL k).length:Int)+1):=by
  have:atB p (0+1+1+1+(digL k).length+1)=41:=h4.2.2.1
  unfold mood
  rw [this,if_neg (by omega),if_neg (by omega)]
 have n5:nextT p (0+1+1+1+(digL k).length+1+1)=(⟨2,0+1+1+1+(digL k).length+1+1,0+1+1+1+(digL k).length+1+1+2,1,0,0,[]⟩,0):=by
  have a:atB p (0+1+1+1+(digL k).length+1+1)=92:=h5.2.2.1
  have b:atB p (0+1+1+1+(digL k).length+1+1+1)=49:=h5.2.2.2.2.2.1
  unfold nextT
  rw [a,if_neg (by omega),if_neg (by omega),if_neg (by omega),if_neg (by omega),if_pos rfl]
  unfold escape
  rw [b,if_neg (by omega),if_neg (by omega),if_pos (by omega)];rfl
 have rr:=r1.app ((Reads.one (u:=⟨1,0+1,0+1+1,0,0,0,dotS⟩) h1.1 h1.2.1 n2 (by unfold may;simp) (by unfold joined isCap;simp)).app ((reads_count h2.1 h2.2.1 h2.2.2.1 (count_just hk h2) hmood (by unfold atomEnds;rw [List.getLast?_concat];simp)).app ((reads_close (holds_one h4) (by simp only [opened_append,opened,delta];simp)).app
  (Reads.one (u:=⟨2,0+1+1+1+(digL k).length+1+1,0+1+1+1+(digL k).length+1+1+2,1,0,0,[]⟩) h5.1 h5.2.1 n5 (by unfold may;simp [closed,closedFrom,closing,closeFrom,delta,isCap,captures]) (by unfold joined isCap;simp)))))
 have hT:codeR p=codeOf (Fs.grp ⟨6,0,0+1,captures []+1,0,4,[]⟩ (.leaf ⟨1,0+1,0+1+1,0,0,0,dotS⟩ (some ⟨8,0+1+1,0+1+1+1+(digL k).length+1,k,k,0,[]⟩) .nil) ⟨7,0+1+1+1+(digL k).length+1,0+1+1+1+(digL k).length+1+1,0,0,0,[]⟩ none (.leaf ⟨2,0+1+1+1+(digL k).length+1+1,0+1+1+1+(digL k).length+1+1+2,1,0,0,[]⟩ none .nil)).re:=by
  refine code_reads p _ (by rw [hsz];omega) ⟨rfl,rfl,⟨.inl rfl,fun q h=>by injection h with h;rw [← h],trivial⟩,fun q h=>by simp at h,.inr (.inl rfl),fun q h=>by simp at h,trivial⟩ ?_ ?_ ?_
  ·have e:(p.size:Int)=0+1+1+1+(digL k).length+1+1+2:=by rw [hsz];push_cast;omega
   rw [e]
   simpa only [Fs.flat,Option.toList,List.append_nil,List.append_assoc,List.nil_append,List.cons_append] using rr
  ·simp only [Fs.flat,Option.toList,List.append_nil,List.nil_append,opened_append,opened,delta];simp [opened,delta]
  ·simp only [Fs.flat,Option.toList,List.length_append,List.length_cons,List.length_nil];omega
 rw [hT]
 have e:(Fs.grp ⟨6,0,0+1,captures []+1,0,4,[]⟩ (.leaf ⟨1,0+1,0+1+1,0,0,0,dotS⟩ (some ⟨8,0+1+1,0+1+1+1+(digL k).length+1,k,k,0,[]⟩) .nil) ⟨7,0+1+1+1+(digL k).length+1,0+1+1+1+(digL k).length+1+1,0,0,0,[]⟩ none (.leaf ⟨2,0+1+1+1+(digL k).length+1+1,0+1+1+1+(digL k).length+1+1+2,1,0,0,[]⟩ none .nil)).re=squareRe k:=by
  have e1:repA (.one dotS) ⟨8,0+1+1,0+1+1+1+(digL k).length+1,k,k,0,[]⟩=timesA (.one dotS) k:=by
   unfold repA
   simp only [Int.reduceEq,if_false,Int.lt_irrefl,or_self]
   rw [if_neg (by omega)]
   by_cases h0:0<(k:Int)
   ·rw [if_pos h0,Int.toNat_natCast]
   ·rw [if_neg h0]
    have:k=0:=by omega
    subst this;rfl
  simp only [Fs.re,Fs.both,joinRe,part,grpRe,leafRe,Int.reduceEq,if_false,if_true,e1,squareRe,captures];rfl
 rw [e]
 unfold codeOf squareC
 rw [squareRe_len,if_neg (by omega)]
theorem dots_yes:∀ (n pc pos:Nat) (d:Int),Here E.c pc ((timesA (.one dotS) n).code pc d)→pos+n≤E.t.size→Within E K (((pc+n:Nat):Int)::((pos+n:Nat):Int)::R) r→Within E (K+n) ((pc:Int)::(pos:Int)::R) r
 | 0,pc,pos,d,_,_,g=>by simpa using g
 | n+1,pc,pos,d,h,hs,g=>by
  obtain ⟨a,b⟩:=here_cat h
  simp only [Re.len] at b
  have:=dots_yes n (pc+1) (pos+1) d b (by omega) (by rw [show pc+1+n=pc+(n+1) by omega,show pos+1+n=pos+(n+1) by omega];exact g)
  exact w_byte a.1 (by rw [byteAt_dot];simp;omega) this
theorem dots_no:∀ (n pc pos:Nat) (d:Int),Here E.c pc ((timesA (.one dotS) n).code pc d)→E.t.size<pos+n→pos≤E.t.size→Within E n ((pc:Int)::(pos:Int)::R) none
 | 0,pc,pos,d,_,hs,hp=>by omega
 | n+1,pc,pos,d,h,hs,hp=>by
  obtain ⟨a,b⟩:=here_cat h
  simp only [Re.len] at b
  by_cases e:pos<E.t.size
  ·exact w_byte a.1 (by rw [byteAt_dot];simpa using e) (dots_no n (pc+1) (pos+1) d b (by omega) (by omega))
  ·exact (w_nobyte a.1 (by rw [byteAt_dot];simpa using e)).mono (by omega)
def squareAt (t:ByteArray) (k i:Nat):Bool:=decide (i+2*k≤t.size)&&((t.extract i (i+k)).toList==(t.extract (i+k) (i+k+k)).toList)
theorem w_back {i k:Nat} (hc:E.c.getD pc ins0=⟨8,1,0,[]⟩) (h2:R.getD 2 0=(i:Int)) (h3:R.getD 3 0=((i+k:Nat):Int)) (hs:squareAt E.t k i=true) (g:Within E K (((pc+1:Nat):Int)::((i+2*k:Nat):Int)::R) r):Within E (K+1) ((pc:Int)::((i+k:Nat):Int)::R) r:=by
 have hi:=ins_at E pc (((i+k:Nat):Int)::R)
 rw [hc] at hi
 unfold squareAt at hs
 rw [Bool.and_eq_true,decide_eq_true_eq] at hs
 have e:oneP E.t ((pc:Int)::((i+k:Nat):Int)::R) (E.ins ((pc:Int)::((i+k:Nat):Int)::R))=(((pc+1:Nat):Int)::((i+2*k:Nat):Int)::R,true):=by
  rw [hi]
  show backP E.t _ 1=_
  unfold backP
  have e1:gt ((pc:Int)::((i+k:Nat):Int)::R) (2+(2*(1:Int)).toNat)=(i:Int):=h2
  have e2:gt ((pc:Int)::((i+k:Nat):Int)::R) (2+(2*(1:Int)+1).toNat)=((i+k:Nat):Int):=h3
  have e3:gt ((pc:Int)::((i+k:Nat):Int)::R) 1=((i+k:Nat):Int):=rfl
  have e4:gt ((pc:Int)::((i+k:Nat):Int)::R) 0=(pc:Int):=rfl
  rw [e1,e2,e3,e4,if_neg (by omega),if_neg (by omega)]
  simp only [Int.toNat_natCast]
  rw [show i+k+(i+k)-i=i+k+k by omega,hs.2,show ((i+k:Nat):Int)+((i+k:Nat):Int)-(i:Int)=((i+2*k:Nat):Int) by push_cast;omega]
  rfl
 exact within_one (by rw [hi];simp) (by rw [hi];simp) (by rw [hi];simp) (by rw [hi];simp) (by rw [e]) (by rw [e];exact g)
theorem w_noback {i k:Nat} (hc:E.c.getD pc ins0=⟨8,1,0,[]⟩) (h2:R.getD 2 0=(i:Int)) (h3:R.getD 3 0=((i+k:Nat):Int)) (hs:squareAt E.t k i=false):Within E 1 ((pc:Int)::((i+k:Nat):Int)::R) none:=by
 have hi:=ins_at E pc (((i+k:Nat):Int)::R)
 rw [hc] at hi
 unfold squareAt at hs
 have e:(oneP E.t ((pc:Int)::((i+k:Nat):Int)::R) (E.ins ((pc:Int)::((i+k:Nat):Int)::R))).2=false:=by
  rw [hi]
  show (backP E.t _ 1).2=_
  unfold backP
  have e1:gt ((pc:Int)::((i+k:Nat):Int)::R) (2+(2*(1:Int)).toNat)=(i:Int):=h2
  have e2:gt ((pc:Int)::((i+k:Nat):Int)::R) (2+(2*(1:Int)+1).toNat)=((i+k:Nat):Int):=h3
  have e3:gt ((pc:Int)::((i+k:Nat):Int)::R) 1=((i+k:Nat):Int):=rfl
  rw [e1,e2,e3,if_neg (by omega)]
  by_cases h:i+2*k≤E.t.size
  ·rw [if_neg (by omega)]
   simp only [Int.toNat_natCast]
   rw [show i+k+(i+k)-i=i+k+k by omega]
   have:decide (i+2*k≤E.t.size)=true:=by simpa using h
   rw [this,Bool.true_and] at hs
   exact hs
  ·rw [if_pos (by omega)]
 exact within_not (by rw [hi];simp) (by rw [hi];simp) (by rw [hi];simp) (by rw [hi];simp) e
theorem square_here {k:Nat} (hc:E.c=squareC k):E.c.getD 0 ins0=⟨6,((1:Nat):Int),0,[]⟩∧Here E.c 1 ((timesA (.one dotS) k).code ((1:Nat):Int) 0)∧E.c.getD (1+k) ins0=⟨7,((1:Nat):Int),0,[]⟩∧E.c.getD (k+2) ins0=⟨8,1,0,[]⟩∧E.c.getD (k+3) ins0=⟨13,0,0,[]⟩:=by
 have h:=here_self ((squareRe k).code 0 0) [⟨13,0,0,[]⟩]
 have h13:=here_last ((squareRe k).code 0 0) ⟨13,0,0,[]⟩
 rw [Re.code_len,squareRe_len] at h13
 change Here (squareC k) 0 ((squareRe k).code ((0:Nat):Int) 0) at h
 change (squareC k).getD _ ins0=_ at h13
 rw [← hc] at h h13
 obtain ⟨a,b⟩:=here_cat h
 have el:(Re.cap 1 (.cat (timesA (.one dotS) k) .eps)).len=k+2:=by simp [Re.len,timesA_len]
 rw [el] at b
 have b1:=(here_cat b).1.1
 rw [Re.code] at a
 obtain ⟨a1,a2⟩:=a
 obtain ⟨a3,a4⟩:=here_app a2
 have el2:(Re.cat (timesA (.one dotS) k) .eps).len=k:=by simp [Re.len,timesA_len]
 rw [Re.code_len,el2] at a4
 have a5:=(here_cat (p:=0+1) (d:=0) (by exact a3)).1
 rw [Nat.zero_add] at b1 a4 a5
 exact ⟨a1,a5,a4.1,b1,h13⟩
def backR (R:List Int) (i k:Nat):List Int:=capR R 1 i k
theorem square_run {k q:Nat} (hc:E.c=squareC k) (hk:k≤20) (hq:q≤E.t.size) (hR:31≤R.length):(squareAt E.t k q=false→Within E 24 (0::(q:Int)::R) none)
  ∧ (squareAt E.t k q=true→Within E 24 (0::(q:Int)::R) (some (((k+3:Nat):Int)::((q+2*k:Nat):Int)::capR R 1 q k))):=by
 obtain ⟨c0,c1,c2,c3,c4⟩:=square_here hc
 have g2:(capR R 1 q k).getD 2 0=(q:Int):=by
  unfold capR
  rw [List.getD_eq_getElem?_getD,List.getElem?_set_ne (by omega),List.getElem?_set_self (by simp;omega),List.getD_eq_getElem?_getD,List.getElem?_set_self (by omega)];rfl
 have g3:(capR R 1 q k).getD 3 0=((q+k:Nat):Int):=by
  unfold capR
  rw [List.getD_eq_getElem?_getD,List.getElem?_set_self (by simp;omega)];rfl
 have head:∀ {r:Option Sta} {K:Nat},q+k≤E.t.size→Within E K (((k+2:Nat):Int)::((q+k:Nat):Int)::capR R 1 q k) r→Within E (K+k+2) (0::(q:Int)::R) r:=fun {r K} hle g=>by
  have a:=w_end (pc:=1+k) (pos:=q+k) (R:=R.set (20+1) (q:Int)) c2 (by rw [show 1+k+1=k+2 by omega];exact g)
  have b:=dots_yes k 1 q 0 c1 hle a
  exact (w_begin (pc:=0) c0 b).mono (by omega)
 refine ⟨fun hs=>?_,fun hs=>?_⟩
 ·by_cases hle:q+k≤E.t.size
  ·exact (head hle (w_noback c3 g2 g3 hs)).mono (by omega)
  ·exact (w_begin (pc:=0) c0 (dots_no k 1 q 0 c1 (by omega) hq)).mono (by omega)
 ·have hle:q+2*k≤E.t.size:=by
   unfold squareAt at hs
   rw [Bool.and_eq_true,decide_eq_true_eq] at hs
   exact hs.1
  exact (head (by omega) (w_back c3 g2 g3 hs (w_stop c4 (.inl rfl)))).mono (by omega)
theorem square_hit {k:Nat} {t:ByteArray} {P M Q:Int} (hk:k≤20) (hT:t.size≤60) (ho:Opt P M Q 10000) (a:Nat) (ha:a≤t.size) (hq:∀ q,q<a→squareAt t k q=false) (hh:squareAt t k a=true) :
  (findR (bp (squareL k)) t 0 P M Q 10000).2=0∧Inside t.size 0 (findR (bp (squareL k)) t 0 P M Q 10000).1∧(findR (bp (squareL k)) t 0 P M Q 10000).1.ok=true∧(findR (bp (squareL k)) t 0 P M Q 10000).1.at'=(a:Int)::((a+2*k:Nat):Int)::(a:Int)::((a+k:Nat):Int)::List.replicate 16 (-1):=by
 have:=find_hit (K:=24) (H:=24) (square_code k hk) hT ho a ha (fun q h=>(square_run (E:=envOf (squareC k) t 0 0) (R:=free) rfl hk (show q≤t.size by omega) (by decide)).1 (hq q h)) ((square_run (E:=envOf (squareC k) t 0 0) (R:=free) rfl hk ha (by decide)).2 hh) (by omega)
 exact this
theorem square_miss {k:Nat} {t:ByteArray} {P M Q:Int} (hk:k≤20) (hT:t.size≤60) (ho:Opt P M Q 10000) (hq:∀ q,q≤t.size→squareAt t k q=false) :
  (findR (bp (squareL k)) t 0 P M Q 10000).2=0∧Inside t.size 0 (findR (bp (squareL k)) t 0 P M Q 10000).1∧(findR (bp (squareL k)) t 0 P M Q 10000).1.ok=false∧(findR (bp (squareL k)) t 0 P M Q 10000).1.at'=nowhere :=
 find_miss (K:=24) (square_code k hk) hT ho (fun q h=>(square_run (E:=envOf (squareC k) t 0 0) (R:=free) rfl hk h (by decide)).1 (hq q h)) (by omega)
end Mt
