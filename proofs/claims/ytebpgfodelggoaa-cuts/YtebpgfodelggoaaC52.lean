import Derived.Test.YtebpgfodelggoaaC21
set_option linter.unusedVariables false
set_option linter.unusedSimpArgs false
namespace Mt
variable {E:Env} {r:Option Sta} {R:List Int} {K L:Nat} {pc pos:Nat}
theorem search_hit2 {K H:Nat} {b:Int} {u:Sta}:∀ (j p f n:Nat),j<f→(∀ q,p≤q→q<p+j→Within E K (startSt (q:Nat)) none)→Within E H (startSt ((p+j:Nat):Int)) (some u)→j*K+H≤n →
  ∃ t,search E b f p n [] 0=(⟨true,foundAt ((p+j:Nat):Int) u,t⟩,false)
 | 0,p,f+1,n,_,_,h,hn=>by
  obtain ⟨k,hk,v,hv,g⟩:=h
  obtain ⟨m,rfl⟩:∃ m,n=m+k:=⟨n-k,by omega⟩
  rw [Nat.add_zero] at g ⊢
  rw [search,g]
  rw [hv u rfl]
  exact ⟨_,rfl⟩
 | j+1,p,f+1,n,hj,hq,h,hn=>by
  obtain ⟨k,hk,v,hv,g⟩:=hq p (Nat.le_refl _) (by omega)
  have e:(j+1)*K=j*K+K:=by rw [Nat.add_mul j 1 K];omega
  obtain ⟨m,rfl⟩:∃ m,n=m+k:=⟨n-k,by omega⟩
  rw [search,g]
  obtain ⟨t,ht⟩:=search_hit2 (b:=b) j (p+1) f m (by omega) (fun q h1 h2=>hq q (by omega) (by omega)) (by rw [show p+1+j=p+(j+1) by omega];exact h) (by omega)
  refine ⟨t,?_⟩
  dsimp only
  rw [if_neg (by simp),if_neg (by simp),ht,show p+1+j=p+(j+1) by omega]
theorem find_hit {p t:ByteArray} {P M Q:Int} {c:List Ins} {K H:Nat} (hp:codeR p=(c,0)) (hT:t.size≤60) (ho:Opt P M Q 10000) (a:Nat) (ha:a≤t.size) (hq:∀ q,q<a→Within (envOf c t 0 0) K (0::(q:Int)::free) none) {x:Int} {e:Nat} {R':List Int} (hh:Within (envOf c t 0 0) H (0::(a:Int)::free) (some (x::(e:Int)::R'))) (hB:60*K+H≤10000) :
  (findR p t 0 P M Q 10000).2=0∧Inside t.size 0 (findR p t 0 P M Q 10000).1∧(findR p t 0 P M Q 10000).1.ok=true∧(findR p t 0 P M Q 10000).1.at'=(a:Int)::(e:Int)::(R'.drop 2).take 18:=by
 refine find_by hp hT ho ?_
 have hm:a*K≤60*K:=Nat.mul_le_mul_right _ (by omega)
 obtain ⟨s,hs⟩:=search_hit2 (E:=envOf c t 0 0) (K:=K) (H:=H) (b:=10000) a 0 (t.size+1) 10000 (by omega) (fun q _ h=>hq q (by omega)) (by rw [Nat.zero_add];exact hh) (by omega)
 refine ⟨s,?_⟩
 rw [hs,Nat.zero_add];rfl
theorem find_miss {p t:ByteArray} {P M Q:Int} {c:List Ins} {K:Nat} (hp:codeR p=(c,0)) (hT:t.size≤60) (ho:Opt P M Q 10000) (hq:∀ q,q≤t.size→Within (envOf c t 0 0) K (0::(q:Int)::free) none) (hB:61*K≤10000) :
  (findR p t 0 P M Q 10000).2=0∧Inside t.size 0 (findR p t 0 P M Q 10000).1∧(findR p t 0 P M Q 10000).1.ok=false∧(findR p t 0 P M Q 10000).1.at'=nowhere:=by
 refine find_by hp hT ho ?_
 have hm:(t.size+1)*K≤61*K:=Nat.mul_le_mul_right _ (by omega)
 exact search_miss (K:=K) (t.size+1) 0 10000 (fun q _ h=>hq q (by omega)) (by omega)
theorem here_sub {c:List Ins} {s:Int} {a:Re} {p:Nat} {d:Int} (h:Here c p ((Re.sub s a).code p d)):c.getD p ins0=⟨11,s,((p+a.len+2:Nat):Int),[]⟩∧Here c (p+1) (a.code ((p+1:Nat):Int) d)∧c.getD (p+1+a.len) ins0=⟨12,0,0,[]⟩:=by
 rw [Re.code] at h
 obtain ⟨h1,h2⟩:=h
 obtain ⟨h3,h4⟩:=here_app h2
 rw [Re.code_len] at h4
 exact ⟨by rw [h1];simp,by simpa using h3,h4.1⟩
theorem w_keep {q:Nat} {x pos':Int} {R':List Int} (hc:E.c.getD pc ins0=⟨11,0,(q:Int),[]⟩) (g1:Within E K (((pc+1:Nat):Int)::(pos:Int)::R) (some (x::pos'::R'))) (g2:Within E L ((q:Int)::pos'::R') r):Within E (K+L+1) ((pc:Int)::(pos:Int)::R) r:=by
 have hi:=ins_at E pc ((pos:Int)::R)
 rw [hc] at hi
 refine within_apart (z:=(q:Int)::pos'::R') (by rw [hi]) g1 (fun u hu=>?_) g2
 rw [hu _ rfl,hi];rfl
theorem w_nokeep {q:Nat} {s:Int} (hs:s=0∨s=1) (hc:E.c.getD pc ins0=⟨11,s,(q:Int),[]⟩) (g1:Within E K (((pc+1:Nat):Int)::(pos:Int)::R) none):Within E (K+1) ((pc:Int)::(pos:Int)::R) none:=by
 have hi:=ins_at E pc ((pos:Int)::R)
 rw [hc] at hi
 refine within_bar (by rw [hi]) g1 (fun u hu=>?_)
 rw [hi]
 rcases hs with rfl | rfl <;> rfl
theorem w_see {q:Nat} {x pos':Int} (hc:E.c.getD pc ins0=⟨11,1,(q:Int),[]⟩) (g1:Within E K (((pc+1:Nat):Int)::(pos:Int)::R) (some (x::pos'::R))) (g2:Within E L ((q:Int)::(pos:Int)::R) r):Within E (K+L+1) ((pc:Int)::(pos:Int)::R) r:=by
 have hi:=ins_at E pc ((pos:Int)::R)
 rw [hc] at hi
 refine within_apart (z:=(q:Int)::(pos:Int)::R) (by rw [hi]) g1 (fun u hu=>?_) g2
 rw [hu _ rfl,hi]
 show (((pc:Int)::(pos:Int)::(R.take 20++R.drop 20)).set 0 (q:Int),true)=_
 rw [List.take_append_drop];rfl
theorem w_never {q:Nat} (hc:E.c.getD pc ins0=⟨11,2,(q:Int),[]⟩) (g1:Within E K (((pc+1:Nat):Int)::(pos:Int)::R) none) (g2:Within E L ((q:Int)::(pos:Int)::R) r):Within E (K+L+1) ((pc:Int)::(pos:Int)::R) r:=by
 have hi:=ins_at E pc ((pos:Int)::R)
 rw [hc] at hi
 refine within_apart (z:=(q:Int)::(pos:Int)::R) (by rw [hi]) g1 (fun u hu=>?_) g2
 rw [hi];rfl
theorem w_nonever {q:Nat} {v:Sta} (hc:E.c.getD pc ins0=⟨11,2,(q:Int),[]⟩) (g1:Within E K (((pc+1:Nat):Int)::(pos:Int)::R) (some v)):Within E (K+1) ((pc:Int)::(pos:Int)::R) none:=by
 have hi:=ins_at E pc ((pos:Int)::R)
 rw [hc] at hi
 refine within_bar (by rw [hi]) g1 (fun u hu=>?_)
 rw [hi];rfl
theorem here_last (a:List Ins) (x:Ins):(a++[x]).getD a.length ins0=x:=by
 rw [List.getD_eq_getElem?_getD,List.getElem?_append_right (Nat.le_refl _)];simp
def cutRe (u v w:List UInt8):Re:=.cat (.sub 0 (.alt (wordRe u) (wordRe v))) (wordRe w)
theorem cutRe_len (u v w:List UInt8):(cutRe u v w).len=u.length+v.length+w.length+4:=by simp [cutRe,Re.len,wordRe_len];omega
def cutC (u v w:List UInt8):List Ins:=(cutRe u v w).code 0 0++[⟨13,0,0,[]⟩]
def cutAt (t:ByteArray) (u v w:List UInt8) (i:Nat):Option Nat :=
 if standsB t i u then (if standsB t (i+u.length) w then some (u.length+w.length) else none)
 else if standsB t i v then (if standsB t (i+v.length) w then some (v.length+w.length) else none) else none
def seeRe (s:Int) (u v:List UInt8):Re:=.cat (.sub s (wordRe u)) (wordRe v)
theorem seeRe_len (s:Int) (u v:List UInt8):(seeRe s u v).len=u.length+v.length+2:=by simp [seeRe,Re.len,wordRe_len];omega
def seeC (s:Int) (u v:List UInt8):List Ins:=(seeRe s u v).code 0 0++[⟨13,0,0,[]⟩]
def seeAt (t:ByteArray) (u v:List UInt8) (yes:Bool) (i:Nat):Option Nat :=
 if standsB t i u=yes then (if standsB t i v then some v.length else none) else none
section
variable {u v w:List UInt8}
theorem cut_here (hc:E.c=cutC u v w):E.c.getD 0 ins0=⟨11,0,((u.length+v.length+4:Nat):Int),[]⟩
  ∧ E.c.getD 1 ins0=⟨2,((2:Nat):Int),((u.length+3:Nat):Int),[]⟩∧Here E.c 2 (u.map fun c=>(⟨1,0,0,[c]⟩:Ins))∧E.c.getD (u.length+2) ins0=⟨3,((u.length+v.length+3:Nat):Int),0,[]⟩∧Here E.c (u.length+3) (v.map fun c=>(⟨1,0,0,[c]⟩:Ins))
  ∧ E.c.getD (u.length+v.length+3) ins0=⟨12,0,0,[]⟩∧Here E.c (u.length+v.length+4) (w.map fun c=>(⟨1,0,0,[c]⟩:Ins))∧E.c.getD (u.length+v.length+w.length+4) ins0=⟨13,0,0,[]⟩:=by
 have h:=here_self ((cutRe u v w).code 0 0) [⟨13,0,0,[]⟩]
 have h13:=here_last ((cutRe u v w).code 0 0) ⟨13,0,0,[]⟩
 rw [Re.code_len,cutRe_len] at h13
 change Here (cutC u v w) 0 ((cutRe u v w).code ((0:Nat):Int) 0) at h
 change (cutC u v w).getD _ ins0=_ at h13
 rw [← hc] at h h13
 obtain ⟨a,b⟩:=here_cat h
 obtain ⟨a1,a2,a3⟩:=here_sub a
 obtain ⟨b1,b2,b3,b4⟩:=here_alt a2
 have el:(Re.alt (wordRe u) (wordRe v)).len=u.length+v.length+2:=by simp [Re.len,wordRe_len]
 have es:(Re.sub 0 (Re.alt (wordRe u) (wordRe v))).len=u.length+v.length+4:=by rw [Re.len,el]
 rw [el] at a1 a3
 rw [wordRe_code] at b2 b4 b
 rw [es] at b
 simp only [wordRe_len] at b1 b3 b4
 refine ⟨?_,?_,b2,?_,?_,?_,?_,h13⟩
 ·rw [a1];simp only [Nat.zero_add]
 ·rw [b1,show 0+1+u.length+2=u.length+3 by omega]
 ·rw [show u.length+2=0+1+1+u.length by omega,b3,show 0+1+u.length+2+v.length=u.length+v.length+3 by omega]
 ·rw [show u.length+3=0+1+u.length+2 by omega];exact b4
 ·rw [show u.length+v.length+3=0+1+(u.length+v.length+2) by omega];exact a3
 ·rw [show u.length+v.length+4=0+(u.length+v.length+4) by omega];exact b
theorem cut_1 (hc:E.c=cutC u v w) (h1:standsB E.t pos u=true):Within E (u.length+3) (((1:Nat):Int)::(pos:Int)::R) (some (((u.length+v.length+3:Nat):Int)::((pos+u.length:Nat):Int)::R)):=by
 obtain ⟨c0,c1,c2,c3,c4,c5,c6,c7⟩:=cut_here hc
 have g:=w_stop (pos:=pos+u.length) (R:=R) c5 (.inr rfl)
 have g:=w_jump c3 g
 have g:=w_word u 2 pos c2 h1 (by rw [show 2+u.length=u.length+2 by omega];exact g)
 exact (w_left c1 g).mono (by omega)
theorem cut_2 (hc:E.c=cutC u v w) (h1:standsB E.t pos u=false) (h2:standsB E.t pos v=true):Within E (u.length+v.length+2) (((1:Nat):Int)::(pos:Int)::R) (some (((u.length+v.length+3:Nat):Int)::((pos+v.length:Nat):Int)::R)):=by
 obtain ⟨c0,c1,c2,c3,c4,c5,c6,c7⟩:=cut_here hc
 have g:=w_stop (pos:=pos+v.length) (R:=R) c5 (.inr rfl)
 have g:=w_word v (u.length+3) pos c4 h2 (by rw [show u.length+3+v.length=u.length+v.length+3 by omega];exact g)
 exact (w_right c1 (w_noword u 2 pos c2 h1) g).mono (by omega)
theorem cut_3 (hc:E.c=cutC u v w) (h1:standsB E.t pos u=false) (h2:standsB E.t pos v=false):Within E (u.length+v.length+1) (((1:Nat):Int)::(pos:Int)::R) none:=by
 obtain ⟨c0,c1,c2,c3,c4,c5,c6,c7⟩:=cut_here hc
 exact w_right c1 (w_noword u 2 pos c2 h1) (w_noword v (u.length+3) pos c4 h2)
theorem cut_w (hc:E.c=cutC u v w) (h:standsB E.t pos w=true):Within E (w.length+1) (((u.length+v.length+4:Nat):Int)::(pos:Int)::R) (some (((u.length+v.length+w.length+4:Nat):Int)::((pos+w.length:Nat):Int)::R)):=by
 obtain ⟨c0,c1,c2,c3,c4,c5,c6,c7⟩:=cut_here hc
 have g:=w_stop (pos:=pos+w.length) (R:=R) c7 (.inl rfl)
 exact (w_word w (u.length+v.length+4) pos c6 h (by rw [show u.length+v.length+4+w.length=u.length+v.length+w.length+4 by omega];exact g)).mono (by omega)
theorem cut_now (hc:E.c=cutC u v w) (h:standsB E.t pos w=false):Within E w.length (((u.length+v.length+4:Nat):Int)::(pos:Int)::R) none:=by
 obtain ⟨c0,c1,c2,c3,c4,c5,c6,c7⟩:=cut_here hc
 exact w_noword w (u.length+v.length+4) pos c6 h
theorem cut_run (hc:E.c=cutC u v w):(cutAt E.t u v w pos=none→Within E (u.length+v.length+w.length+5) (0::(pos:Int)::R) none)
  ∧ ∀ n,cutAt E.t u v w pos=some n→Within E (u.length+v.length+w.length+5) (0::(pos:Int)::R) (some (((u.length+v.length+w.length+4:Nat):Int)::((pos+n:Nat):Int)::R)):=by
 have c0:=(cut_here hc).1
 unfold cutAt
 cases h1:standsB E.t pos u
 ·cases h2:standsB E.t pos v
  ·refine ⟨fun _=>?_,fun n hn=>by simp at hn⟩
   exact (w_nokeep (pc:=0) (.inl rfl) c0 (cut_3 hc h1 h2)).mono (by omega)
  ·cases h3:standsB E.t (pos+v.length) w
   ·refine ⟨fun _=>?_,fun n hn=>by simp at hn⟩
    exact (w_keep (pc:=0) c0 (cut_2 hc h1 h2) (cut_now hc h3)).mono (by omega)
   ·refine ⟨fun hn=>by simp at hn,fun n hn=>?_⟩
    have:v.length+w.length=n:=by simpa using hn
    subst this
    have:=(w_keep (pc:=0) c0 (cut_2 (R:=R) hc h1 h2) (cut_w hc h3)).mono (show _≤u.length+v.length+w.length+5 by omega)
    rw [show pos+(v.length+w.length)=pos+v.length+w.length by omega];exact this
 ·cases h3:standsB E.t (pos+u.length) w
  ·refine ⟨fun _=>?_,fun n hn=>by simp at hn⟩
   exact (w_keep (pc:=0) c0 (cut_1 hc h1) (cut_now hc h3)).mono (by omega)
  ·refine ⟨fun hn=>by simp at hn,fun n hn=>?_⟩
   have:u.length+w.length=n:=by simpa using hn
   subst this
   have:=(w_keep (pc:=0) c0 (cut_1 (R:=R) hc h1) (cut_w hc h3)).mono (show _≤u.length+v.length+w.length+5 by omega)
   rw [show pos+(u.length+w.length)=pos+u.length+w.length by omega];exact this
theorem see_here {s:Int} (hc:E.c=seeC s u v):E.c.getD 0 ins0=⟨11,s,((u.length+2:Nat):Int),[]⟩∧Here E.c 1 (u.map fun c=>(⟨1,0,0,[c]⟩:Ins))∧E.c.getD (u.length+1) ins0=⟨12,0,0,[]⟩∧Here E.c (u.length+2) (v.map fun c=>(⟨1,0,0,[c]⟩:Ins))∧E.c.getD (u.length+v.length+2) ins0=⟨13,0,0,[]⟩:=by
 have h:=here_self ((seeRe s u v).code 0 0) [⟨13,0,0,[]⟩]
 have h13:=here_last ((seeRe s u v).code 0 0) ⟨13,0,0,[]⟩
 rw [Re.code_len,seeRe_len] at h13
 change Here (seeC s u v) 0 ((seeRe s u v).code ((0:Nat):Int) 0) at h
 change (seeC s u v).getD _ ins0=_ at h13
 rw [← hc] at h h13
 obtain ⟨a,b⟩:=here_cat h
 obtain ⟨a1,a2,a3⟩:=here_sub a
 have es:(Re.sub s (wordRe u)).len=u.length+2:=by rw [Re.len,wordRe_len]
 rw [wordRe_len] at a1 a3
 rw [wordRe_code] at a2 b
 rw [es] at b
 refine ⟨?_,a2,?_,?_,h13⟩
 ·rw [a1];simp only [Nat.zero_add]
 ·rw [show u.length+1=0+1+u.length by omega];exact a3
 ·rw [show u.length+2=0+(u.length+2) by omega];exact b
theorem see_run {s:Int} {yes:Bool} (hs:(s=1∧yes=true)∨(s=2∧yes=false)) (hc:E.c=seeC s u v):(seeAt E.t u v yes pos=none→Within E (u.length+v.length+4) (0::(pos:Int)::R) none)
  ∧ ∀ n,seeAt E.t u v yes pos=some n→Within E (u.length+v.length+4) (0::(pos:Int)::R) (some (((u.length+v.length+2:Nat):Int)::((pos+n:Nat):Int)::R)):=by
 obtain ⟨c0,c1,c2,c3,c4⟩:=see_here hc
 have y1:standsB E.t pos u=true→Within E (u.length+1) (((1:Nat):Int)::(pos:Int)::R) (some (((u.length+1:Nat):Int)::((pos+u.length:Nat):Int)::R)):=fun h1=>by
  have g:=w_stop (pos:=pos+u.length) (R:=R) c2 (.inr rfl)
  exact (w_word u 1 pos c1 h1 (by rw [show 1+u.length=u.length+1 by omega];exact g)).mono (by omega)
 have y0:standsB E.t pos u=false→Within E u.length (((1:Nat):Int)::(pos:Int)::R) none:=fun h1=>w_noword u 1 pos c1 h1
 have z1:standsB E.t pos v=true→Within E (v.length+1) (((u.length+2:Nat):Int)::(pos:Int)::R) (some (((u.length+v.length+2:Nat):Int)::((pos+v.length:Nat):Int)::R)):=fun h1=>by
  have g:=w_stop (pos:=pos+v.length) (R:=R) c4 (.inl rfl)
  exact (w_word v (u.length+2) pos c3 h1 (by rw [show u.length+2+v.length=u.length+v.length+2 by omega];exact g)).mono (by omega)
 have z0:standsB E.t pos v=false→Within E v.length (((u.length+2:Nat):Int)::(pos:Int)::R) none:=fun h1=>w_noword v (u.length+2) pos c3 h1
 unfold seeAt
 rcases hs with ⟨rfl,rfl⟩ | ⟨rfl,rfl⟩
 ·cases h1:standsB E.t pos u
  ·exact ⟨fun _=>(w_nokeep (pc:=0) (.inr rfl) c0 (y0 h1)).mono (by omega),fun n hn=>by simp at hn⟩
  ·cases h2:standsB E.t pos v
   ·exact ⟨fun _=>(w_see (pc:=0) c0 (y1 h1) (z0 h2)).mono (by omega),fun n hn=>by simp at hn⟩
   ·refine ⟨fun hn=>by simp at hn,fun n hn=>?_⟩
    have:v.length=n:=by simpa using hn
    subst this
    exact (w_see (pc:=0) c0 (y1 h1) (z1 h2)).mono (by omega)
 ·cases h1:standsB E.t pos u
  ·cases h2:standsB E.t pos v
   ·exact ⟨fun _=>(w_never (pc:=0) c0 (y0 h1) (z0 h2)).mono (by omega),fun n hn=>by simp at hn⟩
   ·refine ⟨fun hn=>by simp at hn,fun n hn=>?_⟩
    have:v.length=n:=by simpa using hn
    subst this
    exact (w_never (pc:=0) c0 (y0 h1) (z1 h2)).mono (by omega)
  ·exact ⟨fun _=>(w_nonever (pc:=0) c0 (y1 h1)).mono (by omega),fun n hn=>by simp at hn⟩
end
end Mt
namespace Mt
def cutL (u v w:List UInt8):List UInt8:=40::63::62::(quoteL u++124::(quoteL v++41::quoteL w))
theorem cutL_len (u v w:List UInt8):(cutL u v w).length=(quoteL u).length+(quoteL v).length+(quoteL w).length+5:=by simp [cutL];omega
def seeL (c:UInt8) (u v:List UInt8):List UInt8:=40::63::c::(quoteL u++41::quoteL v)
theorem seeL_len (c:UInt8) (u v:List UInt8):(seeL c u v).length=(quoteL u).length+(quoteL v).length+4:=by simp [seeL];omega
theorem holds_one {p:ByteArray} {i:Int} {x:UInt8} {r:List UInt8} (h:Holds p i (x::r)):Holds p i [x]:=(holds_app [x] r i h).1
theorem cut_code (u v w:List UInt8) (hu:u.length≤8) (hv:v.length≤8) (hw:w.length≤8):codeR (bp (cutL u v w))=(cutC u v w,0):=by
 have lu:=quoteL_len u
 have lv:=quoteL_len v
 have lw:=quoteL_len w
 have hs:=holds_self (cutL u v w)
 have hsz:(bp (cutL u v w)).size=(quoteL u).length+(quoteL v).length+(quoteL w).length+5:=by rw [bp_size,cutL_len]
 obtain ⟨p,hp⟩:∃ p,p=bp (cutL u v w):=⟨_,rfl⟩
 rw [← hp] at hs hsz ⊢
 have hs1:Holds p 0 ([40,63,62]++(quoteL u++124::(quoteL v++41::quoteL w))):=hs
 obtain ⟨a1,a2⟩:=holds_app _ _ _ hs1
 have e3:(0:Int)+(([40,63,62]:List UInt8).length:Int)=3:=rfl
 rw [e3] at a2
 obtain ⟨b1,b2⟩:=holds_app _ _ _ a2
 obtain ⟨c1,c2⟩:=holds_app _ _ _ b2.2.2.2
 have d:=c2.2.2.2
 have r1:Reads p [] 0 [⟨6,0,3,0,0,0,[]⟩] 3:=reads_group a1 (.inr (.inl ⟨rfl,rfl⟩)) (by simp [opened])
 have rr:=r1.app ((reads_word u _ 3 b1).app ((reads_bar (holds_one b2)).app ((reads_word v _ _ c1).app ((reads_close (holds_one c2) (by simp only [opened_append,qToks_opened,opened,delta];simp)).app (reads_word w _ _ d)))))
 have hT:codeR p=codeOf (Fs.grp ⟨6,0,3,0,0,0,[]⟩ (qFs u 3 (.bar ⟨5,3+(quoteL u).length,3+(quoteL u).length+1,0,0,0,[]⟩ (qFs v (3+(quoteL u).length+1) .nil))) ⟨7,3+(quoteL u).length+1+(quoteL v).length,3+(quoteL u).length+1+(quoteL v).length+1,0,0,0,[]⟩ none (qFs w (3+(quoteL u).length+1+(quoteL v).length+1) .nil)).re:=by
  refine code_reads p _ (by rw [hsz];omega) ⟨rfl,rfl,qFs_wf _ _ _ ⟨rfl,qFs_wf _ _ _ trivial⟩,fun q h=>by simp at h,qFs_wf _ _ _ trivial⟩ ?_ ?_ ?_
  ·rw [hsz]
   rw [show (((quoteL u).length+(quoteL v).length+(quoteL w).length+5:Nat):Int)=3+(quoteL u).length+1+(quoteL v).length+1+(quoteL w).length by push_cast;omega]
   simpa only [Fs.flat,qFs_flat,Option.toList,List.append_nil,List.append_assoc,List.nil_append,List.cons_append] using rr
  ·simp only [Fs.flat,qFs_flat,Option.toList,List.append_nil,List.nil_append,opened_append,qToks_opened,opened,delta];simp
  ·simp only [Fs.flat,qFs_flat,Option.toList,List.length_append,qToks_len,List.length_cons,List.length_nil];omega
 rw [hT]
 have e:(Fs.grp ⟨6,0,3,0,0,0,[]⟩ (qFs u 3 (.bar ⟨5,3+(quoteL u).length,3+(quoteL u).length+1,0,0,0,[]⟩ (qFs v (3+(quoteL u).length+1) .nil))) ⟨7,3+(quoteL u).length+1+(quoteL v).length,3+(quoteL u).length+1+(quoteL v).length+1,0,0,0,[]⟩ none (qFs w (3+(quoteL u).length+1+(quoteL v).length+1) .nil)).re=cutRe u v w:=by
  simp only [Fs.re,Fs.both,qFs_both,joinRe,part,grpRe,wordBe_eps,cutRe];simp
 rw [e]
 unfold codeOf cutC
 rw [cutRe_len,if_neg (by omega)]
theorem see_code (u v:List UInt8) (c:UInt8) (s:Int) (hs:(c=61∧s=1)∨(c=33∧s=2)) (hu:u.length≤8) (hv:v.length≤8):codeR (bp (seeL c u v))=(seeC s u v,0):=by
 have lu:=quoteL_len u
 have lv:=quoteL_len v
 have hh:=holds_self (seeL c u v)
 have hsz:(bp (seeL c u v)).size=(quoteL u).length+(quoteL v).length+4:=by rw [bp_size,seeL_len]
 obtain ⟨p,hp⟩:∃ p,p=bp (seeL c u v):=⟨_,rfl⟩
 rw [← hp] at hh hsz ⊢
 have hs1:Holds p 0 ([40,63,c]++(quoteL u++41::quoteL v)):=hh
 obtain ⟨a1,a2⟩:=holds_app _ _ _ hs1
 have e3:(0:Int)+(([40,63,c]:List UInt8).length:Int)=3:=rfl
 rw [e3] at a2
 obtain ⟨c1,c2⟩:=holds_app _ _ _ a2
 have d:=c2.2.2.2
 have r1:Reads p [] 0 [⟨6,0,3,0,0,s,[]⟩] 3:=reads_group a1 (.inr (.inr hs)) (by simp [opened])
 have rr:=r1.app ((reads_word u _ _ c1).app ((reads_close (holds_one c2) (by simp only [opened_append,qToks_opened,opened,delta];simp)).app (reads_word v _ _ d)))
 have hT:codeR p=codeOf (Fs.grp ⟨6,0,3,0,0,s,[]⟩ (qFs u 3 .nil) ⟨7,3+(quoteL u).length,3+(quoteL u).length+1,0,0,0,[]⟩ none (qFs v (3+(quoteL u).length+1) .nil)).re:=by
  refine code_reads p _ (by rw [hsz];omega) ⟨rfl,rfl,qFs_wf _ _ _ trivial,fun q h=>by simp at h,qFs_wf _ _ _ trivial⟩ ?_ ?_ ?_
  ·rw [hsz]
   rw [show (((quoteL u).length+(quoteL v).length+4:Nat):Int)=3+(quoteL u).length+1+(quoteL v).length by push_cast;omega]
   simpa only [Fs.flat,qFs_flat,Option.toList,List.append_nil,List.append_assoc,List.nil_append,List.cons_append] using rr
  ·simp only [Fs.flat,qFs_flat,Option.toList,List.append_nil,List.nil_append,opened_append,qToks_opened,opened,delta];simp
  ·simp only [Fs.flat,qFs_flat,Option.toList,List.length_append,qToks_len,List.length_cons,List.length_nil];omega
 rw [hT]
 have e:(Fs.grp ⟨6,0,3,0,0,s,[]⟩ (qFs u 3 .nil) ⟨7,3+(quoteL u).length,3+(quoteL u).length+1,0,0,0,[]⟩ none (qFs v (3+(quoteL u).length+1) .nil)).re=seeRe s u v:=by
  have h3:s≠3∧s≠4:=by omega
  simp only [Fs.re,Fs.both,qFs_both,joinRe,part,grpRe,wordBe_eps,seeRe]
  rw [if_neg h3.1,if_neg h3.2]
 rw [e]
 unfold codeOf seeC
 rw [seeRe_len,if_neg (by omega)]
structure FirstIs (t:ByteArray) (f:Nat→Option Nat) (G:Fnd × Int):Prop where
 err:G.2=0
 len:G.1.at'.length=20
 s1:1≤G.1.steps
 s2:G.1.steps≤10000
 hit:∀ i,i≤t.size→(∀ q,q<i→f q=none)→∀ n,f i=some n→G.1.ok=true∧G.1.at'=(i:Int)::((i+n:Nat):Int)::List.replicate 18 (-1)
 miss:(∀ q,q≤t.size→f q=none)→G.1.ok=false∧G.1.at'=nowhere
theorem least_some (f:Nat→Option Nat):∀ n:Nat,(∀ q,q<n→f q=none)∨∃ a m,a<n∧(∀ q,q<a→f q=none)∧f a=some m
 | 0=>.inl fun q h=>by omega
 | n+1=>by
  rcases least_some f n with h | ⟨a,m,h1,h2,h3⟩
  ·cases hn:f n with
   | none =>
    refine .inl fun q hq=>?_
    by_cases e:q<n
    ·exact h q e
    ·have:q=n:=by omega
     subst this;exact hn
   | some m=>exact .inr ⟨n,m,by omega,h,hn⟩
  ·exact .inr ⟨a,m,by omega,h2,h3⟩
theorem first_is {p t:ByteArray} {P M Q:Int} {c:List Ins} {K H:Nat} (hp:codeR p=(c,0)) (hT:t.size≤60) (ho:Opt P M Q 10000) (f:Nat→Option Nat)
  (hn:∀ q,q≤t.size→f q=none→Within (envOf c t 0 0) K (0::(q:Int)::free) none)
  (hs:∀ q,q≤t.size→∀ n,f q=some n→∃ (x:Int) (R':List Int),(R'.drop 2).take 18=List.replicate 18 (-1)∧Within (envOf c t 0 0) H (0::(q:Int)::free) (some (x::((q+n:Nat):Int)::R')))
  (hB:61*K+H≤10000):FirstIs t f (findR p t 0 P M Q 10000):=by
 have hit:∀ i,i≤t.size→(∀ q,q<i→f q=none)→∀ n,f i=some n→(findR p t 0 P M Q 10000).2=0∧Inside t.size 0 (findR p t 0 P M Q 10000).1∧(findR p t 0 P M Q 10000).1.ok=true∧(findR p t 0 P M Q 10000).1.at'=(i:Int)::((i+n:Nat):Int)::List.replicate 18 (-1):=fun i hi hq n hf=>by
  obtain ⟨x,R',e,h⟩:=hs i hi n hf
  have:=find_hit hp hT ho i hi (fun q h=>hn q (by omega) (hq q h)) h (by omega)
  rw [e] at this
  exact this
 have miss:(∀ q,q≤t.size→f q=none)→_:=fun hq=>find_miss hp hT ho (fun q h=>hn q h (hq q h)) (by omega)
 generalize findR p t 0 P M Q 10000=G at *
 have any:G.2=0∧Inside t.size 0 G.1:=by
  rcases least_some f (t.size+1) with h | ⟨a,m,h1,h2,h3⟩
  ·exact ⟨(miss fun q hq=>h q (by omega)).1,(miss fun q hq=>h q (by omega)).2.1⟩
  ·exact ⟨(hit a (by omega) h2 m h3).1,(hit a (by omega) h2 m h3).2.1⟩
 exact ⟨any.1,any.2.len,any.2.steps1,any.2.steps2,fun i hi hq n hf=>(hit i hi hq n hf).2.2,fun hq=>(miss hq).2.2⟩
theorem free_rest:(free.drop 2).take 18=List.replicate 18 (-1):=rfl
theorem cut_first (u v w:List UInt8) (t:ByteArray) (P M Q:Int) (hu:u.length≤8) (hv:v.length≤8) (hw:w.length≤8) (hT:t.size≤60) (ho:Opt P M Q 10000):FirstIs t (cutAt t u v w) (findR (bp (cutL u v w)) t 0 P M Q 10000) :=
 first_is (K:=29) (H:=29) (cut_code u v w hu hv hw) hT ho _
  (fun q _ h=>((cut_run (E:=envOf (cutC u v w) t 0 0) (R:=free) rfl).1 h).mono (by omega))
  (fun q _ n h=>⟨_,free,free_rest,((cut_run (E:=envOf (cutC u v w) t 0 0) (R:=free) rfl).2 n h).mono (by omega)⟩) (by omega)
theorem see_first (u v:List UInt8) (t:ByteArray) (P M Q:Int) (c:UInt8) (s:Int) (yes:Bool) (hc:(c=61∧s=1)∨(c=33∧s=2)) (hy:(s=1∧yes=true)∨(s=2∧yes=false)) (hu:u.length≤8) (hv:v.length≤8) (hT:t.size≤60) (ho:Opt P M Q 10000):FirstIs t (seeAt t u v yes) (findR (bp (seeL c u v)) t 0 P M Q 10000) :=
 first_is (K:=29) (H:=29) (see_code u v c s hc hu hv) hT ho _
  (fun q _ h=>((see_run (E:=envOf (seeC s u v) t 0 0) (R:=free) hy rfl).1 h).mono (by omega))
  (fun q _ n h=>⟨_,free,free_rest,((see_run (E:=envOf (seeC s u v) t 0 0) (R:=free) hy rfl).2 n h).mono (by omega)⟩) (by omega)
end Mt
