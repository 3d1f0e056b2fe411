import Derived.Test.YtebpgfodelggoaaGreatDoorC23
set_option linter.unusedVariables false
set_option linter.unusedSimpArgs false
namespace Mt
variable {E:Env} {R:List Int} {pc pos:Nat} {w:List UInt8}
def taken (n:Nat) (m:Int) (late:Bool) (c:Nat):Nat:=if late then n else if 0≤m∧m<(c:Int) then m.toNat else c
theorem body_no {n:Nat} {m:Int} {late:Bool} (hw:w≠[]) (hw6:w.length≤6) (hn:n≤20) (h:Here E.c pc ((bodyRe w n m late).code pc ((0:Nat):Int))) (hs:standsN E.t w n pos=false):Within E 120 ((pc:Int)::(pos:Int)::R) none:=by
 have a:n*w.length≤20*6:=Nat.mul_le_mul hn hw6
 unfold bodyRe at h
 split at h
 ·exact (times_no n pc pos _ (here_cat h).1 hs).mono (by omega)
 ·split at h
  ·exact (times_no n pc pos _ (here_cat h).1 hs).mono (by omega)
  ·exact (times_no n pc pos _ h hs).mono (by omega)
theorem body_yes {n:Nat} {m:Int} {late:Bool} (hw:w≠[]) (hw6:w.length≤6) (hn:n≤20) (hm:m<0∧m=-1∨(n:Int)≤m∧m≤20) (hT:E.t.size≤60) (hp:pos≤E.t.size) (hR:31≤R.length) (h:Here E.c pc ((bodyRe w n m late).code pc ((0:Nat):Int))) (hc:n≤timesN E.t w E.t.size pos) :
  ∃ R',Alike20 R R'∧∀ (K:Nat) (u:Sta),Within E K (((pc+(bodyRe w n m late).len:Nat):Int)::((pos+taken n m late (timesN E.t w E.t.size pos)*w.length:Nat):Int)::R') (some u)→Within E (K+500) ((pc:Int)::(pos:Int)::R) (some u):=by
 have hl:=List.length_pos_iff.2 hw
 have a:n*w.length≤20*6:=Nat.mul_le_mul hn hw6
 have hs:=standsN_of E.t w _ n pos hc
 have hsp:=times_split E.t w _ n pos hc
 have hall:=standsN_le E.t w hw _ pos hp (standsN_of E.t w _ _ pos (Nat.le_refl (timesN E.t w E.t.size pos)))
 have hn1:n*1≤n*w.length:=Nat.mul_le_mul_left _ hl
 generalize hcc:timesN E.t w E.t.size pos=c at *
 unfold bodyRe at h ⊢
 by_cases hm0:m<0
 ·rw [if_pos hm0] at h ⊢
  obtain ⟨h1,h2⟩:=here_cat h
  simp only [timesA_len,wordRe_len] at h2
  simp only [Re.len,timesA_len,wordRe_len]
  cases late
  ·have ek:taken n m false c=c:=by unfold taken;rw [if_neg (by simp),if_neg (by omega)]
   rw [ek]
   obtain ⟨R',hR',k⟩:=loop_greedy E.t rfl hw (E.t.size-n) (pc+n*w.length) (pos+n*w.length) R (by omega) hR h2
   refine ⟨R',hR',fun K u g=>?_⟩
   generalize timesN E.t w (E.t.size-n) (pos+n*w.length)=e at *
   subst hsp
   rw [Nat.add_mul] at g hall
   have:=k K u (by rw [show pc+n*w.length+w.length+3=pc+(n*w.length+(w.length+3)) by omega,show pos+n*w.length+e*w.length=pos+(n*w.length+e*w.length) by omega];exact g)
   have he:e*1≤e*w.length:=Nat.mul_le_mul_left _ hl
   refine (times_yes n pc pos _ h1 hs this).mono ?_
   rw [Nat.mul_add];omega
  ·have ek:taken n m true c=n:=rfl
   rw [ek]
   refine ⟨R,Alike20.refl R,fun K u g=>?_⟩
   have:=loop_lazy (pc:=pc+n*w.length) h2 (by rw [show pc+n*w.length+w.length+3=pc+(n*w.length+(w.length+3)) by omega];exact g)
   exact (times_yes n pc pos _ h1 hs this).mono (by omega)
 ·rw [if_neg hm0] at h ⊢
  by_cases hlt:(n:Int)<m
  ·rw [if_pos hlt] at h ⊢
   obtain ⟨h1,h2⟩:=here_cat h
   simp only [timesA_len,wordRe_len] at h2
   simp only [Re.len,timesA_len,wordRe_len,optA_len]
   have hb:(m.toNat-n)*(w.length+1)≤20*7:=Nat.mul_le_mul (by omega) (by omega)
   refine ⟨R,Alike20.refl R,fun K u g=>?_⟩
   cases late
   ·have ek:taken n m false c=n+min (m.toNat-n) (timesN E.t w (E.t.size-n) (pos+n*w.length)):=by
     unfold taken;rw [if_neg (by simp)];split <;> omega
    rw [ek,Nat.add_mul] at g
    have:=opt_greedy E.t rfl hw (m.toNat-n) (E.t.size-n) (pc+n*w.length) (pos+n*w.length) _ (by omega) h2 (by rw [show pc+n*w.length+(m.toNat-n)*(w.length+1)=pc+(n*w.length+(m.toNat-n)*(w.length+1)) by omega,show pos+n*w.length+min (m.toNat-n) (timesN E.t w (E.t.size-n) (pos+n*w.length))*w.length=pos+(n*w.length+min (m.toNat-n) (timesN E.t w (E.t.size-n) (pos+n*w.length))*w.length) by omega];exact g)
    exact (times_yes n pc pos _ h1 hs this).mono (by omega)
   ·have ek:taken n m true c=n:=rfl
    rw [ek] at g
    have:=opt_lazy (pc:=pc+n*w.length) (m.toNat-n) _ h2 (by rw [show pc+n*w.length+(m.toNat-n)*(w.length+1)=pc+(n*w.length+(m.toNat-n)*(w.length+1)) by omega];exact g)
    exact (times_yes n pc pos _ h1 hs this).mono (by omega)
  ·rw [if_neg hlt] at h ⊢
   have ek:taken n m late c=n:=by unfold taken;split;rfl;split <;> omega
   rw [ek]
   simp only [timesA_len,wordRe_len]
   exact ⟨R,Alike20.refl R,fun K u g=>(times_yes n pc pos _ h hs g).mono (by omega)⟩
def countAt (t:ByteArray) (w:List UInt8) (n:Nat) (m how:Int) (i:Nat):Option Nat :=
 if n≤timesN t w t.size i then some (taken n m (decide (how=1)) (timesN t w t.size i)*w.length) else none
theorem count_here {n:Nat} {m how:Int} (hc:E.c=countC w n m how):(how=2→E.c.getD 0 ins0=⟨11,0,(((bodyRe w n m (decide (how=1))).len+2:Nat):Int),[]⟩∧Here E.c 1 ((bodyRe w n m (decide (how=1))).code ((1:Nat):Int) ((0:Nat):Int))∧E.c.getD (1+(bodyRe w n m (decide (how=1))).len) ins0=⟨12,0,0,[]⟩∧E.c.getD ((bodyRe w n m (decide (how=1))).len+2) ins0=⟨13,0,0,[]⟩)
  ∧ (how≠2→Here E.c 0 ((bodyRe w n m (decide (how=1))).code ((0:Nat):Int) ((0:Nat):Int))∧E.c.getD (0+(bodyRe w n m (decide (how=1))).len) ins0=⟨13,0,0,[]⟩):=by
 have h:=here_self ((countRe w n m how).code 0 0) [⟨13,0,0,[]⟩]
 have h13:=here_last ((countRe w n m how).code 0 0) ⟨13,0,0,[]⟩
 rw [Re.code_len] at h13
 change Here (countC w n m how) 0 ((countRe w n m how).code ((0:Nat):Int) ((0:Nat):Int)) at h
 change (countC w n m how).getD _ ins0=_ at h13
 rw [← hc] at h h13
 unfold countRe at h h13
 rw [rep_body] at h h13
 refine ⟨fun h2=>?_,fun h2=>?_⟩
 ·rw [if_pos h2] at h h13
  obtain ⟨a,b⟩:=here_cat h
  obtain ⟨a1,a2,a3⟩:=here_sub a
  simp only [Re.len,Nat.add_zero] at h13
  simp only [Nat.zero_add] at a1 a2 a3
  exact ⟨a1,a2,a3,h13⟩
 ·rw [if_neg h2] at h h13
  obtain ⟨a,b⟩:=here_cat h
  simp only [Re.len,Nat.add_zero] at h13
  exact ⟨a,by rw [Nat.zero_add];exact h13⟩
theorem alike_rest {R':List Int} (h:Alike20 free R'):(R'.drop 2).take 18=List.replicate 18 (-1):=by
 have e:(R'.drop 2).take 18=(R'.take 20).drop 2:=by rw [List.drop_take]
 rw [e,h.2];rfl
theorem count_first (w:List UInt8) (n:Nat) (m how:Int) (t:ByteArray) (P M Q:Int) (hw0:w≠[]) (hw:w.length≤6) (hn:n≤20) (hm:m<0∧m=-1∨(n:Int)≤m∧m≤20) (hh:how=0∨how=1∨how=2) (hT:t.size≤60) (ho:Opt P M Q 10000):FirstIs t (countAt t w n m how) (findR (bp (countL w n m how)) t 0 P M Q 10000):=by
 obtain ⟨E,hE⟩:∃ E,E=envOf (countC w n m how) t 0 0:=⟨_,rfl⟩
 have hEc:E.c=countC w n m how:=by rw [hE];rfl
 have hEt:E.t=t:=by rw [hE];rfl
 obtain ⟨y,z⟩:=count_here hEc
 have hfree:31≤free.length:=by decide
 refine first_is (K:=121) (H:=503) (count_code w n m how hw hn hm hh) hT ho _ (fun q hq h=>?_) (fun q hq k h=>?_) (by omega)
 ·rw [← hE]
  unfold countAt at h
  have hs:standsN E.t w n q=false:=by
   rw [hEt,stands_n t w hw0 n q hq]
   by_cases e:n≤timesN t w t.size q
   ·rw [if_pos e] at h;simp at h
   ·simpa using e
  by_cases h2:how=2
  ·obtain ⟨a1,a2,a3,a4⟩:=y h2
   exact w_nokeep (pc:=0) (.inl rfl) a1 (body_no hw0 hw hn a2 hs)
  ·exact (body_no (pc:=0) hw0 hw hn (z h2).1 hs).mono (by omega)
 ·rw [← hE]
  unfold countAt at h
  by_cases e:n≤timesN t w t.size q
  ·rw [if_pos e] at h
   injection h with h
   subst h
   rw [← hEt] at e hq ⊢
   have hT':E.t.size≤60:=by rw [hEt];exact hT
   by_cases h2:how=2
   ·obtain ⟨a1,a2,a3,a4⟩:=y h2
    obtain ⟨R',hR',k⟩:=body_yes (pc:=1) (R:=free) hw0 hw hn hm hT' hq hfree a2 e
    have g:=k _ _ (w_stop a3 (.inr rfl))
    have g2:=w_stop (E:=E) (pos:=q+taken n m (decide (how=1)) (timesN E.t w E.t.size q)*w.length) (R:=R') a4 (.inl rfl)
    exact ⟨_,R',alike_rest hR',(w_keep (pc:=0) a1 g g2).mono (by omega)⟩
   ·obtain ⟨a1,a2⟩:=z h2
    obtain ⟨R',hR',k⟩:=body_yes (pc:=0) (R:=free) hw0 hw hn hm hT' hq hfree a1 e
    exact ⟨_,R',alike_rest hR',(k _ _ (w_stop a2 (.inl rfl))).mono (by omega)⟩
  ·rw [if_neg e] at h;simp at h
end Mt
