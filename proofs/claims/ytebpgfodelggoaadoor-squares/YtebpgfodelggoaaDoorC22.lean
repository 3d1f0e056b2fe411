import Derived.Test.YtebpgfodelggoaaDoorC21
import Derived.Test.YtebpgfodelggoaaDoorC13
set_option linter.unusedVariables false
set_option linter.unusedSimpArgs false
namespace Mt
def capRe (k:Int) (w:List UInt8):Re:=.cat (.cap k (wordRe w)) .eps
theorem capRe_len (k:Int) (w:List UInt8):(capRe k w).len=w.length+2:=by simp [capRe,Re.len,wordRe_len]
def orderRe (u v w:List UInt8):Re:=.alt (capRe 1 u) (.alt (capRe 2 v) (capRe 3 w))
theorem orderRe_len (u v w:List UInt8):(orderRe u v w).len=u.length+v.length+w.length+10:=by simp [orderRe,Re.len,capRe_len];omega
def orderC (u v w:List UInt8):List Ins:=(orderRe u v w).code 0 0++[⟨13,0,0,[]⟩]
variable {E:Env} {u v w:List UInt8} {R:List Int} {pos:Nat}
theorem order_here (hc:E.c=orderC u v w):(E.c.getD 0 ins0=⟨2,((1:Nat):Int),((u.length+4:Nat):Int),[]⟩∧Here E.c 1 ((Re.cap ((1:Nat):Int) (wordRe u)).code ((1:Nat):Int) 0)∧E.c.getD (u.length+3) ins0=⟨3,((u.length+v.length+w.length+10:Nat):Int),0,[]⟩)
  ∧ (E.c.getD (u.length+4) ins0=⟨2,((u.length+5:Nat):Int),((u.length+v.length+8:Nat):Int),[]⟩∧Here E.c (u.length+5) ((Re.cap ((2:Nat):Int) (wordRe v)).code ((u.length+5:Nat):Int) 0)∧E.c.getD (u.length+v.length+7) ins0=⟨3,((u.length+v.length+w.length+10:Nat):Int),0,[]⟩)
  ∧ Here E.c (u.length+v.length+8) ((Re.cap ((3:Nat):Int) (wordRe w)).code ((u.length+v.length+8:Nat):Int) 0)∧E.c.getD (u.length+v.length+w.length+10) ins0=⟨13,0,0,[]⟩:=by
 have h:=here_self ((orderRe u v w).code 0 0) [⟨13,0,0,[]⟩]
 have hl:((orderRe u v w).code 0 0).length=u.length+v.length+w.length+10:=by rw [Re.code_len,orderRe_len]
 have h13:(orderC u v w).getD (u.length+v.length+w.length+10) ins0=⟨13,0,0,[]⟩:=by
  unfold orderC
  rw [List.getD_eq_getElem?_getD,List.getElem?_append_right (by omega),hl];simp
 change Here (orderC u v w) 0 ((orderRe u v w).code ((0:Nat):Int) 0) at h
 rw [← hc] at h h13
 obtain ⟨a1,a2,a3,a4⟩:=here_alt h
 rw [capRe_len] at a1 a3 a4
 obtain ⟨b1,b2,b3,b4⟩:=here_alt a4
 rw [capRe_len] at b1 b3 b4
 have e1:(Re.alt (capRe 2 v) (capRe 3 w)).len=v.length+w.length+6:=by simp [Re.len,capRe_len];omega
 rw [e1] at a3
 rw [capRe_len] at b3
 have c2:=(here_cat a2).1
 have d2:=(here_cat b2).1
 have f2:=(here_cat b4).1
 refine ⟨⟨?_,c2,?_⟩,⟨?_,?_,?_⟩,?_,h13⟩
 ·rw [a1];simp only [Nat.zero_add]
 ·rw [show u.length+3=0+1+(u.length+2) by omega,a3];simp only [Nat.zero_add];rw [show u.length+2+2+(v.length+w.length+6)=u.length+v.length+w.length+10 by omega]
 ·rw [show u.length+4=0+(u.length+2)+2 by omega,b1,show 0+(u.length+2)+2+(v.length+2)+2=u.length+v.length+8 by omega,show 0+(u.length+2)+2+1=u.length+5 by omega]
 ·rw [show 0+(u.length+2)+2+1=u.length+5 by omega] at d2;exact d2
 ·rw [show u.length+v.length+7=0+(u.length+2)+2+1+(v.length+2) by omega,b3,show 0+(u.length+2)+2+(v.length+2)+2+(w.length+2)=u.length+v.length+w.length+10 by omega]
 ·rw [show 0+(u.length+2)+2+(v.length+2)+2=u.length+v.length+8 by omega] at f2;exact f2
theorem order_1 (hc:E.c=orderC u v w) (h1:standsB E.t pos u=true):Within E (u.length+5) (0::(pos:Int)::R) (some (((u.length+v.length+w.length+10:Nat):Int)::((pos+u.length:Nat):Int)::capR R 1 pos u.length)):=by
 obtain ⟨⟨a1,a2,a3⟩,⟨b1,b2,b3⟩,f,s⟩:=order_here hc
 have g:=w_stop (pos:=pos+u.length) (R:=capR R 1 pos u.length) s (.inl rfl)
 have g:=w_jump a3 g
 have g:=w_cap (pc:=1) a2 h1 (by rw [show 1+u.length+2=u.length+3 by omega];exact g)
 exact (w_left (pc:=0) a1 g).mono (by omega)
theorem order_2 (hc:E.c=orderC u v w) (h1:standsB E.t pos u=false) (h2:standsB E.t pos v=true):Within E (u.length+v.length+7) (0::(pos:Int)::R) (some (((u.length+v.length+w.length+10:Nat):Int)::((pos+v.length:Nat):Int)::capR R 2 pos v.length)):=by
 obtain ⟨⟨a1,a2,a3⟩,⟨b1,b2,b3⟩,f,s⟩:=order_here hc
 have g:=w_stop (pos:=pos+v.length) (R:=capR R 2 pos v.length) s (.inl rfl)
 have g:=w_jump b3 g
 have g:=w_cap (pc:=u.length+5) b2 h2 (by rw [show u.length+5+v.length+2=u.length+v.length+7 by omega];exact g)
 have g:=w_left b1 g
 exact (w_right (pc:=0) a1 (w_nocap a2 h1) g).mono (by omega)
theorem order_3 (hc:E.c=orderC u v w) (h1:standsB E.t pos u=false) (h2:standsB E.t pos v=false) (h3:standsB E.t pos w=true):Within E (u.length+v.length+w.length+7) (0::(pos:Int)::R) (some (((u.length+v.length+w.length+10:Nat):Int)::((pos+w.length:Nat):Int)::capR R 3 pos w.length)):=by
 obtain ⟨⟨a1,a2,a3⟩,⟨b1,b2,b3⟩,f,s⟩:=order_here hc
 have g:=w_stop (pos:=pos+w.length) (R:=capR R 3 pos w.length) s (.inl rfl)
 have g:=w_cap (pc:=u.length+v.length+8) f h3 (by rw [show u.length+v.length+8+w.length+2=u.length+v.length+w.length+10 by omega];exact g)
 have g:=w_right b1 (w_nocap b2 h2) g
 exact (w_right (pc:=0) a1 (w_nocap a2 h1) g).mono (by omega)
theorem order_0 (hc:E.c=orderC u v w) (h1:standsB E.t pos u=false) (h2:standsB E.t pos v=false) (h3:standsB E.t pos w=false):Within E (u.length+v.length+w.length+7) (0::(pos:Int)::R) none:=by
 obtain ⟨⟨a1,a2,a3⟩,⟨b1,b2,b3⟩,f,s⟩:=order_here hc
 have g:=w_right (R:=R) b1 (w_nocap b2 h2) (w_nocap f h3)
 exact (w_right (pc:=0) a1 (w_nocap a2 h1) g).mono (by omega)
def firstOf (t:ByteArray) (i:Nat) (u v w:List UInt8):Int:=if standsB t i u then 0 else if standsB t i v then 1 else if standsB t i w then 2 else -1
def nth3 (k:Int) (u v w:List UInt8):List UInt8:=if k=0 then u else if k=1 then v else w
def free:List Int:=nowhere++List.replicate 22 0
theorem start_eq (p:Int):startSt p=0::p::free:=rfl
theorem order_hit {p t:ByteArray} {P M R:Int} (hp:codeR p=(orderC u v w,0)) (hu:u.length≤8) (hv:v.length≤8) (hw:w.length≤8) (hT:t.size≤60) (ho:Opt P M R 10000) (a:Nat) (ha:a≤t.size) (hf:∀ q,q<a→firstOf t q u v w<0) (k:Int) (hk:firstOf t a u v w=k) (h0:0≤k) :
  (findR p t 0 P M R 10000).2=0∧Inside t.size 0 (findR p t 0 P M R 10000).1∧(findR p t 0 P M R 10000).1.ok=true∧(findR p t 0 P M R 10000).1.at'=(a:Int)::((a+(nth3 k u v w).length:Nat):Int)::((capR free (k.toNat+1) a (nth3 k u v w).length).drop 2).take 18:=by
 refine find_by hp hT ho ?_
 have hq:∀ q,0≤q→q<0+a→Within (envOf (orderC u v w) t 0 0) 40 (startSt (q:Nat)) none:=fun q _ h=>by
  have:=hf q (by omega)
  unfold firstOf at this
  cases e1:standsB t q u
  ·cases e2:standsB t q v
   ·cases e3:standsB t q w
    ·exact (order_0 (E:=envOf (orderC u v w) t 0 0) (R:=free) rfl e1 e2 e3).mono (by omega)
    ·simp [e1,e2,e3] at this
   ·simp [e1,e2] at this
  ·simp [e1] at this
 have hh:∃ x:Int,Within (envOf (orderC u v w) t 0 0) 40 (startSt ((0+a:Nat):Int)) (some (x::((a+(nth3 k u v w).length:Nat):Int)::capR free (k.toNat+1) a (nth3 k u v w).length)):=by
  rw [Nat.zero_add]
  unfold firstOf at hk
  cases e1:standsB t a u
  ·cases e2:standsB t a v
   ·cases e3:standsB t a w
    ·simp [e1,e2,e3] at hk;omega
    ·simp [e1,e2,e3] at hk;subst hk
     exact ⟨_,(order_3 (E:=envOf (orderC u v w) t 0 0) (R:=free) rfl e1 e2 e3).mono (by omega)⟩
   ·simp [e1,e2] at hk;subst hk
    exact ⟨_,(order_2 (E:=envOf (orderC u v w) t 0 0) (R:=free) rfl e1 e2).mono (by omega)⟩
  ·simp [e1] at hk;subst hk
   exact ⟨_,(order_1 (E:=envOf (orderC u v w) t 0 0) (R:=free) rfl e1).mono (by omega)⟩
 obtain ⟨x,hx⟩:=hh
 obtain ⟨s,hs⟩:=search_hit (b:=10000) a 0 (t.size+1) 10000 (by omega) hq hx (by omega)
 refine ⟨s,?_⟩
 rw [hs,Nat.zero_add];rfl
theorem order_miss {p t:ByteArray} {P M R:Int} (hp:codeR p=(orderC u v w,0)) (hu:u.length≤8) (hv:v.length≤8) (hw:w.length≤8) (hT:t.size≤60) (ho:Opt P M R 10000) (hf:∀ q,q≤t.size→firstOf t q u v w<0) :
  (findR p t 0 P M R 10000).2=0∧Inside t.size 0 (findR p t 0 P M R 10000).1∧(findR p t 0 P M R 10000).1.ok=false∧(findR p t 0 P M R 10000).1.at'=nowhere:=by
 refine find_by hp hT ho ?_
 refine search_miss (K:=40) (t.size+1) 0 10000 (fun q _ h=>?_) (by omega)
 have:=hf q (by omega)
 unfold firstOf at this
 cases e1:standsB t q u
 ·cases e2:standsB t q v
  ·cases e3:standsB t q w
   ·exact (order_0 (E:=envOf (orderC u v w) t 0 0) (R:=free) rfl e1 e2 e3).mono (by omega)
   ·simp [e1,e2,e3] at this
  ·simp [e1,e2] at this
 ·simp [e1] at this
end Mt
namespace Mt
inductive Reads (p:ByteArray):List Tok→Int→List Tok→Int→Prop
 | nil (l:List Tok) (i:Int):Reads p l i [] i
 | cons {l m:List Tok} {i j:Int} {t:Tok} (h0:0≤i) (h1:i<p.size) (ht:nextT p i=(t,0)) (hm:may l t=0) (hl:Reads p (l++[joined l t]) t.to m j):Reads p l i (joined l t::m) j
theorem Reads.app {p:ByteArray} {l m n:List Tok} {i j k:Int} (h:Reads p l i m j):Reads p (l++m) j n k→Reads p l i (m++n) k:=by
 induction h with
 | nil l i=>intro g;simpa using g
 | cons h0 h1 ht hm hl ih =>
  intro g
  exact Reads.cons h0 h1 ht hm (ih (by simpa using g))
theorem Reads.one {p:ByteArray} {l:List Tok} {i:Int} {t u:Tok} (h0:0≤i) (h1:i<p.size) (ht:nextT p i=(t,0)) (hm:may l t=0) (hu:joined l t=u):Reads p l i [u] t.to:=by
 subst hu;exact Reads.cons h0 h1 ht hm (Reads.nil _ _)
theorem reads_read {p:ByteArray} {l m:List Tok} {i j:Int} (h:Reads p l i m j):j=p.size→0≤j→readOn p l i=(l++m,0,(p.size:Int)):=by
 induction h with
 | nil l i =>
  intro e h0
  rw [readOn_step p l i h0 (by omega),if_pos (by omega),e];simp
 | @cons l m i j t h0 h1 ht hm hl ih =>
  intro e hj
  rw [readOn_step p l i h0 (by omega),if_neg (by omega),ht,if_neg (by simp),if_neg (by rw [hm];simp),ih e hj];simp
theorem code_reads (p:ByteArray) (T:Fs) (hp:p.size≤64) (hw:T.wf) (hl:Reads p [] 0 T.flat p.size) (ho:opened T.flat=0) (hn:T.flat.length≤64):codeR p=codeOf T.re:=by
 have hr:=reads_read hl rfl (by omega)
 rw [List.nil_append] at hr
 have ht:tokens p=(T.flat,0,0):=by
  unfold tokens
  rw [if_neg (by omega),readOn_start p hp,hr,if_neg (by simp),if_neg (by rw [ho];simp)]
 have e:=treeOf_flat T hw hn
 have hc:=coded_len T.flat
 rw [e] at hc
 have hk:checkR p=if 300<(coded T.flat).length then (12,0) else (0,0):=by unfold checkR;rw [ht];simp
 unfold codeR codeOf
 rw [hk,ht]
 by_cases x:300<T.re.len+1
 ·rw [if_pos x,if_pos (hc.2 x)];simp
 ·have hlen:=hc.1 (by omega)
  have:=(coded_tree T.flat (by omega)).1
  rw [e] at this
  rw [if_neg x,if_neg (show ¬ 300<(coded T.flat).length by omega)]
  simp [this]
def wordC (c:UInt8):Bool:=digB (c.toNat:Int)||letB (c.toNat:Int)
def quoteL:List UInt8→List UInt8
 | []=>[]
 | c::w=>if wordC c then c::quoteL w else 92::c::quoteL w
theorem quoteL_len:∀ w:List UInt8,(quoteL w).length≤2*w.length
 | []=>Nat.le_refl _
 | c::w=>by
  have:=quoteL_len w
  simp only [quoteL];split <;> simp only [List.length_cons] <;> omega
def wide (c:UInt8):Int:=if wordC c then 1 else 2
def qToks:List UInt8→Int→List Tok
 | [],_=>[]
 | c::w,i=>⟨1,i,i+wide c,0,0,0,[c]⟩::qToks w (i+wide c)
def qFs:List UInt8→Int→Fs→Fs
 | [],_,rest=>rest
 | c::w,i,rest=>.leaf ⟨1,i,i+wide c,0,0,0,[c]⟩ none (qFs w (i+wide c) rest)
theorem qFs_flat:∀ (w:List UInt8) (i:Int) (rest:Fs),(qFs w i rest).flat=qToks w i++rest.flat
 | [],_,_=>rfl
 | c::w,i,rest=>by simp [qFs,qToks,Fs.flat,qFs_flat w]
theorem qFs_wf:∀ (w:List UInt8) (i:Int) (rest:Fs),rest.wf→(qFs w i rest).wf
 | [],_,_,h=>h
 | c::w,i,rest,h=>⟨.inl rfl,fun q h=>by simp at h,qFs_wf w _ rest h⟩
def wordBe:List UInt8→Re→Re
 | [],r=>r
 | c::w,r=>.cat (.one [c]) (wordBe w r)
theorem wordBe_eps:∀ w:List UInt8,wordBe w .eps=wordRe w
 | []=>rfl
 | c::w=>by simp [wordBe,wordRe,wordBe_eps w]
theorem qFs_both:∀ (w:List UInt8) (i:Int) (rest:Fs),(qFs w i rest).both=(wordBe w rest.both.1,rest.both.2)
 | [],_,_=>rfl
 | c::w,i,rest=>by
  simp only [qFs,Fs.both,qFs_both w]
  rfl
theorem qToks_len:∀ (w:List UInt8) (i:Int),(qToks w i).length=w.length
 | [],_=>rfl
 | c::w,i=>by simp [qToks,qToks_len w]
theorem qToks_opened:∀ (w:List UInt8) (i:Int),opened (qToks w i)=0
 | [],_=>rfl
 | c::w,i=>by simp [qToks,opened,delta,qToks_opened w]
theorem qToks_captures:∀ (w:List UInt8) (i:Int),captures (qToks w i)=0
 | [],_=>rfl
 | c::w,i=>by simp [qToks,captures,isCap,qToks_captures w]
theorem reads_word {p:ByteArray}:∀ (w:List UInt8) (l:List Tok) (i:Int),Holds p i (quoteL w)→Reads p l i (qToks w i) (i+(quoteL w).length)
 | [],l,i,h=>by simpa [quoteL,qToks] using Reads.nil l i
 | c::w,l,i,h=>by
  have hb:=c.toNat_lt
  have hj:∀ x:Int,joined l ⟨1,i,x,0,0,0,[c]⟩=⟨1,i,x,0,0,0,[c]⟩:=fun x=>by unfold joined isCap;simp
  have hmay:∀ x:Int,may l ⟨1,i,x,0,0,0,[c]⟩=0:=fun x=>by unfold may;simp
  have hof:UInt8.ofNat ((c.toNat:Int)).toNat=c:=by simp
  cases hc:wordC c
  ·simp only [quoteL,hc] at h ⊢
   obtain ⟨h0,h1,h2,h3,h4,h5,h6⟩:=h
   have hn:nextT p i=(⟨1,i,i+2,0,0,0,[c]⟩,0):=by
    have e2:atB p i=92:=h2
    have e3:(digB (c.toNat:Int)=false)∧letB (c.toNat:Int)=false:=by simpa [wordC] using hc
    have e4:=e3
    unfold digB letB at e4
    rw [decide_eq_false_iff_not,decide_eq_false_iff_not] at e4
    unfold nextT
    rw [e2,if_neg (by omega),if_neg (by omega),if_neg (by omega),if_neg (by omega),if_pos rfl]
    unfold escape
    rw [h5,if_neg (by omega),if_neg (by omega),if_neg (by omega),e3.1,e3.2,hof];rfl
   have ih:=reads_word w (l++[⟨1,i,i+2,0,0,0,[c]⟩]) (i+2) (by rw [show i+1+1=i+2 by omega] at h6;exact h6)
   have hw:wide c=2:=by unfold wide;rw [hc];rfl
   have:=Reads.cons h0 h1 hn (hmay _) (by rw [hj];exact ih)
   rw [hj] at this
   simp only [qToks,hw]
   rw [if_neg (by simp)]
   simp only [List.length_cons]
   rw [show i+(((quoteL w).length+1+1:Nat):Int)=i+2+(quoteL w).length by push_cast;omega]
   exact this
  ·simp only [quoteL,hc,if_true] at h ⊢
   obtain ⟨h0,h1,h2,h3⟩:=h
   have hn:nextT p i=(⟨1,i,i+1,0,0,0,[c]⟩,0):=by
    have e3:digB (c.toNat:Int)=true∨letB (c.toNat:Int)=true:=by simpa [wordC] using hc
    have e4:=e3
    unfold digB letB at e4
    rw [decide_eq_true_eq,decide_eq_true_eq] at e4
    unfold nextT
    rw [h2,if_neg (by omega),if_neg (by omega),if_neg (by omega),if_neg (by omega),if_neg (by omega),if_neg (by omega),if_neg (by omega),if_neg (by omega),if_neg (by omega),hof]
   have ih:=reads_word w (l++[⟨1,i,i+1,0,0,0,[c]⟩]) (i+1) h3
   have hw:wide c=1:=by unfold wide;rw [hc];rfl
   have:=Reads.cons h0 h1 hn (hmay _) (by rw [hj];exact ih)
   rw [hj] at this
   simp only [qToks,hw,List.length_cons]
   rw [show i+(((quoteL w).length+1:Nat):Int)=i+1+(quoteL w).length by push_cast;omega]
   exact this
theorem quoteL_head (w:List UInt8) (r:List UInt8) (hr:r.head?≠some 63):(quoteL w++r).head?≠some 63:=by
 cases w with
 | nil=>exact hr
 | cons c w =>
  simp only [quoteL]
  cases hc:wordC c
  ·simp
  ·simp only [if_true,List.cons_append,List.head?_cons]
   intro e
   injection e with e
   subst e
   revert hc;decide
theorem reads_cap {p:ByteArray} {l:List Tok} {i:Int} {r:List UInt8} (h:Holds p i (40::r)) (hne:r≠[]) (hr:r.head?≠some 63) (ho:opened l<10) (hc:captures l<9):Reads p l i [⟨6,i,i+1,captures l+1,0,4,[]⟩] (i+1):=by
 obtain ⟨h0,h1,h2,h3⟩:=h
 have e2:atB p i=40:=h2
 have e3:atB p (i+1)≠63:=by
  cases r with
  | nil=>exact absurd rfl hne
  | cons x r =>
   rw [h3.2.2.1]
   intro e
   have:x=63:=by apply UInt8.toNat_inj.1;show x.toNat=63;omega
   exact hr (by rw [this];rfl)
 have hn:nextT p i=(⟨6,i,i+1,0,0,4,[]⟩,0):=by
  unfold nextT
  rw [e2,if_neg (by omega),if_neg (by omega),if_neg (by omega),if_neg (by omega),if_neg (by omega),if_neg (by omega),if_pos rfl]
  unfold opening
  rw [if_pos e3];rfl
 refine Reads.one h0 h1 hn ?_ ?_
 ·unfold may
  simp;omega
 ·unfold joined isCap;simp
theorem reads_group {p:ByteArray} {l:List Tok} {i:Int} {c:UInt8} {how:Int} (h:Holds p i [40,63,c]) (hc:(c=58∧how=3)∨(c=62∧how=0)∨(c=61∧how=1)∨(c=33∧how=2)) (ho:opened l<10):Reads p l i [⟨6,i,i+3,0,0,how,[]⟩] (i+3):=by
 obtain ⟨h0,h1,h2,h3,h4,h5,h6,h7,h8,h9⟩:=h
 have e2:atB p i=40:=h2
 have e5:atB p (i+1)=63:=h5
 have e8:atB p (i+2)=(c.toNat:Int):=by rw [← h8];congr 1;omega
 have hn:nextT p i=(⟨6,i,i+3,0,0,how,[]⟩,0):=by
  unfold nextT
  rw [e2,if_neg (by omega),if_neg (by omega),if_neg (by omega),if_neg (by omega),if_neg (by omega),if_neg (by omega),if_pos rfl]
  unfold opening
  rw [e5,e8]
  rcases hc with ⟨rfl,rfl⟩ | ⟨rfl,rfl⟩ | ⟨rfl,rfl⟩ | ⟨rfl,rfl⟩ <;> rfl
 refine Reads.one h0 h1 hn ?_ ?_
 ·unfold may
  rcases hc with ⟨rfl,rfl⟩ | ⟨rfl,rfl⟩ | ⟨rfl,rfl⟩ | ⟨rfl,rfl⟩ <;> simp <;> omega
 ·unfold joined isCap
  rcases hc with ⟨rfl,rfl⟩ | ⟨rfl,rfl⟩ | ⟨rfl,rfl⟩ | ⟨rfl,rfl⟩ <;> simp
theorem reads_close {p:ByteArray} {l:List Tok} {i:Int} (h:Holds p i [41]) (ho:opened l≠0):Reads p l i [⟨7,i,i+1,0,0,0,[]⟩] (i+1):=by
 obtain ⟨h0,h1,h2,h3⟩:=h
 have e2:atB p i=41:=h2
 have hn:nextT p i=(⟨7,i,i+1,0,0,0,[]⟩,0):=by
  unfold nextT
  rw [e2,if_neg (by omega),if_pos rfl]
 exact Reads.one h0 h1 hn (by unfold may;simp [ho]) (by unfold joined isCap;simp)
theorem reads_bar {p:ByteArray} {l:List Tok} {i:Int} (h:Holds p i [124]):Reads p l i [⟨5,i,i+1,0,0,0,[]⟩] (i+1):=by
 obtain ⟨h0,h1,h2,h3⟩:=h
 have e2:atB p i=124:=h2
 have hn:nextT p i=(⟨5,i,i+1,0,0,0,[]⟩,0):=by
  unfold nextT
  rw [e2,if_pos rfl]
 exact Reads.one h0 h1 hn (by unfold may;simp) (by unfold joined isCap;simp)
def capToks (k:Int) (w:List UInt8) (i:Int):List Tok:=⟨6,i,i+1,k,0,4,[]⟩::(qToks w (i+1)++[⟨7,i+1+(quoteL w).length,i+1+(quoteL w).length+1,0,0,0,[]⟩])
theorem capToks_len (k:Int) (w:List UInt8) (i:Int):(capToks k w i).length=w.length+2:=by simp [capToks,qToks_len]
theorem capToks_opened (k:Int) (w:List UInt8) (i:Int):opened (capToks k w i)=0:=by
 unfold capToks
 simp only [opened,opened_append,qToks_opened,delta];simp
theorem capToks_captures (k:Int) (w:List UInt8) (i:Int):captures (capToks k w i)=1:=by
 unfold capToks
 simp only [captures,captures_append,qToks_captures,isCap];simp
theorem reads_capword {p:ByteArray} {l:List Tok} {i:Int} {w r:List UInt8} {k:Int} (h:Holds p i (40::(quoteL w++41::r))) (ho:opened l=0) (hc:captures l+1=k) (hk:k≤9):Reads p l i (capToks k w i) (i+(quoteL w).length+2):=by
 have a:=reads_cap (l:=l) h (by simp) (quoteL_head _ _ (by simp)) (by omega) (by omega)
 obtain ⟨a1,a2⟩:=holds_app _ _ _ h.2.2.2
 have b:=reads_word w (l++[⟨6,i,i+1,captures l+1,0,4,[]⟩]) (i+1) a1
 have c:=reads_close (l:=l++[⟨6,i,i+1,captures l+1,0,4,[]⟩]++qToks w (i+1)) (holds_app [41] r _ a2).1 (by
  simp only [opened_append,qToks_opened,opened,delta];simp;omega)
 have:=a.app (b.app c)
 rw [hc] at this
 rw [show i+((quoteL w).length:Int)+2=i+1+(quoteL w).length+1 by omega]
 exact this
def orderL (u v w:List UInt8):List UInt8:=40::(quoteL u++(41::124::40::(quoteL v++(41::124::40::(quoteL w++[41])))))
theorem orderL_len (u v w:List UInt8):(orderL u v w).length=(quoteL u).length+(quoteL v).length+(quoteL w).length+8:=by simp [orderL];omega
def capFs (k:Int) (w:List UInt8) (i:Int) (rest:Fs):Fs:=.grp ⟨6,i,i+1,k,0,4,[]⟩ (qFs w (i+1) .nil) ⟨7,i+1+(quoteL w).length,i+1+(quoteL w).length+1,0,0,0,[]⟩ none rest
theorem capFs_flat (k:Int) (w:List UInt8) (i:Int) (rest:Fs):(capFs k w i rest).flat=capToks k w i++rest.flat:=by
 simp [capFs,capToks,Fs.flat,qFs_flat]
theorem capFs_wf (k:Int) (w:List UInt8) (i:Int) (rest:Fs) (h:rest.wf):(capFs k w i rest).wf:=⟨rfl,rfl,qFs_wf w _ _ trivial,fun q h=>by simp at h,h⟩
theorem capFs_both (k:Int) (w:List UInt8) (i:Int) (rest:Fs):(capFs k w i rest).both=(.cat (.cap k (wordRe w)) rest.both.1,rest.both.2):=by
 simp only [capFs,Fs.both,qFs_both,part,joinRe,wordBe_eps,grpRe];simp
theorem order_code (u v w:List UInt8) (hu:u.length≤8) (hv:v.length≤8) (hw:w.length≤8):codeR (bp (orderL u v w))=(orderC u v w,0):=by
 have lu:=quoteL_len u
 have lv:=quoteL_len v
 have lw:=quoteL_len w
 have hs:=holds_self (orderL u v w)
 have hsz:(bp (orderL u v w)).size=(quoteL u).length+(quoteL v).length+(quoteL w).length+8:=by rw [bp_size,orderL_len]
 obtain ⟨p,hp⟩:∃ p,p=bp (orderL u v w):=⟨_,rfl⟩
 rw [← hp] at hs hsz ⊢
 unfold orderL at hs
 obtain ⟨U,hU⟩:∃ n:Int,n=(quoteL u).length:=⟨_,rfl⟩
 obtain ⟨V,hV⟩:∃ n:Int,n=(quoteL v).length:=⟨_,rfl⟩
 obtain ⟨a1,a2⟩:=holds_app _ _ _ hs.2.2.2
 have a3:=a2.2.2.2
 have a4:=a3.2.2.2
 obtain ⟨b1,b2⟩:=holds_app _ _ _ a4.2.2.2
 have b3:=b2.2.2.2
 have b4:=b3.2.2.2
 have one:∀ {i:Int} {x:UInt8} {r:List UInt8},Holds p i (x::r)→Holds p i [x]:=fun {i x r} h=>(holds_app [x] r i h).1
 have i1:(0:Int)+1+(quoteL u).length+1=0+(quoteL u).length+2:=by omega
 have i2:(0:Int)+1+(quoteL u).length+1+1+1+(quoteL v).length+1=0+(quoteL u).length+2+1+(quoteL v).length+2:=by omega
 rw [i1] at a3 a4
 rw [i1] at b3 b4
 rw [show (0:Int)+(quoteL u).length+2+1+1+(quoteL v).length+1=0+(quoteL u).length+2+1+(quoteL v).length+2 by omega] at b3 b4
 have r1:=reads_capword (l:=[]) (k:=1) hs rfl rfl (by omega)
 have r2:=reads_bar (l:=[]++capToks 1 u 0) (one a3)
 have r3:=reads_capword (l:=[]++capToks 1 u 0++[⟨5,0+(quoteL u).length+2,0+(quoteL u).length+2+1,0,0,0,[]⟩]) (k:=2) a4 (by simp only [opened_append,capToks_opened,opened,delta];simp) (by simp only [captures_append,capToks_captures,captures,isCap];simp) (by omega)
 have r4:=reads_bar (l:=[]++capToks 1 u 0++[⟨5,0+(quoteL u).length+2,0+(quoteL u).length+2+1,0,0,0,[]⟩]++capToks 2 v (0+(quoteL u).length+2+1)) (one b3)
 have r5:=reads_capword (l:=[]++capToks 1 u 0++[⟨5,0+(quoteL u).length+2,0+(quoteL u).length+2+1,0,0,0,[]⟩]++capToks 2 v (0+(quoteL u).length+2+1)++[⟨5,0+(quoteL u).length+2+1+(quoteL v).length+2,0+(quoteL u).length+2+1+(quoteL v).length+2+1,0,0,0,[]⟩]) (k:=3) b4 (by simp only [opened_append,capToks_opened,opened,delta];simp) (by simp only [captures_append,capToks_captures,captures,isCap];simp) (by omega)
 have rr:=r1.app (r2.app (r3.app (r4.app r5)))
 have hT:codeR p=codeOf (capFs 1 u 0 (.bar ⟨5,0+(quoteL u).length+2,0+(quoteL u).length+2+1,0,0,0,[]⟩ (capFs 2 v (0+(quoteL u).length+2+1) (.bar ⟨5,0+(quoteL u).length+2+1+(quoteL v).length+2,0+(quoteL u).length+2+1+(quoteL v).length+2+1,0,0,0,[]⟩ (capFs 3 w (0+(quoteL u).length+2+1+(quoteL v).length+2+1) .nil))))).re:=by
  refine code_reads p _ (by rw [hsz];omega) (capFs_wf _ _ _ _ ⟨rfl,capFs_wf _ _ _ _ ⟨rfl,capFs_wf _ _ _ _ trivial⟩⟩) ?_ ?_ ?_
  ·simp only [capFs_flat,Fs.flat,List.append_nil]
   rw [hsz]
   rw [show (((quoteL u).length+(quoteL v).length+(quoteL w).length+8:Nat):Int)=0+(quoteL u).length+2+1+(quoteL v).length+2+1+(quoteL w).length+2 by push_cast;omega]
   exact rr
  ·simp only [capFs_flat,Fs.flat,opened_append,capToks_opened,opened,delta];simp
  ·simp only [capFs_flat,Fs.flat,List.length_append,capToks_len,List.length_cons,List.length_nil];omega
 rw [hT]
 have e:(capFs 1 u 0 (.bar ⟨5,0+(quoteL u).length+2,0+(quoteL u).length+2+1,0,0,0,[]⟩ (capFs 2 v (0+(quoteL u).length+2+1) (.bar ⟨5,0+(quoteL u).length+2+1+(quoteL v).length+2,0+(quoteL u).length+2+1+(quoteL v).length+2+1,0,0,0,[]⟩ (capFs 3 w (0+(quoteL u).length+2+1+(quoteL v).length+2+1) .nil))))).re=orderRe u v w:=by
  simp only [Fs.re,capFs_both,Fs.both,joinRe,orderRe,capRe]
 rw [e]
 unfold codeOf orderC
 rw [orderRe_len,if_neg (by omega)]
variable {E:Env} {r:Option Sta} {R:List Int} {K L:Nat} {pc pos:Nat}
theorem search_hit2 {K H:Nat} {b:Int} {u:Sta}:∀ (j p f n:Nat),j<f→(∀ q,p≤q→q<p+j→Within E K (startSt (q:Nat)) none)→Within E H (startSt ((p+j:Nat):Int)) (some u)→j*K+H≤n →
  ∃ t,search E b f p n [] 0=(⟨true,foundAt ((p+j:Nat):Int) u,t⟩,false)
 | 0,p,f+1,n,_,_,h,hn=>by
  obtain ⟨k,hk,v,hv,g⟩:=h
  obtain ⟨m,rfl⟩:∃ m,n=m+k:=⟨n-k,by omega⟩
  rw [Nat.add_zero] at g ⊢
  rw [search,g]
  rw [hv u rfl]
  exact ⟨_,rfl⟩
 | j+1,p,f+1,n,hj,hq,h,hn=>by
  obtain ⟨k,hk,v,hv,g⟩:=hq p (Nat.le_refl _) (by omega)
  have e:(j+1)*K=j*K+K:=by rw [Nat.add_mul j 1 K];omega
  obtain ⟨m,rfl⟩:∃ m,n=m+k:=⟨n-k,by omega⟩
  rw [search,g]
  obtain ⟨t,ht⟩:=search_hit2 (b:=b) j (p+1) f m (by omega) (fun q h1 h2=>hq q (by omega) (by omega)) (by rw [show p+1+j=p+(j+1) by omega];exact h) (by omega)
  refine ⟨t,?_⟩
  dsimp only
  rw [if_neg (by simp),if_neg (by simp),ht,show p+1+j=p+(j+1) by omega]
theorem find_hit {p t:ByteArray} {P M Q:Int} {c:List Ins} {K H:Nat} (hp:codeR p=(c,0)) (hT:t.size≤60) (ho:Opt P M Q 10000) (a:Nat) (ha:a≤t.size) (hq:∀ q,q<a→Within (envOf c t 0 0) K (0::(q:Int)::free) none) {x:Int} {e:Nat} {R':List Int} (hh:Within (envOf c t 0 0) H (0::(a:Int)::free) (some (x::(e:Int)::R'))) (hB:60*K+H≤10000) :
  (findR p t 0 P M Q 10000).2=0∧Inside t.size 0 (findR p t 0 P M Q 10000).1∧(findR p t 0 P M Q 10000).1.ok=true∧(findR p t 0 P M Q 10000).1.at'=(a:Int)::(e:Int)::(R'.drop 2).take 18:=by
 refine find_by hp hT ho ?_
 have hm:a*K≤60*K:=Nat.mul_le_mul_right _ (by omega)
 obtain ⟨s,hs⟩:=search_hit2 (E:=envOf c t 0 0) (K:=K) (H:=H) (b:=10000) a 0 (t.size+1) 10000 (by omega) (fun q _ h=>hq q (by omega)) (by rw [Nat.zero_add];exact hh) (by omega)
 refine ⟨s,?_⟩
 rw [hs,Nat.zero_add];rfl
theorem find_miss {p t:ByteArray} {P M Q:Int} {c:List Ins} {K:Nat} (hp:codeR p=(c,0)) (hT:t.size≤60) (ho:Opt P M Q 10000) (hq:∀ q,q≤t.size→Within (envOf c t 0 0) K (0::(q:Int)::free) none) (hB:61*K≤10000) :
  (findR p t 0 P M Q 10000).2=0∧Inside t.size 0 (findR p t 0 P M Q 10000).1∧(findR p t 0 P M Q 10000).1.ok=false∧(findR p t 0 P M Q 10000).1.at'=nowhere:=by
 refine find_by hp hT ho ?_
 have hm:(t.size+1)*K≤61*K:=Nat.mul_le_mul_right _ (by omega)
 exact search_miss (K:=K) (t.size+1) 0 10000 (fun q _ h=>hq q (by omega)) (by omega)
theorem here_sub {c:List Ins} {s:Int} {a:Re} {p:Nat} {d:Int} (h:Here c p ((Re.sub s a).code p d)):c.getD p ins0=⟨11,s,((p+a.len+2:Nat):Int),[]⟩∧Here c (p+1) (a.code ((p+1:Nat):Int) d)∧c.getD (p+1+a.len) ins0=⟨12,0,0,[]⟩:=by
 rw [Re.code] at h
 obtain ⟨h1,h2⟩:=h
 obtain ⟨h3,h4⟩:=here_app h2
 rw [Re.code_len] at h4
 exact ⟨by rw [h1];simp,by simpa using h3,h4.1⟩
theorem w_keep {q:Nat} {x pos':Int} {R':List Int} (hc:E.c.getD pc ins0=⟨11,0,(q:Int),[]⟩) (g1:Within E K (((pc+1:Nat):Int)::(pos:Int)::R) (some (x::pos'::R'))) (g2:Within E L ((q:Int)::pos'::R') r):Within E (K+L+1) ((pc:Int)::(pos:Int)::R) r:=by
 have hi:=ins_at E pc ((pos:Int)::R)
 rw [hc] at hi
 refine within_apart (z:=(q:Int)::pos'::R') (by rw [hi]) g1 (fun u hu=>?_) g2
 rw [hu _ rfl,hi];rfl
theorem w_nokeep {q:Nat} {s:Int} (hs:s=0∨s=1) (hc:E.c.getD pc ins0=⟨11,s,(q:Int),[]⟩) (g1:Within E K (((pc+1:Nat):Int)::(pos:Int)::R) none):Within E (K+1) ((pc:Int)::(pos:Int)::R) none:=by
 have hi:=ins_at E pc ((pos:Int)::R)
 rw [hc] at hi
 refine within_bar (by rw [hi]) g1 (fun u hu=>?_)
 rw [hi]
 rcases hs with rfl | rfl <;> rfl
theorem w_see {q:Nat} {x pos':Int} (hc:E.c.getD pc ins0=⟨11,1,(q:Int),[]⟩) (g1:Within E K (((pc+1:Nat):Int)::(pos:Int)::R) (some (x::pos'::R))) (g2:Within E L ((q:Int)::(pos:Int)::R) r):Within E (K+L+1) ((pc:Int)::(pos:Int)::R) r:=by
 have hi:=ins_at E pc ((pos:Int)::R)
 rw [hc] at hi
 refine within_apart (z:=(q:Int)::(pos:Int)::R) (by rw [hi]) g1 (fun u hu=>?_) g2
 rw [hu _ rfl,hi]
 show (((pc:Int)::(pos:Int)::(R.take 20++R.drop 20)).set 0 (q:Int),true)=_
 rw [List.take_append_drop];rfl
theorem w_never {q:Nat} (hc:E.c.getD pc ins0=⟨11,2,(q:Int),[]⟩) (g1:Within E K (((pc+1:Nat):Int)::(pos:Int)::R) none) (g2:Within E L ((q:Int)::(pos:Int)::R) r):Within E (K+L+1) ((pc:Int)::(pos:Int)::R) r:=by
 have hi:=ins_at E pc ((pos:Int)::R)
 rw [hc] at hi
 refine within_apart (z:=(q:Int)::(pos:Int)::R) (by rw [hi]) g1 (fun u hu=>?_) g2
 rw [hi];rfl
theorem w_nonever {q:Nat} {v:Sta} (hc:E.c.getD pc ins0=⟨11,2,(q:Int),[]⟩) (g1:Within E K (((pc+1:Nat):Int)::(pos:Int)::R) (some v)):Within E (K+1) ((pc:Int)::(pos:Int)::R) none:=by
 have hi:=ins_at E pc ((pos:Int)::R)
 rw [hc] at hi
 refine within_bar (by rw [hi]) g1 (fun u hu=>?_)
 rw [hi];rfl
theorem here_last (a:List Ins) (x:Ins):(a++[x]).getD a.length ins0=x:=by
 rw [List.getD_eq_getElem?_getD,List.getElem?_append_right (Nat.le_refl _)];simp
def cutRe (u v w:List UInt8):Re:=.cat (.sub 0 (.alt (wordRe u) (wordRe v))) (wordRe w)
theorem cutRe_len (u v w:List UInt8):(cutRe u v w).len=u.length+v.length+w.length+4:=by simp [cutRe,Re.len,wordRe_len];omega
def cutC (u v w:List UInt8):List Ins:=(cutRe u v w).code 0 0++[⟨13,0,0,[]⟩]
def cutAt (t:ByteArray) (u v w:List UInt8) (i:Nat):Option Nat :=
 if standsB t i u then (if standsB t (i+u.length) w then some (u.length+w.length) else none)
 else if standsB t i v then (if standsB t (i+v.length) w then some (v.length+w.length) else none) else none
def seeRe (s:Int) (u v:List UInt8):Re:=.cat (.sub s (wordRe u)) (wordRe v)
theorem seeRe_len (s:Int) (u v:List UInt8):(seeRe s u v).len=u.length+v.length+2:=by simp [seeRe,Re.len,wordRe_len];omega
def seeC (s:Int) (u v:List UInt8):List Ins:=(seeRe s u v).code 0 0++[⟨13,0,0,[]⟩]
def seeAt (t:ByteArray) (u v:List UInt8) (yes:Bool) (i:Nat):Option Nat :=
 if standsB t i u=yes then (if standsB t i v then some v.length else none) else none
section
variable {u v w:List UInt8}
theorem cut_here (hc:E.c=cutC u v w):E.c.getD 0 ins0=⟨11,0,((u.length+v.length+4:Nat):Int),[]⟩
  ∧ E.c.getD 1 ins0=⟨2,((2:Nat):Int),((u.length+3:Nat):Int),[]⟩∧Here E.c 2 (u.map fun c=>(⟨1,0,0,[c]⟩:Ins))∧E.c.getD (u.length+2) ins0=⟨3,((u.length+v.length+3:Nat):Int),0,[]⟩∧Here E.c (u.length+3) (v.map fun c=>(⟨1,0,0,[c]⟩:Ins))
  ∧ E.c.getD (u.length+v.length+3) ins0=⟨12,0,0,[]⟩∧Here E.c (u.length+v.length+4) (w.map fun c=>(⟨1,0,0,[c]⟩:Ins))∧E.c.getD (u.length+v.length+w.length+4) ins0=⟨13,0,0,[]⟩:=by
 have h:=here_self ((cutRe u v w).code 0 0) [⟨13,0,0,[]⟩]
 have h13:=here_last ((cutRe u v w).code 0 0) ⟨13,0,0,[]⟩
 rw [Re.code_len,cutRe_len] at h13
 change Here (cutC u v w) 0 ((cutRe u v w).code ((0:Nat):Int) 0) at h
 change (cutC u v w).getD _ ins0=_ at h13
 rw [← hc] at h h13
 obtain ⟨a,b⟩:=here_cat h
 obtain ⟨a1,a2,a3⟩:=here_sub a
 obtain ⟨b1,b2,b3,b4⟩:=here_alt a2
 have el:(Re.alt (wordRe u) (wordRe v)).len=u.length+v.length+2:=by simp [Re.len,wordRe_len]
 have es:(Re.sub 0 (Re.alt (wordRe u) (wordRe v))).len=u.length+v.length+4:=by rw [Re.len,el]
 rw [el] at a1 a3
 rw [wordRe_code] at b2 b4 b
 rw [es] at b
 simp only [wordRe_len] at b1 b3 b4
 refine ⟨?_,?_,b2,?_,?_,?_,?_,h13⟩
 ·rw [a1];simp only [Nat.zero_add]
 ·rw [b1,show 0+1+u.length+2=u.length+3 by omega]
 ·rw [show u.length+2=0+1+1+u.length by omega,b3,show 0+1+u.length+2+v.length=u.length+v.length+3 by omega]
 ·rw [show u.length+3=0+1+u.length+2 by omega];exact b4
 ·rw [show u.length+v.length+3=0+1+(u.length+v.length+2) by omega];exact a3
 ·rw [show u.length+v.length+4=0+(u.length+v.length+4) by omega];exact b
theorem cut_1 (hc:E.c=cutC u v w) (h1:standsB E.t pos u=true):Within E (u.length+3) (((1:Nat):Int)::(pos:Int)::R) (some (((u.length+v.length+3:Nat):Int)::((pos+u.length:Nat):Int)::R)):=by
 obtain ⟨c0,c1,c2,c3,c4,c5,c6,c7⟩:=cut_here hc
 have g:=w_stop (pos:=pos+u.length) (R:=R) c5 (.inr rfl)
 have g:=w_jump c3 g
 have g:=w_word u 2 pos c2 h1 (by rw [show 2+u.length=u.length+2 by omega];exact g)
 exact (w_left c1 g).mono (by omega)
theorem cut_2 (hc:E.c=cutC u v w) (h1:standsB E.t pos u=false) (h2:standsB E.t pos v=true):Within E (u.length+v.length+2) (((1:Nat):Int)::(pos:Int)::R) (some (((u.length+v.length+3:Nat):Int)::((pos+v.length:Nat):Int)::R)):=by
 obtain ⟨c0,c1,c2,c3,c4,c5,c6,c7⟩:=cut_here hc
 have g:=w_stop (pos:=pos+v.length) (R:=R) c5 (.inr rfl)
 have g:=w_word v (u.length+3) pos c4 h2 (by rw [show u.length+3+v.length=u.length+v.length+3 by omega];exact g)
 exact (w_right c1 (w_noword u 2 pos c2 h1) g).mono (by omega)
theorem cut_3 (hc:E.c=cutC u v w) (h1:standsB E.t pos u=false) (h2:standsB E.t pos v=false):Within E (u.length+v.length+1) (((1:Nat):Int)::(pos:Int)::R) none:=by
 obtain ⟨c0,c1,c2,c3,c4,c5,c6,c7⟩:=cut_here hc
 exact w_right c1 (w_noword u 2 pos c2 h1) (w_noword v (u.length+3) pos c4 h2)
theorem cut_w (hc:E.c=cutC u v w) (h:standsB E.t pos w=true):Within E (w.length+1) (((u.length+v.length+4:Nat):Int)::(pos:Int)::R) (some (((u.length+v.length+w.length+4:Nat):Int)::((pos+w.length:Nat):Int)::R)):=by
 obtain ⟨c0,c1,c2,c3,c4,c5,c6,c7⟩:=cut_here hc
 have g:=w_stop (pos:=pos+w.length) (R:=R) c7 (.inl rfl)
 exact (w_word w (u.length+v.length+4) pos c6 h (by rw [show u.length+v.length+4+w.length=u.length+v.length+w.length+4 by omega];exact g)).mono (by omega)
theorem cut_now (hc:E.c=cutC u v w) (h:standsB E.t pos w=false):Within E w.length (((u.length+v.length+4:Nat):Int)::(pos:Int)::R) none:=by
 obtain ⟨c0,c1,c2,c3,c4,c5,c6,c7⟩:=cut_here hc
 exact w_noword w (u.length+v.length+4) pos c6 h
theorem cut_run (hc:E.c=cutC u v w):(cutAt E.t u v w pos=none→Within E (u.length+v.length+w.length+5) (0::(pos:Int)::R) none)
  ∧ ∀ n,cutAt E.t u v w pos=some n→Within E (u.length+v.length+w.length+5) (0::(pos:Int)::R) (some (((u.length+v.length+w.length+4:Nat):Int)::((pos+n:Nat):Int)::R)):=by
 have c0:=(cut_here hc).1
 unfold cutAt
 cases h1:standsB E.t pos u
 ·cases h2:standsB E.t pos v
  ·refine ⟨fun _=>?_,fun n hn=>by simp at hn⟩
   exact (w_nokeep (pc:=0) (.inl rfl) c0 (cut_3 hc h1 h2)).mono (by omega)
  ·cases h3:standsB E.t (pos+v.length) w
   ·refine ⟨fun _=>?_,fun n hn=>by simp at hn⟩
    exact (w_keep (pc:=0) c0 (cut_2 hc h1 h2) (cut_now hc h3)).mono (by omega)
   ·refine ⟨fun hn=>by simp at hn,fun n hn=>?_⟩
    have:v.length+w.length=n:=by simpa using hn
    subst this
    have:=(w_keep (pc:=0) c0 (cut_2 (R:=R) hc h1 h2) (cut_w hc h3)).mono (show _≤u.length+v.length+w.length+5 by omega)
    rw [show pos+(v.length+w.length)=pos+v.length+w.length by omega];exact this
 ·cases h3:standsB E.t (pos+u.length) w
  ·refine ⟨fun _=>?_,fun n hn=>by simp at hn⟩
   exact (w_keep (pc:=0) c0 (cut_1 hc h1) (cut_now hc h3)).mono (by omega)
  ·refine ⟨fun hn=>by simp at hn,fun n hn=>?_⟩
   have:u.length+w.length=n:=by simpa using hn
   subst this
   have:=(w_keep (pc:=0) c0 (cut_1 (R:=R) hc h1) (cut_w hc h3)).mono (show _≤u.length+v.length+w.length+5 by omega)
   rw [show pos+(u.length+w.length)=pos+u.length+w.length by omega];exact this
theorem see_here {s:Int} (hc:E.c=seeC s u v):E.c.getD 0 ins0=⟨11,s,((u.length+2:Nat):Int),[]⟩∧Here E.c 1 (u.map fun c=>(⟨1,0,0,[c]⟩:Ins))∧E.c.getD (u.length+1) ins0=⟨12,0,0,[]⟩∧Here E.c (u.length+2) (v.map fun c=>(⟨1,0,0,[c]⟩:Ins))∧E.c.getD (u.length+v.length+2) ins0=⟨13,0,0,[]⟩:=by
 have h:=here_self ((seeRe s u v).code 0 0) [⟨13,0,0,[]⟩]
 have h13:=here_last ((seeRe s u v).code 0 0) ⟨13,0,0,[]⟩
 rw [Re.code_len,seeRe_len] at h13
 change Here (seeC s u v) 0 ((seeRe s u v).code ((0:Nat):Int) 0) at h
 change (seeC s u v).getD _ ins0=_ at h13
 rw [← hc] at h h13
 obtain ⟨a,b⟩:=here_cat h
 obtain ⟨a1,a2,a3⟩:=here_sub a
 have es:(Re.sub s (wordRe u)).len=u.length+2:=by rw [Re.len,wordRe_len]
 rw [wordRe_len] at a1 a3
 rw [wordRe_code] at a2 b
 rw [es] at b
 refine ⟨?_,a2,?_,?_,h13⟩
 ·rw [a1];simp only [Nat.zero_add]
 ·rw [show u.length+1=0+1+u.length by omega];exact a3
 ·rw [show u.length+2=0+(u.length+2) by omega];exact b
theorem see_run {s:Int} {yes:Bool} (hs:(s=1∧yes=true)∨(s=2∧yes=false)) (hc:E.c=seeC s u v):(seeAt E.t u v yes pos=none→Within E (u.length+v.length+4) (0::(pos:Int)::R) none)
  ∧ ∀ n,seeAt E.t u v yes pos=some n→Within E (u.length+v.length+4) (0::(pos:Int)::R) (some (((u.length+v.length+2:Nat):Int)::((pos+n:Nat):Int)::R)):=by
 obtain ⟨c0,c1,c2,c3,c4⟩:=see_here hc
 have y1:standsB E.t pos u=true→Within E (u.length+1) (((1:Nat):Int)::(pos:Int)::R) (some (((u.length+1:Nat):Int)::((pos+u.length:Nat):Int)::R)):=fun h1=>by
  have g:=w_stop (pos:=pos+u.length) (R:=R) c2 (.inr rfl)
  exact (w_word u 1 pos c1 h1 (by rw [show 1+u.length=u.length+1 by omega];exact g)).mono (by omega)
 have y0:standsB E.t pos u=false→Within E u.length (((1:Nat):Int)::(pos:Int)::R) none:=fun h1=>w_noword u 1 pos c1 h1
 have z1:standsB E.t pos v=true→Within E (v.length+1) (((u.length+2:Nat):Int)::(pos:Int)::R) (some (((u.length+v.length+2:Nat):Int)::((pos+v.length:Nat):Int)::R)):=fun h1=>by
  have g:=w_stop (pos:=pos+v.length) (R:=R) c4 (.inl rfl)
  exact (w_word v (u.length+2) pos c3 h1 (by rw [show u.length+2+v.length=u.length+v.length+2 by omega];exact g)).mono (by omega)
 have z0:standsB E.t pos v=false→Within E v.length (((u.length+2:Nat):Int)::(pos:Int)::R) none:=fun h1=>w_noword v (u.length+2) pos c3 h1
 unfold seeAt
 rcases hs with ⟨rfl,rfl⟩ | ⟨rfl,rfl⟩
 ·cases h1:standsB E.t pos u
  ·exact ⟨fun _=>(w_nokeep (pc:=0) (.inr rfl) c0 (y0 h1)).mono (by omega),fun n hn=>by simp at hn⟩
  ·cases h2:standsB E.t pos v
   ·exact ⟨fun _=>(w_see (pc:=0) c0 (y1 h1) (z0 h2)).mono (by omega),fun n hn=>by simp at hn⟩
   ·refine ⟨fun hn=>by simp at hn,fun n hn=>?_⟩
    have:v.length=n:=by simpa using hn
    subst this
    exact (w_see (pc:=0) c0 (y1 h1) (z1 h2)).mono (by omega)
 ·cases h1:standsB E.t pos u
  ·cases h2:standsB E.t pos v
   ·exact ⟨fun _=>(w_never (pc:=0) c0 (y0 h1) (z0 h2)).mono (by omega),fun n hn=>by simp at hn⟩
   ·refine ⟨fun hn=>by simp at hn,fun n hn=>?_⟩
    have:v.length=n:=by simpa using hn
    subst this
    exact (w_never (pc:=0) c0 (y0 h1) (z1 h2)).mono (by omega)
  ·exact ⟨fun _=>(w_nonever (pc:=0) c0 (y1 h1)).mono (by omega),fun n hn=>by simp at hn⟩
end
end Mt
