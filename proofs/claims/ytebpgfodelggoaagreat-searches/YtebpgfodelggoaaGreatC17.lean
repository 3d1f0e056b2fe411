import Derived.Test.YtebpgfodelggoaaGreatC16
import Derived.Test.YtebpgfodelggoaaGreatC08
import Derived.Test.YtebpgfodelggoaaGreatC13
import Derived.Test.YtebpgfodelggoaaGreatC15
import Derived.Test.YtebpgfodelggoaaGreatC12
import Derived.Deep.RegionHeld3
set_option linter.unusedVariables false
set_option linter.unusedSimpArgs false
set_option maxRecDepth 100000
set_option maxHeartbeats 2000000
namespace Mt
def zEk (t:Tok):Prop:=(1≤t.kind∧t.kind≤8)∧t.set.length≤256∧(t.kind=2→1≤t.n∧t.n≤9)∧(t.kind=6→0≤t.how∧t.how≤4)
 ∧ (t.kind=8→0≤t.n∧t.n≤20∧-1≤t.m∧t.m≤20∧0≤t.how∧t.how≤2)
theorem zJf (p:ByteArray) (a b:Int) (no:Bool):(all p a b no).length≤256:=by
 unfold all zA2
 rw [List.length_map]
 refine Nat.le_trans (List.length_filter_le _ _) ?_
 simp
theorem zJg (p:ByteArray) (i:Int) (h:(kK p i).2=0):zEk (kK p i).1:=by
 unfold kK at h ⊢
 split
 ·simp [zEk]
 split
 ·simp [zEk]
 split
 ·simp [zEk]
 split
 ·simp [zEk]
 split
 ·unfold escape
  split
  ·simp [zEk]
  split
  ·simp [zEk,zJf]
  split
  ·simp only [zEk];simp;omega
  ·simp [zEk]
 split
 ·rename_i a b c d e f
  rw [if_neg a,if_neg b,if_neg c,if_neg d,if_neg e,if_pos f] at h
  unfold jM at h ⊢
  split
  ·rename_i g;rw [if_pos g] at h;simp at h
  ·simp [zEk,zJf]
 split
 ·unfold opening
  repeat' split
  all_goals simp [zEk]
 split
 ·have m1:=zEH p (i+1)
  have m2:=zEH p (count p i).2.2.1
  have c1:=zJ3 p i
  unfold kI
  split
  ·simp only [zEk];simp;omega
  split
  ·simp only [zEk];simp;omega
  split
  ·split
   ·simp only [zEk];simp;omega
   ·simp [zEk]
  ·simp only [zEk];simp;omega
 split
 ·simp [zEk,zJf]
 ·simp [zEk]
def Valid (l:List Tok):Prop:=∀ k,k<l.length→may (l.take k) (l.getD k kX)=0∧zEk (l.getD k kX)∧(kR (l.getD k kX)=true→(l.getD k kX).n=captures (l.take k)+1)
theorem zBW (l:List Tok) (t:Tok):(joined l t).kind=t.kind∧(joined l t).how=t.how∧(joined l t).set=t.set∧(joined l t).m=t.m∧(kR t=false→joined l t=t)∧(kR t=true→(joined l t).n=captures l+1):=by
 unfold joined
 split <;> simp_all
theorem zK7 (l:List Tok) (t:Tok):may l (joined l t)=may l t:=by
 obtain ⟨h1,h2,_,_,h5,_⟩:=zBW l t
 by_cases hc:kR t=true
 ·have hk:t.kind=6:=by simp [kR] at hc;exact hc.1
  unfold may
  rw [h1,h2]
  rw [if_neg (by omega),if_neg (by omega)]
  rw [if_neg (show ¬ t.kind=2 by omega)]
 ·rw [h5 (by simpa using hc)]
theorem zDV {l:List Tok} {t:Tok} (h:Valid l) (hg:zEk t) (hm:may l t=0):Valid (l++[joined l t]):=by
 obtain ⟨h1,h2,h3,h4,h5,h6⟩:=zBW l t
 intro k hk
 rw [List.length_append] at hk
 by_cases hlt:k<l.length
 ·rw [List.take_append_of_le_length (by omega),List.getD_eq_getElem?_getD,List.getElem?_append_left hlt,← List.getD_eq_getElem?_getD]
  exact h k hlt
 ·have e:k=l.length:=by simp at hk;omega
  subst e
  rw [List.take_left',List.getD_eq_getElem?_getD,List.getElem?_append_right (Nat.le_refl _)]
  ·simp only [Nat.sub_self,List.getElem?_cons_zero,Option.getD_some]
   refine ⟨by rw [zK7];exact hm,?_,fun hc=>?_⟩
   ·by_cases hc:kR t=true
    ·have hk:t.kind=6:=by simp [kR] at hc;exact hc.1
     unfold zEk at *
     rw [h1,h2,h3,h4]
     omega
    ·rw [h5 (by simpa using hc)];exact hg
   ·refine h6 ?_
    unfold kR at *
    rw [h1,h2] at hc;exact hc
  ·rfl
theorem zH5 (p:ByteArray):∀ (f:Nat) (l:List Tok) (i:Int),0≤i→i≤p.size→(p.size:Int)-i<f→Valid l→(qD p l i).2.1=0→Valid (qD p l i).1:=by
 intro f
 induction f with
 | zero=>intro l i h0 h1 h2;omega
 | succ f ih =>
  intro l i h0 h1 h2 hl he
  rw [vF p l i h0 h1] at he ⊢
  split
  ·exact hl
  ·rename_i a
   rw [if_neg a] at he
   split
   ·rename_i b;rw [if_pos b] at he;exact absurd he b
   ·rename_i b
    rw [if_neg b] at he
    split
    ·rename_i c;rw [if_pos c] at he;exact absurd he c
    ·rename_i c
     rw [if_neg c] at he
     have ht:=zBL p i h0 (by omega) (by omega)
     exact ih _ _ (by omega) (by omega) (by omega) (zDV hl (zJg p i (by omega)) (by omega)) he
theorem zCp (p:ByteArray) (h:(tokens p).2.1=0):Valid (tokens p).1∧¬ 0<opened (tokens p).1:=by
 unfold tokens at h ⊢
 split
 ·rename_i a;rw [if_pos a] at h;simp at h
 ·rename_i a
  rw [if_neg a] at h
  split
  ·rename_i b;rw [if_pos b] at h;exact absurd h b
  ·rename_i b
   rw [if_neg b] at h
   split
   ·rename_i c;rw [if_pos c] at h;simp at h
   ·rename_i c
    refine ⟨?_,c⟩
    rw [vD p (by omega)]
    exact zH5 p (p.size+1) [] 0 (by omega) (by omega) (by omega) (fun k hk=>by simp at hk) (by rw [← vD p (by omega)];omega)
theorem zCq {l:List Tok} (h:Valid l):∀ k,k≤l.length→0≤opened (l.take k)∧opened (l.take k)≤10
 | 0,_=>by simp [opened]
 | k+1,hk=>by
  have ih:=zCq h k (by omega)
  have hm:=(h k (by omega)).1
  rw [zES l k (by omega)]
  unfold may at hm
  unfold delta
  by_cases h6:(l.getD k kX).kind=6
  ·rw [if_neg (by omega),if_neg (by omega),if_pos h6] at hm
   rw [if_pos h6]
   split at hm <;> omega
  ·rw [if_neg h6]
   by_cases h7:(l.getD k kX).kind=7
   ·rw [if_neg (by omega),if_neg (by omega),if_neg h6,if_pos h7] at hm
    rw [if_pos h7]
    split at hm <;> omega
   ·rw [if_neg h7];omega
theorem zJh (l:List Tok) (k:Nat):opened (l.take k)+opened (l.drop k)=opened l:=by
 rw [← qX,List.take_append_drop]
def zFX (t:Tok):Bool:=decide (t.kind=1∨t.kind=2∨t.kind=3∨t.kind=4∨t.kind=7)
def zDW:Bool→List Tok→Prop
 | _,[]=>True
 | b,t::s=>(t.kind=8→b=true)∧zDW (zFX t) s
theorem zH6 {l:List Tok} (h:Valid l):∀ (n k:Nat),k+n=l.length→zDW (yO (l.take k)) (l.drop k)
 | 0,k,e=>by rw [List.drop_eq_nil_of_le (by omega)];trivial
 | n+1,k,e=>by
  have hm:=(h k (by omega)).1
  rw [zDj l k (by omega)]
  refine ⟨fun h8=>?_,?_⟩
  ·unfold may at hm
   rw [if_neg (by omega),if_pos h8] at hm
   cases hx:yO (l.take k) with
   | true=>rfl
   | false=>rw [hx] at hm;simp at hm
  ·have:=zH6 h n (k+1) (by omega)
   rw [zER l k (by omega)] at this
   have e2:yO (l.take k++[l.getD k kX])=zFX (l.getD k kX):=by
    unfold yO zFX;simp
   rw [e2] at this;exact this
theorem zJi {b:Bool}:∀ {s:List Tok},zDW b s→(∀ t u,s=t::u→t.kind≠8)→zDW false s
 | [],_,_=>trivial
 | t::u,h,h2=>⟨fun h8=>absurd h8 (h2 t u rfl),h.2⟩
theorem zAa:∀ f:Fs,f.wf→opened f.flat=0
 | .nil,_=>rfl
 | .bar t r,h=>by
  have hd:delta t=0:=by have:=h.1;unfold delta;rw [if_neg (by omega),if_neg (by omega)]
  simp only [Fs.flat,opened];rw [hd,zAa r h.2];rfl
 | .leaf t r s,h=>by
  have hd:delta t=0:=by have:=h.1;unfold zBV at this;unfold delta;rw [if_neg (by omega),if_neg (by omega)]
  have hr:opened r.toList=0:=by
   cases r with
   | none=>rfl
   | some q=>have:=h.2.1 q rfl;simp only [Option.toList,opened];unfold delta;rw [if_neg (by omega),if_neg (by omega)];rfl
  simp only [Fs.flat,opened,qX];rw [hd,hr,zAa s h.2.2];rfl
 | .grp t i c r s,h=>by
  have hd:delta t=1:=by have:=h.1;unfold delta;rw [if_pos (by omega)]
  have hc:delta c=-1:=by have:=h.2.1;unfold delta;rw [if_neg (by omega),if_pos (by omega)]
  have hr:opened r.toList=0:=by
   cases r with
   | none=>rfl
   | some q=>have:=h.2.2.2.1 q rfl;simp only [Option.toList,opened];unfold delta;rw [if_neg (by omega),if_neg (by omega)];rfl
  simp only [Fs.flat,opened,qX];rw [hd,hc,hr,zAa i h.2.2.1,zAa s h.2.2.2.2];rfl
theorem parse:∀ (N:Nat) (s:List Tok),s.length≤N→(∀ t∈s,1≤t.kind∧t.kind≤8)→zDW false s→(∀ k,opened (s.drop k)≤0) →
  ∃ (f:Fs) (rest:List Tok),f.wf∧s=f.flat++rest∧(rest=[]∨∃ c u,rest=c::u∧c.kind=7)
 | N,[],_,_,_,_=>⟨.nil,[],trivial,rfl,.inl rfl⟩
 | 0,t::s,h,_,_,_=>by simp at h
 | N+1,t::s,hN,hk,hr,ho=>by
  have hks:∀ u∈s,1≤u.kind∧u.kind≤8:=fun u hu=>hk u (List.mem_cons_of_mem _ hu)
  have hos:∀ k,opened (s.drop k)≤0:=fun k=>ho (k+1)
  have ht:=hk t (List.mem_cons_self ..)
  have hNs:s.length≤N:=by simpa using hN
  have zGl:∀ v:List Tok,v.length≤N→(∀ u∈v,1≤u.kind∧u.kind≤8)→zDW true v→(∀ k,opened (v.drop k)≤0) →
    ∃ (r:Option Tok) (f:Fs) (rest:List Tok),zK5 r∧f.wf∧v=r.toList++(f.flat++rest)∧(rest=[]∨∃ c u,rest=c::u∧c.kind=7):=by
   intro v hv hkv hrv hov
   match v with
   | []=>exact ⟨none,.nil,[],fun q e=>(by cases e),trivial,rfl,.inl rfl⟩
   | q::w =>
    by_cases h8:q.kind=8
    ·have hrw:zDW false w:=by
      have:=hrv.2
      have e:zFX q=false:=by unfold zFX;simp;omega
      rwa [e] at this
     obtain ⟨f,rest,hw,e,hrest⟩:=parse N w (by simp at hv;omega) (fun u hu=>hkv u (List.mem_cons_of_mem _ hu)) hrw (fun k=>hov (k+1))
     exact ⟨some q,f,rest,fun q' e'=>(by cases e';exact h8),hw,by rw [e];rfl,hrest⟩
    ·obtain ⟨f,rest,hw,e,hrest⟩:=parse N (q::w) hv hkv (zJi hrv (fun t' u' e'=>by cases e';exact h8)) hov
     exact ⟨none,f,rest,fun q e=>(by cases e),hw,e,hrest⟩
  by_cases h7:t.kind=7
  ·exact ⟨.nil,t::s,trivial,rfl,.inr ⟨t,s,rfl,h7⟩⟩
  by_cases h5:t.kind=5
  ·have hrs:zDW false s:=by
    have:=hr.2
    have e:zFX t=false:=by unfold zFX;simp;omega
    rwa [e] at this
   obtain ⟨f,rest,hw,e,hrest⟩:=parse N s hNs hks hrs hos
   exact ⟨.bar t f,rest,⟨h5,hw⟩,by rw [e];rfl,hrest⟩
  by_cases h6:t.kind=6
  ·have hrs:zDW false s:=by
    have:=hr.2
    have e:zFX t=false:=by unfold zFX;simp;omega
    rwa [e] at this
   obtain ⟨i,rest,hw,e,hrest⟩:=parse N s hNs hks hrs hos
   have hd:delta t=1:=by unfold delta;rw [if_pos (by omega)]
   rcases hrest with rfl | ⟨c,u,rfl,hc⟩
   ·exfalso
    have h0:=ho 0
    simp only [List.drop_zero,opened] at h0
    rw [hd,e,List.append_nil,zAa i hw] at h0
    omega
   ·have hd1:∀ k,s.drop (i.flat.length+k)=(c::u).drop k:=fun k=>by rw [e,← List.drop_drop,List.drop_left]
    have hu:u=s.drop (i.flat.length+1):=by rw [hd1 1];rfl
    have hru:zDW true u:=by
     have key:∀ (x:List Tok) (b:Bool),zDW b (x++c::u)→zDW true u:=by
      intro x
      induction x with
      | nil =>
          intro b hb;have:=hb.2;have e7:zFX c=true:=by unfold zFX;simp;omega
          rwa [e7] at this
      | cons y ys ih=>intro b hb;exact ih _ hb.2
     have:=hrs
     rw [e] at this
     exact key _ _ this
    have hul:u.length+1+i.flat.length≤N:=by
     have:=hNs;rw [e] at this;simp at this;omega
    obtain ⟨r,f,rest,hr1,hf,hu1,hrest⟩:=zGl u (by omega) (fun x hx=>hks x (by rw [e];simp [hx])) hru (fun k=>by rw [hu,List.drop_drop];exact hos _)
    exact ⟨.grp t i c r f,rest,⟨h6,hc,hw,hr1,hf⟩,by rw [e,hu1];simp [Fs.flat],hrest⟩
  have h8:t.kind≠8:=fun h8=>by have:=hr.1 h8;simp at this
  have hrs:zDW true s:=by
   have:=hr.2
   have e:zFX t=true:=by unfold zFX;simp;omega
   rwa [e] at this
  obtain ⟨r,f,rest,hr1,hf,hu1,hrest⟩:=zGl s hNs hks hrs hos
  exact ⟨.leaf t r f,rest,⟨by unfold zBV;omega,hr1,hf⟩,by rw [hu1];simp [Fs.flat],hrest⟩
theorem zFf {l:List Tok} (h:Valid l) (ho:¬ 0<opened l):∃ f:Fs,f.wf∧l=f.flat:=by
 have hv:=zCq h
 have h0:=hv l.length (Nat.le_refl _)
 rw [List.take_length] at h0
 have hr:=zH6 h l.length 0 (by omega)
 simp only [List.take_zero,List.drop_zero] at hr
 obtain ⟨f,rest,hw,e,hrest⟩:=parse l.length l (Nat.le_refl _) (fun t ht=>by
  obtain ⟨k,hk,rfl⟩:=List.mem_iff_getElem.1 ht
  have:=(h k hk).2.1
  rw [List.getD_eq_getElem?_getD,List.getElem?_eq_getElem hk] at this
  exact this.1) hr (fun k=>by
  by_cases hk:k≤l.length
  ·have:=zJh l k
   have:=hv k hk
   omega
  ·rw [List.drop_eq_nil_of_le (by omega)];simp [opened])
 rcases hrest with rfl | ⟨c,u,rfl,hc⟩
 ·exact ⟨f,hw,by rw [e,List.append_nil]⟩
 ·exfalso
  have hlen:f.flat.length+1≤l.length:=by rw [e];simp
  have:=hv (f.flat.length+1) hlen
  have ht:l.take (f.flat.length+1)=f.flat++[c]:=by rw [e];rw [List.take_append,List.take_of_length_le (by omega)];simp
  rw [ht,qX,zAa f hw] at this
  simp only [opened] at this
  have hd:delta c=-1:=by unfold delta;rw [if_neg (by omega),if_pos (by omega)]
  rw [hd] at this
  omega
def Fs.dp:Fs→Nat
 | .nil=>0
 | .bar _ r=>r.dp
 | .leaf _ _ s=>s.dp
 | .grp _ i _ _ s=>max (i.dp+1) s.dp
theorem zMC:∀ (f:Fs),f.wf→∀ (n:Int),n≤10→(∀ k,k≤f.flat.length→n+opened (f.flat.take k)≤10)→n+f.dp≤10
 | .nil,_,n,hn,_=>by simp [Fs.dp];omega
 | .bar t r,h,n,hn,hk=>by
  have hd:delta t=0:=by have:=h.1;unfold delta;rw [if_neg (by omega),if_neg (by omega)]
  refine zMC r h.2 n hn (fun k hkl=>?_)
  have:=hk (k+1) (by simp [Fs.flat];omega)
  simp only [Fs.flat,List.take_succ_cons,opened,hd] at this
  omega
 | .leaf t r s,h,n,hn,hk=>by
  have hd:delta t=0:=by have:=h.1;unfold zBV at this;unfold delta;rw [if_neg (by omega),if_neg (by omega)]
  have hr:opened r.toList=0:=by
   cases r with
   | none=>rfl
   | some q=>have:=h.2.1 q rfl;simp only [Option.toList,opened];unfold delta;rw [if_neg (by omega),if_neg (by omega)];rfl
  refine zMC s h.2.2 n hn (fun k hkl=>?_)
  have:=hk (r.toList.length+k+1) (by simp [Fs.flat];omega)
  simp only [Fs.flat,List.take_succ_cons,opened,hd] at this
  rw [List.take_append,List.take_of_length_le (by omega),qX,hr,show r.toList.length+k-r.toList.length=k by omega] at this
  omega
 | .grp t i c r s,h,n,hn,hk=>by
  have hd:delta t=1:=by have:=h.1;unfold delta;rw [if_pos (by omega)]
  have hc:delta c=-1:=by have:=h.2.1;unfold delta;rw [if_neg (by omega),if_pos (by omega)]
  have hr:opened r.toList=0:=by
   cases r with
   | none=>rfl
   | some q=>have:=h.2.2.2.1 q rfl;simp only [Option.toList,opened];unfold delta;rw [if_neg (by omega),if_neg (by omega)];rfl
  have hi:=zAa i h.2.2.1
  have h1:n+1+i.dp≤10:=by
   have h00:=hk 1 (by simp [Fs.flat])
   simp only [Fs.flat,List.take_succ_cons,List.take_zero,opened,hd] at h00
   refine zMC i h.2.2.1 (n+1) (by omega) (fun k hkl=>?_)
   have:=hk (k+1) (by simp [Fs.flat];omega)
   simp only [Fs.flat,List.take_succ_cons,opened,hd] at this
   rw [List.take_append_of_le_length hkl] at this
   omega
  have h2:n+s.dp≤10:=by
   refine zMC s h.2.2.2.2 n hn (fun k hkl=>?_)
   have:=hk (i.flat.length+(r.toList.length+k+1)+1) (by simp [Fs.flat];omega)
   simp only [Fs.flat,List.take_succ_cons,opened,hd] at this
   rw [List.take_append,List.take_of_length_le (by omega),qX,hi,show i.flat.length+(r.toList.length+k+1)-i.flat.length=r.toList.length+k+1 by omega,List.take_succ_cons,opened,hc,
    List.take_append,List.take_of_length_le (by omega),qX,hr,show r.toList.length+k-r.toList.length=k by omega] at this
   omega
  simp only [Fs.dp]
  omega
def Re.fine:Re→Prop
 | .eps=>True
 | .one s=>s.length≤256
 | .back k=>1≤k∧k≤9
 | .head=>True
 | .tail=>True
 | .cat a b=>a.fine∧b.fine
 | .alt a b=>a.fine∧b.fine
 | .cap k a=>(1≤k∧k≤9)∧a.fine
 | .sub s a=>(0≤s∧s≤2)∧a.fine
 | .opt _ a=>a.fine
 | .loop _ a=>a.fine
def Re.deep:Re→Nat
 | .eps=>0
 | .one _=>0
 | .back _=>0
 | .head=>0
 | .tail=>0
 | .cat a b=>max a.deep b.deep
 | .alt a b=>max a.deep b.deep
 | .cap _ a=>a.deep
 | .sub _ a=>a.deep
 | .opt _ a=>a.deep
 | .loop _ a=>a.deep+1
theorem zFg {x:Re} (h:x.fine):∀ n,(kH x n).fine∧(kH x n).deep≤x.deep
 | 0=>⟨trivial,Nat.zero_le _⟩
 | n+1=>by have:=zFg h n;exact ⟨⟨h,this.1⟩,by simp only [kH,Re.deep];omega⟩
theorem zH7 {x:Re} (late:Bool) (h:x.fine):∀ n,(zBD x late n).fine∧(zBD x late n).deep≤x.deep
 | 0=>⟨trivial,Nat.zero_le _⟩
 | n+1=>by have:=zH7 late h n;exact ⟨⟨h,this.1⟩,by simp only [zBD,Re.deep];omega⟩
theorem zMD {x:Re} (h:x.fine) (r:Tok):(zHt x r).fine∧(zHt x r).deep≤x.deep+1:=by
 unfold zHt
 dsimp only
 have t:=zFg h r.n.toNat
 have o:=zH7 (decide (r.how=1)) h (r.m-r.n).toNat
 have c1:(if 0<r.n∨0<r.m then (if r.n<r.m then Re.cat (kH x r.n.toNat) (zBD x (decide (r.how=1)) (r.m-r.n).toNat) else kH x r.n.toNat) else Re.eps).fine∧(if 0<r.n∨0<r.m then (if r.n<r.m then Re.cat (kH x r.n.toNat) (zBD x (decide (r.how=1)) (r.m-r.n).toNat) else kH x r.n.toNat) else Re.eps).deep≤x.deep:=by
  split
  ·split
   ·exact ⟨⟨t.1,o.1⟩,by simp only [Re.deep];omega⟩
   ·exact t
  ·exact ⟨trivial,Nat.zero_le _⟩
 generalize (if 0<r.n∨0<r.m then (if r.n<r.m then Re.cat (kH x r.n.toNat) (zBD x (decide (r.how=1)) (r.m-r.n).toNat) else kH x r.n.toNat) else Re.eps)=z at *
 have c2:(if r.m<0 then Re.cat z (.loop (decide (r.how=1)) x) else z).fine∧(if r.m<0 then Re.cat z (.loop (decide (r.how=1)) x) else z).deep≤x.deep+1:=by
  split
  ·exact ⟨⟨c1.1,h⟩,by simp only [Re.deep];omega⟩
  ·exact ⟨c1.1,by omega⟩
 generalize (if r.m<0 then Re.cat z (.loop (decide (r.how=1)) x) else z)=z2 at *
 split
 ·exact ⟨⟨by omega,c2.1⟩,c2.2⟩
 ·exact c2
theorem zH8 {x:Re} (h:x.fine) (r:Option Tok):(part r x).fine∧(part r x).deep≤x.deep+1:=by
 cases r with
 | none=>exact ⟨h,Nat.le_succ _⟩
 | some q=>exact zMD h q
def zRx (t:Tok):Prop:=t.set.length≤256∧(t.kind=2→1≤t.n∧t.n≤9)∧(t.kind=6→0≤t.how∧t.how≤4)∧(t.kind=6→t.how=4→1≤t.n∧t.n≤9)
theorem zC9 (b:Re × Option Re) (h1:b.1.fine) (h2:∀ a,b.2=some a→a.fine):(zDq b).fine:=by
 obtain ⟨x,y⟩:=b
 cases y with
 | none=>exact h1
 | some a=>exact ⟨h1,h2 a rfl⟩
theorem zDa (b:Re × Option Re) (n:Nat) (h1:b.1.deep≤n) (h2:∀ a,b.2=some a→a.deep≤n):(zDq b).deep≤n:=by
 obtain ⟨x,y⟩:=b
 cases y with
 | none=>exact h1
 | some a=>have:=h2 a rfl;simp only [zDq,Re.deep] at *;omega
theorem zCr:∀ (f:Fs),f.wf→(∀ t∈f.flat,zRx t)→(f.both.1.fine∧∀ a,f.both.2=some a→a.fine)∧(f.both.1.deep≤f.dp+1∧∀ a,f.both.2=some a→a.deep≤f.dp+1)
 | .nil,_,_=>⟨⟨trivial,fun a e=>(by cases e)⟩,Nat.zero_le _,fun a e=>(by cases e)⟩
 | .bar t r,h,ht=>by
  have ih:=zCr r h.2 (fun u hu=>ht u (by simp [Fs.flat,hu]))
  refine ⟨⟨trivial,fun a e=>?_⟩,Nat.zero_le _,fun a e=>?_⟩
  ·simp only [Fs.both,Option.some.injEq] at e;subst e;exact zC9 _ ih.1.1 ih.1.2
  ·simp only [Fs.both,Option.some.injEq] at e;subst e;exact zDa _ _ ih.2.1 ih.2.2
 | .leaf t r s,h,ht=>by
  have ih:=zCr s h.2.2 (fun u hu=>ht u (by simp [Fs.flat,hu]))
  have hl:(xM t).fine∧(xM t).deep=0:=by
   have hf:=ht t (by simp [Fs.flat])
   unfold zRx at hf
   unfold xM
   split
   ·exact ⟨hf.1,rfl⟩
   split
   ·rename_i h2;exact ⟨hf.2.1 h2,rfl⟩
   split
   ·exact ⟨trivial,rfl⟩
   ·exact ⟨trivial,rfl⟩
  have hp:=zH8 hl.1 r
  exact ⟨⟨⟨hp.1,ih.1.1⟩,ih.1.2⟩,by simp only [Fs.both,Re.deep,Fs.dp];have:=ih.2.1;omega,ih.2.2⟩
 | .grp t i c r s,h,ht=>by
  have ii:=zCr i h.2.2.1 (fun u hu=>ht u (by simp [Fs.flat,hu]))
  have is:=zCr s h.2.2.2.2 (fun u hu=>ht u (by simp [Fs.flat,hu]))
  have hf:=ht t (by simp [Fs.flat])
  unfold zRx at hf
  have j1:=zC9 _ ii.1.1 ii.1.2
  have j2:=zDa _ _ ii.2.1 ii.2.2
  have hg:(zBE t (zDq i.both)).fine∧(zBE t (zDq i.both)).deep≤i.dp+1:=by
   have h6:=hf.2.2.1 h.1
   unfold zBE
   split
   ·exact ⟨j1,j2⟩
   split
   ·rename_i h4;exact ⟨⟨hf.2.2.2 h.1 h4,j1⟩,j2⟩
   ·exact ⟨⟨by omega,j1⟩,j2⟩
  have hp:=zH8 hg.1 r
  refine ⟨⟨⟨hp.1,is.1.1⟩,is.1.2⟩,?_,fun a e=>?_⟩
  ·simp only [Fs.both,Re.deep,Fs.dp];have:=is.2.1;omega
  ·have:=is.2.2 a e;simp only [Fs.dp];omega
theorem zQk (f:Fs) (hw:f.wf) (ht:∀ t∈f.flat,zRx t):f.re.fine∧f.re.deep≤f.dp+1:=by
 have:=zCr f hw ht
 exact ⟨zC9 _ this.1.1 this.1.2,zDa _ _ this.2.1 this.2.2⟩
def zA1 (L:Nat) (x:Ins):Prop :=
 (x.op=2→0≤x.x∧x.x<L∧0≤x.y∧x.y<L)∧(x.op=3→0≤x.x∧x.x<L)∧(x.op=4→0≤x.x∧x.x<12)∧(x.op=5→0≤x.x∧x.x<L∧0≤x.y∧x.y<12)
 ∧ (x.op=6∨x.op=7∨x.op=8→0≤x.x∧x.x<10)∧(x.op=11→0≤x.y∧x.y<L∧0≤x.x∧x.x≤2)∧x.op≠13∧x.set.length≤256
theorem zPK {L:Nat} (x y:Int) (late:Bool) (h:0≤x∧x<L∧0≤y∧y<L):zA1 L (spl x y late):=by
 unfold spl zA1
 cases late <;> simp <;> omega
theorem zBX (L:Nat):∀ (r:Re) (p d:Int),r.fine→0≤p→p+r.len<L→0≤d→d+r.deep≤12→∀ x∈r.code p d,zA1 L x
 | .eps,p,d,_,_,_,_,_,x,hx=>by simp [Re.code] at hx
 | .one s,p,d,hf,_,_,_,_,x,hx=>by simp [Re.code] at hx;subst hx;simp only [zA1,Re.fine] at *;simp;omega
 | .back k,p,d,hf,_,_,_,_,x,hx=>by simp [Re.code] at hx;subst hx;simp only [zA1,Re.fine] at *;simp;omega
 | .head,p,d,hf,_,_,_,_,x,hx=>by simp [Re.code] at hx;subst hx;simp [zA1]
 | .tail,p,d,hf,_,_,_,_,x,hx=>by simp [Re.code] at hx;subst hx;simp [zA1]
 | .cat a b,p,d,hf,hp,hl,hd,hdd,x,hx=>by
  simp only [Re.len,Re.deep,Re.fine,Re.code,List.mem_append] at *
  rcases hx with hx | hx
  ·exact zBX L a p d hf.1 hp (by omega) hd (by omega) x hx
  ·exact zBX L b _ d hf.2 (by omega) (by omega) hd (by omega) x hx
 | .alt a b,p,d,hf,hp,hl,hd,hdd,x,hx=>by
  simp only [Re.len,Re.deep,Re.fine,Re.code,List.mem_append,List.mem_cons] at *
  rcases hx with rfl | hx | rfl | hx
  ·simp only [zA1];simp;omega
  ·exact zBX L a _ d hf.1 (by omega) (by omega) hd (by omega) x hx
  ·simp only [zA1];simp;omega
  ·exact zBX L b _ d hf.2 (by omega) (by omega) hd (by omega) x hx
 | .cap k a,p,d,hf,hp,hl,hd,hdd,x,hx=>by
  simp only [Re.len,Re.deep,Re.fine,Re.code,List.mem_append,List.mem_cons,List.not_mem_nil,or_false] at *
  rcases hx with rfl | hx | rfl
  ·simp only [zA1];simp;omega
  ·exact zBX L a _ d hf.2 (by omega) (by omega) hd (by omega) x hx
  ·simp only [zA1];simp;omega
 | .sub s a,p,d,hf,hp,hl,hd,hdd,x,hx=>by
  simp only [Re.len,Re.deep,Re.fine,Re.code,List.mem_append,List.mem_cons,List.not_mem_nil,or_false] at *
  rcases hx with rfl | hx | rfl
  ·simp only [zA1];simp;omega
  ·exact zBX L a _ d hf.2 (by omega) (by omega) hd (by omega) x hx
  ·simp [zA1]
 | .opt late a,p,d,hf,hp,hl,hd,hdd,x,hx=>by
  simp only [Re.len,Re.deep,Re.fine,Re.code,List.mem_cons] at *
  rcases hx with rfl | hx
  ·exact zPK _ _ _ (by omega)
  ·exact zBX L a _ d hf (by omega) (by omega) hd (by omega) x hx
 | .loop late a,p,d,hf,hp,hl,hd,hdd,x,hx=>by
  simp only [Re.len,Re.deep,Re.fine,Re.code,List.mem_append,List.mem_cons,List.not_mem_nil,or_false] at *
  rcases hx with rfl | rfl | hx | rfl
  ·exact zPK _ _ _ (by omega)
  ·simp only [zA1];simp;omega
  ·exact zBX L a _ (d+1) hf (by omega) (by omega) (by omega) (by omega) x hx
  ·simp only [zA1];simp;omega
theorem zK8 {l:List Tok} (h:Valid l):∀ t∈l,zRx t:=by
 intro t ht
 obtain ⟨k,hk,rfl⟩:=List.mem_iff_getElem.1 ht
 have hv:=h k hk
 rw [List.getD_eq_getElem?_getD,List.getElem?_eq_getElem hk] at hv
 simp only [Option.getD_some] at hv
 obtain ⟨h1,⟨g1,g2,g3,g4,g5⟩,h3⟩:=hv
 refine ⟨g2,g3,g4,fun h6 h4=>?_⟩
 have hn:=h3 (by simp [kR,h6,h4])
 have:=xY (l.take k)
 unfold may at h1
 rw [if_neg (by omega),if_neg (by omega),if_pos h6] at h1
 by_cases ho:10≤opened (l.take k)
 ·rw [if_pos ho] at h1;omega
 ·rw [if_neg ho] at h1
  by_cases hc:l[k].how=4∧9≤captures (l.take k)
  ·rw [if_pos hc] at h1;omega
  ·have:¬ 9≤captures (l.take k):=fun h9=>hc ⟨h4,h9⟩
   omega
theorem zBn (p:ByteArray) (h:(jS p).1=0):∃ f:Fs,f.wf∧(tokens p).1=f.flat∧f.re.fine∧f.re.deep≤11∧f.re.len+1≤300∧(kQ p).1=f.re.code 0 0++[⟨13,0,0,[]⟩]∧(kQ p).2=0:=by
 have ht:(tokens p).2.1=0:=by
  unfold jS at h
  by_cases h0:(tokens p).2.1=0
  ·exact h0
  ·rw [if_pos h0] at h;exact h
 have hv:=zCp p ht
 obtain ⟨f,hw,e⟩:=zFf hv.1 hv.2
 have hsm:=(zAf p).2
 have hl:=zGd p h
 have ht2:=zFc f hw (by rw [← e];exact hsm)
 have hc:=zGj (tokens p).1 hl
 rw [e,ht2] at hc
 have hfi:=zQk f hw (by rw [← e];exact zK8 hv.1)
 have hdp:=zMC f hw 0 (by omega) (fun k hk=>by
  have:=zCq hv.1 k (by rw [e];exact hk)
  rw [e] at this;omega)
 refine ⟨f,hw,e,hfi.1,by omega,hc.2,?_,?_⟩
 ·unfold kQ
  rw [if_neg (by omega),e,hc.1]
 ·unfold kQ
  rw [if_neg (by omega)]
theorem zFh (r:Re) (hf:r.fine) (hd:r.deep≤11):codeOk (r.code 0 0++[⟨13,0,0,[]⟩]):=by
 intro q hq
 have hl:(r.code 0 0++[(⟨13,0,0,[]⟩:Ins)]).length=r.len+1:=by rw [List.length_append,Re.zH];rfl
 rw [hl] at hq
 by_cases hlt:q<r.len
 ·have hm:(r.code 0 0++[(⟨13,0,0,[]⟩:Ins)]).getD q jA∈r.code 0 0:=by
   rw [List.getD_eq_getElem?_getD,List.getElem?_append_left (by rw [Re.zH];exact hlt),List.getElem?_eq_getElem (by rw [Re.zH];exact hlt)]
   exact List.getElem_mem _
  have:=zBX (r.len+1) r 0 0 hf (by omega) (by omega) (by omega) (by omega) _ hm
  unfold zA1 at this
  unfold zK1
  rw [hl]
  obtain ⟨a,b,c,d,e,f,g,i⟩:=this
  exact ⟨a,b,c,d,e,f,fun _=>by omega,i⟩
 ·have e:q=r.len:=by omega
  subst e
  rw [List.getD_eq_getElem?_getD,List.getElem?_append_right (by rw [Re.zH];exact Nat.le_refl _),Re.zH,Nat.sub_self]
  simp [zK1]
theorem zH9 (c:List Ins) (x:Ins) (h:x.op≠5):kU (c++[x]) c.length=0:=by
 unfold kU zAE
 rw [List.drop_left]
 simp [yU,h]
structure Fnd where
 ok:Bool
 at':List Int
 steps:Int
def nowhere:List Int:=List.replicate 20 (-1)
def yV:Fnd:=⟨false,List.replicate 20 0,0⟩
def kJ (p:Int):Sta:=0::p::(nowhere++List.replicate 22 0)
theorem zBY (p:Int):(kJ p).length=44:=by simp [kJ,nowhere]
theorem zBo (L T:Nat) (p:Nat) (hL:0<L) (hp:p≤T):Good L T (kJ p):=by
 have e0:gt (kJ p) 0=0:=rfl
 have e1:gt (kJ p) 1=p:=rfl
 refine ⟨zBY _,by omega,by omega,by omega,by omega,fun k hk=>?_,fun k hk=>?_⟩
 ·left
  have:gt (kJ p) (2+2*k)=-1:=by
   unfold gt kJ nowhere
   rw [List.getD_eq_getElem?_getD,show 2+2*k=(2*k)+1+1 by omega,List.getElem?_cons_succ,List.getElem?_cons_succ,List.getElem?_append_left (by simp;omega),List.getElem?_replicate,if_pos (by omega)];rfl
  omega
 ·have:gt (kJ p) (22+k)=0:=by
   unfold gt kJ nowhere
   rw [List.getD_eq_getElem?_getD,show 22+k=(20+k)+1+1 by omega,List.getElem?_cons_succ,List.getElem?_cons_succ,List.getElem?_append_right (by simp),List.getElem?_replicate,if_pos (by simp;omega)];rfl
  omega
def foundAt (p:Int) (r:Sta):List Int:=p::gt r 1::(r.drop 4).take 18
theorem zFi (p:Int) (r:Sta) (h:r.length=44):(foundAt p r).length=20:=by simp [foundAt,h]
def search (E:Env) (budget:Int):Nat→Nat→Nat→List Bool→Int→Fnd × Bool
 | 0,_,n,_,_=>(⟨false,nowhere,budget-n⟩,false)
 | f+1,p,n,kn,room =>
  if (look E n (kJ p) kn room).over then (yV,true)
  else if (look E n (kJ p) kn room).ok then (⟨true,foundAt p (look E n (kJ p) kn room).st,budget-(look E n (kJ p) kn room).n⟩,false)
  else search E budget f (p+1) (look E n (kJ p) kn room).n (look E n (kJ p) kn room).kn (look E n (kJ p) kn room).room
def zFj (c:List Ins) (text:ByteArray) (policy mask:Int):Env:=⟨c,text,chosen c policy mask,(List.range c.length).map fun p=>(kU c p:Int)⟩
def vW (c:List Ins) (text:ByteArray) (policy mask room budget:Int) (frm:Nat):Fnd × Bool :=
 search (zFj c text policy mask) budget (text.size+1-frm) frm budget.toNat (List.replicate (c.length*(text.size+1)*12) false) room
def zAu (T:Nat) (frm policy mask room budget:Int):Int :=
 if 60<T then 1
 else if kF policy mask=true∧0≤frm∧frm≤T∧0≤room∧room≤5000∧0≤budget∧budget≤10000 then 0 else 13
def zBc (p text:ByteArray) (frm policy mask room budget:Int):Fnd × Int :=
 if (kQ p).2≠0 then (yV,(kQ p).2)
 else if zAu text.size frm policy mask room budget≠0 then (yV,zAu text.size frm policy mask room budget)
 else if (vW (kQ p).1 text policy mask room budget frm.toNat).2 then (yV,14)
 else ((vW (kQ p).1 text policy mask room budget frm.toNat).1,0)
end Mt
namespace Go.Proofs.YtebpgfodelggoaaGreat
open Go.RowKit
def fdA (f:Mt.Fnd):Array Value:=(Value.bool f.ok::(f.at'.map (Value.int .i64)++[Value.int .i64 f.steps])).toArray
def fdV (f:Mt.Fnd):Value:=.agg (fdA f)
theorem zV (f:Mt.Fnd) (h:f.at'.length=20):(fdA f).size=22:=by simp [fdA,h]
theorem zQl {l:List Int} (h:l.length=20):∃ a0 a1 a2 a3 a4 a5 a6 a7 a8 a9 a10 a11 a12 a13 a14 a15 a16 a17 a18 a19,l=[a0,a1,a2,a3,a4,a5,a6,a7,a8,a9,a10,a11,a12,a13,a14,a15,a16,a17,a18,a19]:=by
 match l,h with
 | [a0,a1,a2,a3,a4,a5,a6,a7,a8,a9,a10,a11,a12,a13,a14,a15,a16,a17,a18,a19],_=>exact ⟨a0,a1,a2,a3,a4,a5,a6,a7,a8,a9,a10,a11,a12,a13,a14,a15,a16,a17,a18,a19,rfl⟩
theorem zOD (l:List Int) (h:l.length=20) (b:Bool) (u:Int) (w:World):(Instr.build 29 #[(0,.bool b),(1,.agg (l.map (Value.int .i64)).toArray),(2,.int .i64 u)]).run Tryz.prog w=.ok (fdV ⟨b,l,u⟩) w:=by
 obtain ⟨a0,a1,a2,a3,a4,a5,a6,a7,a8,a9,a10,a11,a12,a13,a14,a15,a16,a17,a18,a19,rfl⟩:=zQl h
 unfold fdV fdA
 simp only [List.map_cons,List.map_nil,List.cons_append,List.nil_append]
 kernel_rfl
theorem zME (l:List Int) (h:l.length=20) (u:Int) (w:World):(Instr.build 29 #[(1,.agg (l.map (Value.int .i64)).toArray),(2,.int .i64 u)]).run Tryz.prog w=.ok (fdV ⟨false,l,u⟩) w:=by
 obtain ⟨a0,a1,a2,a3,a4,a5,a6,a7,a8,a9,a10,a11,a12,a13,a14,a15,a16,a17,a18,a19,rfl⟩:=zQl h
 unfold fdV fdA
 simp only [List.map_cons,List.map_nil,List.cons_append,List.nil_append]
 kernel_rfl
theorem zIa {P:Program} {op:Oper} {r:Operand→Value} {t:TypeId} {parts:Array (Nat × Operand)} (hop:op.op=.build t parts) {z:World} {u:Value} (h:(Instr.build t (parts.map fun q=>(q.1,r q.2))).run P z=.ok u z):(execOp r op).run P z=.ok (.value u) z:=by
 unfold execOp
 simp only [hop]
 simp only [Sem.run_bind,h,Result.andThen_ok,Sem.run_pure]
theorem zJj {P:Program} {md:Region.Mode} {ops:Array Oper} {Q:Exit→Act→World→Prop} {S:World→Prop} (i:Nat) (oi:Oper) {fuel:Nat} {listed:Array Bool} {a:Act} {w:World} (hi:ops[i]?=some oi) (hgd:oi.guard=none) (hr:Region.ready md ops listed=[i]) (hr2:Region.ready md ops (listed.setIfInBounds i true)=[])
  (h:Oper.wp P oi a w (fun a' w'=>S w'∧Q .normal a' w') Q):wpAnyH P md ops Q S (fuel+1) listed a w:=by
 refine ⟨fun h0=>(by rw [hr] at h0;cases h0),fun j hj=>?_⟩
 rw [hr] at hj
 simp only [List.mem_singleton] at hj
 subst hj
 refine wpOp_mono (K:=fun a' w'=>S w'∧Q .normal a' w') (fun a' w' (h':S w'∧Q .normal a' w')=>⟨h'.1,wpAnyH_done hr2 h'.2 _⟩) ?_
 have hw:Region.wanted oi (yielded ops a.tmps)=true:=by simp [Region.wanted,hgd]
 unfold wpOp
 simp only [hi,hw,if_true]
 exact .inl h
theorem zBG {P:Program} {md:Region.Mode} {ops:Array Oper} {Q:Exit→Act→World→Prop} {S:World→Prop} (i:Nat) (oi:Oper) {fuel:Nat} {listed:Array Bool} {a:Act} {w:World} (hi:ops[i]?=some oi) (hgd:oi.guard=none) (hr:Region.ready md ops listed=[i]) (hr2:Region.ready md ops (listed.setIfInBounds i true)=[])
  (ty:TypeId) (x y:Operand) (ho:oi.op=.store ty x y) (b o:Nat) (cells:Array Value) (hx:a.eval x=.pointer (some ⟨b,o,none⟩)) (hy:a.eval y=.agg cells) (ht:w.there b o cells.size) (hz:(P.info? ty).map (·.size)=some cells.size) (h1:cells.all (·.oneCell')=true)
  (hdn:oi.dst=none) (h:S (w.setCells b o cells.toList)∧Q .normal a (w.setCells b o cells.toList)):wpAnyH P md ops Q S (fuel+1) listed a w :=
 zJj i oi hi hgd hr hr2 (wp_store_mid ty x y ho b o cells hx hy ht hz h1 (by rw [hdn];exact h))
theorem take_at {P:Program} {md:Region.Mode} {ops:Array Oper} {Q:Exit→Act→World→Prop} {S:World→Prop} (i d:Nat) (v:Value) {oi:Oper} {fuel:Nat} {listed:Array Bool} {a:Act} {w:World} (hi:ops[i]?=some oi) (hd:oi.dst=some d)
  (hs:Region.noSelect ops=true) (hf:Region.free md ops listed i=true) (hr:(Region.ready md ops listed).contains i=true)
  (hQ:∀ c a w,Q (.panic c) (a.put (some d) v) w→Q (.panic c) a w) (hy:YieldsIf P ops S oi v a) (hS:S w)
  (h:wpAnyH P md ops Q S fuel (listed.setIfInBounds i true) (a.put (some d) v) w):wpAnyH P md ops Q S (fuel+1) listed a w :=
 wpAnyH_take hi hs hf hr (by rw [hd];exact hQ) hy hS (by rw [hd];exact h)
theorem zJk {z w:World} (p:Addr) (h:z.heap[p.block]?=w.heap[p.block]?):z.cell? p=w.cell? p:=by unfold World.cell?;rw [h]
theorem zOE {w:World} {b:Nat} {s:List Int} {t:TypeId} (h:w.heap[b]?=some (.cells (s.map (Value.int .i64)).toArray t (0,0))) (hs:s.length=44):w.rangeAt b 2 (((s.drop 2).take 20).map (Value.int .i64)):=fun j v hv=>by
 rw [(zA h).1]
 rw [List.getElem?_map] at hv
 by_cases hj:j<20
 ·rw [List.getElem?_take_of_lt hj,List.getElem?_drop] at hv
  simp [← hv]
 ·rw [List.getElem?_eq_none (by simp;omega)] at hv;simp at hv
end Go.Proofs.YtebpgfodelggoaaGreat
