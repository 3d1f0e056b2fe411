import Derived.Test.YtebpgfodelggoaaC16
import Derived.Test.YtebpgfodelggoaaC20
import Derived.Test.YtebpgfodelggoaaC13
set_option linter.unusedVariables false
set_option linter.unusedSimpArgs false
namespace Mt
variable {E:Env} {s u:Sta} {r:Option Sta} {k k1 k2:Nat}
def Gives (E:Env) (s:Sta) (r:Option Sta) (k:Nat):Prop :=
 ∃ u,(∀ v,r=some v→u=v)∧∀ m,look E (m+k) s [] 0=⟨u,r.isSome,m,[],0,false⟩
theorem gives_stop (h:(E.ins s).op=13∨(E.ins s).op=12):Gives E s (some s) 1:=by
 obtain ⟨d,k,r⟩:=idle_nil E s
 refine ⟨s,fun v e=>by injection e,fun m=>?_⟩
 rw [look_f d h,k,r];rfl
theorem gives_one (h2:(E.ins s).op≠2) (h11:(E.ins s).op≠11) (h12:(E.ins s).op≠12) (h13:(E.ins s).op≠13) (hk:(oneP E.t s (E.ins s)).2=true) (g:Gives E (oneP E.t s (E.ins s)).1 r k):Gives E s r (k+1):=by
 obtain ⟨d,kk,rr⟩:=idle_nil E s
 obtain ⟨u,hu,g⟩:=g
 refine ⟨u,hu,fun m=>?_⟩
 rw [show m+(k+1)=(m+k)+1 from rfl,look_1 d h2 h11 h12 h13,if_pos hk,kk,rr,g]
theorem gives_not (h2:(E.ins s).op≠2) (h11:(E.ins s).op≠11) (h12:(E.ins s).op≠12) (h13:(E.ins s).op≠13) (hk:(oneP E.t s (E.ins s)).2=false):Gives E s none 1:=by
 obtain ⟨d,kk,rr⟩:=idle_nil E s
 refine ⟨(oneP E.t s (E.ins s)).1,fun v e=>(by simp at e),fun m=>?_⟩
 rw [look_1 d h2 h11 h12 h13,if_neg (by rw [hk];simp),kk,rr];rfl
theorem gives_left (h:(E.ins s).op=2) (g:Gives E (s.set 0 (E.ins s).x) (some u) k):Gives E s (some u) (k+1):=by
 obtain ⟨d,kk,rr⟩:=idle_nil E s
 obtain ⟨v,hv,g⟩:=g
 refine ⟨v,hv,fun m=>?_⟩
 have:=look_2 (n:=m+k) (room:=0) d h rfl
 rw [kk,rr,g] at this
 rw [show m+(k+1)=(m+k)+1 from rfl,this];rfl
theorem gives_right (h:(E.ins s).op=2) (g1:Gives E (s.set 0 (E.ins s).x) none k1) (g2:Gives E (s.set 0 (E.ins s).y) r k2):Gives E s r (k2+k1+1):=by
 obtain ⟨d,kk,rr⟩:=idle_nil E s
 obtain ⟨v,hv,g1⟩:=g1
 obtain ⟨v2,hv2,g2⟩:=g2
 refine ⟨v2,hv2,fun m=>?_⟩
 have:=look_2 (n:=(m+k2)+k1) (room:=0) d h rfl
 rw [kk,rr,g1] at this
 rw [show m+(k2+k1+1)=((m+k2)+k1)+1 by omega,this]
 dsimp only
 rw [if_neg (by simp),g2]
theorem gives_apart {z:Sta} {r1:Option Sta} (h:(E.ins s).op=11) (g1:Gives E (s.set 0 (gt s 0+1)) r1 k1) (hz:∀ u,(∀ v,r1=some v→u=v)→apartP s (E.ins s) u r1.isSome=(z,true)) (g2:Gives E z r k2):Gives E s r (k2+k1+1):=by
 obtain ⟨d,kk,rr⟩:=idle_nil E s
 obtain ⟨v,hv,g1⟩:=g1
 obtain ⟨v2,hv2,g2⟩:=g2
 refine ⟨v2,hv2,fun m=>?_⟩
 have:=look_11 (n:=(m+k2)+k1) (room:=0) d h rfl
 rw [kk,rr,g1] at this
 rw [show m+(k2+k1+1)=((m+k2)+k1)+1 by omega,this]
 dsimp only
 rw [if_neg (by simp),hz v hv,if_pos rfl,g2]
theorem gives_bar {r1:Option Sta} (h:(E.ins s).op=11) (g1:Gives E (s.set 0 (gt s 0+1)) r1 k1) (hz:∀ u,(∀ v,r1=some v→u=v)→(apartP s (E.ins s) u r1.isSome).2=false):Gives E s none (k1+1):=by
 obtain ⟨d,kk,rr⟩:=idle_nil E s
 obtain ⟨v,hv,g1⟩:=g1
 refine ⟨(apartP s (E.ins s) v r1.isSome).1,fun v e=>(by simp at e),fun m=>?_⟩
 have:=look_11 (n:=m+k1) (room:=0) d h rfl
 rw [kk,rr,g1] at this
 rw [show m+(k1+1)=(m+k1)+1 from rfl,this]
 dsimp only
 rw [if_neg (by simp),if_neg (by rw [hz v hv];simp)];rfl
def Within (E:Env) (K:Nat) (s:Sta) (r:Option Sta):Prop:=∃ k,k≤K∧Gives E s r k
theorem Within.mono {K L:Nat} (h:Within E K s r) (hL:K≤L):Within E L s r:=by
 obtain ⟨k,a,b⟩:=h;exact ⟨k,by omega,b⟩
theorem within_stop (h:(E.ins s).op=13∨(E.ins s).op=12):Within E 1 s (some s):=⟨1,Nat.le_refl _,gives_stop h⟩
theorem within_one {K:Nat} (h2:(E.ins s).op≠2) (h11:(E.ins s).op≠11) (h12:(E.ins s).op≠12) (h13:(E.ins s).op≠13) (hk:(oneP E.t s (E.ins s)).2=true) (g:Within E K (oneP E.t s (E.ins s)).1 r):Within E (K+1) s r:=by
 obtain ⟨k,a,b⟩:=g;exact ⟨k+1,by omega,gives_one h2 h11 h12 h13 hk b⟩
theorem within_not (h2:(E.ins s).op≠2) (h11:(E.ins s).op≠11) (h12:(E.ins s).op≠12) (h13:(E.ins s).op≠13) (hk:(oneP E.t s (E.ins s)).2=false):Within E 1 s none:=⟨1,Nat.le_refl _,gives_not h2 h11 h12 h13 hk⟩
theorem within_left {K:Nat} (h:(E.ins s).op=2) (g:Within E K (s.set 0 (E.ins s).x) (some u)):Within E (K+1) s (some u):=by
 obtain ⟨k,a,b⟩:=g;exact ⟨k+1,by omega,gives_left h b⟩
theorem within_right {K L:Nat} (h:(E.ins s).op=2) (g1:Within E K (s.set 0 (E.ins s).x) none) (g2:Within E L (s.set 0 (E.ins s).y) r):Within E (K+L+1) s r:=by
 obtain ⟨k,a,b⟩:=g1;obtain ⟨l,c,d⟩:=g2;exact ⟨l+k+1,by omega,gives_right h b d⟩
theorem within_apart {K L:Nat} {z:Sta} {r1:Option Sta} (h:(E.ins s).op=11) (g1:Within E K (s.set 0 (gt s 0+1)) r1) (hz:∀ u,(∀ v,r1=some v→u=v)→apartP s (E.ins s) u r1.isSome=(z,true)) (g2:Within E L z r):Within E (K+L+1) s r:=by
 obtain ⟨k,a,b⟩:=g1;obtain ⟨l,c,d⟩:=g2;exact ⟨l+k+1,by omega,gives_apart h b hz d⟩
theorem within_bar {K:Nat} {r1:Option Sta} (h:(E.ins s).op=11) (g1:Within E K (s.set 0 (gt s 0+1)) r1) (hz:∀ u,(∀ v,r1=some v→u=v)→(apartP s (E.ins s) u r1.isSome).2=false):Within E (K+1) s none:=by
 obtain ⟨k,a,b⟩:=g1;exact ⟨k+1,by omega,gives_bar h b hz⟩
theorem search_hit {K:Nat} {b:Int} {u:Sta}:∀ (j p f n:Nat),j<f→(∀ q,p≤q→q<p+j→Within E K (startSt (q:Nat)) none)→Within E K (startSt ((p+j:Nat):Int)) (some u)→(j+1)*K≤n →
  ∃ t,search E b f p n [] 0=(⟨true,foundAt ((p+j:Nat):Int) u,t⟩,false)
 | 0,p,f+1,n,_,_,h,hn=>by
  obtain ⟨k,hk,v,hv,g⟩:=h
  obtain ⟨m,rfl⟩:∃ m,n=m+k:=⟨n-k,by omega⟩
  rw [Nat.add_zero] at g ⊢
  rw [search,g]
  rw [hv u rfl]
  exact ⟨_,rfl⟩
 | j+1,p,f+1,n,hj,hq,h,hn=>by
  obtain ⟨k,hk,v,hv,g⟩:=hq p (Nat.le_refl _) (by omega)
  have e:(j+1+1)*K=(j+1)*K+K:=by rw [Nat.add_mul (j+1) 1 K];omega
  obtain ⟨m,rfl⟩:∃ m,n=m+k:=⟨n-k,by omega⟩
  rw [search,g]
  obtain ⟨t,ht⟩:=search_hit (b:=b) j (p+1) f m (by omega) (fun q h1 h2=>hq q (by omega) (by omega)) (by rw [show p+1+j=p+(j+1) by omega];exact h) (by omega)
  refine ⟨t,?_⟩
  dsimp only
  rw [if_neg (by simp),if_neg (by simp),ht,show p+1+j=p+(j+1) by omega]
theorem search_miss {K:Nat} {b:Int}:∀ (f p n:Nat),(∀ q,p≤q→q<p+f→Within E K (startSt (q:Nat)) none)→f*K≤n →
  ∃ t,search E b f p n [] 0=(⟨false,nowhere,t⟩,false)
 | 0,p,n,_,_=>⟨_,rfl⟩
 | f+1,p,n,hq,hn=>by
  obtain ⟨k,hk,v,hv,g⟩:=hq p (Nat.le_refl _) (by omega)
  have e:(f+1)*K=f*K+K:=by rw [Nat.add_mul f 1 K];omega
  obtain ⟨m,rfl⟩:∃ m,n=m+k:=⟨n-k,by omega⟩
  rw [search,g]
  obtain ⟨t,ht⟩:=search_miss (b:=b) f (p+1) m (fun q h1 h2=>hq q (by omega) (by omega)) (by omega)
  refine ⟨t,?_⟩
  dsimp only
  rw [if_neg (by simp),if_neg (by simp),ht]
theorem find_by {p t:ByteArray} {P M R:Int} {c:List Ins} (hc:codeR p=(c,0)) (hT:t.size≤60) (ho:Opt P M R 10000) {ok:Bool} {l:List Int}
  (h:∃ k,search (envOf c t 0 0) 10000 (t.size+1) 0 10000 [] 0=(⟨ok,l,k⟩,false)) :
  (findR p t 0 P M R 10000).2=0∧Inside t.size 0 (findR p t 0 P M R 10000).1∧(findR p t 0 P M R 10000).1.ok=ok∧(findR p t 0 P M R 10000).1.at'=l:=by
 obtain ⟨k,h⟩:=h
 have h0:(checkR p).1=0:=by rw [← codeR_err,hc]
 obtain ⟨A,hK⟩:=pattern_kn p h0
 have e1:searchAll (codeR p).1 t 0 0 0 10000 0=(⟨ok,l,k⟩,false):=by
  unfold searchAll
  rw [hc]
  rw [search_env (E:=envOf c t 0 0) (E':=envOf c t 0 0) rfl rfl (idle_nil _) (none_idle c t 0 _ 0)]
  exact h
 have ho':=ho
 obtain ⟨o1,o2,o3,o4⟩:=ho'
 obtain ⟨a1,a2,a3,_⟩:=table_less hK t 0 0 P M R 10000 0 (by omega) (by unfold InR;omega) (by rw [e1])
 have hf:=findR_ok p t 0 P M R 10000 h0 hT (by omega) ho
 have hi:=searchAll_inside hK.k.ok hK.k.pos t P M R 10000 0 (by omega) (by omega) (by omega) a1
 rw [a1] at hf
 rw [e1] at a2 a3
 rw [show ((0:Nat):Int)=0 from rfl] at hf
 rw [hf]
 exact ⟨rfl,hi,a2,a3⟩
end Mt
namespace Mt
variable {E:Env} {r:Option Sta} {R:List Int} {K L:Nat} {pc pos:Nat}
def Here (c:List Ins):Nat→List Ins→Prop
 | _,[]=>True
 | p,x::l=>c.getD p ins0=x∧Here c (p+1) l
theorem here_app {c:List Ins}:∀ {a b:List Ins} {p:Nat},Here c p (a++b)→Here c p a∧Here c (p+a.length) b
 | [],b,p,h=>⟨trivial,h⟩
 | x::a,b,p,h=>by
  obtain ⟨h1,h2⟩:=here_app (a:=a) h.2
  exact ⟨⟨h.1,h1⟩,by rw [List.length_cons,show p+(a.length+1)=p+1+a.length by omega];exact h2⟩
theorem here_in:∀ (b a c:List Ins),Here (a++(b++c)) a.length b
 | [],a,c=>trivial
 | x::b,a,c=>by
  refine ⟨by rw [List.getD_eq_getElem?_getD,List.getElem?_append_right (Nat.le_refl _)];simp,?_⟩
  have:=here_in b (a++[x]) c
  rw [List.length_append,List.append_assoc] at this
  exact this
theorem here_self (b c:List Ins):Here (b++c) 0 b:=here_in b [] c
theorem ins_at (E:Env) (pc:Nat) (l:List Int):E.ins ((pc:Int)::l)=E.c.getD pc ins0:=by
 unfold Env.ins pcOf gt;simp
def byteAt (t:ByteArray) (i:Nat) (s:List UInt8):Bool:=if (i:Int)<t.size then hasB ⟨s.toArray⟩ (byI t i) else false
theorem w_byte {s:List UInt8} (hc:E.c.getD pc ins0=⟨1,0,0,s⟩) (h:byteAt E.t pos s=true) (g:Within E K (((pc+1:Nat):Int)::((pos+1:Nat):Int)::R) r):Within E (K+1) ((pc:Int)::(pos:Int)::R) r:=by
 have hi:=ins_at E pc ((pos:Int)::R)
 rw [hc] at hi
 have e:oneP E.t ((pc:Int)::(pos:Int)::R) (E.ins ((pc:Int)::(pos:Int)::R))=(((pc+1:Nat):Int)::((pos+1:Nat):Int)::R,true):=by
  rw [hi];unfold oneP
  rw [if_pos rfl]
  unfold byteAt at h
  show (_,if (pos:Int)<E.t.size then hasB ⟨s.toArray⟩ (byI E.t (pos:Int).toNat) else false)=_
  rw [Int.toNat_natCast,h];rfl
 refine within_one (by rw [hi];simp) (by rw [hi];simp) (by rw [hi];simp) (by rw [hi];simp) (by rw [e]) (by rw [e];exact g)
theorem w_nobyte {s:List UInt8} (hc:E.c.getD pc ins0=⟨1,0,0,s⟩) (h:byteAt E.t pos s=false):Within E 1 ((pc:Int)::(pos:Int)::R) none:=by
 have hi:=ins_at E pc ((pos:Int)::R)
 rw [hc] at hi
 have e:(oneP E.t ((pc:Int)::(pos:Int)::R) (E.ins ((pc:Int)::(pos:Int)::R))).2=false:=by
  rw [hi];unfold oneP
  rw [if_pos rfl]
  unfold byteAt at h
  show (if (pos:Int)<E.t.size then hasB ⟨s.toArray⟩ (byI E.t (pos:Int).toNat) else false)=_
  rw [Int.toNat_natCast,h]
 exact within_not (by rw [hi];simp) (by rw [hi];simp) (by rw [hi];simp) (by rw [hi];simp) e
theorem w_jump {q:Nat} (hc:E.c.getD pc ins0=⟨3,(q:Int),0,[]⟩) (g:Within E K ((q:Int)::(pos:Int)::R) r):Within E (K+1) ((pc:Int)::(pos:Int)::R) r:=by
 have hi:=ins_at E pc ((pos:Int)::R)
 rw [hc] at hi
 have e:oneP E.t ((pc:Int)::(pos:Int)::R) (E.ins ((pc:Int)::(pos:Int)::R))=((q:Int)::(pos:Int)::R,true):=by
  rw [hi];rfl
 exact within_one (by rw [hi];simp) (by rw [hi];simp) (by rw [hi];simp) (by rw [hi];simp) (by rw [e]) (by rw [e];exact g)
theorem w_begin {k:Nat} (hc:E.c.getD pc ins0=⟨6,(k:Int),0,[]⟩) (g:Within E K (((pc+1:Nat):Int)::(pos:Int)::R.set (20+k) pos) r):Within E (K+1) ((pc:Int)::(pos:Int)::R) r:=by
 have hi:=ins_at E pc ((pos:Int)::R)
 rw [hc] at hi
 have e:oneP E.t ((pc:Int)::(pos:Int)::R) (E.ins ((pc:Int)::(pos:Int)::R))=(((pc+1:Nat):Int)::(pos:Int)::R.set (20+k) pos,true):=by
  rw [hi]
  show ((((pc:Int)::(pos:Int)::R).set (22+(k:Int).toNat) (pos:Int)).set 0 ((pc:Int)+1),true)=_
  rw [Int.toNat_natCast,show 22+k=20+k+1+1 by omega,List.set_cons_succ,List.set_cons_succ];rfl
 exact within_one (by rw [hi];simp) (by rw [hi];simp) (by rw [hi];simp) (by rw [hi];simp) (by rw [e]) (by rw [e];exact g)
theorem w_end {k:Nat} (hc:E.c.getD pc ins0=⟨7,(k:Int),0,[]⟩) (g:Within E K (((pc+1:Nat):Int)::(pos:Int)::(R.set (2*k) (R.getD (20+k) 0)).set (2*k+1) pos) r):Within E (K+1) ((pc:Int)::(pos:Int)::R) r:=by
 have hi:=ins_at E pc ((pos:Int)::R)
 rw [hc] at hi
 have e:oneP E.t ((pc:Int)::(pos:Int)::R) (E.ins ((pc:Int)::(pos:Int)::R))=(((pc+1:Nat):Int)::(pos:Int)::(R.set (2*k) (R.getD (20+k) 0)).set (2*k+1) pos,true):=by
  rw [hi]
  show (((((pc:Int)::(pos:Int)::R).set (2+(2*(k:Int)).toNat) (gt ((pc:Int)::(pos:Int)::R) (22+(k:Int).toNat))).set (2+(2*(k:Int)+1).toNat) (pos:Int)).set 0 ((pc:Int)+1),true)=_
  have e1:gt ((pc:Int)::(pos:Int)::R) (22+(k:Int).toNat)=R.getD (20+k) 0:=by
   unfold gt
   rw [Int.toNat_natCast,show 22+k=20+k+1+1 by omega,List.getD_cons_succ,List.getD_cons_succ]
  rw [e1,show 2+(2*(k:Int)).toNat=2*k+1+1 by omega,show 2+(2*(k:Int)+1).toNat=2*k+1+1+1 by omega]
  simp only [List.set_cons_succ,List.set_cons_zero];rfl
 exact within_one (by rw [hi];simp) (by rw [hi];simp) (by rw [hi];simp) (by rw [hi];simp) (by rw [e]) (by rw [e];exact g)
theorem w_left {x y:Nat} {u:Sta} (hc:E.c.getD pc ins0=⟨2,(x:Int),(y:Int),[]⟩) (g:Within E K ((x:Int)::(pos:Int)::R) (some u)):Within E (K+1) ((pc:Int)::(pos:Int)::R) (some u):=by
 have hi:=ins_at E pc ((pos:Int)::R)
 rw [hc] at hi
 exact within_left (by rw [hi]) (by rw [hi];exact g)
theorem w_right {x y:Nat} (hc:E.c.getD pc ins0=⟨2,(x:Int),(y:Int),[]⟩) (g1:Within E K ((x:Int)::(pos:Int)::R) none) (g2:Within E L ((y:Int)::(pos:Int)::R) r):Within E (K+L+1) ((pc:Int)::(pos:Int)::R) r:=by
 have hi:=ins_at E pc ((pos:Int)::R)
 rw [hc] at hi
 exact within_right (by rw [hi]) (by rw [hi];exact g1) (by rw [hi];exact g2)
theorem w_stop {o:Int} (hc:E.c.getD pc ins0=⟨o,0,0,[]⟩) (ho:o=13∨o=12):Within E 1 ((pc:Int)::(pos:Int)::R) (some ((pc:Int)::(pos:Int)::R)):=by
 have hi:=ins_at E pc ((pos:Int)::R)
 rw [hc] at hi
 exact within_stop (by rw [hi];exact ho)
def wordRe:List UInt8→Re
 | []=>.eps
 | c::w=>.cat (.one [c]) (wordRe w)
theorem wordRe_len:∀ w:List UInt8,(wordRe w).len=w.length
 | []=>rfl
 | c::w=>by simp [wordRe,Re.len,wordRe_len w];omega
theorem wordRe_code:∀ (w:List UInt8) (p d:Int),(wordRe w).code p d=w.map fun c=>(⟨1,0,0,[c]⟩:Ins)
 | [],_,_=>rfl
 | c::w,p,d=>by simp [wordRe,Re.code,wordRe_code w]
def standsB (t:ByteArray):Nat→List UInt8→Bool
 | _,[]=>true
 | i,c::w=>byteAt t i [c]&&standsB t (i+1) w
theorem w_word:∀ (w:List UInt8) (pc pos:Nat),Here E.c pc (w.map fun c=>(⟨1,0,0,[c]⟩:Ins))→standsB E.t pos w=true→Within E K (((pc+w.length:Nat):Int)::((pos+w.length:Nat):Int)::R) r→Within E (K+w.length) ((pc:Int)::(pos:Int)::R) r
 | [],pc,pos,_,_,g=>g
 | c::w,pc,pos,h,hs,g=>by
  simp only [standsB,Bool.and_eq_true] at hs
  have:=w_word w (pc+1) (pos+1) h.2 hs.2 (by rw [List.length_cons] at g;rw [show pc+1+w.length=pc+(w.length+1) by omega,show pos+1+w.length=pos+(w.length+1) by omega];exact g)
  exact w_byte h.1 hs.1 this
theorem w_noword:∀ (w:List UInt8) (pc pos:Nat),Here E.c pc (w.map fun c=>(⟨1,0,0,[c]⟩:Ins))→standsB E.t pos w=false→Within E w.length ((pc:Int)::(pos:Int)::R) none
 | [],pc,pos,_,hs=>by simp [standsB] at hs
 | c::w,pc,pos,h,hs=>by
  cases e:byteAt E.t pos [c]
  ·exact (w_nobyte h.1 e).mono (by simp)
  ·simp only [standsB,e,Bool.true_and] at hs
   exact w_byte h.1 e (w_noword w (pc+1) (pos+1) h.2 hs)
def capR (R:List Int) (k pos n:Nat):List Int:=((R.set (20+k) (pos:Int)).set (2*k) ((R.set (20+k) (pos:Int)).getD (20+k) 0)).set (2*k+1) ((pos+n:Nat):Int)
theorem w_cap {k:Nat} {w:List UInt8} {d:Int} (h:Here E.c pc ((Re.cap k (wordRe w)).code pc d)) (hs:standsB E.t pos w=true) (g:Within E K (((pc+w.length+2:Nat):Int)::((pos+w.length:Nat):Int)::capR R k pos w.length) r):Within E (K+w.length+2) ((pc:Int)::(pos:Int)::R) r:=by
 rw [Re.code,wordRe_code] at h
 obtain ⟨h1,h2⟩:=h
 obtain ⟨h3,h4⟩:=here_app h2
 rw [List.length_map] at h4
 have a:=w_end (pos:=pos+w.length) (R:=R.set (20+k) (pos:Int)) h4.1 (by rw [show pc+1+w.length+1=pc+w.length+2 by omega];exact g)
 have b:=w_word w (pc+1) pos h3 hs a
 exact (w_begin h1 b).mono (by omega)
theorem w_nocap {k:Nat} {w:List UInt8} {d:Int} (h:Here E.c pc ((Re.cap k (wordRe w)).code pc d)) (hs:standsB E.t pos w=false):Within E (w.length+1) ((pc:Int)::(pos:Int)::R) none:=by
 rw [Re.code,wordRe_code] at h
 obtain ⟨h1,h2⟩:=h
 obtain ⟨h3,h4⟩:=here_app h2
 exact w_begin h1 (w_noword w (pc+1) pos h3 hs)
theorem here_alt {c:List Ins} {a b:Re} {p:Nat} {d:Int} (h:Here c p ((Re.alt a b).code p d)):c.getD p ins0=⟨2,((p+1:Nat):Int),((p+a.len+2:Nat):Int),[]⟩∧Here c (p+1) (a.code ((p+1:Nat):Int) d)∧c.getD (p+1+a.len) ins0=⟨3,((p+a.len+2+b.len:Nat):Int),0,[]⟩∧Here c (p+a.len+2) (b.code ((p+a.len+2:Nat):Int) d):=by
 rw [Re.code] at h
 obtain ⟨h1,h2⟩:=h
 obtain ⟨h3,h4⟩:=here_app h2
 rw [Re.code_len] at h4
 refine ⟨by rw [h1];simp,by simpa using h3,by rw [h4.1];simp,?_⟩
 have:=h4.2
 rw [show p+1+a.len+1=p+a.len+2 by omega] at this
 simpa using this
theorem here_cat {c:List Ins} {a b:Re} {p:Nat} {d:Int} (h:Here c p ((Re.cat a b).code p d)):Here c p (a.code p d)∧Here c (p+a.len) (b.code ((p+a.len:Nat):Int) d):=by
 rw [Re.code] at h
 obtain ⟨h3,h4⟩:=here_app h
 rw [Re.code_len] at h4
 exact ⟨h3,by simpa using h4⟩
end Mt
namespace Mt
def capRe (k:Int) (w:List UInt8):Re:=.cat (.cap k (wordRe w)) .eps
theorem capRe_len (k:Int) (w:List UInt8):(capRe k w).len=w.length+2:=by simp [capRe,Re.len,wordRe_len]
def orderRe (u v w:List UInt8):Re:=.alt (capRe 1 u) (.alt (capRe 2 v) (capRe 3 w))
theorem orderRe_len (u v w:List UInt8):(orderRe u v w).len=u.length+v.length+w.length+10:=by simp [orderRe,Re.len,capRe_len];omega
def orderC (u v w:List UInt8):List Ins:=(orderRe u v w).code 0 0++[⟨13,0,0,[]⟩]
variable {E:Env} {u v w:List UInt8} {R:List Int} {pos:Nat}
theorem order_here (hc:E.c=orderC u v w):(E.c.getD 0 ins0=⟨2,((1:Nat):Int),((u.length+4:Nat):Int),[]⟩∧Here E.c 1 ((Re.cap ((1:Nat):Int) (wordRe u)).code ((1:Nat):Int) 0)∧E.c.getD (u.length+3) ins0=⟨3,((u.length+v.length+w.length+10:Nat):Int),0,[]⟩)
  ∧ (E.c.getD (u.length+4) ins0=⟨2,((u.length+5:Nat):Int),((u.length+v.length+8:Nat):Int),[]⟩∧Here E.c (u.length+5) ((Re.cap ((2:Nat):Int) (wordRe v)).code ((u.length+5:Nat):Int) 0)∧E.c.getD (u.length+v.length+7) ins0=⟨3,((u.length+v.length+w.length+10:Nat):Int),0,[]⟩)
  ∧ Here E.c (u.length+v.length+8) ((Re.cap ((3:Nat):Int) (wordRe w)).code ((u.length+v.length+8:Nat):Int) 0)∧E.c.getD (u.length+v.length+w.length+10) ins0=⟨13,0,0,[]⟩:=by
 have h:=here_self ((orderRe u v w).code 0 0) [⟨13,0,0,[]⟩]
 have hl:((orderRe u v w).code 0 0).length=u.length+v.length+w.length+10:=by rw [Re.code_len,orderRe_len]
 have h13:(orderC u v w).getD (u.length+v.length+w.length+10) ins0=⟨13,0,0,[]⟩:=by
  unfold orderC
  rw [List.getD_eq_getElem?_getD,List.getElem?_append_right (by omega),hl];simp
 change Here (orderC u v w) 0 ((orderRe u v w).code ((0:Nat):Int) 0) at h
 rw [← hc] at h h13
 obtain ⟨a1,a2,a3,a4⟩:=here_alt h
 rw [capRe_len] at a1 a3 a4
 obtain ⟨b1,b2,b3,b4⟩:=here_alt a4
 rw [capRe_len] at b1 b3 b4
 have e1:(Re.alt (capRe 2 v) (capRe 3 w)).len=v.length+w.length+6:=by simp [Re.len,capRe_len];omega
 rw [e1] at a3
 rw [capRe_len] at b3
 have c2:=(here_cat a2).1
 have d2:=(here_cat b2).1
 have f2:=(here_cat b4).1
 refine ⟨⟨?_,c2,?_⟩,⟨?_,?_,?_⟩,?_,h13⟩
 ·rw [a1];simp only [Nat.zero_add]
 ·rw [show u.length+3=0+1+(u.length+2) by omega,a3];simp only [Nat.zero_add];rw [show u.length+2+2+(v.length+w.length+6)=u.length+v.length+w.length+10 by omega]
 ·rw [show u.length+4=0+(u.length+2)+2 by omega,b1,show 0+(u.length+2)+2+(v.length+2)+2=u.length+v.length+8 by omega,show 0+(u.length+2)+2+1=u.length+5 by omega]
 ·rw [show 0+(u.length+2)+2+1=u.length+5 by omega] at d2;exact d2
 ·rw [show u.length+v.length+7=0+(u.length+2)+2+1+(v.length+2) by omega,b3,show 0+(u.length+2)+2+(v.length+2)+2+(w.length+2)=u.length+v.length+w.length+10 by omega]
 ·rw [show 0+(u.length+2)+2+(v.length+2)+2=u.length+v.length+8 by omega] at f2;exact f2
theorem order_1 (hc:E.c=orderC u v w) (h1:standsB E.t pos u=true):Within E (u.length+5) (0::(pos:Int)::R) (some (((u.length+v.length+w.length+10:Nat):Int)::((pos+u.length:Nat):Int)::capR R 1 pos u.length)):=by
 obtain ⟨⟨a1,a2,a3⟩,⟨b1,b2,b3⟩,f,s⟩:=order_here hc
 have g:=w_stop (pos:=pos+u.length) (R:=capR R 1 pos u.length) s (.inl rfl)
 have g:=w_jump a3 g
 have g:=w_cap (pc:=1) a2 h1 (by rw [show 1+u.length+2=u.length+3 by omega];exact g)
 exact (w_left (pc:=0) a1 g).mono (by omega)
theorem order_2 (hc:E.c=orderC u v w) (h1:standsB E.t pos u=false) (h2:standsB E.t pos v=true):Within E (u.length+v.length+7) (0::(pos:Int)::R) (some (((u.length+v.length+w.length+10:Nat):Int)::((pos+v.length:Nat):Int)::capR R 2 pos v.length)):=by
 obtain ⟨⟨a1,a2,a3⟩,⟨b1,b2,b3⟩,f,s⟩:=order_here hc
 have g:=w_stop (pos:=pos+v.length) (R:=capR R 2 pos v.length) s (.inl rfl)
 have g:=w_jump b3 g
 have g:=w_cap (pc:=u.length+5) b2 h2 (by rw [show u.length+5+v.length+2=u.length+v.length+7 by omega];exact g)
 have g:=w_left b1 g
 exact (w_right (pc:=0) a1 (w_nocap a2 h1) g).mono (by omega)
theorem order_3 (hc:E.c=orderC u v w) (h1:standsB E.t pos u=false) (h2:standsB E.t pos v=false) (h3:standsB E.t pos w=true):Within E (u.length+v.length+w.length+7) (0::(pos:Int)::R) (some (((u.length+v.length+w.length+10:Nat):Int)::((pos+w.length:Nat):Int)::capR R 3 pos w.length)):=by
 obtain ⟨⟨a1,a2,a3⟩,⟨b1,b2,b3⟩,f,s⟩:=order_here hc
 have g:=w_stop (pos:=pos+w.length) (R:=capR R 3 pos w.length) s (.inl rfl)
 have g:=w_cap (pc:=u.length+v.length+8) f h3 (by rw [show u.length+v.length+8+w.length+2=u.length+v.length+w.length+10 by omega];exact g)
 have g:=w_right b1 (w_nocap b2 h2) g
 exact (w_right (pc:=0) a1 (w_nocap a2 h1) g).mono (by omega)
theorem order_0 (hc:E.c=orderC u v w) (h1:standsB E.t pos u=false) (h2:standsB E.t pos v=false) (h3:standsB E.t pos w=false):Within E (u.length+v.length+w.length+7) (0::(pos:Int)::R) none:=by
 obtain ⟨⟨a1,a2,a3⟩,⟨b1,b2,b3⟩,f,s⟩:=order_here hc
 have g:=w_right (R:=R) b1 (w_nocap b2 h2) (w_nocap f h3)
 exact (w_right (pc:=0) a1 (w_nocap a2 h1) g).mono (by omega)
def firstOf (t:ByteArray) (i:Nat) (u v w:List UInt8):Int:=if standsB t i u then 0 else if standsB t i v then 1 else if standsB t i w then 2 else -1
def nth3 (k:Int) (u v w:List UInt8):List UInt8:=if k=0 then u else if k=1 then v else w
def free:List Int:=nowhere++List.replicate 22 0
theorem start_eq (p:Int):startSt p=0::p::free:=rfl
theorem order_hit {p t:ByteArray} {P M R:Int} (hp:codeR p=(orderC u v w,0)) (hu:u.length≤8) (hv:v.length≤8) (hw:w.length≤8) (hT:t.size≤60) (ho:Opt P M R 10000) (a:Nat) (ha:a≤t.size) (hf:∀ q,q<a→firstOf t q u v w<0) (k:Int) (hk:firstOf t a u v w=k) (h0:0≤k) :
  (findR p t 0 P M R 10000).2=0∧Inside t.size 0 (findR p t 0 P M R 10000).1∧(findR p t 0 P M R 10000).1.ok=true∧(findR p t 0 P M R 10000).1.at'=(a:Int)::((a+(nth3 k u v w).length:Nat):Int)::((capR free (k.toNat+1) a (nth3 k u v w).length).drop 2).take 18:=by
 refine find_by hp hT ho ?_
 have hq:∀ q,0≤q→q<0+a→Within (envOf (orderC u v w) t 0 0) 40 (startSt (q:Nat)) none:=fun q _ h=>by
  have:=hf q (by omega)
  unfold firstOf at this
  cases e1:standsB t q u
  ·cases e2:standsB t q v
   ·cases e3:standsB t q w
    ·exact (order_0 (E:=envOf (orderC u v w) t 0 0) (R:=free) rfl e1 e2 e3).mono (by omega)
    ·simp [e1,e2,e3] at this
   ·simp [e1,e2] at this
  ·simp [e1] at this
 have hh:∃ x:Int,Within (envOf (orderC u v w) t 0 0) 40 (startSt ((0+a:Nat):Int)) (some (x::((a+(nth3 k u v w).length:Nat):Int)::capR free (k.toNat+1) a (nth3 k u v w).length)):=by
  rw [Nat.zero_add]
  unfold firstOf at hk
  cases e1:standsB t a u
  ·cases e2:standsB t a v
   ·cases e3:standsB t a w
    ·simp [e1,e2,e3] at hk;omega
    ·simp [e1,e2,e3] at hk;subst hk
     exact ⟨_,(order_3 (E:=envOf (orderC u v w) t 0 0) (R:=free) rfl e1 e2 e3).mono (by omega)⟩
   ·simp [e1,e2] at hk;subst hk
    exact ⟨_,(order_2 (E:=envOf (orderC u v w) t 0 0) (R:=free) rfl e1 e2).mono (by omega)⟩
  ·simp [e1] at hk;subst hk
   exact ⟨_,(order_1 (E:=envOf (orderC u v w) t 0 0) (R:=free) rfl e1).mono (by omega)⟩
 obtain ⟨x,hx⟩:=hh
 obtain ⟨s,hs⟩:=search_hit (b:=10000) a 0 (t.size+1) 10000 (by omega) hq hx (by omega)
 refine ⟨s,?_⟩
 rw [hs,Nat.zero_add];rfl
theorem order_miss {p t:ByteArray} {P M R:Int} (hp:codeR p=(orderC u v w,0)) (hu:u.length≤8) (hv:v.length≤8) (hw:w.length≤8) (hT:t.size≤60) (ho:Opt P M R 10000) (hf:∀ q,q≤t.size→firstOf t q u v w<0) :
  (findR p t 0 P M R 10000).2=0∧Inside t.size 0 (findR p t 0 P M R 10000).1∧(findR p t 0 P M R 10000).1.ok=false∧(findR p t 0 P M R 10000).1.at'=nowhere:=by
 refine find_by hp hT ho ?_
 refine search_miss (K:=40) (t.size+1) 0 10000 (fun q _ h=>?_) (by omega)
 have:=hf q (by omega)
 unfold firstOf at this
 cases e1:standsB t q u
 ·cases e2:standsB t q v
  ·cases e3:standsB t q w
   ·exact (order_0 (E:=envOf (orderC u v w) t 0 0) (R:=free) rfl e1 e2 e3).mono (by omega)
   ·simp [e1,e2,e3] at this
  ·simp [e1,e2] at this
 ·simp [e1] at this
end Mt
namespace Mt
inductive Reads (p:ByteArray):List Tok→Int→List Tok→Int→Prop
 | nil (l:List Tok) (i:Int):Reads p l i [] i
 | cons {l m:List Tok} {i j:Int} {t:Tok} (h0:0≤i) (h1:i<p.size) (ht:nextT p i=(t,0)) (hm:may l t=0) (hl:Reads p (l++[joined l t]) t.to m j):Reads p l i (joined l t::m) j
theorem Reads.app {p:ByteArray} {l m n:List Tok} {i j k:Int} (h:Reads p l i m j):Reads p (l++m) j n k→Reads p l i (m++n) k:=by
 induction h with
 | nil l i=>intro g;simpa using g
 | cons h0 h1 ht hm hl ih =>
  intro g
  exact Reads.cons h0 h1 ht hm (ih (by simpa using g))
theorem Reads.one {p:ByteArray} {l:List Tok} {i:Int} {t u:Tok} (h0:0≤i) (h1:i<p.size) (ht:nextT p i=(t,0)) (hm:may l t=0) (hu:joined l t=u):Reads p l i [u] t.to:=by
 subst hu;exact Reads.cons h0 h1 ht hm (Reads.nil _ _)
theorem reads_read {p:ByteArray} {l m:List Tok} {i j:Int} (h:Reads p l i m j):j=p.size→0≤j→readOn p l i=(l++m,0,(p.size:Int)):=by
 induction h with
 | nil l i =>
  intro e h0
  rw [readOn_step p l i h0 (by omega),if_pos (by omega),e];simp
 | @cons l m i j t h0 h1 ht hm hl ih =>
  intro e hj
  rw [readOn_step p l i h0 (by omega),if_neg (by omega),ht,if_neg (by simp),if_neg (by rw [hm];simp),ih e hj];simp
theorem code_reads (p:ByteArray) (T:Fs) (hp:p.size≤64) (hw:T.wf) (hl:Reads p [] 0 T.flat p.size) (ho:opened T.flat=0) (hn:T.flat.length≤64):codeR p=codeOf T.re:=by
 have hr:=reads_read hl rfl (by omega)
 rw [List.nil_append] at hr
 have ht:tokens p=(T.flat,0,0):=by
  unfold tokens
  rw [if_neg (by omega),readOn_start p hp,hr,if_neg (by simp),if_neg (by rw [ho];simp)]
 have e:=treeOf_flat T hw hn
 have hc:=coded_len T.flat
 rw [e] at hc
 have hk:checkR p=if 300<(coded T.flat).length then (12,0) else (0,0):=by unfold checkR;rw [ht];simp
 unfold codeR codeOf
 rw [hk,ht]
 by_cases x:300<T.re.len+1
 ·rw [if_pos x,if_pos (hc.2 x)];simp
 ·have hlen:=hc.1 (by omega)
  have:=(coded_tree T.flat (by omega)).1
  rw [e] at this
  rw [if_neg x,if_neg (show ¬ 300<(coded T.flat).length by omega)]
  simp [this]
def wordC (c:UInt8):Bool:=digB (c.toNat:Int)||letB (c.toNat:Int)
def quoteL:List UInt8→List UInt8
 | []=>[]
 | c::w=>if wordC c then c::quoteL w else 92::c::quoteL w
theorem quoteL_len:∀ w:List UInt8,(quoteL w).length≤2*w.length
 | []=>Nat.le_refl _
 | c::w=>by
  have:=quoteL_len w
  simp only [quoteL];split <;> simp only [List.length_cons] <;> omega
def wide (c:UInt8):Int:=if wordC c then 1 else 2
def qToks:List UInt8→Int→List Tok
 | [],_=>[]
 | c::w,i=>⟨1,i,i+wide c,0,0,0,[c]⟩::qToks w (i+wide c)
def qFs:List UInt8→Int→Fs→Fs
 | [],_,rest=>rest
 | c::w,i,rest=>.leaf ⟨1,i,i+wide c,0,0,0,[c]⟩ none (qFs w (i+wide c) rest)
theorem qFs_flat:∀ (w:List UInt8) (i:Int) (rest:Fs),(qFs w i rest).flat=qToks w i++rest.flat
 | [],_,_=>rfl
 | c::w,i,rest=>by simp [qFs,qToks,Fs.flat,qFs_flat w]
theorem qFs_wf:∀ (w:List UInt8) (i:Int) (rest:Fs),rest.wf→(qFs w i rest).wf
 | [],_,_,h=>h
 | c::w,i,rest,h=>⟨.inl rfl,fun q h=>by simp at h,qFs_wf w _ rest h⟩
def wordBe:List UInt8→Re→Re
 | [],r=>r
 | c::w,r=>.cat (.one [c]) (wordBe w r)
theorem wordBe_eps:∀ w:List UInt8,wordBe w .eps=wordRe w
 | []=>rfl
 | c::w=>by simp [wordBe,wordRe,wordBe_eps w]
theorem qFs_both:∀ (w:List UInt8) (i:Int) (rest:Fs),(qFs w i rest).both=(wordBe w rest.both.1,rest.both.2)
 | [],_,_=>rfl
 | c::w,i,rest=>by
  simp only [qFs,Fs.both,qFs_both w]
  rfl
theorem qToks_len:∀ (w:List UInt8) (i:Int),(qToks w i).length=w.length
 | [],_=>rfl
 | c::w,i=>by simp [qToks,qToks_len w]
theorem qToks_opened:∀ (w:List UInt8) (i:Int),opened (qToks w i)=0
 | [],_=>rfl
 | c::w,i=>by simp [qToks,opened,delta,qToks_opened w]
theorem qToks_captures:∀ (w:List UInt8) (i:Int),captures (qToks w i)=0
 | [],_=>rfl
 | c::w,i=>by simp [qToks,captures,isCap,qToks_captures w]
theorem reads_word {p:ByteArray}:∀ (w:List UInt8) (l:List Tok) (i:Int),Holds p i (quoteL w)→Reads p l i (qToks w i) (i+(quoteL w).length)
 | [],l,i,h=>by simpa [quoteL,qToks] using Reads.nil l i
 | c::w,l,i,h=>by
  have hb:=c.toNat_lt
  have hj:∀ x:Int,joined l ⟨1,i,x,0,0,0,[c]⟩=⟨1,i,x,0,0,0,[c]⟩:=fun x=>by unfold joined isCap;simp
  have hmay:∀ x:Int,may l ⟨1,i,x,0,0,0,[c]⟩=0:=fun x=>by unfold may;simp
  have hof:UInt8.ofNat ((c.toNat:Int)).toNat=c:=by simp
  cases hc:wordC c
  ·simp only [quoteL,hc] at h ⊢
   obtain ⟨h0,h1,h2,h3,h4,h5,h6⟩:=h
   have hn:nextT p i=(⟨1,i,i+2,0,0,0,[c]⟩,0):=by
    have e2:atB p i=92:=h2
    have e3:(digB (c.toNat:Int)=false)∧letB (c.toNat:Int)=false:=by simpa [wordC] using hc
    have e4:=e3
    unfold digB letB at e4
    rw [decide_eq_false_iff_not,decide_eq_false_iff_not] at e4
    unfold nextT
    rw [e2,if_neg (by omega),if_neg (by omega),if_neg (by omega),if_neg (by omega),if_pos rfl]
    unfold escape
    rw [h5,if_neg (by omega),if_neg (by omega),if_neg (by omega),e3.1,e3.2,hof];rfl
   have ih:=reads_word w (l++[⟨1,i,i+2,0,0,0,[c]⟩]) (i+2) (by rw [show i+1+1=i+2 by omega] at h6;exact h6)
   have hw:wide c=2:=by unfold wide;rw [hc];rfl
   have:=Reads.cons h0 h1 hn (hmay _) (by rw [hj];exact ih)
   rw [hj] at this
   simp only [qToks,hw]
   rw [if_neg (by simp)]
   simp only [List.length_cons]
   rw [show i+(((quoteL w).length+1+1:Nat):Int)=i+2+(quoteL w).length by push_cast;omega]
   exact this
  ·simp only [quoteL,hc,if_true] at h ⊢
   obtain ⟨h0,h1,h2,h3⟩:=h
   have hn:nextT p i=(⟨1,i,i+1,0,0,0,[c]⟩,0):=by
    have e3:digB (c.toNat:Int)=true∨letB (c.toNat:Int)=true:=by simpa [wordC] using hc
    have e4:=e3
    unfold digB letB at e4
    rw [decide_eq_true_eq,decide_eq_true_eq] at e4
    unfold nextT
    rw [h2,if_neg (by omega),if_neg (by omega),if_neg (by omega),if_neg (by omega),if_neg (by omega),if_neg (by omega),if_neg (by omega),if_neg (by omega),if_neg (by omega),hof]
   have ih:=reads_word w (l++[⟨1,i,i+1,0,0,0,[c]⟩]) (i+1) h3
   have hw:wide c=1:=by unfold wide;rw [hc];rfl
   have:=Reads.cons h0 h1 hn (hmay _) (by rw [hj];exact ih)
   rw [hj] at this
   simp only [qToks,hw,List.length_cons]
   rw [show i+(((quoteL w).length+1:Nat):Int)=i+1+(quoteL w).length by push_cast;omega]
   exact this
theorem quoteL_head (w:List UInt8) (r:List UInt8) (hr:r.head?≠some 63):(quoteL w++r).head?≠some 63:=by
 cases w with
 | nil=>exact hr
 | cons c w =>
  simp only [quoteL]
  cases hc:wordC c
  ·simp
  ·simp only [if_true,List.cons_append,List.head?_cons]
   intro e
   injection e with e
   subst e
   revert hc;decide
theorem reads_cap {p:ByteArray} {l:List Tok} {i:Int} {r:List UInt8} (h:Holds p i (40::r)) (hne:r≠[]) (hr:r.head?≠some 63) (ho:opened l<10) (hc:captures l<9):Reads p l i [⟨6,i,i+1,captures l+1,0,4,[]⟩] (i+1):=by
 obtain ⟨h0,h1,h2,h3⟩:=h
 have e2:atB p i=40:=h2
 have e3:atB p (i+1)≠63:=by
  cases r with
  | nil=>exact absurd rfl hne
  | cons x r =>
   rw [h3.2.2.1]
   intro e
   have:x=63:=by apply UInt8.toNat_inj.1;show x.toNat=63;omega
   exact hr (by rw [this];rfl)
 have hn:nextT p i=(⟨6,i,i+1,0,0,4,[]⟩,0):=by
  unfold nextT
  rw [e2,if_neg (by omega),if_neg (by omega),if_neg (by omega),if_neg (by omega),if_neg (by omega),if_neg (by omega),if_pos rfl]
  unfold opening
  rw [if_pos e3];rfl
 refine Reads.one h0 h1 hn ?_ ?_
 ·unfold may
  simp;omega
 ·unfold joined isCap;simp
theorem reads_group {p:ByteArray} {l:List Tok} {i:Int} {c:UInt8} {how:Int} (h:Holds p i [40,63,c]) (hc:(c=58∧how=3)∨(c=62∧how=0)∨(c=61∧how=1)∨(c=33∧how=2)) (ho:opened l<10):Reads p l i [⟨6,i,i+3,0,0,how,[]⟩] (i+3):=by
 obtain ⟨h0,h1,h2,h3,h4,h5,h6,h7,h8,h9⟩:=h
 have e2:atB p i=40:=h2
 have e5:atB p (i+1)=63:=h5
 have e8:atB p (i+2)=(c.toNat:Int):=by rw [← h8];congr 1;omega
 have hn:nextT p i=(⟨6,i,i+3,0,0,how,[]⟩,0):=by
  unfold nextT
  rw [e2,if_neg (by omega),if_neg (by omega),if_neg (by omega),if_neg (by omega),if_neg (by omega),if_neg (by omega),if_pos rfl]
  unfold opening
  rw [e5,e8]
  rcases hc with ⟨rfl,rfl⟩ | ⟨rfl,rfl⟩ | ⟨rfl,rfl⟩ | ⟨rfl,rfl⟩ <;> rfl
 refine Reads.one h0 h1 hn ?_ ?_
 ·unfold may
  rcases hc with ⟨rfl,rfl⟩ | ⟨rfl,rfl⟩ | ⟨rfl,rfl⟩ | ⟨rfl,rfl⟩ <;> simp <;> omega
 ·unfold joined isCap
  rcases hc with ⟨rfl,rfl⟩ | ⟨rfl,rfl⟩ | ⟨rfl,rfl⟩ | ⟨rfl,rfl⟩ <;> simp
theorem reads_close {p:ByteArray} {l:List Tok} {i:Int} (h:Holds p i [41]) (ho:opened l≠0):Reads p l i [⟨7,i,i+1,0,0,0,[]⟩] (i+1):=by
 obtain ⟨h0,h1,h2,h3⟩:=h
 have e2:atB p i=41:=h2
 have hn:nextT p i=(⟨7,i,i+1,0,0,0,[]⟩,0):=by
  unfold nextT
  rw [e2,if_neg (by omega),if_pos rfl]
 exact Reads.one h0 h1 hn (by unfold may;simp [ho]) (by unfold joined isCap;simp)
theorem reads_bar {p:ByteArray} {l:List Tok} {i:Int} (h:Holds p i [124]):Reads p l i [⟨5,i,i+1,0,0,0,[]⟩] (i+1):=by
 obtain ⟨h0,h1,h2,h3⟩:=h
 have e2:atB p i=124:=h2
 have hn:nextT p i=(⟨5,i,i+1,0,0,0,[]⟩,0):=by
  unfold nextT
  rw [e2,if_pos rfl]
 exact Reads.one h0 h1 hn (by unfold may;simp) (by unfold joined isCap;simp)
def capToks (k:Int) (w:List UInt8) (i:Int):List Tok:=⟨6,i,i+1,k,0,4,[]⟩::(qToks w (i+1)++[⟨7,i+1+(quoteL w).length,i+1+(quoteL w).length+1,0,0,0,[]⟩])
theorem capToks_len (k:Int) (w:List UInt8) (i:Int):(capToks k w i).length=w.length+2:=by simp [capToks,qToks_len]
theorem capToks_opened (k:Int) (w:List UInt8) (i:Int):opened (capToks k w i)=0:=by
 unfold capToks
 simp only [opened,opened_append,qToks_opened,delta];simp
theorem capToks_captures (k:Int) (w:List UInt8) (i:Int):captures (capToks k w i)=1:=by
 unfold capToks
 simp only [captures,captures_append,qToks_captures,isCap];simp
theorem reads_capword {p:ByteArray} {l:List Tok} {i:Int} {w r:List UInt8} {k:Int} (h:Holds p i (40::(quoteL w++41::r))) (ho:opened l=0) (hc:captures l+1=k) (hk:k≤9):Reads p l i (capToks k w i) (i+(quoteL w).length+2):=by
 have a:=reads_cap (l:=l) h (by simp) (quoteL_head _ _ (by simp)) (by omega) (by omega)
 obtain ⟨a1,a2⟩:=holds_app _ _ _ h.2.2.2
 have b:=reads_word w (l++[⟨6,i,i+1,captures l+1,0,4,[]⟩]) (i+1) a1
 have c:=reads_close (l:=l++[⟨6,i,i+1,captures l+1,0,4,[]⟩]++qToks w (i+1)) (holds_app [41] r _ a2).1 (by
  simp only [opened_append,qToks_opened,opened,delta];simp;omega)
 have:=a.app (b.app c)
 rw [hc] at this
 rw [show i+((quoteL w).length:Int)+2=i+1+(quoteL w).length+1 by omega]
 exact this
def orderL (u v w:List UInt8):List UInt8:=40::(quoteL u++(41::124::40::(quoteL v++(41::124::40::(quoteL w++[41])))))
theorem orderL_len (u v w:List UInt8):(orderL u v w).length=(quoteL u).length+(quoteL v).length+(quoteL w).length+8:=by simp [orderL];omega
def capFs (k:Int) (w:List UInt8) (i:Int) (rest:Fs):Fs:=.grp ⟨6,i,i+1,k,0,4,[]⟩ (qFs w (i+1) .nil) ⟨7,i+1+(quoteL w).length,i+1+(quoteL w).length+1,0,0,0,[]⟩ none rest
theorem capFs_flat (k:Int) (w:List UInt8) (i:Int) (rest:Fs):(capFs k w i rest).flat=capToks k w i++rest.flat:=by
 simp [capFs,capToks,Fs.flat,qFs_flat]
theorem capFs_wf (k:Int) (w:List UInt8) (i:Int) (rest:Fs) (h:rest.wf):(capFs k w i rest).wf:=⟨rfl,rfl,qFs_wf w _ _ trivial,fun q h=>by simp at h,h⟩
theorem capFs_both (k:Int) (w:List UInt8) (i:Int) (rest:Fs):(capFs k w i rest).both=(.cat (.cap k (wordRe w)) rest.both.1,rest.both.2):=by
 simp only [capFs,Fs.both,qFs_both,part,joinRe,wordBe_eps,grpRe];simp
theorem order_code (u v w:List UInt8) (hu:u.length≤8) (hv:v.length≤8) (hw:w.length≤8):codeR (bp (orderL u v w))=(orderC u v w,0):=by
 have lu:=quoteL_len u
 have lv:=quoteL_len v
 have lw:=quoteL_len w
 have hs:=holds_self (orderL u v w)
 have hsz:(bp (orderL u v w)).size=(quoteL u).length+(quoteL v).length+(quoteL w).length+8:=by rw [bp_size,orderL_len]
 obtain ⟨p,hp⟩:∃ p,p=bp (orderL u v w):=⟨_,rfl⟩
 rw [← hp] at hs hsz ⊢
 unfold orderL at hs
 obtain ⟨U,hU⟩:∃ n:Int,n=(quoteL u).length:=⟨_,rfl⟩
 obtain ⟨V,hV⟩:∃ n:Int,n=(quoteL v).length:=⟨_,rfl⟩
 obtain ⟨a1,a2⟩:=holds_app _ _ _ hs.2.2.2
 have a3:=a2.2.2.2
 have a4:=a3.2.2.2
 obtain ⟨b1,b2⟩:=holds_app _ _ _ a4.2.2.2
 have b3:=b2.2.2.2
 have b4:=b3.2.2.2
 have one:∀ {i:Int} {x:UInt8} {r:List UInt8},Holds p i (x::r)→Holds p i [x]:=fun {i x r} h=>(holds_app [x] r i h).1
 have i1:(0:Int)+1+(quoteL u).length+1=0+(quoteL u).length+2:=by omega
 have i2:(0:Int)+1+(quoteL u).length+1+1+1+(quoteL v).length+1=0+(quoteL u).length+2+1+(quoteL v).length+2:=by omega
 rw [i1] at a3 a4
 rw [i1] at b3 b4
 rw [show (0:Int)+(quoteL u).length+2+1+1+(quoteL v).length+1=0+(quoteL u).length+2+1+(quoteL v).length+2 by omega] at b3 b4
 have r1:=reads_capword (l:=[]) (k:=1) hs rfl rfl (by omega)
 have r2:=reads_bar (l:=[]++capToks 1 u 0) (one a3)
 have r3:=reads_capword (l:=[]++capToks 1 u 0++[⟨5,0+(quoteL u).length+2,0+(quoteL u).length+2+1,0,0,0,[]⟩]) (k:=2) a4 (by simp only [opened_append,capToks_opened,opened,delta];simp) (by simp only [captures_append,capToks_captures,captures,isCap];simp) (by omega)
 have r4:=reads_bar (l:=[]++capToks 1 u 0++[⟨5,0+(quoteL u).length+2,0+(quoteL u).length+2+1,0,0,0,[]⟩]++capToks 2 v (0+(quoteL u).length+2+1)) (one b3)
 have r5:=reads_capword (l:=[]++capToks 1 u 0++[⟨5,0+(quoteL u).length+2,0+(quoteL u).length+2+1,0,0,0,[]⟩]++capToks 2 v (0+(quoteL u).length+2+1)++[⟨5,0+(quoteL u).length+2+1+(quoteL v).length+2,0+(quoteL u).length+2+1+(quoteL v).length+2+1,0,0,0,[]⟩]) (k:=3) b4 (by simp only [opened_append,capToks_opened,opened,delta];simp) (by simp only [captures_append,capToks_captures,captures,isCap];simp) (by omega)
 have rr:=r1.app (r2.app (r3.app (r4.app r5)))
 have hT:codeR p=codeOf (capFs 1 u 0 (.bar ⟨5,0+(quoteL u).length+2,0+(quoteL u).length+2+1,0,0,0,[]⟩ (capFs 2 v (0+(quoteL u).length+2+1) (.bar ⟨5,0+(quoteL u).length+2+1+(quoteL v).length+2,0+(quoteL u).length+2+1+(quoteL v).length+2+1,0,0,0,[]⟩ (capFs 3 w (0+(quoteL u).length+2+1+(quoteL v).length+2+1) .nil))))).re:=by
  refine code_reads p _ (by rw [hsz];omega) (capFs_wf _ _ _ _ ⟨rfl,capFs_wf _ _ _ _ ⟨rfl,capFs_wf _ _ _ _ trivial⟩⟩) ?_ ?_ ?_
  ·simp only [capFs_flat,Fs.flat,List.append_nil]
   rw [hsz]
   rw [show (((quoteL u).length+(quoteL v).length+(quoteL w).length+8:Nat):Int)=0+(quoteL u).length+2+1+(quoteL v).length+2+1+(quoteL w).length+2 by push_cast;omega]
   exact rr
  ·simp only [capFs_flat,Fs.flat,opened_append,capToks_opened,opened,delta];simp
  ·simp only [capFs_flat,Fs.flat,List.length_append,capToks_len,List.length_cons,List.length_nil];omega
 rw [hT]
 have e:(capFs 1 u 0 (.bar ⟨5,0+(quoteL u).length+2,0+(quoteL u).length+2+1,0,0,0,[]⟩ (capFs 2 v (0+(quoteL u).length+2+1) (.bar ⟨5,0+(quoteL u).length+2+1+(quoteL v).length+2,0+(quoteL u).length+2+1+(quoteL v).length+2+1,0,0,0,[]⟩ (capFs 3 w (0+(quoteL u).length+2+1+(quoteL v).length+2+1) .nil))))).re=orderRe u v w:=by
  simp only [Fs.re,capFs_both,Fs.both,joinRe,orderRe,capRe]
 rw [e]
 unfold codeOf orderC
 rw [orderRe_len,if_neg (by omega)]
end Mt
