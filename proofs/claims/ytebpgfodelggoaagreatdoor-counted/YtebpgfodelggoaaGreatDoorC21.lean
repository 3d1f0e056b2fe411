import Derived.Test.YtebpgfodelggoaaGreatDoorC16
import Derived.Test.YtebpgfodelggoaaGreatDoorC20
set_option linter.unusedVariables false
set_option linter.unusedSimpArgs false
namespace Mt
variable {E:Env} {s u:Sta} {r:Option Sta} {k k1 k2:Nat}
def Gives (E:Env) (s:Sta) (r:Option Sta) (k:Nat):Prop :=
 ∃ u,(∀ v,r=some v→u=v)∧∀ m,look E (m+k) s [] 0=⟨u,r.isSome,m,[],0,false⟩
theorem gives_stop (h:(E.ins s).op=13∨(E.ins s).op=12):Gives E s (some s) 1:=by
 obtain ⟨d,k,r⟩:=idle_nil E s
 refine ⟨s,fun v e=>by injection e,fun m=>?_⟩
 rw [look_f d h,k,r];rfl
theorem gives_one (h2:(E.ins s).op≠2) (h11:(E.ins s).op≠11) (h12:(E.ins s).op≠12) (h13:(E.ins s).op≠13) (hk:(oneP E.t s (E.ins s)).2=true) (g:Gives E (oneP E.t s (E.ins s)).1 r k):Gives E s r (k+1):=by
 obtain ⟨d,kk,rr⟩:=idle_nil E s
 obtain ⟨u,hu,g⟩:=g
 refine ⟨u,hu,fun m=>?_⟩
 rw [show m+(k+1)=(m+k)+1 from rfl,look_1 d h2 h11 h12 h13,if_pos hk,kk,rr,g]
theorem gives_not (h2:(E.ins s).op≠2) (h11:(E.ins s).op≠11) (h12:(E.ins s).op≠12) (h13:(E.ins s).op≠13) (hk:(oneP E.t s (E.ins s)).2=false):Gives E s none 1:=by
 obtain ⟨d,kk,rr⟩:=idle_nil E s
 refine ⟨(oneP E.t s (E.ins s)).1,fun v e=>(by simp at e),fun m=>?_⟩
 rw [look_1 d h2 h11 h12 h13,if_neg (by rw [hk];simp),kk,rr];rfl
theorem gives_left (h:(E.ins s).op=2) (g:Gives E (s.set 0 (E.ins s).x) (some u) k):Gives E s (some u) (k+1):=by
 obtain ⟨d,kk,rr⟩:=idle_nil E s
 obtain ⟨v,hv,g⟩:=g
 refine ⟨v,hv,fun m=>?_⟩
 have:=look_2 (n:=m+k) (room:=0) d h rfl
 rw [kk,rr,g] at this
 rw [show m+(k+1)=(m+k)+1 from rfl,this];rfl
theorem gives_right (h:(E.ins s).op=2) (g1:Gives E (s.set 0 (E.ins s).x) none k1) (g2:Gives E (s.set 0 (E.ins s).y) r k2):Gives E s r (k2+k1+1):=by
 obtain ⟨d,kk,rr⟩:=idle_nil E s
 obtain ⟨v,hv,g1⟩:=g1
 obtain ⟨v2,hv2,g2⟩:=g2
 refine ⟨v2,hv2,fun m=>?_⟩
 have:=look_2 (n:=(m+k2)+k1) (room:=0) d h rfl
 rw [kk,rr,g1] at this
 rw [show m+(k2+k1+1)=((m+k2)+k1)+1 by omega,this]
 dsimp only
 rw [if_neg (by simp),g2]
theorem gives_apart {z:Sta} {r1:Option Sta} (h:(E.ins s).op=11) (g1:Gives E (s.set 0 (gt s 0+1)) r1 k1) (hz:∀ u,(∀ v,r1=some v→u=v)→apartP s (E.ins s) u r1.isSome=(z,true)) (g2:Gives E z r k2):Gives E s r (k2+k1+1):=by
 obtain ⟨d,kk,rr⟩:=idle_nil E s
 obtain ⟨v,hv,g1⟩:=g1
 obtain ⟨v2,hv2,g2⟩:=g2
 refine ⟨v2,hv2,fun m=>?_⟩
 have:=look_11 (n:=(m+k2)+k1) (room:=0) d h rfl
 rw [kk,rr,g1] at this
 rw [show m+(k2+k1+1)=((m+k2)+k1)+1 by omega,this]
 dsimp only
 rw [if_neg (by simp),hz v hv,if_pos rfl,g2]
theorem gives_bar {r1:Option Sta} (h:(E.ins s).op=11) (g1:Gives E (s.set 0 (gt s 0+1)) r1 k1) (hz:∀ u,(∀ v,r1=some v→u=v)→(apartP s (E.ins s) u r1.isSome).2=false):Gives E s none (k1+1):=by
 obtain ⟨d,kk,rr⟩:=idle_nil E s
 obtain ⟨v,hv,g1⟩:=g1
 refine ⟨(apartP s (E.ins s) v r1.isSome).1,fun v e=>(by simp at e),fun m=>?_⟩
 have:=look_11 (n:=m+k1) (room:=0) d h rfl
 rw [kk,rr,g1] at this
 rw [show m+(k1+1)=(m+k1)+1 from rfl,this]
 dsimp only
 rw [if_neg (by simp),if_neg (by rw [hz v hv];simp)];rfl
def Within (E:Env) (K:Nat) (s:Sta) (r:Option Sta):Prop:=∃ k,k≤K∧Gives E s r k
theorem Within.mono {K L:Nat} (h:Within E K s r) (hL:K≤L):Within E L s r:=by
 obtain ⟨k,a,b⟩:=h;exact ⟨k,by omega,b⟩
theorem within_stop (h:(E.ins s).op=13∨(E.ins s).op=12):Within E 1 s (some s):=⟨1,Nat.le_refl _,gives_stop h⟩
theorem within_one {K:Nat} (h2:(E.ins s).op≠2) (h11:(E.ins s).op≠11) (h12:(E.ins s).op≠12) (h13:(E.ins s).op≠13) (hk:(oneP E.t s (E.ins s)).2=true) (g:Within E K (oneP E.t s (E.ins s)).1 r):Within E (K+1) s r:=by
 obtain ⟨k,a,b⟩:=g;exact ⟨k+1,by omega,gives_one h2 h11 h12 h13 hk b⟩
theorem within_not (h2:(E.ins s).op≠2) (h11:(E.ins s).op≠11) (h12:(E.ins s).op≠12) (h13:(E.ins s).op≠13) (hk:(oneP E.t s (E.ins s)).2=false):Within E 1 s none:=⟨1,Nat.le_refl _,gives_not h2 h11 h12 h13 hk⟩
theorem within_left {K:Nat} (h:(E.ins s).op=2) (g:Within E K (s.set 0 (E.ins s).x) (some u)):Within E (K+1) s (some u):=by
 obtain ⟨k,a,b⟩:=g;exact ⟨k+1,by omega,gives_left h b⟩
theorem within_right {K L:Nat} (h:(E.ins s).op=2) (g1:Within E K (s.set 0 (E.ins s).x) none) (g2:Within E L (s.set 0 (E.ins s).y) r):Within E (K+L+1) s r:=by
 obtain ⟨k,a,b⟩:=g1;obtain ⟨l,c,d⟩:=g2;exact ⟨l+k+1,by omega,gives_right h b d⟩
theorem within_apart {K L:Nat} {z:Sta} {r1:Option Sta} (h:(E.ins s).op=11) (g1:Within E K (s.set 0 (gt s 0+1)) r1) (hz:∀ u,(∀ v,r1=some v→u=v)→apartP s (E.ins s) u r1.isSome=(z,true)) (g2:Within E L z r):Within E (K+L+1) s r:=by
 obtain ⟨k,a,b⟩:=g1;obtain ⟨l,c,d⟩:=g2;exact ⟨l+k+1,by omega,gives_apart h b hz d⟩
theorem within_bar {K:Nat} {r1:Option Sta} (h:(E.ins s).op=11) (g1:Within E K (s.set 0 (gt s 0+1)) r1) (hz:∀ u,(∀ v,r1=some v→u=v)→(apartP s (E.ins s) u r1.isSome).2=false):Within E (K+1) s none:=by
 obtain ⟨k,a,b⟩:=g1;exact ⟨k+1,by omega,gives_bar h b hz⟩
theorem search_hit {K:Nat} {b:Int} {u:Sta}:∀ (j p f n:Nat),j<f→(∀ q,p≤q→q<p+j→Within E K (startSt (q:Nat)) none)→Within E K (startSt ((p+j:Nat):Int)) (some u)→(j+1)*K≤n →
  ∃ t,search E b f p n [] 0=(⟨true,foundAt ((p+j:Nat):Int) u,t⟩,false)
 | 0,p,f+1,n,_,_,h,hn=>by
  obtain ⟨k,hk,v,hv,g⟩:=h
  obtain ⟨m,rfl⟩:∃ m,n=m+k:=⟨n-k,by omega⟩
  rw [Nat.add_zero] at g ⊢
  rw [search,g]
  rw [hv u rfl]
  exact ⟨_,rfl⟩
 | j+1,p,f+1,n,hj,hq,h,hn=>by
  obtain ⟨k,hk,v,hv,g⟩:=hq p (Nat.le_refl _) (by omega)
  have e:(j+1+1)*K=(j+1)*K+K:=by rw [Nat.add_mul (j+1) 1 K];omega
  obtain ⟨m,rfl⟩:∃ m,n=m+k:=⟨n-k,by omega⟩
  rw [search,g]
  obtain ⟨t,ht⟩:=search_hit (b:=b) j (p+1) f m (by omega) (fun q h1 h2=>hq q (by omega) (by omega)) (by rw [show p+1+j=p+(j+1) by omega];exact h) (by omega)
  refine ⟨t,?_⟩
  dsimp only
  rw [if_neg (by simp),if_neg (by simp),ht,show p+1+j=p+(j+1) by omega]
theorem search_miss {K:Nat} {b:Int}:∀ (f p n:Nat),(∀ q,p≤q→q<p+f→Within E K (startSt (q:Nat)) none)→f*K≤n →
  ∃ t,search E b f p n [] 0=(⟨false,nowhere,t⟩,false)
 | 0,p,n,_,_=>⟨_,rfl⟩
 | f+1,p,n,hq,hn=>by
  obtain ⟨k,hk,v,hv,g⟩:=hq p (Nat.le_refl _) (by omega)
  have e:(f+1)*K=f*K+K:=by rw [Nat.add_mul f 1 K];omega
  obtain ⟨m,rfl⟩:∃ m,n=m+k:=⟨n-k,by omega⟩
  rw [search,g]
  obtain ⟨t,ht⟩:=search_miss (b:=b) f (p+1) m (fun q h1 h2=>hq q (by omega) (by omega)) (by omega)
  refine ⟨t,?_⟩
  dsimp only
  rw [if_neg (by simp),if_neg (by simp),ht]
theorem find_by {p t:ByteArray} {P M R:Int} {c:List Ins} (hc:codeR p=(c,0)) (hT:t.size≤60) (ho:Opt P M R 10000) {ok:Bool} {l:List Int}
  (h:∃ k,search (envOf c t 0 0) 10000 (t.size+1) 0 10000 [] 0=(⟨ok,l,k⟩,false)) :
  (findR p t 0 P M R 10000).2=0∧Inside t.size 0 (findR p t 0 P M R 10000).1∧(findR p t 0 P M R 10000).1.ok=ok∧(findR p t 0 P M R 10000).1.at'=l:=by
 obtain ⟨k,h⟩:=h
 have h0:(checkR p).1=0:=by rw [← codeR_err,hc]
 obtain ⟨A,hK⟩:=pattern_kn p h0
 have e1:searchAll (codeR p).1 t 0 0 0 10000 0=(⟨ok,l,k⟩,false):=by
  unfold searchAll
  rw [hc]
  rw [search_env (E:=envOf c t 0 0) (E':=envOf c t 0 0) rfl rfl (idle_nil _) (none_idle c t 0 _ 0)]
  exact h
 have ho':=ho
 obtain ⟨o1,o2,o3,o4⟩:=ho'
 obtain ⟨a1,a2,a3,_⟩:=table_less hK t 0 0 P M R 10000 0 (by omega) (by unfold InR;omega) (by rw [e1])
 have hf:=findR_ok p t 0 P M R 10000 h0 hT (by omega) ho
 have hi:=searchAll_inside hK.k.ok hK.k.pos t P M R 10000 0 (by omega) (by omega) (by omega) a1
 rw [a1] at hf
 rw [e1] at a2 a3
 rw [show ((0:Nat):Int)=0 from rfl] at hf
 rw [hf]
 exact ⟨rfl,hi,a2,a3⟩
end Mt
namespace Mt
variable {E:Env} {r:Option Sta} {R:List Int} {K L:Nat} {pc pos:Nat}
def Here (c:List Ins):Nat→List Ins→Prop
 | _,[]=>True
 | p,x::l=>c.getD p ins0=x∧Here c (p+1) l
theorem here_app {c:List Ins}:∀ {a b:List Ins} {p:Nat},Here c p (a++b)→Here c p a∧Here c (p+a.length) b
 | [],b,p,h=>⟨trivial,h⟩
 | x::a,b,p,h=>by
  obtain ⟨h1,h2⟩:=here_app (a:=a) h.2
  exact ⟨⟨h.1,h1⟩,by rw [List.length_cons,show p+(a.length+1)=p+1+a.length by omega];exact h2⟩
theorem here_in:∀ (b a c:List Ins),Here (a++(b++c)) a.length b
 | [],a,c=>trivial
 | x::b,a,c=>by
  refine ⟨by rw [List.getD_eq_getElem?_getD,List.getElem?_append_right (Nat.le_refl _)];simp,?_⟩
  have:=here_in b (a++[x]) c
  rw [List.length_append,List.append_assoc] at this
  exact this
theorem here_self (b c:List Ins):Here (b++c) 0 b:=here_in b [] c
theorem ins_at (E:Env) (pc:Nat) (l:List Int):E.ins ((pc:Int)::l)=E.c.getD pc ins0:=by
 unfold Env.ins pcOf gt;simp
def byteAt (t:ByteArray) (i:Nat) (s:List UInt8):Bool:=if (i:Int)<t.size then hasB ⟨s.toArray⟩ (byI t i) else false
theorem w_byte {s:List UInt8} (hc:E.c.getD pc ins0=⟨1,0,0,s⟩) (h:byteAt E.t pos s=true) (g:Within E K (((pc+1:Nat):Int)::((pos+1:Nat):Int)::R) r):Within E (K+1) ((pc:Int)::(pos:Int)::R) r:=by
 have hi:=ins_at E pc ((pos:Int)::R)
 rw [hc] at hi
 have e:oneP E.t ((pc:Int)::(pos:Int)::R) (E.ins ((pc:Int)::(pos:Int)::R))=(((pc+1:Nat):Int)::((pos+1:Nat):Int)::R,true):=by
  rw [hi];unfold oneP
  rw [if_pos rfl]
  unfold byteAt at h
  show (_,if (pos:Int)<E.t.size then hasB ⟨s.toArray⟩ (byI E.t (pos:Int).toNat) else false)=_
  rw [Int.toNat_natCast,h];rfl
 refine within_one (by rw [hi];simp) (by rw [hi];simp) (by rw [hi];simp) (by rw [hi];simp) (by rw [e]) (by rw [e];exact g)
theorem w_nobyte {s:List UInt8} (hc:E.c.getD pc ins0=⟨1,0,0,s⟩) (h:byteAt E.t pos s=false):Within E 1 ((pc:Int)::(pos:Int)::R) none:=by
 have hi:=ins_at E pc ((pos:Int)::R)
 rw [hc] at hi
 have e:(oneP E.t ((pc:Int)::(pos:Int)::R) (E.ins ((pc:Int)::(pos:Int)::R))).2=false:=by
  rw [hi];unfold oneP
  rw [if_pos rfl]
  unfold byteAt at h
  show (if (pos:Int)<E.t.size then hasB ⟨s.toArray⟩ (byI E.t (pos:Int).toNat) else false)=_
  rw [Int.toNat_natCast,h]
 exact within_not (by rw [hi];simp) (by rw [hi];simp) (by rw [hi];simp) (by rw [hi];simp) e
theorem w_jump {q:Nat} (hc:E.c.getD pc ins0=⟨3,(q:Int),0,[]⟩) (g:Within E K ((q:Int)::(pos:Int)::R) r):Within E (K+1) ((pc:Int)::(pos:Int)::R) r:=by
 have hi:=ins_at E pc ((pos:Int)::R)
 rw [hc] at hi
 have e:oneP E.t ((pc:Int)::(pos:Int)::R) (E.ins ((pc:Int)::(pos:Int)::R))=((q:Int)::(pos:Int)::R,true):=by
  rw [hi];rfl
 exact within_one (by rw [hi];simp) (by rw [hi];simp) (by rw [hi];simp) (by rw [hi];simp) (by rw [e]) (by rw [e];exact g)
theorem w_begin {k:Nat} (hc:E.c.getD pc ins0=⟨6,(k:Int),0,[]⟩) (g:Within E K (((pc+1:Nat):Int)::(pos:Int)::R.set (20+k) pos) r):Within E (K+1) ((pc:Int)::(pos:Int)::R) r:=by
 have hi:=ins_at E pc ((pos:Int)::R)
 rw [hc] at hi
 have e:oneP E.t ((pc:Int)::(pos:Int)::R) (E.ins ((pc:Int)::(pos:Int)::R))=(((pc+1:Nat):Int)::(pos:Int)::R.set (20+k) pos,true):=by
  rw [hi]
  show ((((pc:Int)::(pos:Int)::R).set (22+(k:Int).toNat) (pos:Int)).set 0 ((pc:Int)+1),true)=_
  rw [Int.toNat_natCast,show 22+k=20+k+1+1 by omega,List.set_cons_succ,List.set_cons_succ];rfl
 exact within_one (by rw [hi];simp) (by rw [hi];simp) (by rw [hi];simp) (by rw [hi];simp) (by rw [e]) (by rw [e];exact g)
theorem w_end {k:Nat} (hc:E.c.getD pc ins0=⟨7,(k:Int),0,[]⟩) (g:Within E K (((pc+1:Nat):Int)::(pos:Int)::(R.set (2*k) (R.getD (20+k) 0)).set (2*k+1) pos) r):Within E (K+1) ((pc:Int)::(pos:Int)::R) r:=by
 have hi:=ins_at E pc ((pos:Int)::R)
 rw [hc] at hi
 have e:oneP E.t ((pc:Int)::(pos:Int)::R) (E.ins ((pc:Int)::(pos:Int)::R))=(((pc+1:Nat):Int)::(pos:Int)::(R.set (2*k) (R.getD (20+k) 0)).set (2*k+1) pos,true):=by
  rw [hi]
  show (((((pc:Int)::(pos:Int)::R).set (2+(2*(k:Int)).toNat) (gt ((pc:Int)::(pos:Int)::R) (22+(k:Int).toNat))).set (2+(2*(k:Int)+1).toNat) (pos:Int)).set 0 ((pc:Int)+1),true)=_
  have e1:gt ((pc:Int)::(pos:Int)::R) (22+(k:Int).toNat)=R.getD (20+k) 0:=by
   unfold gt
   rw [Int.toNat_natCast,show 22+k=20+k+1+1 by omega,List.getD_cons_succ,List.getD_cons_succ]
  rw [e1,show 2+(2*(k:Int)).toNat=2*k+1+1 by omega,show 2+(2*(k:Int)+1).toNat=2*k+1+1+1 by omega]
  simp only [List.set_cons_succ,List.set_cons_zero];rfl
 exact within_one (by rw [hi];simp) (by rw [hi];simp) (by rw [hi];simp) (by rw [hi];simp) (by rw [e]) (by rw [e];exact g)
theorem w_left {x y:Nat} {u:Sta} (hc:E.c.getD pc ins0=⟨2,(x:Int),(y:Int),[]⟩) (g:Within E K ((x:Int)::(pos:Int)::R) (some u)):Within E (K+1) ((pc:Int)::(pos:Int)::R) (some u):=by
 have hi:=ins_at E pc ((pos:Int)::R)
 rw [hc] at hi
 exact within_left (by rw [hi]) (by rw [hi];exact g)
theorem w_right {x y:Nat} (hc:E.c.getD pc ins0=⟨2,(x:Int),(y:Int),[]⟩) (g1:Within E K ((x:Int)::(pos:Int)::R) none) (g2:Within E L ((y:Int)::(pos:Int)::R) r):Within E (K+L+1) ((pc:Int)::(pos:Int)::R) r:=by
 have hi:=ins_at E pc ((pos:Int)::R)
 rw [hc] at hi
 exact within_right (by rw [hi]) (by rw [hi];exact g1) (by rw [hi];exact g2)
theorem w_stop {o:Int} (hc:E.c.getD pc ins0=⟨o,0,0,[]⟩) (ho:o=13∨o=12):Within E 1 ((pc:Int)::(pos:Int)::R) (some ((pc:Int)::(pos:Int)::R)):=by
 have hi:=ins_at E pc ((pos:Int)::R)
 rw [hc] at hi
 exact within_stop (by rw [hi];exact ho)
def wordRe:List UInt8→Re
 | []=>.eps
 | c::w=>.cat (.one [c]) (wordRe w)
theorem wordRe_len:∀ w:List UInt8,(wordRe w).len=w.length
 | []=>rfl
 | c::w=>by simp [wordRe,Re.len,wordRe_len w];omega
theorem wordRe_code:∀ (w:List UInt8) (p d:Int),(wordRe w).code p d=w.map fun c=>(⟨1,0,0,[c]⟩:Ins)
 | [],_,_=>rfl
 | c::w,p,d=>by simp [wordRe,Re.code,wordRe_code w]
def standsB (t:ByteArray):Nat→List UInt8→Bool
 | _,[]=>true
 | i,c::w=>byteAt t i [c]&&standsB t (i+1) w
theorem w_word:∀ (w:List UInt8) (pc pos:Nat),Here E.c pc (w.map fun c=>(⟨1,0,0,[c]⟩:Ins))→standsB E.t pos w=true→Within E K (((pc+w.length:Nat):Int)::((pos+w.length:Nat):Int)::R) r→Within E (K+w.length) ((pc:Int)::(pos:Int)::R) r
 | [],pc,pos,_,_,g=>g
 | c::w,pc,pos,h,hs,g=>by
  simp only [standsB,Bool.and_eq_true] at hs
  have:=w_word w (pc+1) (pos+1) h.2 hs.2 (by rw [List.length_cons] at g;rw [show pc+1+w.length=pc+(w.length+1) by omega,show pos+1+w.length=pos+(w.length+1) by omega];exact g)
  exact w_byte h.1 hs.1 this
theorem w_noword:∀ (w:List UInt8) (pc pos:Nat),Here E.c pc (w.map fun c=>(⟨1,0,0,[c]⟩:Ins))→standsB E.t pos w=false→Within E w.length ((pc:Int)::(pos:Int)::R) none
 | [],pc,pos,_,hs=>by simp [standsB] at hs
 | c::w,pc,pos,h,hs=>by
  cases e:byteAt E.t pos [c]
  ·exact (w_nobyte h.1 e).mono (by simp)
  ·simp only [standsB,e,Bool.true_and] at hs
   exact w_byte h.1 e (w_noword w (pc+1) (pos+1) h.2 hs)
def capR (R:List Int) (k pos n:Nat):List Int:=((R.set (20+k) (pos:Int)).set (2*k) ((R.set (20+k) (pos:Int)).getD (20+k) 0)).set (2*k+1) ((pos+n:Nat):Int)
theorem w_cap {k:Nat} {w:List UInt8} {d:Int} (h:Here E.c pc ((Re.cap k (wordRe w)).code pc d)) (hs:standsB E.t pos w=true) (g:Within E K (((pc+w.length+2:Nat):Int)::((pos+w.length:Nat):Int)::capR R k pos w.length) r):Within E (K+w.length+2) ((pc:Int)::(pos:Int)::R) r:=by
 rw [Re.code,wordRe_code] at h
 obtain ⟨h1,h2⟩:=h
 obtain ⟨h3,h4⟩:=here_app h2
 rw [List.length_map] at h4
 have a:=w_end (pos:=pos+w.length) (R:=R.set (20+k) (pos:Int)) h4.1 (by rw [show pc+1+w.length+1=pc+w.length+2 by omega];exact g)
 have b:=w_word w (pc+1) pos h3 hs a
 exact (w_begin h1 b).mono (by omega)
theorem w_nocap {k:Nat} {w:List UInt8} {d:Int} (h:Here E.c pc ((Re.cap k (wordRe w)).code pc d)) (hs:standsB E.t pos w=false):Within E (w.length+1) ((pc:Int)::(pos:Int)::R) none:=by
 rw [Re.code,wordRe_code] at h
 obtain ⟨h1,h2⟩:=h
 obtain ⟨h3,h4⟩:=here_app h2
 exact w_begin h1 (w_noword w (pc+1) pos h3 hs)
theorem here_alt {c:List Ins} {a b:Re} {p:Nat} {d:Int} (h:Here c p ((Re.alt a b).code p d)):c.getD p ins0=⟨2,((p+1:Nat):Int),((p+a.len+2:Nat):Int),[]⟩∧Here c (p+1) (a.code ((p+1:Nat):Int) d)∧c.getD (p+1+a.len) ins0=⟨3,((p+a.len+2+b.len:Nat):Int),0,[]⟩∧Here c (p+a.len+2) (b.code ((p+a.len+2:Nat):Int) d):=by
 rw [Re.code] at h
 obtain ⟨h1,h2⟩:=h
 obtain ⟨h3,h4⟩:=here_app h2
 rw [Re.code_len] at h4
 refine ⟨by rw [h1];simp,by simpa using h3,by rw [h4.1];simp,?_⟩
 have:=h4.2
 rw [show p+1+a.len+1=p+a.len+2 by omega] at this
 simpa using this
theorem here_cat {c:List Ins} {a b:Re} {p:Nat} {d:Int} (h:Here c p ((Re.cat a b).code p d)):Here c p (a.code p d)∧Here c (p+a.len) (b.code ((p+a.len:Nat):Int) d):=by
 rw [Re.code] at h
 obtain ⟨h3,h4⟩:=here_app h
 rw [Re.code_len] at h4
 exact ⟨h3,by simpa using h4⟩
end Mt
