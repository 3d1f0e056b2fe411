import Derived.Test.YtebpgfodelggoabC12
import Derived.Laws.Strings
import Derived.Test.YtebpgfodelggoabC11
set_option linter.unusedVariables false
set_option linter.unusedSimpArgs false
namespace Mt
def withBoth (q e:Sta):Sta:=q.take 2++((e.drop 2).take 30++q.drop 32)
theorem withBoth_len (q e:Sta) (hq:q.length=43) (he:e.length=43):(withBoth q e).length=43:=by simp [withBoth,hq,he]
theorem gt_withBoth (s r:Sta) (hs:s.length=43) (hr:r.length=43) (j:Nat):gt (withBoth s r) j=if 2≤j∧j<32 then gt r j else gt s j:=by
 unfold withBoth gt
 simp only [List.getD_eq_getElem?_getD]
 by_cases h1:j<2
 ·rw [if_neg (by omega),List.getElem?_append_left (by simp;omega),List.getElem?_take_of_lt h1]
 ·rw [List.getElem?_append_right (by simp;omega)]
  have l1:(s.take 2).length=2:=by simp [hs]
  have l2:((r.drop 2).take 30).length=30:=by simp [hr]
  by_cases h2:j<32
  ·rw [if_pos (by omega),List.getElem?_append_left (by omega),l1,List.getElem?_take_of_lt (by omega),List.getElem?_drop,show 2+(j-2)=j by omega]
  ·rw [if_neg (by omega),List.getElem?_append_right (by omega),l1,l2,List.getElem?_drop,show 32+(j-2-30)=j by omega]
def apartQ (q:Sta) (x:Ins) (e:Sta):Sta:=if x.x=0 then e.set 0 x.y else if x.x=1 then (withBoth q e).set 0 x.y else q.set 0 x.y
theorem apart_sim {E:Env} {A:Int→Att} {s q r e:Sta} {ok:Bool} (hK:Known E.c A) (hg:Good E.c.length E.t.size s) (h:Sim A s q) (ho:(E.ins s).op=11)
  (hr:ok=true→Good E.c.length E.t.size r) (hre:ok=true→Sim A r e) (hrl:r.length=44)
  (hk:ok=true→(A (gt r 0)).y=(A (gt s 0+1)).y∧(∀ k∈(A (gt s 0+1)).B,gt r (22+k.toNat)=gt s (22+k.toNat))∧((E.ins r).op=12∨(E.ins r).op=13))
  (hf:(apartP s (E.ins s) r ok).2=true):Sim A (apartP s (E.ins s) r ok).1 (apartQ q (E.ins s) e):=by
 have hpc:((pcOf s:Nat):Int)=gt s 0:=by have:=hg.pc0;unfold pcOf;omega
 obtain ⟨hn1,hru⟩:=known_att hK hg.pcOf_lt (show (E.c.getD (pcOf s) ins0).op≠13 by
                                            have:(E.ins s).op≠13:=by omega
                                            exact this)
 rw [hpc] at hru
 obtain ⟨a1,a2,a3,a4⟩:=hru.2.2.2.2.2.2.2.1 ho
 have hend:ok=true→A (gt r 0)=⟨(A (gt s 0)).G,(A (gt s 0)).d,(E.ins s).y,(A (gt s 0)).G⟩:=fun hok=>by
  obtain ⟨k1,k2,k3⟩:=hk hok
  rw [a1] at k1
  dsimp only at k1
  have g:=hr hok
  have hpr:((pcOf r:Nat):Int)=gt r 0:=by have:=g.pc0;unfold pcOf;omega
  rcases Nat.lt_or_ge (pcOf r+1) E.c.length with hlt | hge
  ·have rr:=hK.rule _ hlt
   rw [hpr] at rr
   have h12:(E.c.getD (pcOf r) ins0).op=12:=by
    have:=rr.2.2.2.2.2.2.2.2.2.2.2.2
    have k3':(E.c.getD (pcOf r) ins0).op=12∨(E.c.getD (pcOf r) ins0).op=13:=k3
    omega
   have y1:=rr.2.2.2.2.2.2.2.2.1 h12
   have ey:gt r 0=(E.ins s).y-1:=by
    rw [k1] at y1
    show gt r 0=(E.c.getD (pcOf s) ins0).y-1
    omega
   rw [ey];exact a3
  ·exfalso
   have hp:=g.pcOf_lt
   have e1:pcOf r=E.c.length-1:=by omega
   have st:=hK.stop
   rw [← e1,hpr] at st
   rw [st] at k1
   dsimp only at k1
   omega
 unfold apartP at hf ⊢
 unfold apartQ
 by_cases x0:(E.ins s).x=0
 ·rw [if_pos x0] at hf ⊢
  rw [if_pos x0]
  refine SimAt.to ?_
  have h2:=hre hf
  unfold Sim at h2
  rw [hend hf] at h2
  have a2':A (E.ins s).y=A (gt s 0):=a2
  rw [a2']
  exact h2.less (fun k hk=>hk) (Int.le_refl _)
 rw [if_neg x0] at hf ⊢
 rw [if_neg x0]
 by_cases x1:(E.ins s).x=1
 ·rw [if_pos x1] at hf ⊢
  rw [if_pos x1]
  refine SimAt.to ?_
  have a2':A (E.ins s).y=A (gt s 0):=a2
  rw [a2']
  have h2:=hre hf
  have h3:=h2
  unfold Sim at h3
  rw [hend hf] at h3
  obtain ⟨k1,k2,k3⟩:=hk hf
  rw [a1] at k2
  have h1:SimAt (A (gt s 0)) s q:=h
  have gw:=gt_withAt s r h1.ls hrl
  have gb:=gt_withBoth q e h1.lq h3.lq
  refine ⟨withAt_len s r h1.ls hrl,withBoth_len q e h1.lq h3.lq,fun i hi=>?_,fun k hkk=>?_,fun j hj=>?_⟩
  ·rw [gw,gb]
   by_cases hh:2≤i
   ·rw [if_pos (by omega),if_pos (by omega)];exact h3.low i hi
   ·rw [if_neg (by omega),if_neg (by omega)];exact h1.low i hi
  ·have hR:=hru.2.2.2.2.2.2.2.2.2.2.2.1 k hkk
   rw [gw,gb,if_pos (by omega),if_neg (by omega),h3.notes k hkk,k2 k hkk]
  ·rw [gw,gb,if_neg (by omega),if_neg (by omega)];exact h1.marks j hj
 ·rw [if_neg x1] at hf ⊢
  rw [if_neg x1]
  exact Sim.jump h a2
def startQ (p:Int):Sta:=0::p::(nowhere++(List.replicate 10 0++List.replicate 11 (-1)))
theorem startQ_len (p:Int):(startQ p).length=43:=by simp [startQ,nowhere]
theorem start_sim {c:List Ins} {A:Int→Att} (hK:Known c A) (p:Int):Sim A (startSt p) (startQ p):=by
 have e0:gt (startSt p) 0=0:=rfl
 unfold Sim
 rw [e0,hK.start]
 refine ⟨startSt_len p,startQ_len p,fun i hi=>?_,fun k hk=>by simp at hk,fun j hj=>by dsimp only at hj;omega⟩
 unfold gt startQ startSt
 simp only [List.getD_eq_getElem?_getD]
 match i with
 | 0=>rfl
 | 1=>rfl
 | i+2 =>
  simp only [List.getElem?_cons_succ]
  rw [List.getElem?_append_left (by simp [nowhere];omega),List.getElem?_append_left (by simp [nowhere];omega)]
def Env.arN (E:Env) (p:Nat):Nat:=(E.ar.getD p 0).toNat
def Env.base (E:Env):Nat→Nat
 | 0=>0
 | p+1=>E.base p+if E.inn.getD p false=true then (E.t.size+1)*(E.arN p+1) else 0
theorem Env.base_next (E:Env) (p:Nat) (h:E.inn.getD p false=true):E.base (p+1)=E.base p+(E.t.size+1)*(E.arN p+1):=by rw [Env.base,if_pos h]
theorem Env.base_skip (E:Env) (p:Nat) (h:E.inn.getD p false=false):E.base (p+1)=E.base p:=by rw [Env.base,if_neg (by rw [h];exact Bool.false_ne_true)];rfl
theorem Env.base_mono (E:Env) (p:Nat):∀ d,E.base p≤E.base (p+d)
 | 0=>Nat.le_refl _
 | d+1=>by
  have:=Env.base_mono E p d
  rw [← Nat.add_assoc,Env.base];omega
theorem Env.base_le (E:Env) (h:∀ p,E.arN p≤11):∀ p,E.base p≤p*((E.t.size+1)*12)
 | 0=>by simp [Env.base]
 | p+1=>by
  have ih:=Env.base_le E h p
  have:=Nat.mul_le_mul_left (E.t.size+1) (show E.arN p+1≤12 by have:=h p;omega)
  have e:(p+1)*((E.t.size+1)*12)=p*((E.t.size+1)*12)+(E.t.size+1)*12:=by rw [Nat.add_mul,Nat.one_mul]
  rw [Env.base,e]
  generalize (E.t.size+1)*(E.arN p+1)=u at *
  generalize p*((E.t.size+1)*12)=v at *
  split <;> omega
def Env.slot (E:Env) (p pos l:Nat):Nat:=E.base p+l*(E.t.size+1)+pos
theorem Env.slot_lt (E:Env) (p pos l:Nat) (hi:E.inn.getD p false=true) (hp:pos≤E.t.size) (hl:l≤E.arN p):E.slot p pos l<E.base (p+1):=by
 rw [E.base_next p hi]
 unfold Env.slot
 have:=Nat.mul_le_mul_right (E.t.size+1) hl
 have e:(E.t.size+1)*(E.arN p+1)=E.arN p*(E.t.size+1)+(E.t.size+1):=by rw [Nat.mul_comm,Nat.add_mul,Nat.one_mul]
 rw [e]
 omega
theorem pair_inj {m a b c d:Nat} (hb:b<m) (hd:d<m) (h:a*m+b=c*m+d):a=c∧b=d:=by
 have h1:(a*m+b)/m=a:=by rw [Nat.mul_comm,Nat.mul_add_div (by omega),Nat.div_eq_of_lt hb,Nat.add_zero]
 have h2:(c*m+d)/m=c:=by rw [Nat.mul_comm,Nat.mul_add_div (by omega),Nat.div_eq_of_lt hd,Nat.add_zero]
 rw [h,h2] at h1
 subst h1
 exact ⟨rfl,by omega⟩
theorem Env.slot_inj (E:Env) {p pos l p' pos' l':Nat} (hi:E.inn.getD p false=true) (hp:pos≤E.t.size) (hl:l≤E.arN p) (hi':E.inn.getD p' false=true) (hp':pos'≤E.t.size) (hl':l'≤E.arN p') (h:E.slot p pos l=E.slot p' pos' l'):p=p'∧pos=pos'∧l=l':=by
 have k1:=E.slot_lt p pos l hi hp hl
 have k2:=E.slot_lt p' pos' l' hi' hp' hl'
 have e:p=p':=by
  rcases Nat.lt_trichotomy p p' with hlt | he | hgt
  ·exfalso
   have:=E.base_mono (p+1) (p'-(p+1))
   rw [show p+1+(p'-(p+1))=p' by omega] at this
   unfold Env.slot at h k1 k2;omega
  ·exact he
  ·exfalso
   have:=E.base_mono (p'+1) (p-(p'+1))
   rw [show p'+1+(p-(p'+1))=p by omega] at this
   unfold Env.slot at h k1 k2;omega
 subst e
 unfold Env.slot at h
 have:=pair_inj (m:=E.t.size+1) (a:=l) (b:=pos) (c:=l') (d:=pos') (by omega) (by omega) (by omega)
 exact ⟨rfl,this.2,this.1⟩
theorem key_inj {T p pos l p' pos' l':Nat} (hp:pos≤T) (hl:l<12) (hp':pos'≤T) (hl':l'<12) (h:(p*(T+1)+pos)*12+l=(p'*(T+1)+pos')*12+l'):p=p'∧pos=pos'∧l=l':=by
 have h1:=pair_inj hl hl' h
 have h2:=pair_inj (show pos<T+1 by omega) (show pos'<T+1 by omega) h1.1
 exact ⟨h2.1,h2.2,h1.2⟩
structure Tab (E:Env) (hd kn:List Bool):Prop where
 len:hd.length=E.base E.c.length
 same:∀ p pos l,p<E.c.length→E.inn.getD p false=true→pos≤E.t.size→l≤E.arN p→hd.getD (E.slot p pos l) false=kn.getD ((p*(E.t.size+1)+pos)*12+l) false
theorem getD_set_b (l:List Bool) (i j:Nat) (v:Bool):(l.set i v).getD j false=if i=j∧i<l.length then v else l.getD j false:=by
 simp only [List.getD_eq_getElem?_getD,List.getElem?_set]
 by_cases h:i=j
 ·subst h
  by_cases h2:i<l.length
  ·simp [h2]
  ·simp [h2]
 ·simp [h]
theorem Tab.set {E:Env} {hd kn:List Bool} (h:Tab E hd kn) (hkn:kn.length=E.c.length*(E.t.size+1)*12) (ha:∀ p,E.arN p≤11) (p pos l:Nat) (hp:p<E.c.length) (hi:E.inn.getD p false=true) (hpos:pos≤E.t.size) (hl:l≤E.arN p) :
  Tab E (hd.set (E.slot p pos l) true) (kn.set ((p*(E.t.size+1)+pos)*12+l) true):=by
 have k1:=E.slot_lt p pos l hi hpos hl
 have k2:=E.base_mono (p+1) (E.c.length-(p+1))
 rw [show p+1+(E.c.length-(p+1))=E.c.length by omega] at k2
 have k3:(p*(E.t.size+1)+pos)*12+l<kn.length:=by
  rw [hkn]
  have h5:(p+1)*(E.t.size+1)≤E.c.length*(E.t.size+1):=Nat.mul_le_mul_right _ (by omega)
  have:=ha p
  rw [Nat.add_mul] at h5
  omega
 refine ⟨by rw [List.length_set];exact h.len,fun p' pos' l' hp' hi' hpos' hl'=>?_⟩
 rw [getD_set_b,getD_set_b]
 by_cases e:p=p'∧pos=pos'∧l=l'
 ·obtain ⟨rfl,rfl,rfl⟩:=e
  rw [if_pos ⟨rfl,by rw [h.len];omega⟩,if_pos ⟨rfl,k3⟩]
 ·rw [if_neg (fun x=>e (E.slot_inj hi hpos hl hi' hpos' hl' x.1)),if_neg (fun x=>e (key_inj hpos (by have:=ha p;omega) hpos' (by have:=ha p';omega) x.1))]
  exact h.same p' pos' l' hp' hi' hpos' hl'
theorem Tab.start (E:Env) (n:Nat):Tab E (List.replicate (E.base E.c.length) false) (List.replicate n false):=by
 refine ⟨by simp,fun p pos l hp hi hpos hl=>?_⟩
 rw [List.getD_eq_getElem?_getD,List.getD_eq_getElem?_getD,List.getElem?_replicate,List.getElem?_replicate]
 split <;> split <;> rfl
theorem key_level (E:Env) (q:Sta) (ha:E.arN (pcOf q)≤11):E.key q=(pcOf q*(E.t.size+1)+posOf q)*12+levelTo q (E.arN (pcOf q)):=by
 unfold Env.key keyOf lev
 have e:(E.ar.getD (pcOf q) 0).toNat=E.arN (pcOf q):=rfl
 rw [e,Nat.min_eq_left (by omega)]
theorem Tab.ask {E:Env} {hd kn:List Bool} (h:Tab E hd kn) (hkn:kn.length=E.c.length*(E.t.size+1)*12) (ha:∀ p,E.arN p≤11) (q:Sta) (room:Int) (hp:pcOf q<E.c.length) (hpos:posOf q≤E.t.size) (hi:E.isIn q=true) :
  hd.getD (E.slot (pcOf q) (posOf q) (levelTo q (E.arN (pcOf q)))) false=E.dead q kn∧E.slot (pcOf q) (posOf q) (levelTo q (E.arN (pcOf q)))<hd.length
  ∧ (E.dead q kn=true→E.kn' q kn room=kn∧E.room' q kn room=room)
  ∧ (E.dead q kn=false→(0<room→Tab E (hd.set (E.slot (pcOf q) (posOf q) (levelTo q (E.arN (pcOf q)))) true) (E.kn' q kn room)∧E.room' q kn room=room-1)∧(¬ 0<room→E.kn' q kn room=kn∧E.room' q kn room=room)):=by
 have hk:=key_level E q (ha _)
 have hll:=levelTo_le q (E.arN (pcOf q))
 have hi':E.inn.getD (pcOf q) false=true:=hi
 have hs:=h.same (pcOf q) (posOf q) _ hp hi' hpos hll
 have k1:=E.slot_lt (pcOf q) (posOf q) _ hi' hpos hll
 have k2:=E.base_mono (pcOf q+1) (E.c.length-(pcOf q+1))
 rw [show pcOf q+1+(E.c.length-(pcOf q+1))=E.c.length by omega] at k2
 have hd':E.dead q kn=kn.getD (E.key q) false:=by unfold Env.dead;rw [if_pos hi]
 refine ⟨by rw [hd',hk];exact hs,by rw [h.len];omega,fun e=>?_,fun e=>⟨fun hr=>?_,fun hr=>?_⟩⟩
 ·rw [hd'] at e
  unfold Env.kn' Env.room' deadKn deadRoom
  rw [if_pos hi,if_pos hi,if_pos e,if_pos e];exact ⟨rfl,rfl⟩
 ·rw [hd'] at e
  have e':¬ kn.getD (E.key q) false=true:=by rw [e];exact Bool.false_ne_true
  unfold Env.kn' Env.room' deadKn deadRoom
  rw [if_pos hi,if_pos hi,if_neg e',if_neg e',if_pos hr,if_pos hr]
  refine ⟨?_,rfl⟩
  rw [hk];exact h.set hkn ha _ _ _ hp hi' hpos hll
 ·rw [hd'] at e
  have e':¬ kn.getD (E.key q) false=true:=by rw [e];exact Bool.false_ne_true
  unfold Env.kn' Env.room' deadKn deadRoom
  rw [if_pos hi,if_pos hi,if_neg e',if_neg e',if_neg hr,if_neg hr];exact ⟨rfl,rfl⟩
theorem Env.not_in (E:Env) (q:Sta) (kn:List Bool) (room:Int) (h:E.isIn q=false):E.dead q kn=false∧E.kn' q kn room=kn∧E.room' q kn room=room:=by
 have h':¬ E.isIn q=true:=by rw [h];exact Bool.false_ne_true
 unfold Env.dead Env.kn' Env.room'
 rw [if_neg h',if_neg h',if_neg h'];exact ⟨rfl,rfl,rfl⟩
def agTo (t:ByteArray) (pos a n:Nat):Bool:=(List.range n).all fun i=>byI t (pos+i)==byI t (a+i)
theorem agTo_next (t:ByteArray) (pos a n:Nat):agTo t pos a (n+1)=(agTo t pos a n&&(byI t (pos+n)==byI t (a+n))):=by
 unfold agTo;rw [List.range_succ,List.all_append];simp
theorem agTo_less (t:ByteArray) (pos a:Nat):∀ (n d:Nat),agTo t pos a n=false→agTo t pos a (n+d)=false
 | n,0,h=>h
 | n,d+1,h=>by rw [← Nat.add_assoc,agTo_next,agTo_less t pos a n d h];rfl
theorem toNat_inj8 {a b:UInt8} (h:(a.toNat:Int)=b.toNat):a=b:=UInt8.toNat_inj.1 (by omega)
theorem byI_in (t:ByteArray) (k:Nat) (h:k<t.size):byI t k=((t[k]'h).toNat:Int):=by unfold byI;rw [dif_pos h]
theorem toList_data (bs:ByteArray):bs.toList=bs.data.toList:=by first | exact Go.ByteArray.toList_eq bs | exact ByteArray.toList_eq bs
theorem extract_get (t:ByteArray) (a b i:Nat) (h:a+i<b) (hb:b≤t.size):(t.extract a b).toList[i]?=some (t[a+i]'(by omega)):=by
 have hs:(t.extract a b).size=b-a:=by rw [ByteArray.size_extract];omega
 have hi:i<(t.extract a b).size:=by omega
 rw [toList_data,List.getElem?_eq_getElem (by rw [Array.length_toList];exact hi)]
 have:=ByteArray.getElem_extract (b:=t) (start:=a) (stop:=b) (i:=i) hi
 rw [← this];rfl
theorem extract_len (t:ByteArray) (a b:Nat) (hb:b≤t.size):(t.extract a b).toList.length=b-a:=by
 have hs:(t.extract a b).size=b-a:=by rw [ByteArray.size_extract];omega
 rw [toList_data,Array.length_toList];exact hs
theorem agTo_extract (t:ByteArray) (pos a n:Nat) (h1:a+n≤t.size) (h2:pos+n≤t.size):agTo t pos a n=((t.extract a (a+n)).toList==(t.extract pos (pos+n)).toList):=by
 rw [Bool.eq_iff_iff,beq_iff_eq]
 unfold agTo
 rw [List.all_eq_true]
 constructor
 ·intro h
  refine List.ext_getElem? (fun i=>?_)
  by_cases hi:i<n
  ·rw [extract_get t a _ i (by omega) h1,extract_get t pos _ i (by omega) h2]
   have:=h i (List.mem_range.2 hi)
   rw [beq_iff_eq,byI_in t _ (by omega),byI_in t _ (by omega)] at this
   rw [toNat_inj8 this]
  ·rw [List.getElem?_eq_none (by rw [extract_len t a _ h1];omega),List.getElem?_eq_none (by rw [extract_len t pos _ h2];omega)]
 ·intro h i hi
  rw [List.mem_range] at hi
  rw [beq_iff_eq,byI_in t _ (by omega),byI_in t _ (by omega)]
  have e:=congrArg (fun l=>l[i]?) h
  try dsimp only at e
  rw [extract_get t a _ i (by omega) h1,extract_get t pos _ i (by omega) h2] at e
  injection e with e
  rw [e]
def Neg1 (s:Sta):Prop:=∀ k,k<10→(gt s (2+2*k)=-1∧gt s (2+(2*k+1))=-1)∨0≤gt s (2+2*k)
theorem Neg1.of {s u:Sta} (h:Neg1 s) (e:∀ k,k<10→(gt u (2+2*k)=gt s (2+2*k)∧gt u (2+(2*k+1))=gt s (2+(2*k+1)))∨0≤gt u (2+2*k)):Neg1 u:=fun k hk=>by
 rcases e k hk with e1 | e1
 ·rw [e1.1,e1.2];exact h k hk
 ·exact .inr e1
theorem Neg1.set {s:Sta} (h:Neg1 s) (i:Nat) (v:Int) (hi:i<2∨22≤i):Neg1 (s.set i v):=h.of fun k hk=>.inl ⟨gt_set_ne _ _ _ _ (by omega),gt_set_ne _ _ _ _ (by omega)⟩
theorem startSt_neg (p:Int):Neg1 (startSt p):=fun k hk=>by
 left
 have key:∀ j,j<20→gt (startSt p) (2+j)=-1:=fun j hj=>by
  unfold gt startSt nowhere
  rw [List.getD_eq_getElem?_getD,show 2+j=j+1+1 by omega,List.getElem?_cons_succ,List.getElem?_cons_succ,List.getElem?_append_left (by simp;omega),List.getElem?_replicate,if_pos (by omega)];rfl
 exact ⟨key _ (by omega),key _ (by omega)⟩
theorem oneP_neg {L T:Nat} {t:ByteArray} {s:Sta} {x:Ins} (hg:Good L T s) (h:Neg1 s) (hx:x.op=6∨x.op=7∨x.op=8→0≤x.x∧x.x<10):Neg1 (oneP t s x).1:=by
 unfold oneP
 by_cases o1:x.op=1
 ·rw [if_pos o1];exact (h.set 1 _ (by omega)).set 0 _ (by omega)
 rw [if_neg o1]
 by_cases o3:x.op=3
 ·rw [if_pos o3];exact h.set 0 _ (by omega)
 rw [if_neg o3]
 by_cases o4:x.op=4
 ·rw [if_pos o4];exact (h.set _ _ (by omega)).set 0 _ (by omega)
 rw [if_neg o4]
 by_cases o5:x.op=5
 ·rw [if_pos o5];exact h.set 0 _ (by omega)
 rw [if_neg o5]
 by_cases o6:x.op=6
 ·rw [if_pos o6];exact (h.set _ _ (by omega)).set 0 _ (by omega)
 rw [if_neg o6]
 by_cases o7:x.op=7
 ·rw [if_pos o7]
  have hi:=hx (.inr (.inl o7))
  refine Neg1.set ?_ 0 _ (by omega)
  refine h.of fun k hk=>?_
  have hl:=hg.len
  by_cases e:k=x.x.toNat
  ·right
   rw [gt_set_ne _ _ _ _ (by omega),show 2+2*k=2+(2*x.x).toNat by omega,gt_set_same _ _ _ (by omega)]
   exact (hg.noted x.x.toNat (by omega)).1
  ·left
   rw [gt_set_ne _ _ _ _ (by omega),gt_set_ne _ _ _ _ (by omega),gt_set_ne _ _ _ _ (by omega),gt_set_ne _ _ _ _ (by omega)]
   exact ⟨rfl,rfl⟩
 rw [if_neg o7]
 by_cases o8:x.op=8
 ·rw [if_pos o8]
  unfold backP
  split
  ·exact h
  split
  ·exact h
  ·exact (h.set 1 _ (by omega)).set 0 _ (by omega)
 rw [if_neg o8]
 split
 ·exact h.set 0 _ (by omega)
 split
 ·exact h.set 0 _ (by omega)
 ·exact h.set 0 _ (by omega)
theorem apartP_neg {s r:Sta} {x:Ins} {ok:Bool} (hs:s.length=44) (hr:r.length=44) (h:Neg1 s) (h2:ok=true→Neg1 r) (hf:(apartP s x r ok).2=true):Neg1 (apartP s x r ok).1:=by
 unfold apartP at hf ⊢
 split
 ·rename_i a;rw [if_pos a] at hf;exact (h2 hf).set 0 _ (by omega)
 rename_i a
 rw [if_neg a] at hf
 split
 ·rename_i b
  rw [if_pos b] at hf
  refine Neg1.set ?_ 0 _ (by omega)
  refine (h2 hf).of fun k hk=>.inl ?_
  rw [gt_withAt s r hs hr,if_pos (by omega),gt_withAt s r hs hr,if_pos (by omega)]
  exact ⟨rfl,rfl⟩
 ·exact h.set 0 _ (by omega)
theorem look_neg (E:Env) (hc:codeOk E.c):∀ (N n:Nat) (s:Sta) (kn:List Bool) (room:Int),n≤N→Good E.c.length E.t.size s→0≤room∧room≤5000→Neg1 s→(look E n s kn room).ok=true→Neg1 (look E n s kn room).st
 | N,0,s,kn,room,_,h,hr,_,ho=>by rw [look_zero] at ho;cases ho
 | 0,n+1,s,kn,room,hn,_,_,_,_=>by omega
 | N+1,n+1,s,kn,room,hn,h,hrm,hg,ho=>by
  have ih:=look_neg E hc N
  rw [look_step] at ho ⊢
  have hR:=E.room'_in s kn room hrm
  have hpc:((pcOf s:Nat):Int)=gt s 0:=by have:=h.pc0;unfold pcOf;omega
  have hi:=hc (pcOf s) h.pcOf_lt
  have hp0:=h.pc0
  by_cases hd:E.dead s kn=true
  ·rw [if_pos hd] at ho;cases ho
  rw [if_neg hd] at ho ⊢
  by_cases h13:(E.ins s).op=13∨(E.ins s).op=12
  ·rw [if_pos h13];exact hg
  rw [if_neg h13] at ho ⊢
  have hx13:(E.c.getD (pcOf s) ins0).op≠13:=fun e=>h13 (.inl e)
  by_cases o2:(E.ins s).op=2
  ·rw [if_pos o2] at ho ⊢
   have i2:=hi.1 o2
   have g1:=look_good E hc N n (s.set 0 (E.ins s).x) (E.kn' s kn room) (E.room' s kn room) (by omega) (h.at_pc _ i2.1 i2.2.1) hR
   have n1:=look_n E n (s.set 0 (E.ins s).x) (E.kn' s kn room) (E.room' s kn room)
   have k1:=ih n (s.set 0 (E.ins s).x) (E.kn' s kn room) (E.room' s kn room) (by omega) (h.at_pc _ i2.1 i2.2.1) hR (hg.set 0 _ (by omega))
   dsimp only at ho ⊢
   generalize look E n (s.set 0 (E.ins s).x) (E.kn' s kn room) (E.room' s kn room)=r at *
   by_cases hro:(r.ok||r.over)=true
   ·rw [if_pos hro] at ho ⊢;exact k1 ho
   ·rw [if_neg hro] at ho ⊢
    exact ih r.n (s.set 0 (E.ins s).y) r.kn r.room (by omega) (h.at_pc _ i2.2.2.1 i2.2.2.2) g1.2.2.1 (hg.set 0 _ (by omega)) ho
  rw [if_neg o2] at ho ⊢
  by_cases o11:(E.ins s).op=11
  ·rw [if_pos o11] at ho ⊢
   have i11:=hi.2.2.2.2.2.1 o11
   have hn1:pcOf s+1<E.c.length:=hi.2.2.2.2.2.2.1 hx13
   have gs:=h.at_pc (gt s 0+1) (by omega) (by omega)
   have g1:=look_good E hc N n (s.set 0 (gt s 0+1)) (E.kn' s kn room) (E.room' s kn room) (by omega) gs hR
   have n1:=look_n E n (s.set 0 (gt s 0+1)) (E.kn' s kn room) (E.room' s kn room)
   have k1:=ih n (s.set 0 (gt s 0+1)) (E.kn' s kn room) (E.room' s kn room) (by omega) gs hR (hg.set 0 _ (by omega))
   dsimp only at ho ⊢
   generalize look E n (s.set 0 (gt s 0+1)) (E.kn' s kn room) (E.room' s kn room)=r at *
   by_cases hov:r.over=true
   ·rw [if_pos hov] at ho;cases ho
   rw [if_neg hov] at ho ⊢
   by_cases hk:(apartP s (E.ins s) r.st r.ok).2=true
   ·rw [if_pos hk] at ho ⊢
    exact ih r.n _ r.kn r.room (by omega) (apartP_good h g1.1 (E.ins s) i11.1 i11.2.1 hk) g1.2.2.1 (apartP_neg h.len g1.2.2.2.1 hg k1 hk) ho
   ·rw [if_neg hk] at ho;cases ho
  rw [if_neg o11] at ho ⊢
  by_cases hk:(oneP E.t s (E.ins s)).2=true
  ·rw [if_pos hk] at ho ⊢
   exact ih n _ _ _ (by omega) (oneP_good hc h (t:=E.t) o2 o11 hx13 hk) hR (oneP_neg h hg (fun e=>hi.2.2.2.2.1 e)) ho
  ·rw [if_neg hk] at ho;cases ho
theorem back_is (t:ByteArray) (q:Sta) (x:Ins) (pc pos a b X:Nat) (ho:x.op=8) (hX:x.x=X) (h0:gt q 0=pc) (h1:gt q 1=pos) (ha:gt q (2+2*X)=a) (hb:gt q (2+(2*X+1))=b) (hab:a≤b) (hbt:b≤t.size) (hpos:pos≤t.size) :
  (oneP t q x).2=(if (t.size:Int)<pos+((b-a:Nat):Int) then false else agTo t pos a (b-a))∧((oneP t q x).2=true→(oneP t q x).1=(q.set 1 ((pos:Int)+((b-a:Nat):Int))).set 0 ((pc:Int)+1)):=by
 unfold oneP
 rw [if_neg (by omega),if_neg (by omega),if_neg (by omega),if_neg (by omega),if_neg (by omega),if_neg (by omega),if_pos ho]
 unfold backP
 have e1:(2*x.x).toNat=2*X:=by omega
 have e2:(2*x.x+1).toNat=2*X+1:=by omega
 rw [e1,e2,ha,hb,h0,h1,if_neg (by omega)]
 by_cases hlt:(t.size:Int)<pos+((b-a:Nat):Int)
 ·rw [if_pos (show (t.size:Int)<(pos:Int)+((b:Int)-(a:Int)) by omega),if_pos hlt]
  exact ⟨rfl,fun e=>by cases e⟩
 ·rw [if_neg (show ¬ (t.size:Int)<(pos:Int)+((b:Int)-(a:Int)) by omega),if_neg hlt]
  refine ⟨?_,fun _=>?_⟩
  ·dsimp only
   rw [agTo_extract t pos a (b-a) (by omega) (by omega)]
   simp only [Int.toNat_natCast]
   rw [show a+(b-a)=b by omega,show pos+b-a=pos+(b-a) by omega]
  ·dsimp only
   rw [show (pos:Int)+(b:Int)-(a:Int)=(pos:Int)+((b-a:Nat):Int) by omega]
theorem back_no (t:ByteArray) (q:Sta) (x:Ins) (X:Nat) (ho:x.op=8) (hX:x.x=X) (ha:gt q (2+2*X)=-1):(oneP t q x).2=false:=by
 unfold oneP
 rw [if_neg (by omega),if_neg (by omega),if_neg (by omega),if_neg (by omega),if_neg (by omega),if_neg (by omega),if_pos ho]
 unfold backP
 have e1:(2*x.x).toNat=2*X:=by omega
 rw [e1,ha,if_pos (by omega)]
structure Inside (T:Nat) (frm:Nat) (f:Fnd):Prop where
 len:f.at'.length=20
 steps1:1≤f.steps
 steps2:f.steps≤10000
 place:∀ i,i<10→(f.at'.getD (2*i) 0=-1∧f.at'.getD (2*i+1) 0=-1)∨(f.ok=true∧0≤f.at'.getD (2*i) 0∧f.at'.getD (2*i) 0≤f.at'.getD (2*i+1) 0∧f.at'.getD (2*i+1) 0≤T)
 yes:f.ok=true→(frm:Int)≤f.at'.getD 0 0∧f.at'.getD 0 0-frm+1≤f.steps
 no:f.ok=false→(T:Int)-frm+1≤f.steps
 all:f.ok=false→∀ j,j<20→f.at'.getD j 0=-1
theorem codeR_err (p:ByteArray):(codeR p).2=(checkR p).1:=by
 unfold codeR
 split
 ·rfl
 ·rename_i x;simp at x;simp [x]
theorem findR_err (p t:ByteArray) (frm policy mask room budget:Int) (h:(checkR p).1≠0):findR p t frm policy mask room budget=(fnd0,(checkR p).1):=by
 unfold findR;rw [codeR_err,if_pos h]
def Opt (policy mask room budget:Int):Prop:=(0≤policy∧policy<5)∧(0≤mask∧mask<4294967296)∧(0≤room∧room<5001)∧0≤budget∧budget≤10000
end Mt
