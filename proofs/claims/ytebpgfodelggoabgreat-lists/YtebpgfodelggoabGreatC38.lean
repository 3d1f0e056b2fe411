import Derived.Test.YtebpgfodelggoabGreatC36
import Derived.Laws.Strings
set_option linter.unusedVariables false
set_option linter.unusedSimpArgs false
namespace Mt
def Env.arN (E:Env) (p:Nat):Nat:=(E.ar.getD p 0).toNat
def Env.base (E:Env):Nat→Nat
 | 0=>0
 | p+1=>E.base p+if E.inn.getD p false=true then (E.t.size+1)*(E.arN p+1) else 0
theorem Env.zIG (E:Env) (p:Nat) (h:E.inn.getD p false=true):E.base (p+1)=E.base p+(E.t.size+1)*(E.arN p+1):=by rw [Env.base,if_pos h]
theorem Env.zNQ (E:Env) (p:Nat) (h:E.inn.getD p false=false):E.base (p+1)=E.base p:=by rw [Env.base,if_neg (by rw [h];exact Bool.false_ne_true)];rfl
theorem Env.zCE (E:Env) (p:Nat):∀ d,E.base p≤E.base (p+d)
 | 0=>Nat.le_refl _
 | d+1=>by
  have:=Env.zCE E p d
  rw [← Nat.add_assoc,Env.base];omega
theorem Env.zHs (E:Env) (h:∀ p,E.arN p≤11):∀ p,E.base p≤p*((E.t.size+1)*12)
 | 0=>by simp [Env.base]
 | p+1=>by
  have ih:=Env.zHs E h p
  have:=Nat.mul_le_mul_left (E.t.size+1) (show E.arN p+1≤12 by have:=h p;omega)
  have e:(p+1)*((E.t.size+1)*12)=p*((E.t.size+1)*12)+(E.t.size+1)*12:=by rw [Nat.add_mul,Nat.one_mul]
  rw [Env.base,e]
  generalize (E.t.size+1)*(E.arN p+1)=u at *
  generalize p*((E.t.size+1)*12)=v at *
  split <;> omega
def Env.slot (E:Env) (p pos l:Nat):Nat:=E.base p+l*(E.t.size+1)+pos
theorem Env.zHt (E:Env) (p pos l:Nat) (hi:E.inn.getD p false=true) (hp:pos≤E.t.size) (hl:l≤E.arN p):E.slot p pos l<E.base (p+1):=by
 rw [E.zIG p hi]
 unfold Env.slot
 have:=Nat.mul_le_mul_right (E.t.size+1) hl
 have e:(E.t.size+1)*(E.arN p+1)=E.arN p*(E.t.size+1)+(E.t.size+1):=by rw [Nat.mul_comm,Nat.add_mul,Nat.one_mul]
 rw [e]
 omega
theorem zHu {m a b c d:Nat} (hb:b<m) (hd:d<m) (h:a*m+b=c*m+d):a=c∧b=d:=by
 have h1:(a*m+b)/m=a:=by rw [Nat.mul_comm,Nat.mul_add_div (by omega),Nat.div_eq_of_lt hb,Nat.add_zero]
 have h2:(c*m+d)/m=c:=by rw [Nat.mul_comm,Nat.mul_add_div (by omega),Nat.div_eq_of_lt hd,Nat.add_zero]
 rw [h,h2] at h1
 subst h1
 exact ⟨rfl,by omega⟩
theorem Env.zPJ (E:Env) {p pos l p' pos' l':Nat} (hi:E.inn.getD p false=true) (hp:pos≤E.t.size) (hl:l≤E.arN p) (hi':E.inn.getD p' false=true) (hp':pos'≤E.t.size) (hl':l'≤E.arN p') (h:E.slot p pos l=E.slot p' pos' l'):p=p'∧pos=pos'∧l=l':=by
 have k1:=E.zHt p pos l hi hp hl
 have k2:=E.zHt p' pos' l' hi' hp' hl'
 have e:p=p':=by
  rcases Nat.lt_trichotomy p p' with hlt | he | hgt
  ·exfalso
   have:=E.zCE (p+1) (p'-(p+1))
   rw [show p+1+(p'-(p+1))=p' by omega] at this
   unfold Env.slot at h k1 k2;omega
  ·exact he
  ·exfalso
   have:=E.zCE (p'+1) (p-(p'+1))
   rw [show p'+1+(p-(p'+1))=p by omega] at this
   unfold Env.slot at h k1 k2;omega
 subst e
 unfold Env.slot at h
 have:=zHu (m:=E.t.size+1) (a:=l) (b:=pos) (c:=l') (d:=pos') (by omega) (by omega) (by omega)
 exact ⟨rfl,this.2,this.1⟩
theorem key_inj {T p pos l p' pos' l':Nat} (hp:pos≤T) (hl:l<12) (hp':pos'≤T) (hl':l'<12) (h:(p*(T+1)+pos)*12+l=(p'*(T+1)+pos')*12+l'):p=p'∧pos=pos'∧l=l':=by
 have h1:=zHu hl hl' h
 have h2:=zHu (show pos<T+1 by omega) (show pos'<T+1 by omega) h1.1
 exact ⟨h2.1,h2.2,h1.2⟩
structure Tab (E:Env) (hd kn:List Bool):Prop where
 len:hd.length=E.base E.c.length
 same:∀ p pos l,p<E.c.length→E.inn.getD p false=true→pos≤E.t.size→l≤E.arN p→hd.getD (E.slot p pos l) false=kn.getD ((p*(E.t.size+1)+pos)*12+l) false
theorem zGI (l:List Bool) (i j:Nat) (v:Bool):(l.set i v).getD j false=if i=j∧i<l.length then v else l.getD j false:=by
 simp only [List.getD_eq_getElem?_getD,List.getElem?_set]
 by_cases h:i=j
 ·subst h
  by_cases h2:i<l.length
  ·simp [h2]
  ·simp [h2]
 ·simp [h]
theorem Tab.set {E:Env} {hd kn:List Bool} (h:Tab E hd kn) (hkn:kn.length=E.c.length*(E.t.size+1)*12) (ha:∀ p,E.arN p≤11) (p pos l:Nat) (hp:p<E.c.length) (hi:E.inn.getD p false=true) (hpos:pos≤E.t.size) (hl:l≤E.arN p) :
  Tab E (hd.set (E.slot p pos l) true) (kn.set ((p*(E.t.size+1)+pos)*12+l) true):=by
 have k1:=E.zHt p pos l hi hpos hl
 have k2:=E.zCE (p+1) (E.c.length-(p+1))
 rw [show p+1+(E.c.length-(p+1))=E.c.length by omega] at k2
 have k3:(p*(E.t.size+1)+pos)*12+l<kn.length:=by
  rw [hkn]
  have h5:(p+1)*(E.t.size+1)≤E.c.length*(E.t.size+1):=Nat.mul_le_mul_right _ (by omega)
  have:=ha p
  rw [Nat.add_mul] at h5
  omega
 refine ⟨by rw [List.length_set];exact h.len,fun p' pos' l' hp' hi' hpos' hl'=>?_⟩
 rw [zGI,zGI]
 by_cases e:p=p'∧pos=pos'∧l=l'
 ·obtain ⟨rfl,rfl,rfl⟩:=e
  rw [if_pos ⟨rfl,by rw [h.len];omega⟩,if_pos ⟨rfl,k3⟩]
 ·rw [if_neg (fun x=>e (E.zPJ hi hpos hl hi' hpos' hl' x.1)),if_neg (fun x=>e (key_inj hpos (by have:=ha p;omega) hpos' (by have:=ha p';omega) x.1))]
  exact h.same p' pos' l' hp' hi' hpos' hl'
theorem Tab.start (E:Env) (n:Nat):Tab E (List.replicate (E.base E.c.length) false) (List.replicate n false):=by
 refine ⟨by simp,fun p pos l hp hi hpos hl=>?_⟩
 rw [List.getD_eq_getElem?_getD,List.getD_eq_getElem?_getD,List.getElem?_replicate,List.getElem?_replicate]
 split <;> split <;> rfl
theorem zNR (E:Env) (q:Sta) (ha:E.arN (kZ q)≤11):E.key q=(kZ q*(E.t.size+1)+posOf q)*12+zV q (E.arN (kZ q)):=by
 unfold Env.key keyOf lev
 have e:(E.ar.getD (kZ q) 0).toNat=E.arN (kZ q):=rfl
 rw [e,Nat.min_eq_left (by omega)]
theorem Tab.ask {E:Env} {hd kn:List Bool} (h:Tab E hd kn) (hkn:kn.length=E.c.length*(E.t.size+1)*12) (ha:∀ p,E.arN p≤11) (q:Sta) (room:Int) (hp:kZ q<E.c.length) (hpos:posOf q≤E.t.size) (hi:E.isIn q=true) :
  hd.getD (E.slot (kZ q) (posOf q) (zV q (E.arN (kZ q)))) false=E.dead q kn∧E.slot (kZ q) (posOf q) (zV q (E.arN (kZ q)))<hd.length
  ∧ (E.dead q kn=true→E.kn' q kn room=kn∧E.room' q kn room=room)
  ∧ (E.dead q kn=false→(0<room→Tab E (hd.set (E.slot (kZ q) (posOf q) (zV q (E.arN (kZ q)))) true) (E.kn' q kn room)∧E.room' q kn room=room-1)∧(¬ 0<room→E.kn' q kn room=kn∧E.room' q kn room=room)):=by
 have hk:=zNR E q (ha _)
 have hll:=zCL q (E.arN (kZ q))
 have hi':E.inn.getD (kZ q) false=true:=hi
 have hs:=h.same (kZ q) (posOf q) _ hp hi' hpos hll
 have k1:=E.zHt (kZ q) (posOf q) _ hi' hpos hll
 have k2:=E.zCE (kZ q+1) (E.c.length-(kZ q+1))
 rw [show kZ q+1+(E.c.length-(kZ q+1))=E.c.length by omega] at k2
 have hd':E.dead q kn=kn.getD (E.key q) false:=by unfold Env.dead;rw [if_pos hi]
 refine ⟨by rw [hd',hk];exact hs,by rw [h.len];omega,fun e=>?_,fun e=>⟨fun hr=>?_,fun hr=>?_⟩⟩
 ·rw [hd'] at e
  unfold Env.kn' Env.room' yA kV
  rw [if_pos hi,if_pos hi,if_pos e,if_pos e];exact ⟨rfl,rfl⟩
 ·rw [hd'] at e
  have e':¬ kn.getD (E.key q) false=true:=by rw [e];exact Bool.false_ne_true
  unfold Env.kn' Env.room' yA kV
  rw [if_pos hi,if_pos hi,if_neg e',if_neg e',if_pos hr,if_pos hr]
  refine ⟨?_,rfl⟩
  rw [hk];exact h.set hkn ha _ _ _ hp hi' hpos hll
 ·rw [hd'] at e
  have e':¬ kn.getD (E.key q) false=true:=by rw [e];exact Bool.false_ne_true
  unfold Env.kn' Env.room' yA kV
  rw [if_pos hi,if_pos hi,if_neg e',if_neg e',if_neg hr,if_neg hr];exact ⟨rfl,rfl⟩
theorem Env.zSk (E:Env) (q:Sta) (kn:List Bool) (room:Int) (h:E.isIn q=false):E.dead q kn=false∧E.kn' q kn room=kn∧E.room' q kn room=room:=by
 have h':¬ E.isIn q=true:=by rw [h];exact Bool.false_ne_true
 unfold Env.dead Env.kn' Env.room'
 rw [if_neg h',if_neg h',if_neg h'];exact ⟨rfl,rfl,rfl⟩
def zKM (t:ByteArray) (pos a n:Nat):Bool:=(List.range n).all fun i=>byI t (pos+i)==byI t (a+i)
theorem zIH (t:ByteArray) (pos a n:Nat):zKM t pos a (n+1)=(zKM t pos a n&&(byI t (pos+n)==byI t (a+n))):=by
 unfold zKM;rw [List.range_succ,List.all_append];simp
theorem zII (t:ByteArray) (pos a:Nat):∀ (n d:Nat),zKM t pos a n=false→zKM t pos a (n+d)=false
 | n,0,h=>h
 | n,d+1,h=>by rw [← Nat.add_assoc,zIH,zII t pos a n d h];rfl
theorem zLW {a b:UInt8} (h:(a.toNat:Int)=b.toNat):a=b:=UInt8.toNat_inj.1 (by omega)
theorem zGJ (t:ByteArray) (k:Nat) (h:k<t.size):byI t k=((t[k]'h).toNat:Int):=by unfold byI;rw [dif_pos h]
theorem toList_data (bs:ByteArray):bs.toList=bs.data.toList:=by first | exact Go.ByteArray.toList_eq bs | exact ByteArray.toList_eq bs
theorem zCd (t:ByteArray) (a b i:Nat) (h:a+i<b) (hb:b≤t.size):(t.extract a b).toList[i]?=some (t[a+i]'(by omega)):=by
 have hs:(t.extract a b).size=b-a:=by rw [ByteArray.size_extract];omega
 have hi:i<(t.extract a b).size:=by omega
 rw [toList_data,List.getElem?_eq_getElem (by rw [Array.length_toList];exact hi)]
 have:=ByteArray.getElem_extract (b:=t) (start:=a) (stop:=b) (i:=i) hi
 rw [← this];rfl
theorem zFM (t:ByteArray) (a b:Nat) (hb:b≤t.size):(t.extract a b).toList.length=b-a:=by
 have hs:(t.extract a b).size=b-a:=by rw [ByteArray.size_extract];omega
 rw [toList_data,Array.length_toList];exact hs
theorem zIJ (t:ByteArray) (pos a n:Nat) (h1:a+n≤t.size) (h2:pos+n≤t.size):zKM t pos a n=((t.extract a (a+n)).toList==(t.extract pos (pos+n)).toList):=by
 rw [Bool.eq_iff_iff,beq_iff_eq]
 unfold zKM
 rw [List.all_eq_true]
 constructor
 ·intro h
  refine List.ext_getElem? (fun i=>?_)
  by_cases hi:i<n
  ·rw [zCd t a _ i (by omega) h1,zCd t pos _ i (by omega) h2]
   have:=h i (List.mem_range.2 hi)
   rw [beq_iff_eq,zGJ t _ (by omega),zGJ t _ (by omega)] at this
   rw [zLW this]
  ·rw [List.getElem?_eq_none (by rw [zFM t a _ h1];omega),List.getElem?_eq_none (by rw [zFM t pos _ h2];omega)]
 ·intro h i hi
  rw [List.mem_range] at hi
  rw [beq_iff_eq,zGJ t _ (by omega),zGJ t _ (by omega)]
  have e:=congrArg (fun l=>l[i]?) h
  try dsimp only at e
  rw [zCd t a _ i (by omega) h1,zCd t pos _ i (by omega) h2] at e
  injection e with e
  rw [e]
end Mt
