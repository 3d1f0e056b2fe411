import Derived.Test.YtebpgfodelggoaaGreatC10
import Derived.Test.YtebpgfodelggoaaGreatC12
set_option linter.unusedVariables false
set_option linter.unusedSimpArgs false
set_option maxRecDepth 100000
set_option maxHeartbeats 4000000
namespace Mt
def byI (t:ByteArray) (k:Nat):Int:=if h:k<t.size then ((t[k]'h).toNat:Int) else 0
def zBT (t:ByteArray) (s:Sta) (k:Int):Sta × Bool :=
 if gt s (2+(2*k).toNat)<0 then (s,false)
 else if (t.size:Int)<gt s 1+(gt s (2+(2*k+1).toNat)-gt s (2+(2*k).toNat)) then (s,false)
 else ((s.set 1 (gt s 1+gt s (2+(2*k+1).toNat)-gt s (2+(2*k).toNat))).set 0 (gt s 0+1),
  (t.extract (gt s (2+(2*k).toNat)).toNat (gt s (2+(2*k+1).toNat)).toNat).toList==(t.extract (gt s 1).toNat ((gt s 1).toNat+(gt s (2+(2*k+1).toNat)).toNat-(gt s (2+(2*k).toNat)).toNat)).toList)
def qU (t:ByteArray) (s:Sta) (x:Ins):Sta × Bool :=
 if x.op=1 then ((s.set 1 (gt s 1+1)).set 0 (gt s 0+1),if gt s 1<t.size then hasB ⟨x.set.toArray⟩ (byI t (gt s 1).toNat) else false)
 else if x.op=3 then (s.set 0 x.x,true)
 else if x.op=4 then ((s.set (32+x.x.toNat) (gt s 1)).set 0 (gt s 0+1),true)
 else if x.op=5 then (s.set 0 x.x,gt s (32+x.y.toNat) != gt s 1)
 else if x.op=6 then ((s.set (22+x.x.toNat) (gt s 1)).set 0 (gt s 0+1),true)
 else if x.op=7 then (((s.set (2+(2*x.x).toNat) (gt s (22+x.x.toNat))).set (2+(2*x.x+1).toNat) (gt s 1)).set 0 (gt s 0+1),true)
 else if x.op=8 then zBT t s x.x
 else if x.op=9 then (s.set 0 (gt s 0+1),gt s 1==0)
 else if x.op=10 then (s.set 0 (gt s 0+1),gt s 1==(t.size:Int))
 else (s.set 0 (gt s 0+1),true)
def zCl (s r:Sta):Sta:=s.take 2++((r.drop 2).take 20++s.drop 22)
def qP (s:Sta) (x:Ins) (r:Sta) (ok:Bool):Sta × Bool :=
 if x.x=0 then (r.set 0 x.y,ok) else if x.x=1 then ((zCl s r).set 0 x.y,ok) else (s.set 0 x.y,!ok)
structure Env where
 c:List Ins
 t:ByteArray
 inn:List Bool
 ar:List Int
structure Res where
 st:Sta
 ok:Bool
 n:Nat
 kn:List Bool
 room:Int
 over:Bool
def kY (s:Sta):Nat:=(gt s 0).toNat
def posOf (s:Sta):Nat:=(gt s 1).toNat
def Env.key (E:Env) (s:Sta):Nat:=keyOf s (kY s) (posOf s) E.t.size (E.ar.getD (kY s) 0).toNat
def Env.isIn (E:Env) (s:Sta):Bool:=E.inn.getD (kY s) false
def Env.dead (E:Env) (s:Sta) (kn:List Bool):Bool:=if E.isIn s then kn.getD (E.key s) false else false
def Env.kn' (E:Env) (s:Sta) (kn:List Bool) (room:Int):List Bool:=if E.isIn s then yB kn room (E.key s) else kn
def Env.room' (E:Env) (s:Sta) (kn:List Bool) (room:Int):Int:=if E.isIn s then kV kn room (E.key s) else room
def Env.ins (E:Env) (s:Sta):Ins:=E.c.getD (kY s) jA
def zAF (E:Env):Nat→Nat→Sta→List Bool→Int→Res
 | 0,_,s,kn,room=>⟨s,false,0,kn,room,true⟩
 | _+1,0,s,kn,room=>⟨s,false,0,kn,room,true⟩
 | F+1,n+1,s,kn,room =>
  if E.dead s kn then ⟨s,false,n,E.kn' s kn room,E.room' s kn room,false⟩
  else if (E.ins s).op=13∨(E.ins s).op=12 then ⟨s,true,n,E.kn' s kn room,E.room' s kn room,false⟩
  else if (E.ins s).op=2 then
   let r:=zAF E F n (s.set 0 (E.ins s).x) (E.kn' s kn room) (E.room' s kn room)
   if r.ok||r.over then r else zAF E F r.n (s.set 0 (E.ins s).y) r.kn r.room
  else if (E.ins s).op=11 then
   let r:=zAF E F n (s.set 0 (gt s 0+1)) (E.kn' s kn room) (E.room' s kn room)
   if r.over then ⟨s,false,r.n,r.kn,r.room,true⟩
   else if (qP s (E.ins s) r.st r.ok).2 then zAF E F r.n (qP s (E.ins s) r.st r.ok).1 r.kn r.room
   else ⟨(qP s (E.ins s) r.st r.ok).1,false,r.n,r.kn,r.room,false⟩
  else if (qU E.t s (E.ins s)).2 then zAF E F n (qU E.t s (E.ins s)).1 (E.kn' s kn room) (E.room' s kn room)
  else ⟨(qU E.t s (E.ins s)).1,false,n,E.kn' s kn room,E.room' s kn room,false⟩
theorem zDS (E:Env):∀ (F n:Nat) (s:Sta) (kn:List Bool) (room:Int),(zAF E F n s kn room).n≤n
 | 0,n,s,kn,room=>Nat.zero_le _
 | F+1,0,s,kn,room=>Nat.zero_le _
 | F+1,n+1,s,kn,room=>by
  have ih:=zDS E F
  unfold zAF
  split
  ·exact Nat.le_succ n
  split
  ·exact Nat.le_succ n
  split
  ·have h1:=ih n (s.set 0 (E.ins s).x) (E.kn' s kn room) (E.room' s kn room)
   dsimp only
   split
   ·omega
   ·have h2:=ih (zAF E F n (s.set 0 (E.ins s).x) (E.kn' s kn room) (E.room' s kn room)).n (s.set 0 (E.ins s).y) (zAF E F n (s.set 0 (E.ins s).x) (E.kn' s kn room) (E.room' s kn room)).kn (zAF E F n (s.set 0 (E.ins s).x) (E.kn' s kn room) (E.room' s kn room)).room
    omega
  split
  ·have h1:=ih n (s.set 0 (gt s 0+1)) (E.kn' s kn room) (E.room' s kn room)
   dsimp only
   split
   ·show Res.n _≤_;dsimp only;omega
   split
   ·have h2:=ih (zAF E F n (s.set 0 (gt s 0+1)) (E.kn' s kn room) (E.room' s kn room)).n
     (qP s (E.ins s) (zAF E F n (s.set 0 (gt s 0+1)) (E.kn' s kn room) (E.room' s kn room)).st (zAF E F n (s.set 0 (gt s 0+1)) (E.kn' s kn room) (E.room' s kn room)).ok).1
     (zAF E F n (s.set 0 (gt s 0+1)) (E.kn' s kn room) (E.room' s kn room)).kn (zAF E F n (s.set 0 (gt s 0+1)) (E.kn' s kn room) (E.room' s kn room)).room
    omega
   ·dsimp only;omega
  split
  ·have:=ih n (qU E.t s (E.ins s)).1 (E.kn' s kn room) (E.room' s kn room)
   omega
  ·exact Nat.le_succ n
theorem zDT (E:Env):∀ (F G n:Nat) (s:Sta) (kn:List Bool) (room:Int),n≤F→n≤G→zAF E F n s kn room=zAF E G n s kn room
 | 0,0,n,s,kn,room,_,_=>rfl
 | 0,G+1,n,s,kn,room,h,_=>by
                    obtain rfl:n=0:=by omega
                    rfl
 | F+1,0,n,s,kn,room,_,h=>by
                    obtain rfl:n=0:=by omega
                    rfl
 | F+1,G+1,0,s,kn,room,_,_=>rfl
 | F+1,G+1,n+1,s,kn,room,hF,hG=>by
  have ih:∀ (n:Nat) (s:Sta) (kn:List Bool) (room:Int),n≤F→n≤G→zAF E F n s kn room=zAF E G n s kn room:=zDT E F G
  unfold zAF
  have e1:=ih n (s.set 0 (E.ins s).x) (E.kn' s kn room) (E.room' s kn room) (by omega) (by omega)
  have e2:=ih n (s.set 0 (gt s 0+1)) (E.kn' s kn room) (E.room' s kn room) (by omega) (by omega)
  have e3:=ih n (qU E.t s (E.ins s)).1 (E.kn' s kn room) (E.room' s kn room) (by omega) (by omega)
  have n1:=zDS E G n (s.set 0 (E.ins s).x) (E.kn' s kn room) (E.room' s kn room)
  have n2:=zDS E G n (s.set 0 (gt s 0+1)) (E.kn' s kn room) (E.room' s kn room)
  dsimp only
  rw [e1,e2,e3]
  generalize zAF E G n (s.set 0 (E.ins s).x) (E.kn' s kn room) (E.room' s kn room)=r1 at *
  generalize zAF E G n (s.set 0 (gt s 0+1)) (E.kn' s kn room) (E.room' s kn room)=r2 at *
  rw [ih r1.n _ _ _ (by omega) (by omega),ih r2.n _ _ _ (by omega) (by omega)]
def look (E:Env) (n:Nat) (s:Sta) (kn:List Bool) (room:Int):Res:=zAF E n n s kn room
theorem zCm (E:Env) (n:Nat) (s:Sta) (kn:List Bool) (room:Int):(look E n s kn room).n≤n:=zDS E n n s kn room
theorem zCn (E:Env) (s:Sta) (kn:List Bool) (room:Int):look E 0 s kn room=⟨s,false,0,kn,room,true⟩:=rfl
theorem zAt (E:Env) (n:Nat) (s:Sta) (kn:List Bool) (room:Int):look E (n+1) s kn room =
  if E.dead s kn then ⟨s,false,n,E.kn' s kn room,E.room' s kn room,false⟩
  else if (E.ins s).op=13∨(E.ins s).op=12 then ⟨s,true,n,E.kn' s kn room,E.room' s kn room,false⟩
  else if (E.ins s).op=2 then
   let r:=look E n (s.set 0 (E.ins s).x) (E.kn' s kn room) (E.room' s kn room)
   if r.ok||r.over then r else look E r.n (s.set 0 (E.ins s).y) r.kn r.room
  else if (E.ins s).op=11 then
   let r:=look E n (s.set 0 (gt s 0+1)) (E.kn' s kn room) (E.room' s kn room)
   if r.over then ⟨s,false,r.n,r.kn,r.room,true⟩
   else if (qP s (E.ins s) r.st r.ok).2 then look E r.n (qP s (E.ins s) r.st r.ok).1 r.kn r.room
   else ⟨(qP s (E.ins s) r.st r.ok).1,false,r.n,r.kn,r.room,false⟩
  else if (qU E.t s (E.ins s)).2 then look E n (qU E.t s (E.ins s)).1 (E.kn' s kn room) (E.room' s kn room)
  else ⟨(qU E.t s (E.ins s)).1,false,n,E.kn' s kn room,E.room' s kn room,false⟩:=by
 show zAF E (n+1) (n+1) s kn room=_
 conv=>lhs;unfold zAF
 have n1:=zDS E n n (s.set 0 (E.ins s).x) (E.kn' s kn room) (E.room' s kn room)
 have n2:=zDS E n n (s.set 0 (gt s 0+1)) (E.kn' s kn room) (E.room' s kn room)
 unfold look
 dsimp only
 generalize zAF E n n (s.set 0 (E.ins s).x) (E.kn' s kn room) (E.room' s kn room)=r1 at *
 generalize zAF E n n (s.set 0 (gt s 0+1)) (E.kn' s kn room) (E.room' s kn room)=r2 at *
 rw [zDT E n r1.n r1.n _ _ _ n1 (Nat.le_refl _),zDT E n r2.n r2.n _ _ _ n2 (Nat.le_refl _)]
def zK1 (c:List Ins) (p:Nat) (x:Ins):Prop :=
 (x.op=2→0≤x.x∧x.x<c.length∧0≤x.y∧x.y<c.length)
 ∧ (x.op=3→0≤x.x∧x.x<c.length)
 ∧ (x.op=4→0≤x.x∧x.x<12)
 ∧ (x.op=5→0≤x.x∧x.x<c.length∧0≤x.y∧x.y<12)
 ∧ (x.op=6∨x.op=7∨x.op=8→0≤x.x∧x.x<10)
 ∧ (x.op=11→0≤x.y∧x.y<c.length∧0≤x.x∧x.x≤2)
 ∧ (x.op≠13→p+1<c.length)
 ∧ x.set.length≤256
def codeOk (c:List Ins):Prop:=∀ p,p<c.length→zK1 c p (c.getD p jA)
structure Good (L T:Nat) (s:Sta):Prop where
 len:s.length=44
 pc0:0≤gt s 0
 pc1:gt s 0<L
 zOw:0≤gt s 1
 pos1:gt s 1≤T
 place:∀ k,k<10→gt s (2+2*k)<0∨(0≤gt s (2+2*k)∧gt s (2+2*k)≤gt s (2+(2*k+1))∧gt s (2+(2*k+1))≤T)
 noted:∀ k,k<10→0≤gt s (22+k)∧gt s (22+k)≤gt s 1
theorem zDo (s:Sta) (i j:Nat) (v:Int):gt (s.set i v) j=if i=j∧i<s.length then v else gt s j:=by
 unfold gt
 simp only [List.getD_eq_getElem?_getD,List.getElem?_set]
 by_cases h:i=j
 ·subst h
  by_cases h2:i<s.length
  ·simp [h2]
  ·simp [h2]
 ·simp [h]
theorem zS (s:Sta) (i j:Nat) (v:Int) (h:i≠j):gt (s.set i v) j=gt s j:=by rw [zDo,if_neg (by omega)]
theorem qA (s:Sta) (i:Nat) (v:Int) (h:i<s.length):gt (s.set i v) i=v:=by rw [zDo,if_pos ⟨rfl,h⟩]
theorem Good.zAl {L T:Nat} {s:Sta} (h:Good L T s) (p:Int) (h0:0≤p) (h1:p<L):Good L T (s.set 0 p):=by
 have hl:=h.len
 have e:∀ j,0<j→gt (s.set 0 p) j=gt s j:=fun j hj=>zS _ _ _ _ (by omega)
 have e0:gt (s.set 0 p) 0=p:=qA _ _ _ (by omega)
 refine ⟨by simp [hl],by omega,by omega,by rw [e 1 (by omega)];exact h.zOw,by rw [e 1 (by omega)];exact h.pos1,fun k hk=>?_,fun k hk=>?_⟩
 ·rw [e _ (by omega),e _ (by omega)];exact h.place k hk
 ·rw [e _ (by omega),e _ (by omega)];exact h.noted k hk
theorem Good.zPJ {L T:Nat} {s:Sta} (h:Good L T s) (p:Int) (h0:gt s 1≤p) (h1:p≤T):Good L T (s.set 1 p):=by
 have hl:=h.len
 have e:∀ j,j≠1→gt (s.set 1 p) j=gt s j:=fun j hj=>zS _ _ _ _ (by omega)
 have e0:gt (s.set 1 p) 1=p:=qA _ _ _ (by omega)
 have hp0:=h.zOw
 refine ⟨by simp [hl],by rw [e 0 (by omega)];exact h.pc0,by rw [e 0 (by omega)];exact h.pc1,by omega,by omega,fun k hk=>?_,fun k hk=>?_⟩
 ·rw [e _ (by omega),e _ (by omega)];exact h.place k hk
 ·rw [e _ (by omega),e0];have:=h.noted k hk;omega
theorem Good.zQd {L T:Nat} {s:Sta} (h:Good L T s) (k:Nat) (v:Int):Good L T (s.set (32+k) v):=by
 have hl:=h.len
 have e:∀ j,j<32→gt (s.set (32+k) v) j=gt s j:=fun j hj=>zS _ _ _ _ (by omega)
 refine ⟨by simp [hl],by rw [e 0 (by omega)];exact h.pc0,by rw [e 0 (by omega)];exact h.pc1,by rw [e 1 (by omega)];exact h.zOw,by rw [e 1 (by omega)];exact h.pos1,fun k hk=>?_,fun k hk=>?_⟩
 ·rw [e _ (by omega),e _ (by omega)];exact h.place k hk
 ·rw [e _ (by omega),e _ (by omega)];exact h.noted k hk
theorem Good.zOx {L T:Nat} {s:Sta} (h:Good L T s) (k:Nat) (hk:k<10):Good L T (s.set (22+k) (gt s 1)):=by
 have hl:=h.len
 have e:∀ j,j≠22+k→gt (s.set (22+k) (gt s 1)) j=gt s j:=fun j hj=>zS _ _ _ _ (by omega)
 have e0:gt (s.set (22+k) (gt s 1)) (22+k)=gt s 1:=qA _ _ _ (by omega)
 refine ⟨by simp [hl],by rw [e 0 (by omega)];exact h.pc0,by rw [e 0 (by omega)];exact h.pc1,by rw [e 1 (by omega)];exact h.zOw,by rw [e 1 (by omega)];exact h.pos1,fun j hj=>?_,fun j hj=>?_⟩
 ·rw [e _ (by omega),e _ (by omega)];exact h.place j hj
 ·rw [e 1 (by omega)]
  by_cases hjk:j=k
  ·subst hjk;rw [e0];exact ⟨h.zOw,Int.le_refl _⟩
  ·rw [e _ (by omega)];exact h.noted j hj
theorem Good.zOy {L T:Nat} {s:Sta} (h:Good L T s) (k:Nat) (hk:k<10):Good L T ((s.set (2+2*k) (gt s (22+k))).set (2+(2*k+1)) (gt s 1)):=by
 have hl:=h.len
 generalize hu:(s.set (2+2*k) (gt s (22+k))).set (2+(2*k+1)) (gt s 1)=u
 have e:∀ j,j≠2+2*k→j≠2+(2*k+1)→gt u j=gt s j:=fun j h1 h2=>by rw [← hu,zS _ _ _ _ (by omega),zS _ _ _ _ (by omega)]
 have e1:gt u (2+2*k)=gt s (22+k):=by rw [← hu,zS _ _ _ _ (by omega),qA _ _ _ (by omega)]
 have e2:gt u (2+(2*k+1))=gt s 1:=by rw [← hu,qA _ _ _ (by simp;omega)]
 refine ⟨by rw [← hu];simp [hl],by rw [e 0 (by omega) (by omega)];exact h.pc0,by rw [e 0 (by omega) (by omega)];exact h.pc1,by rw [e 1 (by omega) (by omega)];exact h.zOw,by rw [e 1 (by omega) (by omega)];exact h.pos1,fun j hj=>?_,fun j hj=>?_⟩
 ·by_cases hjk:j=k
  ·subst hjk
   rw [e1,e2]
   have:=h.noted j hj
   have:=h.pos1
   exact .inr ⟨by omega,by omega,by omega⟩
  ·rw [e _ (by omega) (by omega),e _ (by omega) (by omega)];exact h.place j hj
 ·rw [e _ (by omega) (by omega),e 1 (by omega) (by omega)];exact h.noted j hj
theorem zBz (s r:Sta) (hs:s.length=44) (hr:r.length=44) (j:Nat):gt (zCl s r) j=if 2≤j∧j<22 then gt r j else gt s j:=by
 unfold zCl gt
 simp only [List.getD_eq_getElem?_getD]
 by_cases h1:j<2
 ·rw [if_neg (by omega),List.getElem?_append_left (by simp;omega),List.getElem?_take_of_lt h1]
 ·rw [List.getElem?_append_right (by simp;omega)]
  have l1:(s.take 2).length=2:=by simp [hs]
  have l2:((r.drop 2).take 20).length=20:=by simp [hr]
  by_cases h2:j<22
  ·rw [if_pos (by omega),List.getElem?_append_left (by omega),l1,List.getElem?_take_of_lt (by omega),List.getElem?_drop,show 2+(j-2)=j by omega]
  ·rw [if_neg (by omega),List.getElem?_append_right (by omega),l1,l2,List.getElem?_drop,show 22+(j-2-20)=j by omega]
theorem xE (s r:Sta) (hs:s.length=44) (hr:r.length=44):(zCl s r).length=44:=by simp [zCl,hs,hr]
theorem Good.zQe {L T:Nat} {s r:Sta} (h:Good L T s) (hr:Good L T r):Good L T (zCl s r):=by
 have e:=zBz s r h.len hr.len
 refine ⟨xE s r h.len hr.len,by rw [e,if_neg (by omega)];exact h.pc0,by rw [e,if_neg (by omega)];exact h.pc1,by rw [e,if_neg (by omega)];exact h.zOw,by rw [e,if_neg (by omega)];exact h.pos1,fun k hk=>?_,fun k hk=>?_⟩
 ·rw [e,e,if_pos (by omega),if_pos (by omega)];exact hr.place k hk
 ·rw [e,e,if_neg (by omega),if_neg (by omega)];exact h.noted k hk
theorem Good.zAG {L T:Nat} {s:Sta} (h:Good L T s):kY s<L:=by have:=h.pc0;have:=h.pc1;unfold kY;omega
theorem zK2 {L:Nat} {t:ByteArray} {s:Sta} (h:Good L t.size s) (k:Int) (h0:0≤k) (h1:k<10) (hp:gt s 0+1<L) (ok:(zBT t s k).2=true):Good L t.size (zBT t s k).1:=by
 unfold zBT at ok ⊢
 have hpl:=h.place k.toNat (by omega)
 rw [show 2*k.toNat=(2*k).toNat by omega] at hpl
 rw [show (2*k).toNat+1=(2*k+1).toNat by omega] at hpl
 split at ok
 ·cases ok
 split at ok
 ·cases ok
 rename_i g1 g2
 rw [if_neg g1,if_neg g2]
 have h0':=h.pc0
 exact (h.zPJ _ (by omega) (by omega)).zAl _ (by omega) (by omega)
theorem zCo {c:List Ins} {t:ByteArray} {s:Sta} (hc:codeOk c) (h:Good c.length t.size s) (h2:(c.getD (kY s) jA).op≠2) (h11:(c.getD (kY s) jA).op≠11) (h13:(c.getD (kY s) jA).op≠13) (ok:(qU t s (c.getD (kY s) jA)).2=true) :
  Good c.length t.size (qU t s (c.getD (kY s) jA)).1:=by
 have hi:=hc (kY s) h.zAG
 generalize c.getD (kY s) jA=x at *
 obtain ⟨i2,i3,i4,i5,i6,i11,i13,iS⟩:=hi
 have hn:=i13 h13
 have hpc:((kY s:Nat):Int)=gt s 0:=by have:=h.pc0;unfold kY;omega
 have h0:=h.pc0
 unfold qU at ok ⊢
 by_cases o1:x.op=1
 ·rw [if_pos o1] at ok ⊢
  dsimp only at ok ⊢
  split at ok
  ·exact (h.zPJ _ (by omega) (by omega)).zAl _ (by omega) (by omega)
  ·cases ok
 rw [if_neg o1] at ok ⊢
 by_cases o3:x.op=3
 ·rw [if_pos o3];have:=i3 o3;exact h.zAl _ (by omega) (by omega)
 rw [if_neg o3] at ok ⊢
 by_cases o4:x.op=4
 ·rw [if_pos o4];exact (h.zQd _ _).zAl _ (by omega) (by omega)
 rw [if_neg o4] at ok ⊢
 by_cases o5:x.op=5
 ·rw [if_pos o5];have:=i5 o5;exact h.zAl _ (by omega) (by omega)
 rw [if_neg o5] at ok ⊢
 by_cases o6:x.op=6
 ·rw [if_pos o6];have:=i6 (.inl o6);exact (h.zOx _ (by omega)).zAl _ (by omega) (by omega)
 rw [if_neg o6] at ok ⊢
 by_cases o7:x.op=7
 ·rw [if_pos o7];have:=i6 (.inr (.inl o7))
  have hh:=(h.zOy x.x.toNat (by omega)).zAl (gt s 0+1) (by omega) (by omega)
  rw [show 2*x.x.toNat=(2*x.x).toNat by omega,show (2*x.x).toNat+1=(2*x.x+1).toNat by omega] at hh
  exact hh
 rw [if_neg o7] at ok ⊢
 by_cases o8:x.op=8
 ·rw [if_pos o8] at ok ⊢;have:=i6 (.inr (.inr o8));exact zK2 h _ (by omega) (by omega) (by omega) ok
 rw [if_neg o8] at ok ⊢
 split
 ·exact h.zAl _ (by omega) (by omega)
 split
 ·exact h.zAl _ (by omega) (by omega)
 ·exact h.zAl _ (by omega) (by omega)
theorem zGN (t:ByteArray) (s:Sta) (x:Ins):(qU t s x).1.length=s.length:=by
 unfold qU zBT
 repeat' split
 all_goals simp
theorem zK3 (kn:List Bool) (room:Int) (i:Nat):(yB kn room i).length=kn.length:=by
 unfold yB
 split
 ·rfl
 split <;> simp
theorem zJb (kn:List Bool) (room:Int) (i:Nat) (h:0≤room∧room≤5000):0≤kV kn room i∧kV kn room i≤5000:=by
 unfold kV
 split
 ·exact h
 split <;> omega
theorem Env.zE8 (E:Env) (s:Sta) (kn:List Bool) (room:Int):(E.kn' s kn room).length=kn.length:=by
 unfold Env.kn'
 split
 ·exact zK3 _ _ _
 rfl
theorem Env.zBU (E:Env) (s:Sta) (kn:List Bool) (room:Int) (h:0≤room∧room≤5000):0≤E.room' s kn room∧E.room' s kn room≤5000:=by
 unfold Env.room'
 split
 ·exact zJb _ _ _ h
 exact h
theorem zBb {c:List Ins} {T:Nat} {s r:Sta} {ok:Bool} (hs:Good c.length T s) (hr:ok=true→Good c.length T r) (x:Ins) (h0:0≤x.y) (h1:x.y<c.length) (hk:(qP s x r ok).2=true):Good c.length T (qP s x r ok).1:=by
 unfold qP at hk ⊢
 by_cases o0:x.x=0
 ·rw [if_pos o0] at hk ⊢;exact (hr hk).zAl _ h0 h1
 rw [if_neg o0] at hk ⊢
 by_cases o1:x.x=1
 ·rw [if_pos o1] at hk ⊢;exact (hs.zQe (hr hk)).zAl _ h0 h1
 rw [if_neg o1]
 exact hs.zAl _ h0 h1
theorem vP (E:Env) (hc:codeOk E.c):∀ (N n:Nat) (s:Sta) (kn:List Bool) (room:Int),n≤N→Good E.c.length E.t.size s→0≤room∧room≤5000 →
  ((look E n s kn room).ok=true→Good E.c.length E.t.size (look E n s kn room).st)∧(look E n s kn room).kn.length=kn.length∧(0≤(look E n s kn room).room∧(look E n s kn room).room≤5000)∧(look E n s kn room).st.length=44∧((look E n s kn room).over=true→(look E n s kn room).ok=false∧(look E n s kn room).n=0)
 | N,0,s,kn,room,_,h,hr=>by rw [zCn];exact ⟨fun e=>(by cases e),rfl,hr,h.len,fun _=>⟨rfl,rfl⟩⟩
 | 0,n+1,s,kn,room,hn,_,_=>by omega
 | N+1,n+1,s,kn,room,hn,h,hr=>by
  have ih:∀ (n:Nat) (s:Sta) (kn:List Bool) (room:Int),n≤N→Good E.c.length E.t.size s→0≤room∧room≤5000 →
   ((look E n s kn room).ok=true→Good E.c.length E.t.size (look E n s kn room).st)∧(look E n s kn room).kn.length=kn.length∧(0≤(look E n s kn room).room∧(look E n s kn room).room≤5000)∧(look E n s kn room).st.length=44∧((look E n s kn room).over=true→(look E n s kn room).ok=false∧(look E n s kn room).n=0):=vP E hc N
  rw [zAt]
  have hK:=E.zE8 s kn room
  have hR:=E.zBU s kn room hr
  have hi:=hc (kY s) h.zAG
  have hpc:((kY s:Nat):Int)=gt s 0:=by have:=h.pc0;unfold kY;omega
  have zTl:=h.pc0
  split
  ·exact ⟨fun e=>(by cases e),hK,hR,h.len,fun e=>(by cases e)⟩
  split
  ·exact ⟨fun _=>h,hK,hR,h.len,fun e=>(by cases e)⟩
  rename_i h13
  split
  ·rename_i o2
   have i2:=hi.1 o2
   have g1:=ih n (s.set 0 (E.ins s).x) (E.kn' s kn room) (E.room' s kn room) (by omega) (h.zAl _ i2.1 i2.2.1) hR
   have n1:=zCm E n (s.set 0 (E.ins s).x) (E.kn' s kn room) (E.room' s kn room)
   dsimp only
   generalize look E n (s.set 0 (E.ins s).x) (E.kn' s kn room) (E.room' s kn room)=r at *
   split
   ·exact ⟨g1.1,g1.2.1.trans hK,g1.2.2⟩
   ·have g2:=ih r.n (s.set 0 (E.ins s).y) r.kn r.room (by omega) (h.zAl _ i2.2.2.1 i2.2.2.2) g1.2.2.1
    exact ⟨g2.1,g2.2.1.trans (g1.2.1.trans hK),g2.2.2⟩
  rename_i o2
  split
  ·rename_i o11
   have i11:=hi.2.2.2.2.2.1 o11
   have hnx:kY s+1<E.c.length:=hi.2.2.2.2.2.2.1 (by show (E.ins s).op≠13;omega)
   have g1:=ih n (s.set 0 (gt s 0+1)) (E.kn' s kn room) (E.room' s kn room) (by omega) (h.zAl _ (by omega) (by omega)) hR
   have n1:=zCm E n (s.set 0 (gt s 0+1)) (E.kn' s kn room) (E.room' s kn room)
   dsimp only
   generalize look E n (s.set 0 (gt s 0+1)) (E.kn' s kn room) (E.room' s kn room)=r at *
   split
   ·rename_i hov
    exact ⟨fun e=>(by cases e),g1.2.1.trans hK,g1.2.2.1,h.len,fun _=>⟨rfl,(g1.2.2.2.2 hov).2⟩⟩
   split
   ·rename_i hk
    have g2:=ih r.n _ r.kn r.room (by omega) (zBb h g1.1 (E.ins s) i11.1 i11.2.1 hk) g1.2.2.1
    exact ⟨g2.1,g2.2.1.trans (g1.2.1.trans hK),g2.2.2⟩
   ·refine ⟨fun e=>(by cases e),g1.2.1.trans hK,g1.2.2.1,?_,fun e=>(by cases e)⟩
    show (qP s (E.ins s) r.st r.ok).1.length=44
    unfold qP
    split
    ·simp [g1.2.2.2.1]
    split
    ·simp [xE s r.st h.len g1.2.2.2.1]
    ·simp [h.len]
  rename_i o11
  split
  ·rename_i hk
   have hk':=hk
   have g2:=ih n _ (E.kn' s kn room) (E.room' s kn room) (by omega) (zCo hc h o2 o11 (by show (E.ins s).op≠13;omega) hk') hR
   exact ⟨g2.1,g2.2.1.trans hK,g2.2.2⟩
  ·exact ⟨fun e=>(by cases e),hK,hR,by show (qU E.t s (E.ins s)).1.length=44;rw [zGN,h.len],fun e=>(by cases e)⟩
end Mt
namespace Go.Proofs.YtebpgfodelggoaaGreat
open Go.RowKit
theorem zJ6 (w:World) (A B C D:Obj):((((w.alloc A).alloc B).alloc C).alloc D).heap[w.heap.size+1+1+1]?=some D:=by
 have:(((w.alloc A).alloc B).alloc C).heap.size=w.heap.size+1+1+1:=by simp
 rw [← this,heap_alloc_new]
theorem zGO (w:World) (A B C D:Obj):((((w.alloc A).alloc B).alloc C).alloc D).heap[w.heap.size]?=some A:=by
 rw [zX _ _ _ (by simp;omega)];exact zA0 _ _ _ _
theorem zGP (w:World) (A B C D:Obj):((((w.alloc A).alloc B).alloc C).alloc D).heap[w.heap.size+1]?=some B:=by
 rw [zX _ _ _ (by simp),zX _ _ _ (by simp)]
 have:(w.alloc A).heap.size=w.heap.size+1:=by simp
 rw [← this,heap_alloc_new]
theorem zGQ (w:World) (A B C D:Obj):((((w.alloc A).alloc B).alloc C).alloc D).heap[w.heap.size+1+1]?=some C:=by
 rw [zX _ _ _ (by simp)];exact zCc _ _ _ _
theorem zJ7 (w:World) (A B C D:Obj):Below w.heap.size w ((((w.alloc A).alloc B).alloc C).alloc D) :=
 ((((Below.refl _ _).alloc (Nat.le_refl _) _).alloc (by simp) _).alloc (by simp;omega) _).alloc (by simp;omega) _
theorem qJ {w:World} {b:Nat} {s:List Int} {t:TypeId} (h:w.heap[b]?=some (.cells (s.map (Value.int .i64)).toArray t (0,0))) (i:Nat) (v:Int):(w.setCell ⟨b,i,none⟩ (.int .i64 v)).heap[b]?=some (.cells ((s.set i v).map (Value.int .i64)).toArray t (0,0)):=by
 rw [Go.heap_setCell_same w b i _ _ _ h,zRs]
theorem vK {w:World} {b:Nat} {s:List Int} {t:TypeId} (h:w.heap[b]?=some (.cells (s.map (Value.int .i64)).toArray t (0,0))) (i:Nat) (v:Int) (hv:s[i]?=some v):w.cell? ⟨b,i,none⟩=some (.int .i64 v):=by
 rw [(zA h).1];simp [hv]
theorem vS {w:World} {b:Nat} {s:List Int} {t:TypeId} (h:w.heap[b]?=some (.cells (s.map (Value.int .i64)).toArray t (0,0))) (i:Nat):w.frozen? ⟨b,i,none⟩=false:=(zA h).2 i
theorem Keep.blk {wb gk:Nat} {a b:World} (h:Keep wb gk a b) (k:Nat) (hk:k<a.heap.size) (h1:k≠wb) (h2:k≠gk):b.heap[k]?=a.heap[k]?:=h.block k hk h1 h2
theorem zDp (b:Nat) (t:TypeId):∀ (vs:List Value) (o:Nat) (w:World) (L:List Value),w.heap[b]?=some (.cells L.toArray t (0,0))→o+vs.length≤L.length→(w.setCells b o vs).heap[b]?=some (.cells (L.take o++(vs++L.drop (o+vs.length))).toArray t (0,0))
 | [],o,w,L,h,_=>by
  show w.heap[b]?=_
  rw [h];simp
 | v::r,o,w,L,h,hl=>by
  have h1:=Go.heap_setCell_same w b o _ t v h
  rw [List.setIfInBounds_toArray] at h1
  have h2:=zDp b t r (o+1) (w.setCell ⟨b,o,none⟩ v) (L.set o v) h1 (by simp at hl ⊢;omega)
  show ((w.setCell ⟨b,o,none⟩ v).setCells b (o+1) r).heap[b]?=_
  rw [h2]
  have ho:o<L.length:=by simp at hl;omega
  have e:(L.set o v).take (o+1)++(r++(L.set o v).drop (o+1+r.length))=L.take o++((v::r)++L.drop (o+(v::r).length)):=by
   rw [List.drop_set_of_lt (by omega),List.take_set,List.take_succ_eq_append_getElem ho,List.set_append_right _ _ (by simp;omega)]
   simp [Nat.min_eq_left (Nat.le_of_lt ho)]
   congr 1;omega
  rw [e]
theorem zFV {ops:Array Oper} {rest:List Oper} {op:Oper} {a:Act} {w:World} {Q:Exit→Act→World→Prop} (hgd:op.guard=none) (x:Operand) (ho:op.op=.load 27 x)
  (b:Nat) (hx:a.eval x=.pointer (some ⟨b,2,none⟩)) {t:TypeId} (r:List Int) (hr:r.length=44) (hA:w.heap[b]?=some (.cells (r.map (Value.int .i64)).toArray t (0,0)))
  (h:wpList Tryz.prog ops Q rest (a.put op.dst (.agg (((r.map (Value.int .i64)).drop 2).take 20).toArray)) w):wpList Tryz.prog ops Q (op::rest) a w :=
 wpList_load_mid hgd _ x ho b 2 hx (((r.drop 2).take 20).map (Value.int .i64)) _ (fun j v hv=>by
  rw [(zA hA).1]
  rw [List.getElem?_map] at hv
  by_cases hj:j<20
  ·rw [List.getElem?_take_of_lt hj,List.getElem?_drop] at hv
   simp [← hv]
  ·rw [List.getElem?_eq_none (by simp;omega)] at hv;simp at hv) Tryz.underlying27 rfl (by rw [Tryz.size55];simp [hr]) (by rw [List.map_take,List.map_drop];exact h)
theorem zE9 {ops:Array Oper} {rest:List Oper} {op:Oper} {a:Act} {w:World} {Q:Exit→Act→World→Prop} (hgd:op.guard=none) (x y:Operand) (ho:op.op=.store 27 x y)
  (b:Nat) (s r:List Int) (hs:s.length=44) (hr:r.length=44) (hx:a.eval x=.pointer (some ⟨b,2,none⟩)) (hy:a.eval y=.agg (((r.map (Value.int .i64)).drop 2).take 20).toArray) {t:TypeId} (hB:w.heap[b]?=some (.cells (s.map (Value.int .i64)).toArray t (0,0)))
  (h:∀ w2:World,w2.heap[b]?=some (.cells ((Mt.zCl s r).map (Value.int .i64)).toArray t (0,0))→(∀ k,k≠b→w2.heap[k]?=w.heap[k]?)→w2.heap.size=w.heap.size→(∀ L,L≤b→Below L w w2)→wpList Tryz.prog ops Q rest (a.put op.dst undef) w2):wpList Tryz.prog ops Q (op::rest) a w:=by
 have hb:=zA hB
 rw [← List.map_drop,← List.map_take] at hy
 have hl:(((r.drop 2).take 20).map (Value.int .i64)).length=20:=by simp [hr]
 refine wpList_store_mid hgd _ x y ho b 2 _ hx hy (fun j hj=>?_) (by rw [Tryz.size55];simp [hr]) (jC _) ?_
 ·have hj':j<20:=by simpa [hr] using hj
  rw [hb.1,List.getElem?_toArray,List.getElem?_map,List.getElem?_eq_getElem (by omega)]
  exact ⟨rfl,hb.2 _⟩
 ·refine h _ ?_ (fun k hk=>kZ b _ 2 w k hk) (below_setCells b _ 2 w 0 (Nat.zero_le _)).2 (fun L hL=>(below_setCells b _ 2 w L hL).1)
  have:=zDp b t (((r.drop 2).take 20).map (Value.int .i64)) 2 w _ hB (by rw [hl];simp [hs])
  rw [hl] at this
  show (w.setCells b 2 (((r.drop 2).take 20).map (Value.int .i64))).heap[b]?=_
  rw [this]
  simp [Mt.zCl]
theorem zK4 {w:World} {wb gc gi ga gk cc ci ca ck:Nat} {c:List Mt.Ins} {text:ByteArray} {inn:List Bool} {ar:List Int} {budget:Int} {kn kn':List Bool} {room used room' used':Int} {over:Bool}
  (h:zM w wb gc gi ga gk cc ci ca ck c text inn ar budget kn room used over) (s r:List Int) (ok:Bool) (x:Mt.Ins) (pc:Nat) (h0:s[0]?=some (pc:Int)) (hs:s.length=44) (hr:r.length=44) (hpc:pc≤300)
  (KL:Hid (∀ z:World,zM z wb gc gi ga gk cc ci ca ck c text inn ar budget kn room used over→Calls Tryz.prog 47 #[.pointer (some ⟨wb,0,none⟩),stV (s.set 0 ((pc:Int)+1))] z fun e w'=>e=.returned (.tuple #[stV r,.bool ok])∧Keep wb gk z w'∧zM w' wb gc gi ga gk cc ci ca ck c text inn ar budget kn' room' used' true)) :
  Calls Tryz.prog 76 #[.pointer (some ⟨wb,0,none⟩),stV s,zCH x] w fun e w'=>e=.returned (.tuple #[stV s,.bool false])∧Keep wb gk w w'∧zM w' wb gc gi ga gk cc ci ca ck c text inn ar budget kn' room' used' true:=by
 have HS:Hid (s.length=44):=hs
 have HR:Hid (r.length=44):=hr
 have HW:Hid (zM w wb gc gi ga gk cc ci ca ck c text inn ar budget kn room used over):=h
 have hlt:=h.lt
 have lwb:wb<w.heap.size:=hlt.1
 have lgk:gk<w.heap.size:=hlt.2.2.2.2
 have HLT:Hid (wb<w.heap.size∧gc<w.heap.size∧gi<w.heap.size∧ga<w.heap.size∧gk<w.heap.size):=hlt
 clear hs h hr hlt
 unfold stV zCH
 have hz:=vJ
 go_enter Tryz.func76,Tryz.ntmps76
 go_wp2_with (first | (refine zG (by rfl) (.tmp 4) (by rfl) w.heap.size (by rfl) (by exact zA0 _ _ _ _) (by simp [HS.out]) ?_) | (refine zF (by rfl) (.tmp 8) (.tmp 11) (by rfl) (w.heap.size+1+1+1) _ (by rfl) (by rfl) (by exact zJ6 _ _ _ _ _) (by rfl) (by simp [HS.out]) (jC _) ?_;intro w2 r1 r2 r3 r4;have c0:w2.cell? ⟨w.heap.size+1+1+1,0,none⟩=some (.int .i64 (pc:Int)):=(vK r1 0 _ h0);have z0:=(vS r1 0);have R1:Hid (w2.heap[w.heap.size+1+1+1]?=some (.cells (s.map (Value.int .i64)).toArray 93 (0,0))):=(r1);have r3':w2.heap.size=w.heap.size+1+1+1+1:=(by simpa using r3);have R2:Hid (w2.heap[w.heap.size]?=some (.cells (s.map (Value.int .i64)).toArray 93 (0,0))∧w2.heap[w.heap.size+1+1]?=some zCZ):=(⟨(r2 _ (by omega)).trans (zGO _ _ _ _ _),(r2 _ (by omega)).trans (zGQ _ _ _ _ _)⟩);have R5:Hid (w2.heap[w.heap.size+1]?=some (.cells #[.int .i64 x.op,.int .i64 x.x,.int .i64 x.y,.string ⟨x.set.toArray⟩] 112 (0,0))):=((r2 _ (by omega)).trans (zGP _ _ _ _ _));have hB:Below w.heap.size w w2:=((zJ7 _ _ _ _ _).trans (r4 _ (by omega)));clear r1 r2 r3 r4) | (refine zG (by rfl) (.tmp 8) (by rfl) (w.heap.size+1+1+1) (by rfl) (by exact qJ R1.out 0 _) (by simp [HS.out]) ?_) | fail)
 generalize hw3:w2.setCell ⟨w.heap.size+1+1+1,0,none⟩ (.int .i64 ((pc:Int)+1))=w3 at *
 have hB3:Below w.heap.size w w3:=by rw [← hw3];exact hB.setCell (p:=⟨w.heap.size+1+1+1,0,none⟩) (by show w.heap.size≤w.heap.size+1+1+1;omega) _
 have o3:∀ k,k≠w.heap.size+1+1+1→w3.heap[k]?=w2.heap[k]?:=fun k hk=>by rw [← hw3];exact Below.heap_setCell _ _ _ _ hk
 have s3:w3.heap.size=w.heap.size+1+1+1+1:=by rw [← hw3];simpa [World.setCell] using r3'
 have q0:w3.heap[w.heap.size]?=some (.cells (s.map (Value.int .i64)).toArray 93 (0,0)):=(o3 _ (by omega)).trans R2.out.1
 have q2:w3.heap[w.heap.size+1+1]?=some zCZ:=(o3 _ (by omega)).trans R2.out.2
 have q1:w3.heap[w.heap.size+1]?=some (.cells #[.int .i64 x.op,.int .i64 x.x,.int .i64 x.y,.string ⟨x.set.toArray⟩] 112 (0,0)):=(o3 _ (by omega)).trans R5.out
 clear hw3 o3 R1 R2 R5 c0 z0 hB r3' w2
 rw [jD]
 refine (KL.out w3 (HW.out.below hB3)).mono ?_
 rintro e w4 ⟨rfl,hk4,hW4⟩
 have s4:w.heap.size+1+1+1+1≤w4.heap.size:=by rw [← s3];exact hk4.size
 have Q0:Hid (w4.heap[w.heap.size]?=some (.cells (s.map (Value.int .i64)).toArray 93 (0,0))):=(hk4.blk _ (by omega) (by omega) (by omega)).trans q0
 have Q2:Hid (w4.heap[w.heap.size+1+1]?=some zCZ):=(hk4.blk _ (by omega) (by omega) (by omega)).trans q2
 have Q1:Hid (w4.heap[w.heap.size+1]?=some (.cells #[.int .i64 x.op,.int .i64 x.x,.int .i64 x.y,.string ⟨x.set.toArray⟩] 112 (0,0))):=(hk4.blk _ (by omega) (by omega) (by omega)).trans q1
 have K4:Hid (Keep wb gk w w4):=(Keep.below hB3).trans hk4
 have W4:Hid (zM w4 wb gc gi ga gk cc ci ca ck c text inn ar budget kn' room' used' true):=hW4
 clear KL HW hB3 s3 q0 q1 q2 hk4 hW4
 go_wp2_with (first | (refine zF (by rfl) (.tmp 9) (.tmp 20) (by rfl) w4.heap.size (r.map (Value.int .i64)).toArray (by rfl) (by rfl) (by exact heap_alloc_new _ _) (by rfl) (by simp [HR.out]) (jC _) ?_;intro w5 r1 r2 r3 r4;have hB5:Below w4.heap.size w4 w5:=(((Below.refl _ _).alloc (Nat.le_refl _) _).trans (r4 _ (Nat.le_refl _)));have c8:w5.cell? ⟨wb,8,none⟩=some (.bool true):=((zA (W4.out.below hB5).cell).1 8);have y1:=(zA ((hB5.block _ (by omega)).trans Q1.out)).1;have P0:Hid (w5.heap[w.heap.size]?=some (.cells (s.map (Value.int .i64)).toArray 93 (0,0))):=((hB5.block _ (by omega)).trans Q0.out);have P2:Hid (w5.heap[w.heap.size+1+1]?=some zCZ):=((hB5.block _ (by omega)).trans Q2.out);have R1:Hid (w5.heap[w4.heap.size]?=some (.cells (r.map (Value.int .i64)).toArray 93 (0,0))):=(r1);have s5:w5.heap.size=w4.heap.size+1:=(by simpa using r3);have l5:wb<w5.heap.size:=(by omega);have l6:w.heap.size+1<w5.heap.size:=(by omega);have l7:w4.heap.size<w5.heap.size:=(by omega);have l8:w.heap.size<w5.heap.size:=(by omega);have B5:Hid (Below w4.heap.size w4 w5):=(hB5);clear r1 r2 r3 r4 hB5) | (refine zG (by rfl) (.tmp 4) (by rfl) w.heap.size (by rfl) (by exact P0.out) (by simp [HS.out]) ?_) | (refine zF (by rfl) (.tmp 6) (.tmp 26) (by rfl) (w.heap.size+1+1) _ (by rfl) (by rfl) (by exact P2.out) (by rfl) (by simp [HS.out]) (jC _) ?_;intro w6 r1 r2 r3 r4) | fail)
 have s6:w6.heap.size=w5.heap.size:=r3
 have hK:Keep wb gk w w6:=by
  have k5:=K4.out.trans (Keep.below B5.out)
  have b6:=r4 w.heap.size (by omega)
  refine ⟨b6.os.trans k5.os,b6.tape.trans k5.tape,b6.output.trans k5.output,Nat.le_trans k5.size b6.size,fun i hi h1 h2=>?_⟩
  rw [r2 i (by omega)]
  exact k5.block i hi h1 h2
 have hW:zM w6 wb gc gi ga gk cc ci ca ck c text inn ar budget kn' room' used' true:=by
  have w5W:=W4.out.below B5.out
  have hx:=HLT.out
  exact w5W.mem (r2 _ (by omega)) (r2 _ (by omega)) (r2 _ (by omega)) (r2 _ (by omega)) (r2 _ (by omega))
 refine bodyPost_ret (vO rfl (by rfl) r1 (by simp [HS.out,HR.out])) rfl ⟨?_,hK,hW⟩
 rfl
theorem zHY {w:World} {wb gc gi ga gk cc ci ca ck:Nat} {c:List Mt.Ins} {text:ByteArray} {inn:List Bool} {ar:List Int} {budget:Int} {kn kn':List Bool} {room used room' used':Int} {over:Bool}
  (h:zM w wb gc gi ga gk cc ci ca ck c text inn ar budget kn room used over) (s r:List Int) (ok:Bool) (x:Mt.Ins) (pc:Nat) (h0:s[0]?=some (pc:Int)) (hs:s.length=44) (hr:r.length=44) (hpc:pc≤300) (o0:(x.x==0)=true)
  (KL:Hid (∀ z:World,zM z wb gc gi ga gk cc ci ca ck c text inn ar budget kn room used over→Calls Tryz.prog 47 #[.pointer (some ⟨wb,0,none⟩),stV (s.set 0 ((pc:Int)+1))] z fun e w'=>e=.returned (.tuple #[stV r,.bool ok])∧Keep wb gk z w'∧zM w' wb gc gi ga gk cc ci ca ck c text inn ar budget kn' room' used' false)) :
  Calls Tryz.prog 76 #[.pointer (some ⟨wb,0,none⟩),stV s,zCH x] w fun e w'=>e=.returned (.tuple #[stV (r.set 0 x.y),.bool ok])∧Keep wb gk w w'∧zM w' wb gc gi ga gk cc ci ca ck c text inn ar budget kn' room' used' false:=by
 have HS:Hid (s.length=44):=hs
 have HR:Hid (r.length=44):=hr
 have HW:Hid (zM w wb gc gi ga gk cc ci ca ck c text inn ar budget kn room used over):=h
 have hlt:=h.lt
 have lwb:wb<w.heap.size:=hlt.1
 have lgk:gk<w.heap.size:=hlt.2.2.2.2
 have HLT:Hid (wb<w.heap.size∧gc<w.heap.size∧gi<w.heap.size∧ga<w.heap.size∧gk<w.heap.size):=hlt
 clear hs h hr hlt
 unfold stV zCH
 have hz:=vJ
 go_enter Tryz.func76,Tryz.ntmps76
 go_wp2_with (first | (refine zG (by rfl) (.tmp 4) (by rfl) w.heap.size (by rfl) (by exact zA0 _ _ _ _) (by simp [HS.out]) ?_) | (refine zF (by rfl) (.tmp 8) (.tmp 11) (by rfl) (w.heap.size+1+1+1) _ (by rfl) (by rfl) (by exact zJ6 _ _ _ _ _) (by rfl) (by simp [HS.out]) (jC _) ?_;intro w2 r1 r2 r3 r4;have c0:w2.cell? ⟨w.heap.size+1+1+1,0,none⟩=some (.int .i64 (pc:Int)):=(vK r1 0 _ h0);have z0:=(vS r1 0);have R1:Hid (w2.heap[w.heap.size+1+1+1]?=some (.cells (s.map (Value.int .i64)).toArray 93 (0,0))):=(r1);have r3':w2.heap.size=w.heap.size+1+1+1+1:=(by simpa using r3);have R2:Hid (w2.heap[w.heap.size]?=some (.cells (s.map (Value.int .i64)).toArray 93 (0,0))∧w2.heap[w.heap.size+1+1]?=some zCZ):=(⟨(r2 _ (by omega)).trans (zGO _ _ _ _ _),(r2 _ (by omega)).trans (zGQ _ _ _ _ _)⟩);have R5:Hid (w2.heap[w.heap.size+1]?=some (.cells #[.int .i64 x.op,.int .i64 x.x,.int .i64 x.y,.string ⟨x.set.toArray⟩] 112 (0,0))):=((r2 _ (by omega)).trans (zGP _ _ _ _ _));have hB:Below w.heap.size w w2:=((zJ7 _ _ _ _ _).trans (r4 _ (by omega)));clear r1 r2 r3 r4) | (refine zG (by rfl) (.tmp 8) (by rfl) (w.heap.size+1+1+1) (by rfl) (by exact qJ R1.out 0 _) (by simp [HS.out]) ?_) | fail)
 generalize hw3:w2.setCell ⟨w.heap.size+1+1+1,0,none⟩ (.int .i64 ((pc:Int)+1))=w3 at *
 have hB3:Below w.heap.size w w3:=by rw [← hw3];exact hB.setCell (p:=⟨w.heap.size+1+1+1,0,none⟩) (by show w.heap.size≤w.heap.size+1+1+1;omega) _
 have o3:∀ k,k≠w.heap.size+1+1+1→w3.heap[k]?=w2.heap[k]?:=fun k hk=>by rw [← hw3];exact Below.heap_setCell _ _ _ _ hk
 have s3:w3.heap.size=w.heap.size+1+1+1+1:=by rw [← hw3];simpa [World.setCell] using r3'
 have q0:w3.heap[w.heap.size]?=some (.cells (s.map (Value.int .i64)).toArray 93 (0,0)):=(o3 _ (by omega)).trans R2.out.1
 have q2:w3.heap[w.heap.size+1+1]?=some zCZ:=(o3 _ (by omega)).trans R2.out.2
 have q1:w3.heap[w.heap.size+1]?=some (.cells #[.int .i64 x.op,.int .i64 x.x,.int .i64 x.y,.string ⟨x.set.toArray⟩] 112 (0,0)):=(o3 _ (by omega)).trans R5.out
 clear hw3 o3 R1 R2 R5 c0 z0 hB r3' w2
 rw [jD]
 refine (KL.out w3 (HW.out.below hB3)).mono ?_
 rintro e w4 ⟨rfl,hk4,hW4⟩
 have s4:w.heap.size+1+1+1+1≤w4.heap.size:=by rw [← s3];exact hk4.size
 have Q0:Hid (w4.heap[w.heap.size]?=some (.cells (s.map (Value.int .i64)).toArray 93 (0,0))):=(hk4.blk _ (by omega) (by omega) (by omega)).trans q0
 have Q2:Hid (w4.heap[w.heap.size+1+1]?=some zCZ):=(hk4.blk _ (by omega) (by omega) (by omega)).trans q2
 have Q1:Hid (w4.heap[w.heap.size+1]?=some (.cells #[.int .i64 x.op,.int .i64 x.x,.int .i64 x.y,.string ⟨x.set.toArray⟩] 112 (0,0))):=(hk4.blk _ (by omega) (by omega) (by omega)).trans q1
 have K4:Hid (Keep wb gk w w4):=(Keep.below hB3).trans hk4
 have W4:Hid (zM w4 wb gc gi ga gk cc ci ca ck c text inn ar budget kn' room' used' false):=hW4
 clear KL HW hB3 s3 q0 q1 q2 hk4 hW4
 go_wp2_with (first | (refine zF (by rfl) (.tmp 9) (.tmp 20) (by rfl) w4.heap.size (r.map (Value.int .i64)).toArray (by rfl) (by rfl) (by exact heap_alloc_new _ _) (by rfl) (by simp [HR.out]) (jC _) ?_;intro w5 r1 r2 r3 r4;have hB5:Below w4.heap.size w4 w5:=(((Below.refl _ _).alloc (Nat.le_refl _) _).trans (r4 _ (Nat.le_refl _)));have c8:w5.cell? ⟨wb,8,none⟩=some (.bool false):=((zA (W4.out.below hB5).cell).1 8);have y1:=(zA ((hB5.block _ (by omega)).trans Q1.out)).1;have P0:Hid (w5.heap[w.heap.size]?=some (.cells (s.map (Value.int .i64)).toArray 93 (0,0))):=((hB5.block _ (by omega)).trans Q0.out);have P2:Hid (w5.heap[w.heap.size+1+1]?=some zCZ):=((hB5.block _ (by omega)).trans Q2.out);have R1:Hid (w5.heap[w4.heap.size]?=some (.cells (r.map (Value.int .i64)).toArray 93 (0,0))):=(r1);have s5:w5.heap.size=w4.heap.size+1:=(by simpa using r3);have l5:wb<w5.heap.size:=(by omega);have l6:w.heap.size+1<w5.heap.size:=(by omega);have l7:w4.heap.size<w5.heap.size:=(by omega);have l8:w.heap.size<w5.heap.size:=(by omega);have B5:Hid (Below w4.heap.size w4 w5):=(hB5);have hr0:r[0]?=some (Mt.gt r 0):=(by unfold Mt.gt;rw [List.getD_eq_getElem?_getD,List.getElem?_eq_getElem (by rw [HR.out];omega)];rfl);have c90:=(vK R1.out 0 _ hr0);have z90:=(vS R1.out 0);have c00:=(vK P0.out 0 _ h0);have z00:=(vS P0.out 0);clear r1 r2 r3 r4 hB5) | (refine zG (by rfl) (.tmp 9) (by rfl) w4.heap.size (by rfl) (by exact qJ R1.out 0 _) (by simp [HR.out]) ?_) | (refine zF (by rfl) (.tmp 6) (.tmp 34) (by rfl) (w.heap.size+1+1) _ (by rfl) (by rfl) (by exact (Below.heap_setCell _ _ _ _ (by show w.heap.size+1+1≠w4.heap.size;omega)).trans P2.out) (by rfl) (by simp [HR.out]) (by simp only [jD];exact jC _) ?_;intro w6 r1 r2 r3 r4) | fail)
 have B7:Hid (Below w4.heap.size w4 (w5.setCell ⟨w4.heap.size,0,none⟩ (.int .i64 x.y))):=B5.out.setCell (p:=⟨w4.heap.size,0,none⟩) (Nat.le_refl _) _
 generalize w5.setCell ⟨w4.heap.size,0,none⟩ (.int .i64 x.y)=w7 at *
 have s6:w6.heap.size=w7.heap.size:=r3
 have hK:Keep wb gk w w6:=by
  have k5:=K4.out.trans (Keep.below B7.out)
  have b6:=r4 w.heap.size (by omega)
  refine ⟨b6.os.trans k5.os,b6.tape.trans k5.tape,b6.output.trans k5.output,Nat.le_trans k5.size b6.size,fun i hi h1 h2=>?_⟩
  rw [r2 i (by omega)]
  exact k5.block i hi h1 h2
 have hW:zM w6 wb gc gi ga gk cc ci ca ck c text inn ar budget kn' room' used' false:=by
  have w5W:=W4.out.below B7.out
  have hx:=HLT.out
  exact w5W.mem (r2 _ (by omega)) (r2 _ (by omega)) (r2 _ (by omega)) (r2 _ (by omega)) (r2 _ (by omega))
 refine bodyPost_ret (vO rfl (by rfl) r1 (by simp [HS.out,HR.out])) rfl ⟨?_,hK,hW⟩
 simp only [jD];rfl
end Go.Proofs.YtebpgfodelggoaaGreat
