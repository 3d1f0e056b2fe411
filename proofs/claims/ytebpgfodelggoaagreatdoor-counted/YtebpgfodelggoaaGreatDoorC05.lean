import Derived.Test.YtebpgfodelggoaaGreatDoorC04
set_option linter.unusedVariables false
set_option linter.unusedSimpArgs false
namespace Mt
def byI (t:ByteArray) (k:Nat):Int:=if h:k<t.size then ((t[k]'h).toNat:Int) else 0
def backP (t:ByteArray) (s:Sta) (k:Int):Sta × Bool :=
 if gt s (2+(2*k).toNat)<0 then (s,false)
 else if (t.size:Int)<gt s 1+(gt s (2+(2*k+1).toNat)-gt s (2+(2*k).toNat)) then (s,false)
 else ((s.set 1 (gt s 1+gt s (2+(2*k+1).toNat)-gt s (2+(2*k).toNat))).set 0 (gt s 0+1),
  (t.extract (gt s (2+(2*k).toNat)).toNat (gt s (2+(2*k+1).toNat)).toNat).toList==(t.extract (gt s 1).toNat ((gt s 1).toNat+(gt s (2+(2*k+1).toNat)).toNat-(gt s (2+(2*k).toNat)).toNat)).toList)
def oneP (t:ByteArray) (s:Sta) (x:Ins):Sta × Bool :=
 if x.op=1 then ((s.set 1 (gt s 1+1)).set 0 (gt s 0+1),if gt s 1<t.size then hasB ⟨x.set.toArray⟩ (byI t (gt s 1).toNat) else false)
 else if x.op=3 then (s.set 0 x.x,true)
 else if x.op=4 then ((s.set (32+x.x.toNat) (gt s 1)).set 0 (gt s 0+1),true)
 else if x.op=5 then (s.set 0 x.x,gt s (32+x.y.toNat) != gt s 1)
 else if x.op=6 then ((s.set (22+x.x.toNat) (gt s 1)).set 0 (gt s 0+1),true)
 else if x.op=7 then (((s.set (2+(2*x.x).toNat) (gt s (22+x.x.toNat))).set (2+(2*x.x+1).toNat) (gt s 1)).set 0 (gt s 0+1),true)
 else if x.op=8 then backP t s x.x
 else if x.op=9 then (s.set 0 (gt s 0+1),gt s 1==0)
 else if x.op=10 then (s.set 0 (gt s 0+1),gt s 1==(t.size:Int))
 else (s.set 0 (gt s 0+1),true)
def withAt (s r:Sta):Sta:=s.take 2++((r.drop 2).take 20++s.drop 22)
def apartP (s:Sta) (x:Ins) (r:Sta) (ok:Bool):Sta × Bool :=
 if x.x=0 then (r.set 0 x.y,ok) else if x.x=1 then ((withAt s r).set 0 x.y,ok) else (s.set 0 x.y,!ok)
structure Env where
 c:List Ins
 t:ByteArray
 inn:List Bool
 ar:List Int
structure Res where
 st:Sta
 ok:Bool
 n:Nat
 kn:List Bool
 room:Int
 over:Bool
def pcOf (s:Sta):Nat:=(gt s 0).toNat
def posOf (s:Sta):Nat:=(gt s 1).toNat
def Env.key (E:Env) (s:Sta):Nat:=keyOf s (pcOf s) (posOf s) E.t.size (E.ar.getD (pcOf s) 0).toNat
def Env.isIn (E:Env) (s:Sta):Bool:=E.inn.getD (pcOf s) false
def Env.dead (E:Env) (s:Sta) (kn:List Bool):Bool:=if E.isIn s then kn.getD (E.key s) false else false
def Env.kn' (E:Env) (s:Sta) (kn:List Bool) (room:Int):List Bool:=if E.isIn s then deadKn kn room (E.key s) else kn
def Env.room' (E:Env) (s:Sta) (kn:List Bool) (room:Int):Int:=if E.isIn s then deadRoom kn room (E.key s) else room
def Env.ins (E:Env) (s:Sta):Ins:=E.c.getD (pcOf s) ins0
def lookF (E:Env):Nat→Nat→Sta→List Bool→Int→Res
 | 0,_,s,kn,room=>⟨s,false,0,kn,room,true⟩
 | _+1,0,s,kn,room=>⟨s,false,0,kn,room,true⟩
 | F+1,n+1,s,kn,room =>
  if E.dead s kn then ⟨s,false,n,E.kn' s kn room,E.room' s kn room,false⟩
  else if (E.ins s).op=13∨(E.ins s).op=12 then ⟨s,true,n,E.kn' s kn room,E.room' s kn room,false⟩
  else if (E.ins s).op=2 then
   let r:=lookF E F n (s.set 0 (E.ins s).x) (E.kn' s kn room) (E.room' s kn room)
   if r.ok||r.over then r else lookF E F r.n (s.set 0 (E.ins s).y) r.kn r.room
  else if (E.ins s).op=11 then
   let r:=lookF E F n (s.set 0 (gt s 0+1)) (E.kn' s kn room) (E.room' s kn room)
   if r.over then ⟨s,false,r.n,r.kn,r.room,true⟩
   else if (apartP s (E.ins s) r.st r.ok).2 then lookF E F r.n (apartP s (E.ins s) r.st r.ok).1 r.kn r.room
   else ⟨(apartP s (E.ins s) r.st r.ok).1,false,r.n,r.kn,r.room,false⟩
  else if (oneP E.t s (E.ins s)).2 then lookF E F n (oneP E.t s (E.ins s)).1 (E.kn' s kn room) (E.room' s kn room)
  else ⟨(oneP E.t s (E.ins s)).1,false,n,E.kn' s kn room,E.room' s kn room,false⟩
theorem lookF_n (E:Env):∀ (F n:Nat) (s:Sta) (kn:List Bool) (room:Int),(lookF E F n s kn room).n≤n
 | 0,n,s,kn,room=>Nat.zero_le _
 | F+1,0,s,kn,room=>Nat.zero_le _
 | F+1,n+1,s,kn,room=>by
  have ih:=lookF_n E F
  unfold lookF
  split
  ·exact Nat.le_succ n
  split
  ·exact Nat.le_succ n
  split
  ·have h1:=ih n (s.set 0 (E.ins s).x) (E.kn' s kn room) (E.room' s kn room)
   dsimp only
   split
   ·omega
   ·have h2:=ih (lookF E F n (s.set 0 (E.ins s).x) (E.kn' s kn room) (E.room' s kn room)).n (s.set 0 (E.ins s).y) (lookF E F n (s.set 0 (E.ins s).x) (E.kn' s kn room) (E.room' s kn room)).kn (lookF E F n (s.set 0 (E.ins s).x) (E.kn' s kn room) (E.room' s kn room)).room
    omega
  split
  ·have h1:=ih n (s.set 0 (gt s 0+1)) (E.kn' s kn room) (E.room' s kn room)
   dsimp only
   split
   ·show Res.n _≤_;dsimp only;omega
   split
   ·have h2:=ih (lookF E F n (s.set 0 (gt s 0+1)) (E.kn' s kn room) (E.room' s kn room)).n
     (apartP s (E.ins s) (lookF E F n (s.set 0 (gt s 0+1)) (E.kn' s kn room) (E.room' s kn room)).st (lookF E F n (s.set 0 (gt s 0+1)) (E.kn' s kn room) (E.room' s kn room)).ok).1
     (lookF E F n (s.set 0 (gt s 0+1)) (E.kn' s kn room) (E.room' s kn room)).kn (lookF E F n (s.set 0 (gt s 0+1)) (E.kn' s kn room) (E.room' s kn room)).room
    omega
   ·dsimp only;omega
  split
  ·have:=ih n (oneP E.t s (E.ins s)).1 (E.kn' s kn room) (E.room' s kn room)
   omega
  ·exact Nat.le_succ n
theorem lookF_fuel (E:Env):∀ (F G n:Nat) (s:Sta) (kn:List Bool) (room:Int),n≤F→n≤G→lookF E F n s kn room=lookF E G n s kn room
 | 0,0,n,s,kn,room,_,_=>rfl
 | 0,G+1,n,s,kn,room,h,_=>by
                    obtain rfl:n=0:=by omega
                    rfl
 | F+1,0,n,s,kn,room,_,h=>by
                    obtain rfl:n=0:=by omega
                    rfl
 | F+1,G+1,0,s,kn,room,_,_=>rfl
 | F+1,G+1,n+1,s,kn,room,hF,hG=>by
  have ih:∀ (n:Nat) (s:Sta) (kn:List Bool) (room:Int),n≤F→n≤G→lookF E F n s kn room=lookF E G n s kn room:=lookF_fuel E F G
  unfold lookF
  have e1:=ih n (s.set 0 (E.ins s).x) (E.kn' s kn room) (E.room' s kn room) (by omega) (by omega)
  have e2:=ih n (s.set 0 (gt s 0+1)) (E.kn' s kn room) (E.room' s kn room) (by omega) (by omega)
  have e3:=ih n (oneP E.t s (E.ins s)).1 (E.kn' s kn room) (E.room' s kn room) (by omega) (by omega)
  have n1:=lookF_n E G n (s.set 0 (E.ins s).x) (E.kn' s kn room) (E.room' s kn room)
  have n2:=lookF_n E G n (s.set 0 (gt s 0+1)) (E.kn' s kn room) (E.room' s kn room)
  dsimp only
  rw [e1,e2,e3]
  generalize lookF E G n (s.set 0 (E.ins s).x) (E.kn' s kn room) (E.room' s kn room)=r1 at *
  generalize lookF E G n (s.set 0 (gt s 0+1)) (E.kn' s kn room) (E.room' s kn room)=r2 at *
  rw [ih r1.n _ _ _ (by omega) (by omega),ih r2.n _ _ _ (by omega) (by omega)]
def look (E:Env) (n:Nat) (s:Sta) (kn:List Bool) (room:Int):Res:=lookF E n n s kn room
theorem look_n (E:Env) (n:Nat) (s:Sta) (kn:List Bool) (room:Int):(look E n s kn room).n≤n:=lookF_n E n n s kn room
theorem look_zero (E:Env) (s:Sta) (kn:List Bool) (room:Int):look E 0 s kn room=⟨s,false,0,kn,room,true⟩:=rfl
theorem look_step (E:Env) (n:Nat) (s:Sta) (kn:List Bool) (room:Int):look E (n+1) s kn room =
  if E.dead s kn then ⟨s,false,n,E.kn' s kn room,E.room' s kn room,false⟩
  else if (E.ins s).op=13∨(E.ins s).op=12 then ⟨s,true,n,E.kn' s kn room,E.room' s kn room,false⟩
  else if (E.ins s).op=2 then
   let r:=look E n (s.set 0 (E.ins s).x) (E.kn' s kn room) (E.room' s kn room)
   if r.ok||r.over then r else look E r.n (s.set 0 (E.ins s).y) r.kn r.room
  else if (E.ins s).op=11 then
   let r:=look E n (s.set 0 (gt s 0+1)) (E.kn' s kn room) (E.room' s kn room)
   if r.over then ⟨s,false,r.n,r.kn,r.room,true⟩
   else if (apartP s (E.ins s) r.st r.ok).2 then look E r.n (apartP s (E.ins s) r.st r.ok).1 r.kn r.room
   else ⟨(apartP s (E.ins s) r.st r.ok).1,false,r.n,r.kn,r.room,false⟩
  else if (oneP E.t s (E.ins s)).2 then look E n (oneP E.t s (E.ins s)).1 (E.kn' s kn room) (E.room' s kn room)
  else ⟨(oneP E.t s (E.ins s)).1,false,n,E.kn' s kn room,E.room' s kn room,false⟩:=by
 show lookF E (n+1) (n+1) s kn room=_
 conv=>lhs;unfold lookF
 have n1:=lookF_n E n n (s.set 0 (E.ins s).x) (E.kn' s kn room) (E.room' s kn room)
 have n2:=lookF_n E n n (s.set 0 (gt s 0+1)) (E.kn' s kn room) (E.room' s kn room)
 unfold look
 dsimp only
 generalize lookF E n n (s.set 0 (E.ins s).x) (E.kn' s kn room) (E.room' s kn room)=r1 at *
 generalize lookF E n n (s.set 0 (gt s 0+1)) (E.kn' s kn room) (E.room' s kn room)=r2 at *
 rw [lookF_fuel E n r1.n r1.n _ _ _ n1 (Nat.le_refl _),lookF_fuel E n r2.n r2.n _ _ _ n2 (Nat.le_refl _)]
def insOk (c:List Ins) (p:Nat) (x:Ins):Prop :=
 (x.op=2→0≤x.x∧x.x<c.length∧0≤x.y∧x.y<c.length)
 ∧ (x.op=3→0≤x.x∧x.x<c.length)
 ∧ (x.op=4→0≤x.x∧x.x<12)
 ∧ (x.op=5→0≤x.x∧x.x<c.length∧0≤x.y∧x.y<12)
 ∧ (x.op=6∨x.op=7∨x.op=8→0≤x.x∧x.x<10)
 ∧ (x.op=11→0≤x.y∧x.y<c.length∧0≤x.x∧x.x≤2)
 ∧ (x.op≠13→p+1<c.length)
 ∧ x.set.length≤256
def codeOk (c:List Ins):Prop:=∀ p,p<c.length→insOk c p (c.getD p ins0)
structure Good (L T:Nat) (s:Sta):Prop where
 len:s.length=44
 pc0:0≤gt s 0
 pc1:gt s 0<L
 pos0:0≤gt s 1
 pos1:gt s 1≤T
 place:∀ k,k<10→gt s (2+2*k)<0∨(0≤gt s (2+2*k)∧gt s (2+2*k)≤gt s (2+(2*k+1))∧gt s (2+(2*k+1))≤T)
 noted:∀ k,k<10→0≤gt s (22+k)∧gt s (22+k)≤gt s 1
theorem gt_set (s:Sta) (i j:Nat) (v:Int):gt (s.set i v) j=if i=j∧i<s.length then v else gt s j:=by
 unfold gt
 simp only [List.getD_eq_getElem?_getD,List.getElem?_set]
 by_cases h:i=j
 ·subst h
  by_cases h2:i<s.length
  ·simp [h2]
  ·simp [h2]
 ·simp [h]
theorem gt_set_ne (s:Sta) (i j:Nat) (v:Int) (h:i≠j):gt (s.set i v) j=gt s j:=by rw [gt_set,if_neg (by omega)]
theorem gt_set_same (s:Sta) (i:Nat) (v:Int) (h:i<s.length):gt (s.set i v) i=v:=by rw [gt_set,if_pos ⟨rfl,h⟩]
theorem Good.at_pc {L T:Nat} {s:Sta} (h:Good L T s) (p:Int) (h0:0≤p) (h1:p<L):Good L T (s.set 0 p):=by
 have hl:=h.len
 have e:∀ j,0<j→gt (s.set 0 p) j=gt s j:=fun j hj=>gt_set_ne _ _ _ _ (by omega)
 have e0:gt (s.set 0 p) 0=p:=gt_set_same _ _ _ (by omega)
 refine ⟨by simp [hl],by omega,by omega,by rw [e 1 (by omega)];exact h.pos0,by rw [e 1 (by omega)];exact h.pos1,fun k hk=>?_,fun k hk=>?_⟩
 ·rw [e _ (by omega),e _ (by omega)];exact h.place k hk
 ·rw [e _ (by omega),e _ (by omega)];exact h.noted k hk
theorem Good.at_pos {L T:Nat} {s:Sta} (h:Good L T s) (p:Int) (h0:gt s 1≤p) (h1:p≤T):Good L T (s.set 1 p):=by
 have hl:=h.len
 have e:∀ j,j≠1→gt (s.set 1 p) j=gt s j:=fun j hj=>gt_set_ne _ _ _ _ (by omega)
 have e0:gt (s.set 1 p) 1=p:=gt_set_same _ _ _ (by omega)
 have hp0:=h.pos0
 refine ⟨by simp [hl],by rw [e 0 (by omega)];exact h.pc0,by rw [e 0 (by omega)];exact h.pc1,by omega,by omega,fun k hk=>?_,fun k hk=>?_⟩
 ·rw [e _ (by omega),e _ (by omega)];exact h.place k hk
 ·rw [e _ (by omega),e0];have:=h.noted k hk;omega
theorem Good.at_mark {L T:Nat} {s:Sta} (h:Good L T s) (k:Nat) (v:Int):Good L T (s.set (32+k) v):=by
 have hl:=h.len
 have e:∀ j,j<32→gt (s.set (32+k) v) j=gt s j:=fun j hj=>gt_set_ne _ _ _ _ (by omega)
 refine ⟨by simp [hl],by rw [e 0 (by omega)];exact h.pc0,by rw [e 0 (by omega)];exact h.pc1,by rw [e 1 (by omega)];exact h.pos0,by rw [e 1 (by omega)];exact h.pos1,fun k hk=>?_,fun k hk=>?_⟩
 ·rw [e _ (by omega),e _ (by omega)];exact h.place k hk
 ·rw [e _ (by omega),e _ (by omega)];exact h.noted k hk
theorem Good.at_noted {L T:Nat} {s:Sta} (h:Good L T s) (k:Nat) (hk:k<10):Good L T (s.set (22+k) (gt s 1)):=by
 have hl:=h.len
 have e:∀ j,j≠22+k→gt (s.set (22+k) (gt s 1)) j=gt s j:=fun j hj=>gt_set_ne _ _ _ _ (by omega)
 have e0:gt (s.set (22+k) (gt s 1)) (22+k)=gt s 1:=gt_set_same _ _ _ (by omega)
 refine ⟨by simp [hl],by rw [e 0 (by omega)];exact h.pc0,by rw [e 0 (by omega)];exact h.pc1,by rw [e 1 (by omega)];exact h.pos0,by rw [e 1 (by omega)];exact h.pos1,fun j hj=>?_,fun j hj=>?_⟩
 ·rw [e _ (by omega),e _ (by omega)];exact h.place j hj
 ·rw [e 1 (by omega)]
  by_cases hjk:j=k
  ·subst hjk;rw [e0];exact ⟨h.pos0,Int.le_refl _⟩
  ·rw [e _ (by omega)];exact h.noted j hj
theorem Good.at_place {L T:Nat} {s:Sta} (h:Good L T s) (k:Nat) (hk:k<10):Good L T ((s.set (2+2*k) (gt s (22+k))).set (2+(2*k+1)) (gt s 1)):=by
 have hl:=h.len
 generalize hu:(s.set (2+2*k) (gt s (22+k))).set (2+(2*k+1)) (gt s 1)=u
 have e:∀ j,j≠2+2*k→j≠2+(2*k+1)→gt u j=gt s j:=fun j h1 h2=>by rw [← hu,gt_set_ne _ _ _ _ (by omega),gt_set_ne _ _ _ _ (by omega)]
 have e1:gt u (2+2*k)=gt s (22+k):=by rw [← hu,gt_set_ne _ _ _ _ (by omega),gt_set_same _ _ _ (by omega)]
 have e2:gt u (2+(2*k+1))=gt s 1:=by rw [← hu,gt_set_same _ _ _ (by simp;omega)]
 refine ⟨by rw [← hu];simp [hl],by rw [e 0 (by omega) (by omega)];exact h.pc0,by rw [e 0 (by omega) (by omega)];exact h.pc1,by rw [e 1 (by omega) (by omega)];exact h.pos0,by rw [e 1 (by omega) (by omega)];exact h.pos1,fun j hj=>?_,fun j hj=>?_⟩
 ·by_cases hjk:j=k
  ·subst hjk
   rw [e1,e2]
   have:=h.noted j hj
   have:=h.pos1
   exact .inr ⟨by omega,by omega,by omega⟩
  ·rw [e _ (by omega) (by omega),e _ (by omega) (by omega)];exact h.place j hj
 ·rw [e _ (by omega) (by omega),e 1 (by omega) (by omega)];exact h.noted j hj
theorem gt_withAt (s r:Sta) (hs:s.length=44) (hr:r.length=44) (j:Nat):gt (withAt s r) j=if 2≤j∧j<22 then gt r j else gt s j:=by
 unfold withAt gt
 simp only [List.getD_eq_getElem?_getD]
 by_cases h1:j<2
 ·rw [if_neg (by omega),List.getElem?_append_left (by simp;omega),List.getElem?_take_of_lt h1]
 ·rw [List.getElem?_append_right (by simp;omega)]
  have l1:(s.take 2).length=2:=by simp [hs]
  have l2:((r.drop 2).take 20).length=20:=by simp [hr]
  by_cases h2:j<22
  ·rw [if_pos (by omega),List.getElem?_append_left (by omega),l1,List.getElem?_take_of_lt (by omega),List.getElem?_drop,show 2+(j-2)=j by omega]
  ·rw [if_neg (by omega),List.getElem?_append_right (by omega),l1,l2,List.getElem?_drop,show 22+(j-2-20)=j by omega]
theorem withAt_len (s r:Sta) (hs:s.length=44) (hr:r.length=44):(withAt s r).length=44:=by simp [withAt,hs,hr]
theorem Good.at_from {L T:Nat} {s r:Sta} (h:Good L T s) (hr:Good L T r):Good L T (withAt s r):=by
 have e:=gt_withAt s r h.len hr.len
 refine ⟨withAt_len s r h.len hr.len,by rw [e,if_neg (by omega)];exact h.pc0,by rw [e,if_neg (by omega)];exact h.pc1,by rw [e,if_neg (by omega)];exact h.pos0,by rw [e,if_neg (by omega)];exact h.pos1,fun k hk=>?_,fun k hk=>?_⟩
 ·rw [e,e,if_pos (by omega),if_pos (by omega)];exact hr.place k hk
 ·rw [e,e,if_neg (by omega),if_neg (by omega)];exact h.noted k hk
theorem Good.pcOf_lt {L T:Nat} {s:Sta} (h:Good L T s):pcOf s<L:=by have:=h.pc0;have:=h.pc1;unfold pcOf;omega
theorem backP_good {L:Nat} {t:ByteArray} {s:Sta} (h:Good L t.size s) (k:Int) (h0:0≤k) (h1:k<10) (hp:gt s 0+1<L) (ok:(backP t s k).2=true):Good L t.size (backP t s k).1:=by
 unfold backP at ok ⊢
 have hpl:=h.place k.toNat (by omega)
 rw [show 2*k.toNat=(2*k).toNat by omega] at hpl
 rw [show (2*k).toNat+1=(2*k+1).toNat by omega] at hpl
 split at ok
 ·cases ok
 split at ok
 ·cases ok
 rename_i g1 g2
 rw [if_neg g1,if_neg g2]
 have h0':=h.pc0
 exact (h.at_pos _ (by omega) (by omega)).at_pc _ (by omega) (by omega)
theorem oneP_good {c:List Ins} {t:ByteArray} {s:Sta} (hc:codeOk c) (h:Good c.length t.size s) (h2:(c.getD (pcOf s) ins0).op≠2) (h11:(c.getD (pcOf s) ins0).op≠11) (h13:(c.getD (pcOf s) ins0).op≠13) (ok:(oneP t s (c.getD (pcOf s) ins0)).2=true) :
  Good c.length t.size (oneP t s (c.getD (pcOf s) ins0)).1:=by
 have hi:=hc (pcOf s) h.pcOf_lt
 generalize c.getD (pcOf s) ins0=x at *
 obtain ⟨i2,i3,i4,i5,i6,i11,i13,iS⟩:=hi
 have hn:=i13 h13
 have hpc:((pcOf s:Nat):Int)=gt s 0:=by have:=h.pc0;unfold pcOf;omega
 have h0:=h.pc0
 unfold oneP at ok ⊢
 by_cases o1:x.op=1
 ·rw [if_pos o1] at ok ⊢
  dsimp only at ok ⊢
  split at ok
  ·exact (h.at_pos _ (by omega) (by omega)).at_pc _ (by omega) (by omega)
  ·cases ok
 rw [if_neg o1] at ok ⊢
 by_cases o3:x.op=3
 ·rw [if_pos o3];have:=i3 o3;exact h.at_pc _ (by omega) (by omega)
 rw [if_neg o3] at ok ⊢
 by_cases o4:x.op=4
 ·rw [if_pos o4];exact (h.at_mark _ _).at_pc _ (by omega) (by omega)
 rw [if_neg o4] at ok ⊢
 by_cases o5:x.op=5
 ·rw [if_pos o5];have:=i5 o5;exact h.at_pc _ (by omega) (by omega)
 rw [if_neg o5] at ok ⊢
 by_cases o6:x.op=6
 ·rw [if_pos o6];have:=i6 (.inl o6);exact (h.at_noted _ (by omega)).at_pc _ (by omega) (by omega)
 rw [if_neg o6] at ok ⊢
 by_cases o7:x.op=7
 ·rw [if_pos o7];have:=i6 (.inr (.inl o7))
  have hh:=(h.at_place x.x.toNat (by omega)).at_pc (gt s 0+1) (by omega) (by omega)
  rw [show 2*x.x.toNat=(2*x.x).toNat by omega,show (2*x.x).toNat+1=(2*x.x+1).toNat by omega] at hh
  exact hh
 rw [if_neg o7] at ok ⊢
 by_cases o8:x.op=8
 ·rw [if_pos o8] at ok ⊢;have:=i6 (.inr (.inr o8));exact backP_good h _ (by omega) (by omega) (by omega) ok
 rw [if_neg o8] at ok ⊢
 split
 ·exact h.at_pc _ (by omega) (by omega)
 split
 ·exact h.at_pc _ (by omega) (by omega)
 ·exact h.at_pc _ (by omega) (by omega)
theorem oneP_len (t:ByteArray) (s:Sta) (x:Ins):(oneP t s x).1.length=s.length:=by
 unfold oneP backP
 repeat' split
 all_goals simp
theorem deadKn_len (kn:List Bool) (room:Int) (i:Nat):(deadKn kn room i).length=kn.length:=by
 unfold deadKn
 split
 ·rfl
 split <;> simp
theorem deadRoom_in (kn:List Bool) (room:Int) (i:Nat) (h:0≤room∧room≤5000):0≤deadRoom kn room i∧deadRoom kn room i≤5000:=by
 unfold deadRoom
 split
 ·exact h
 split <;> omega
theorem Env.kn'_len (E:Env) (s:Sta) (kn:List Bool) (room:Int):(E.kn' s kn room).length=kn.length:=by
 unfold Env.kn'
 split
 ·exact deadKn_len _ _ _
 rfl
theorem Env.room'_in (E:Env) (s:Sta) (kn:List Bool) (room:Int) (h:0≤room∧room≤5000):0≤E.room' s kn room∧E.room' s kn room≤5000:=by
 unfold Env.room'
 split
 ·exact deadRoom_in _ _ _ h
 exact h
theorem apartP_good {c:List Ins} {T:Nat} {s r:Sta} {ok:Bool} (hs:Good c.length T s) (hr:ok=true→Good c.length T r) (x:Ins) (h0:0≤x.y) (h1:x.y<c.length) (hk:(apartP s x r ok).2=true):Good c.length T (apartP s x r ok).1:=by
 unfold apartP at hk ⊢
 by_cases o0:x.x=0
 ·rw [if_pos o0] at hk ⊢;exact (hr hk).at_pc _ h0 h1
 rw [if_neg o0] at hk ⊢
 by_cases o1:x.x=1
 ·rw [if_pos o1] at hk ⊢;exact (hs.at_from (hr hk)).at_pc _ h0 h1
 rw [if_neg o1]
 exact hs.at_pc _ h0 h1
theorem look_good (E:Env) (hc:codeOk E.c):∀ (N n:Nat) (s:Sta) (kn:List Bool) (room:Int),n≤N→Good E.c.length E.t.size s→0≤room∧room≤5000 →
  ((look E n s kn room).ok=true→Good E.c.length E.t.size (look E n s kn room).st)∧(look E n s kn room).kn.length=kn.length∧(0≤(look E n s kn room).room∧(look E n s kn room).room≤5000)∧(look E n s kn room).st.length=44∧((look E n s kn room).over=true→(look E n s kn room).ok=false∧(look E n s kn room).n=0)
 | N,0,s,kn,room,_,h,hr=>by rw [look_zero];exact ⟨fun e=>(by cases e),rfl,hr,h.len,fun _=>⟨rfl,rfl⟩⟩
 | 0,n+1,s,kn,room,hn,_,_=>by omega
 | N+1,n+1,s,kn,room,hn,h,hr=>by
  have ih:∀ (n:Nat) (s:Sta) (kn:List Bool) (room:Int),n≤N→Good E.c.length E.t.size s→0≤room∧room≤5000 →
   ((look E n s kn room).ok=true→Good E.c.length E.t.size (look E n s kn room).st)∧(look E n s kn room).kn.length=kn.length∧(0≤(look E n s kn room).room∧(look E n s kn room).room≤5000)∧(look E n s kn room).st.length=44∧((look E n s kn room).over=true→(look E n s kn room).ok=false∧(look E n s kn room).n=0):=look_good E hc N
  rw [look_step]
  have hK:=E.kn'_len s kn room
  have hR:=E.room'_in s kn room hr
  have hi:=hc (pcOf s) h.pcOf_lt
  have hpc:((pcOf s:Nat):Int)=gt s 0:=by have:=h.pc0;unfold pcOf;omega
  have hpc0:=h.pc0
  split
  ·exact ⟨fun e=>(by cases e),hK,hR,h.len,fun e=>(by cases e)⟩
  split
  ·exact ⟨fun _=>h,hK,hR,h.len,fun e=>(by cases e)⟩
  rename_i h13
  split
  ·rename_i o2
   have i2:=hi.1 o2
   have g1:=ih n (s.set 0 (E.ins s).x) (E.kn' s kn room) (E.room' s kn room) (by omega) (h.at_pc _ i2.1 i2.2.1) hR
   have n1:=look_n E n (s.set 0 (E.ins s).x) (E.kn' s kn room) (E.room' s kn room)
   dsimp only
   generalize look E n (s.set 0 (E.ins s).x) (E.kn' s kn room) (E.room' s kn room)=r at *
   split
   ·exact ⟨g1.1,g1.2.1.trans hK,g1.2.2⟩
   ·have g2:=ih r.n (s.set 0 (E.ins s).y) r.kn r.room (by omega) (h.at_pc _ i2.2.2.1 i2.2.2.2) g1.2.2.1
    exact ⟨g2.1,g2.2.1.trans (g1.2.1.trans hK),g2.2.2⟩
  rename_i o2
  split
  ·rename_i o11
   have i11:=hi.2.2.2.2.2.1 o11
   have hnx:pcOf s+1<E.c.length:=hi.2.2.2.2.2.2.1 (by show (E.ins s).op≠13;omega)
   have g1:=ih n (s.set 0 (gt s 0+1)) (E.kn' s kn room) (E.room' s kn room) (by omega) (h.at_pc _ (by omega) (by omega)) hR
   have n1:=look_n E n (s.set 0 (gt s 0+1)) (E.kn' s kn room) (E.room' s kn room)
   dsimp only
   generalize look E n (s.set 0 (gt s 0+1)) (E.kn' s kn room) (E.room' s kn room)=r at *
   split
   ·rename_i hov
    exact ⟨fun e=>(by cases e),g1.2.1.trans hK,g1.2.2.1,h.len,fun _=>⟨rfl,(g1.2.2.2.2 hov).2⟩⟩
   split
   ·rename_i hk
    have g2:=ih r.n _ r.kn r.room (by omega) (apartP_good h g1.1 (E.ins s) i11.1 i11.2.1 hk) g1.2.2.1
    exact ⟨g2.1,g2.2.1.trans (g1.2.1.trans hK),g2.2.2⟩
   ·refine ⟨fun e=>(by cases e),g1.2.1.trans hK,g1.2.2.1,?_,fun e=>(by cases e)⟩
    show (apartP s (E.ins s) r.st r.ok).1.length=44
    unfold apartP
    split
    ·simp [g1.2.2.2.1]
    split
    ·simp [withAt_len s r.st h.len g1.2.2.2.1]
    ·simp [h.len]
  rename_i o11
  split
  ·rename_i hk
   have hk':=hk
   have g2:=ih n _ (E.kn' s kn room) (E.room' s kn room) (by omega) (oneP_good hc h o2 o11 (by show (E.ins s).op≠13;omega) hk') hR
   exact ⟨g2.1,g2.2.1.trans hK,g2.2.2⟩
  ·exact ⟨fun e=>(by cases e),hK,hR,by show (oneP E.t s (E.ins s)).1.length=44;rw [oneP_len,h.len],fun e=>(by cases e)⟩
end Mt
