import Derived.Test.YtebpgfodelggoabGreatC20
set_option linter.unusedVariables false
set_option linter.unusedSimpArgs false
namespace Mt
theorem zO4 {c:List Ins} {t:ByteArray} {s:Sta} (h:Good c.length t.size s) (x:Ins) (hi:zJs c (kZ s) x) (ok:(qP t s x).2=true):gt s 1≤gt (qP t s x).1 1:=by
 have hl:=h.len
 have hx6:=hi.2.2.2.2.1
 have key:∀ (i:Nat) (v:Int),i≠1→gt (s.set i v) 1=gt s 1:=fun i v hi=>zO _ _ _ _ hi
 unfold qP at ok ⊢
 by_cases o1:x.op=1
 ·rw [if_pos o1]
  dsimp only
  rw [zO _ _ _ _ (by omega),jP _ _ _ (by omega)];omega
 rw [if_neg o1] at ok ⊢
 by_cases o3:x.op=3
 ·rw [if_pos o3];dsimp only;rw [key _ _ (by omega)];exact Int.le_refl _
 rw [if_neg o3] at ok ⊢
 by_cases o4:x.op=4
 ·rw [if_pos o4];dsimp only;rw [zO _ _ _ _ (by omega),zO _ _ _ _ (by omega)];exact Int.le_refl _
 rw [if_neg o4] at ok ⊢
 by_cases o5:x.op=5
 ·rw [if_pos o5];dsimp only;rw [key _ _ (by omega)];exact Int.le_refl _
 rw [if_neg o5] at ok ⊢
 by_cases o6:x.op=6
 ·rw [if_pos o6];dsimp only;rw [zO _ _ _ _ (by omega),zO _ _ _ _ (by omega)];exact Int.le_refl _
 rw [if_neg o6] at ok ⊢
 by_cases o7:x.op=7
 ·rw [if_pos o7];dsimp only;rw [zO _ _ _ _ (by omega),zO _ _ _ _ (by omega),zO _ _ _ _ (by omega)];exact Int.le_refl _
 rw [if_neg o7] at ok ⊢
 by_cases o8:x.op=8
 ·rw [if_pos o8] at ok ⊢
  have hk:=hx6 (.inr (.inr o8))
  have hpl:=h.place x.x.toNat (by omega)
  rw [show 2*x.x.toNat=(2*x.x).toNat by omega] at hpl
  rw [show (2*x.x).toNat+1=(2*x.x+1).toNat by omega] at hpl
  unfold zBD at ok ⊢
  split
  ·exact Int.le_refl _
  split
  ·exact Int.le_refl _
  ·dsimp only
   rw [zO _ _ _ _ (by omega),jP _ _ _ (by omega)];omega
 rw [if_neg o8] at ok ⊢
 split
 ·dsimp only;rw [key _ _ (by omega)];exact Int.le_refl _
 split
 ·dsimp only;rw [key _ _ (by omega)];exact Int.le_refl _
 ·dsimp only;rw [key _ _ (by omega)];exact Int.le_refl _
theorem zKw (E:Env) (hc:codeOk E.c):∀ (N n:Nat) (s:Sta) (kn:List Bool) (room:Int),n≤N→Good E.c.length E.t.size s→0≤room∧room≤5000→(look E n s kn room).ok=true→gt s 1≤gt (look E n s kn room).st 1
 | N,0,s,kn,room,_,h,hr,ok=>by rw [zBE] at ok;cases ok
 | 0,n+1,s,kn,room,hn,_,_,_=>by omega
 | N+1,n+1,s,kn,room,hn,h,hr,ok=>by
  have ih:∀ (n:Nat) (s:Sta) (kn:List Bool) (room:Int),n≤N→Good E.c.length E.t.size s→0≤room∧room≤5000→(look E n s kn room).ok=true→gt s 1≤gt (look E n s kn room).st 1:=zKw E hc N
  have hgood:=fun (m:Nat) (u:Sta) (k:List Bool) (r:Int) (hu:Good E.c.length E.t.size u) (hr':0≤r∧r≤5000)=>yC E hc m m u k r (Nat.le_refl _) hu hr'
  rw [xY] at ok ⊢
  have hR:=E.zBs s kn room hr
  have hi:=hc (kZ s) h.zAw
  have hpc:((kZ s:Nat):Int)=gt s 0:=by have:=h.pc0;unfold kZ;omega
  have zTk:=h.pc0
  by_cases hd:E.dead s kn=true
  ·rw [if_pos hd] at ok;cases ok
  rw [if_neg hd] at ok ⊢
  by_cases h13:(E.ins s).op=13∨(E.ins s).op=12
  ·rw [if_pos h13];exact Int.le_refl _
  rw [if_neg h13] at ok ⊢
  by_cases o2:(E.ins s).op=2
  ·rw [if_pos o2] at ok ⊢
   have i2:=hi.1 o2
   have g1:=h.xS (E.ins s).x i2.1 i2.2.1
   have g2:=h.xS (E.ins s).y i2.2.2.1 i2.2.2.2
   have p1:=ih n (s.set 0 (E.ins s).x) (E.kn' s kn room) (E.room' s kn room) (by omega) g1 hR
   have q1:=hgood n (s.set 0 (E.ins s).x) (E.kn' s kn room) (E.room' s kn room) g1 hR
   have n1:=zBr E n (s.set 0 (E.ins s).x) (E.kn' s kn room) (E.room' s kn room)
   dsimp only at ok ⊢
   generalize look E n (s.set 0 (E.ins s).x) (E.kn' s kn room) (E.room' s kn room)=r at *
   rw [zO _ _ _ _ (by omega)] at p1
   split at ok
   ·rename_i hh;rw [if_pos hh];exact p1 ok
   ·rename_i hh;rw [if_neg hh]
    have:=ih r.n (s.set 0 (E.ins s).y) r.kn r.room (by omega) g2 q1.2.2.1 ok
    rw [zO _ _ _ _ (by omega)] at this
    exact this
  rw [if_neg o2] at ok ⊢
  by_cases o11:(E.ins s).op=11
  ·rw [if_pos o11] at ok ⊢
   have i11:=hi.2.2.2.2.2.1 o11
   have hnx:kZ s+1<E.c.length:=hi.2.2.2.2.2.2.1 (by show (E.ins s).op≠13;omega)
   have g1:=h.xS (gt s 0+1) (by omega) (by omega)
   have p1:=ih n (s.set 0 (gt s 0+1)) (E.kn' s kn room) (E.room' s kn room) (by omega) g1 hR
   have q1:=hgood n (s.set 0 (gt s 0+1)) (E.kn' s kn room) (E.room' s kn room) g1 hR
   have n1:=zBr E n (s.set 0 (gt s 0+1)) (E.kn' s kn room) (E.room' s kn room)
   dsimp only at ok ⊢
   generalize look E n (s.set 0 (gt s 0+1)) (E.kn' s kn room) (E.room' s kn room)=r at *
   rw [zO _ _ _ _ (by omega)] at p1
   split at ok
   ·cases ok
   rename_i hov
   rw [if_neg hov]
   split at ok
   ·rename_i hk
    rw [if_pos hk]
    have:=ih r.n _ r.kn r.room (by omega) (zAK h q1.1 (E.ins s) i11.1 i11.2.1 hk) q1.2.2.1 ok
    refine Int.le_trans ?_ this
    unfold qJ at hk ⊢
    by_cases x0:(E.ins s).x=0
    ·rw [if_pos x0] at hk ⊢
     dsimp only at hk ⊢
     rw [zO _ _ _ _ (by omega)];exact p1 hk
    rw [if_neg x0] at hk ⊢
    by_cases x1:(E.ins s).x=1
    ·rw [if_pos x1] at hk ⊢
     dsimp only at hk ⊢
     rw [zO _ _ _ _ (by omega),zBg s r.st h.len (q1.1 hk).len,if_neg (by omega)];exact Int.le_refl _
    rw [if_neg x1]
    dsimp only
    rw [zO _ _ _ _ (by omega)];exact Int.le_refl _
   ·cases ok
  rw [if_neg o11] at ok ⊢
  split at ok
  ·rename_i hk
   rw [if_pos hk]
   have hg:=zBF hc h o2 o11 (by show (E.ins s).op≠13;omega) hk
   have:=ih n _ (E.kn' s kn room) (E.room' s kn room) (by omega) hg hR ok
   exact Int.le_trans (zO4 h (E.ins s) hi hk) this
  ·cases ok
theorem zDC (E:Env) (hc:codeOk E.c) (hc0:0<E.c.length) (budget:Int):∀ (f p n:Nat) (kn:List Bool) (room:Int),p+f≤E.t.size+1→(0≤room∧room≤5000)→(n:Int)≤budget→(search E budget f p n kn room).2=false →
  (0≤(search E budget f p n kn room).1.steps∧(search E budget f p n kn room).1.steps≤budget)∧((search E budget f p n kn room).1.ok=true→∃ a b:Nat,(search E budget f p n kn room).1.at'.getD 0 0=(a:Int)∧(search E budget f p n kn room).1.at'.getD 1 0=(b:Int)∧p≤a∧a≤b∧b≤E.t.size)
 | 0,p,n,kn,room,_,_,hn,_=>by
  simp only [search]
  exact ⟨by omega,fun h=>by cases h⟩
 | f+1,p,n,kn,room,hp,hr,hn,ho=>by
  have hst:=zAm E.c.length E.t.size p hc0 (by omega)
  have hg:=yC E hc n n (kH p) kn room (Nat.le_refl _) hst hr
  have hpos:=zKw E hc n n (kH p) kn room (Nat.le_refl _) hst hr
  have hln:=zBr E n (kH p) kn room
  rw [search] at ho ⊢
  generalize look E n (kH p) kn room=r at *
  by_cases hov:r.over=true
  ·rw [if_pos hov] at ho;cases ho
  rw [if_neg hov] at ho ⊢
  by_cases hok:r.ok=true
  ·rw [if_pos hok]
   have h1:=hpos hok
   have h2:=(hg.1 hok).pos1
   have e1:gt (kH p) 1=p:=rfl
   rw [e1] at h1
   refine ⟨by dsimp only;omega,fun _=>⟨p,(gt r.st 1).toNat,rfl,?_,Nat.le_refl _,by omega,by omega⟩⟩
   show gt r.st 1=_
   omega
  ·rw [if_neg hok] at ho ⊢
   obtain ⟨h1,h2⟩:=zDC E hc hc0 budget f (p+1) r.n r.kn r.room (by omega) hg.2.2.1 (by omega) ho
   refine ⟨h1,fun h=>?_⟩
   obtain ⟨a,b,x1,x2,x3,x4,x5⟩:=h2 h
   exact ⟨a,b,x1,x2,by omega,x4,x5⟩
def qX (f:Fnd):Nat:=if f.at'.getD 0 0=f.at'.getD 1 0 then (f.at'.getD 1 0).toNat+1 else (f.at'.getD 1 0).toNat
def yU (c:List Ins) (text:ByteArray) (policy mask room budget:Int):Nat→Nat→Int→List Fnd→List Fnd × Int × Int
 | 0,_,used,l=>(l,used,0)
 | F+1,frm,used,l =>
  if text.size<frm then (l,used,0)
  else if (zX c text policy mask room (budget-used) frm).2 then ([],0,14)
  else if (zX c text policy mask room (budget-used) frm).1.ok=false then (l,used+(zX c text policy mask room (budget-used) frm).1.steps,0)
  else yU c text policy mask room budget F (qX (zX c text policy mask room (budget-used) frm).1) (used+(zX c text policy mask room (budget-used) frm).1.steps) (l++[(zX c text policy mask room (budget-used) frm).1])
def jI (p text:ByteArray) (policy mask room budget:Int):List Fnd × Int × Int :=
 if (kR p).2≠0 then ([],0,(kR p).2)
 else if zAx text.size 0 policy mask room budget≠0 then ([],0,zAx text.size 0 policy mask room budget)
 else yU (kR p).1 text policy mask room budget (text.size+2) 0 0 []
end Mt
