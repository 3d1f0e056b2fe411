import Derived.Test.YtebpgfodelggoabGreatC28
import Derived.Test.YtebpgfodelggoabGreatC20
set_option linter.unusedVariables false
set_option linter.unusedSimpArgs false
namespace Mt
structure qU (a:Att) (s q:Sta):Prop where
 ls:s.length=44
 lq:q.length=43
 low:∀ i,i<22→gt q i=gt s i
 notes:∀ k∈a.G,gt q (22+k.toNat)=gt s (22+k.toNat)
 marks:∀ j:Nat,(j:Int)<a.d→gt q (32+j)=gt s (32+j)
def Sim (A:Int→Att) (s q:Sta):Prop:=qU (A (gt s 0)) s q
theorem qU.zEb {a:Att} {s q:Sta} (h:qU a s q) (i:Nat) (hi:i<22) (v:Int):qU a (s.set i v) (q.set i v):=by
 refine ⟨by rw [List.length_set];exact h.ls,by rw [List.length_set];exact h.lq,fun j hj=>?_,fun k hk=>?_,fun j hj=>?_⟩
 ·have h1:=h.ls;have h2:=h.lq
  rw [zDx,zDx]
  by_cases e:i=j
  ·rw [if_pos ⟨e,by omega⟩,if_pos ⟨e,by omega⟩]
  ·rw [if_neg (by omega),if_neg (by omega)];exact h.low j hj
 ·rw [zO _ _ _ _ (by omega),zO _ _ _ _ (by omega)];exact h.notes k hk
 ·rw [zO _ _ _ _ (by omega),zO _ _ _ _ (by omega)];exact h.marks j hj
theorem qU.note {a:Att} {s q:Sta} (h:qU a s q) (k:Int) (hk:k.toNat<10) (hG:∀ z∈a.G,0≤z∧z<10) (v:Int):qU ⟨k::a.G,a.d,a.y,a.B⟩ (s.set (22+k.toNat) v) (q.set (22+k.toNat) v):=by
 have h1:=h.ls;have h2:=h.lq
 refine ⟨by rw [List.length_set];exact h.ls,by rw [List.length_set];exact h.lq,fun j hj=>?_,fun z hz=>?_,fun j hj=>?_⟩
 ·rw [zO _ _ _ _ (by omega),zO _ _ _ _ (by omega)];exact h.low j hj
 ·rw [zDx,zDx]
  by_cases e:k.toNat=z.toNat
  ·rw [if_pos ⟨by omega,by omega⟩,if_pos ⟨by omega,by omega⟩]
  ·rw [if_neg (by omega),if_neg (by omega)]
   rcases List.mem_cons.1 hz with rfl | hz
   ·exact absurd rfl e
   ·exact h.notes z hz
 ·rw [zO _ _ _ _ (by omega),zO _ _ _ _ (by omega)];exact h.marks j hj
theorem qU.mark {a:Att} {s q:Sta} (h:qU a s q) (x:Int) (hx:x=a.d) (h0:0≤x) (h11:x<11) (hG:∀ z∈a.G,0≤z∧z<10) (v:Int):qU ⟨a.G,a.d+1,a.y,a.B⟩ (s.set (32+x.toNat) v) (q.set (32+x.toNat) v):=by
 have h1:=h.ls;have h2:=h.lq
 refine ⟨by rw [List.length_set];exact h.ls,by rw [List.length_set];exact h.lq,fun j hj=>?_,fun z hz=>?_,fun j hj=>?_⟩
 ·rw [zO _ _ _ _ (by omega),zO _ _ _ _ (by omega)];exact h.low j hj
 ·have:=hG z hz
  rw [zO _ _ _ _ (by omega),zO _ _ _ _ (by omega)];exact h.notes z hz
 ·rw [zDx,zDx]
  by_cases e:x.toNat=j
  ·rw [if_pos ⟨by omega,by omega⟩,if_pos ⟨by omega,by omega⟩]
  ·rw [if_neg (by omega),if_neg (by omega)];exact h.marks j (by dsimp only at hj;omega)
theorem qU.less {a b:Att} {s q:Sta} (h:qU a s q) (hG:∀ k∈b.G,k∈a.G) (hd:b.d≤a.d):qU b s q :=
 ⟨h.ls,h.lq,h.low,fun k hk=>h.notes k (hG k hk),fun j hj=>h.marks j (by omega)⟩
theorem qU.to {A:Int→Att} {s q:Sta} {v:Int} (h:qU (A v) s q):Sim A (s.set 0 v) (q.set 0 v):=by
 have e:gt (s.set 0 v) 0=v:=jP _ _ _ (by have:=h.ls;omega)
 show qU (A (gt (s.set 0 v) 0)) _ _
 rw [e];exact h.zEb 0 (by omega) v
theorem Sim.jump {A:Int→Att} {s q:Sta} {v:Int} (h:Sim A s q) (e:A v=A (gt s 0)):Sim A (s.set 0 v) (q.set 0 v):=by
 refine qU.to ?_
 rw [e];exact h
theorem Sim.kZ {A:Int→Att} {s q:Sta} (h:Sim A s q):kZ q=kZ s:=by unfold Mt.kZ;rw [qU.low h 0 (by omega)]
theorem Sim.posOf {A:Int→Att} {s q:Sta} (h:Sim A s q):posOf q=posOf s:=by unfold Mt.posOf;rw [qU.low h 1 (by omega)]
theorem zNI {a:Att} (t:ByteArray) {s q:Sta} (h:qU a s q) (k:Int) (h0:0≤k) (h9:k<10):(zBD t q k).2=(zBD t s k).2∧((zBD t s k).2=true→qU a (zBD t s k).1 (zBD t q k).1∧gt (zBD t s k).1 0=gt s 0+1):=by
 have e1:=h.low (2+(2*k).toNat) (by omega)
 have e2:=h.low (2+(2*k+1).toNat) (by omega)
 have e3:=h.low 1 (by omega)
 have e4:=h.low 0 (by omega)
 unfold zBD
 rw [e1,e2,e3,e4]
 split
 ·exact ⟨rfl,fun e=>by cases e⟩
 split
 ·exact ⟨rfl,fun e=>by cases e⟩
 ·refine ⟨rfl,fun _=>⟨(h.zEb 1 (by omega) _).zEb 0 (by omega) _,?_⟩⟩
  have:=h.ls
  exact jP _ _ _ (by rw [List.length_set];omega)
theorem zCD {c:List Ins} {A:Int→Att} (hK:Known c A) {q:Nat} (hq:q<c.length) (h13:(c.getD q jB).op≠13):q+1<c.length∧Rule A q (c.getD q jB):=by
 have h1:q+1<c.length:=by
  rcases Nat.lt_or_ge (q+1) c.length with h | h
  ·exact h
  ·exfalso
   have e:q=c.length-1:=by omega
   rw [e] at h13;exact h13 hK.last
 exact ⟨h1,hK.rule q h1⟩
theorem zPE {c:List Ins} {A:Int→Att} {t:ByteArray} {s q:Sta} (hK:Known c A) (hg:Good c.length t.size s) (h:Sim A s q) (h2:(c.getD (kZ s) jB).op≠2) (h11:(c.getD (kZ s) jB).op≠11) (h12:(c.getD (kZ s) jB).op≠12) (h13:(c.getD (kZ s) jB).op≠13) :
  (qP t q (c.getD (kZ s) jB)).2=(qP t s (c.getD (kZ s) jB)).2∧((qP t s (c.getD (kZ s) jB)).2=true→Sim A (qP t s (c.getD (kZ s) jB)).1 (qP t q (c.getD (kZ s) jB)).1):=by
 obtain ⟨hn,hr⟩:=zCD hK hg.zAw h13
 have hi:=hK.ok (kZ s) hg.zAw
 have hpc:((kZ s:Nat):Int)=gt s 0:=by have:=hg.pc0;unfold kZ;omega
 rw [hpc] at hr
 generalize c.getD (kZ s) jB=x at *
 obtain ⟨r1,r2,r3,r4,r5,r6,r7,r11,r12,rB,rd,rG,ro⟩:=hr
 have e0:=qU.low h 0 (by omega)
 have e1:=qU.low h 1 (by omega)
 unfold qP
 by_cases o1:x.op=1
 ·rw [if_pos o1,if_pos o1];dsimp only;rw [e0,e1]
  refine ⟨rfl,fun _=>Sim.jump (s:=s.set 1 _) ?_ ?_⟩
  ·have:Sim A (s.set 1 (gt s 1+1)) (q.set 1 (gt s 1+1)):=by
    show qU _ _ _
    rw [zO _ _ _ _ (by omega)];exact qU.zEb h 1 (by omega) _
   exact this
  ·rw [zO _ _ _ _ (by omega)];exact r1 (by omega)
 rw [if_neg o1,if_neg o1]
 by_cases o3:x.op=3
 ·rw [if_pos o3,if_pos o3];exact ⟨rfl,fun _=>Sim.jump h (r3 o3)⟩
 rw [if_neg o3,if_neg o3]
 by_cases o4:x.op=4
 ·rw [if_pos o4,if_pos o4];dsimp only;rw [e0,e1]
  obtain ⟨a1,a2,a3⟩:=r4 o4
  have i4:=hi.2.2.1 o4
  refine ⟨rfl,fun _=>qU.to ?_⟩
  rw [a2];exact qU.mark h x.x a1 (by omega) a3 rG _
 rw [if_neg o4,if_neg o4]
 by_cases o5:x.op=5
 ·rw [if_pos o5,if_pos o5];dsimp only
  obtain ⟨a1,a2,a3,a4⟩:=r5 o5
  rw [e1,qU.marks h x.y.toNat (by omega)]
  refine ⟨rfl,fun _=>qU.to ?_⟩
  rw [a1];exact qU.less h (fun k hk=>hk) (by dsimp only;omega)
 rw [if_neg o5,if_neg o5]
 by_cases o6:x.op=6
 ·rw [if_pos o6,if_pos o6];dsimp only;rw [e0,e1]
  obtain ⟨a1,a2⟩:=r6 o6
  have i6:=hi.2.2.2.2.1 (.inl o6)
  refine ⟨rfl,fun _=>qU.to ?_⟩
  rw [a1];exact qU.note h x.x (by omega) rG _
 rw [if_neg o6,if_neg o6]
 by_cases o7:x.op=7
 ·rw [if_pos o7,if_pos o7];dsimp only;rw [e0,e1]
  obtain ⟨g,a1,a2⟩:=r7 o7
  have i6:=hi.2.2.2.2.1 (.inr (.inl o7))
  have en:=qU.notes h x.x (by rw [a1];exact List.mem_cons_self ..)
  rw [en]
  refine ⟨rfl,fun _=>qU.to ?_⟩
  rw [a2]
  exact qU.less ((qU.zEb h (2+(2*x.x).toNat) (by omega) _).zEb (2+(2*x.x+1).toNat) (by omega) _) (fun k hk=>by rw [a1];exact List.mem_cons_of_mem _ hk) (by dsimp only;omega)
 rw [if_neg o7,if_neg o7]
 by_cases o8:x.op=8
 ·rw [if_pos o8,if_pos o8]
  have i6:=hi.2.2.2.2.1 (.inr (.inr o8))
  have hb:=zNI t (show qU (A (gt s 0)) s q from h) x.x (by omega) (by omega)
  refine ⟨hb.1,fun hk=>?_⟩
  obtain ⟨b1,b2⟩:=hb.2 hk
  show qU (A (gt _ 0)) _ _
  rw [b2,r1 (by omega)];exact b1
 rw [if_neg o8,if_neg o8]
 by_cases o9:x.op=9
 ·rw [if_pos o9,if_pos o9];dsimp only;rw [e0,e1];exact ⟨rfl,fun _=>Sim.jump h (r1 (by omega))⟩
 rw [if_neg o9,if_neg o9]
 by_cases o10:x.op=10
 ·rw [if_pos o10,if_pos o10];dsimp only;rw [e0,e1];exact ⟨rfl,fun _=>Sim.jump h (r1 (by omega))⟩
 ·exfalso;omega
theorem zRc {E:Env} {A:Int→Att} {s q:Sta} (hK:Known E.c A) (har:∀ p,p<E.c.length→E.ar.getD p 0=kS E.c p) (hg:Good E.c.length E.t.size s) (h:Sim A s q):E.key q=E.key s∧E.isIn q=E.isIn s:=by
 unfold Env.key Env.isIn
 rw [h.kZ,h.posOf]
 refine ⟨?_,rfl⟩
 unfold keyOf
 congr 1
 unfold lev zV
 refine List.countP_congr (fun j hj=>?_)
 rw [List.mem_range] at hj
 have hpc:((kZ s:Nat):Int)=gt s 0:=by have:=hg.pc0;unfold kZ;omega
 have hd:=hK.loops (kZ s) hg.zAw
 rw [hpc] at hd
 rw [har _ hg.zAw] at hj
 rw [qU.low h 1 (by omega),qU.marks h j (by omega)]
def xU (E:Env):Nat→List Sta→List Bool→Int→Res
 | n,[],kn,room=>⟨[],false,n,kn,room,false⟩
 | n,s::st,kn,room=>if (look E n s kn room).ok||(look E n s kn room).over then look E n s kn room else xU E (look E n s kn room).n st (look E n s kn room).kn (look E n s kn room).room
theorem zEc (E:Env) (s:Sta) (st:List Sta) (kn:List Bool) (room:Int):xU E 0 (s::st) kn room=⟨s,false,0,kn,room,true⟩:=rfl
theorem zLT (E:Env) (n:Nat) (s:Sta) (st:List Sta) (kn:List Bool) (room:Int) (h:E.dead s kn=true):xU E (n+1) (s::st) kn room=xU E n st (E.kn' s kn room) (E.room' s kn room):=by
 have hl:=xY E n s kn room
 rw [if_pos h] at hl
 rw [xU,hl];rfl
theorem zNJ (E:Env) (n:Nat) (s:Sta) (st:List Sta) (kn:List Bool) (room:Int) (h:E.dead s kn=false) (ho:(E.ins s).op=13∨(E.ins s).op=12):xU E (n+1) (s::st) kn room=⟨s,true,n,E.kn' s kn room,E.room' s kn room,false⟩:=by
 have hl:=xY E n s kn room
 rw [if_neg (by rw [h];exact Bool.false_ne_true),if_pos ho] at hl
 rw [xU,hl];rfl
theorem zJT (E:Env) (n:Nat) (s:Sta) (st:List Sta) (kn:List Bool) (room:Int) (h:E.dead s kn=false) (ho:(E.ins s).op=2):xU E (n+1) (s::st) kn room=xU E n (s.set 0 (E.ins s).x::s.set 0 (E.ins s).y::st) (E.kn' s kn room) (E.room' s kn room):=by
 have hl:=xY E n s kn room
 rw [if_neg (by rw [h];exact Bool.false_ne_true),if_neg (by omega),if_pos ho] at hl
 rw [xU,hl,xU]
 dsimp only
 generalize look E n (s.set 0 (E.ins s).x) (E.kn' s kn room) (E.room' s kn room)=r
 by_cases hr:(r.ok||r.over)=true
 ·rw [if_pos hr,if_pos hr,if_pos hr]
 ·rw [if_neg hr,if_neg hr,xU]
theorem zKL (E:Env) (n:Nat) (s:Sta) (st:List Sta) (kn:List Bool) (room:Int) (h:E.dead s kn=false) (h2:(E.ins s).op≠2) (h11:(E.ins s).op≠11) (h12:(E.ins s).op≠12) (h13:(E.ins s).op≠13) :
  xU E (n+1) (s::st) kn room=xU E n ((if (qP E.t s (E.ins s)).2 then [(qP E.t s (E.ins s)).1] else [])++st) (E.kn' s kn room) (E.room' s kn room):=by
 have hl:=xY E n s kn room
 rw [if_neg (by rw [h];exact Bool.false_ne_true),if_neg (by omega),if_neg h2,if_neg h11] at hl
 rw [xU,hl]
 by_cases hr:(qP E.t s (E.ins s)).2=true
 ·rw [if_pos hr,if_pos hr];rfl
 ·rw [if_neg hr,if_neg hr];rfl
theorem zNK (E:Env) (n:Nat) (s:Sta) (st:List Sta) (kn:List Bool) (room:Int) (h:E.dead s kn=false) (ho:(E.ins s).op=11):xU E (n+1) (s::st) kn room =
  if (look E n (s.set 0 (gt s 0+1)) (E.kn' s kn room) (E.room' s kn room)).over then ⟨s,false,(look E n (s.set 0 (gt s 0+1)) (E.kn' s kn room) (E.room' s kn room)).n,(look E n (s.set 0 (gt s 0+1)) (E.kn' s kn room) (E.room' s kn room)).kn,(look E n (s.set 0 (gt s 0+1)) (E.kn' s kn room) (E.room' s kn room)).room,true⟩
  else xU E (look E n (s.set 0 (gt s 0+1)) (E.kn' s kn room) (E.room' s kn room)).n ((if (qJ s (E.ins s) (look E n (s.set 0 (gt s 0+1)) (E.kn' s kn room) (E.room' s kn room)).st (look E n (s.set 0 (gt s 0+1)) (E.kn' s kn room) (E.room' s kn room)).ok).2 then [(qJ s (E.ins s) (look E n (s.set 0 (gt s 0+1)) (E.kn' s kn room) (E.room' s kn room)).st (look E n (s.set 0 (gt s 0+1)) (E.kn' s kn room) (E.room' s kn room)).ok).1] else [])++st)
   (look E n (s.set 0 (gt s 0+1)) (E.kn' s kn room) (E.room' s kn room)).kn (look E n (s.set 0 (gt s 0+1)) (E.kn' s kn room) (E.room' s kn room)).room:=by
 have hl:=xY E n s kn room
 rw [if_neg (by rw [h];exact Bool.false_ne_true),if_neg (by omega),if_neg (by omega),if_pos ho] at hl
 rw [xU,hl]
 clear hl
 dsimp only
 generalize look E n (s.set 0 (gt s 0+1)) (E.kn' s kn room) (E.room' s kn room)=r
 by_cases hr:r.over=true
 ·rw [if_pos hr,if_pos hr];rfl
 ·rw [if_neg hr,if_neg hr]
  by_cases hk:(qJ s (E.ins s) r.st r.ok).2=true
  ·rw [if_pos hk,if_pos hk];rfl
  ·rw [if_neg hk,if_neg hk];rfl
theorem zNL (E:Env) (n:Nat) (s:Sta) (kn:List Bool) (room:Int):(xU E n [s] kn room).ok=(look E n s kn room).ok∧(xU E n [s] kn room).over=(look E n s kn room).over∧(xU E n [s] kn room).n=(look E n s kn room).n∧(xU E n [s] kn room).kn=(look E n s kn room).kn∧(xU E n [s] kn room).room=(look E n s kn room).room∧((look E n s kn room).ok=true→(xU E n [s] kn room).st=(look E n s kn room).st):=by
 rw [xU]
 generalize look E n s kn room=r
 split
 ·exact ⟨rfl,rfl,rfl,rfl,rfl,fun _=>rfl⟩
 ·rename_i hr
  simp only [Bool.or_eq_true,not_or,Bool.not_eq_true] at hr
  refine ⟨hr.1.symm,hr.2.symm,rfl,rfl,rfl,fun e=>?_⟩
  rw [hr.1] at e;cases e
theorem zGH (E:Env) (A:Int→Att) (hK:Known E.c A):∀ (N n:Nat) (s:Sta) (kn:List Bool) (room:Int),n≤N→Good E.c.length E.t.size s→0≤room∧room≤5000→(look E n s kn room).ok=true →
  (A (gt (look E n s kn room).st 0)).y=(A (gt s 0)).y∧(∀ k∈(A (gt s 0)).B,gt (look E n s kn room).st (22+k.toNat)=gt s (22+k.toNat))∧((E.ins (look E n s kn room).st).op=12∨(E.ins (look E n s kn room).st).op=13)
 | N,0,s,kn,room,_,h,hr,ho=>by rw [zBE] at ho;cases ho
 | 0,n+1,s,kn,room,hn,_,_,_=>by omega
 | N+1,n+1,s,kn,room,hn,h,hrm,ho=>by
  have ih:∀ (n:Nat) (s:Sta) (kn:List Bool) (room:Int),n≤N→Good E.c.length E.t.size s→0≤room∧room≤5000→(look E n s kn room).ok=true →
   (A (gt (look E n s kn room).st 0)).y=(A (gt s 0)).y∧(∀ k∈(A (gt s 0)).B,gt (look E n s kn room).st (22+k.toNat)=gt s (22+k.toNat))∧((E.ins (look E n s kn room).st).op=12∨(E.ins (look E n s kn room).st).op=13):=zGH E A hK N
  have on:∀ (n:Nat) (u:Sta) (kn:List Bool) (room:Int),n≤N→Good E.c.length E.t.size u→0≤room∧room≤5000→(look E n u kn room).ok=true→(A (gt u 0)).y=(A (gt s 0)).y→(A (gt u 0)).B=(A (gt s 0)).B→(∀ k∈(A (gt s 0)).B,gt u (22+k.toNat)=gt s (22+k.toNat)) →
   (A (gt (look E n u kn room).st 0)).y=(A (gt s 0)).y∧(∀ k∈(A (gt s 0)).B,gt (look E n u kn room).st (22+k.toNat)=gt s (22+k.toNat))∧((E.ins (look E n u kn room).st).op=12∨(E.ins (look E n u kn room).st).op=13):=fun n u kn room h1 h2 h3 h4 h5 h6 h7=>by
   obtain ⟨a,b,c⟩:=ih n u kn room h1 h2 h3 h4
   exact ⟨a.trans h5,fun k hk=>(b k (by rw [h6];exact hk)).trans (h7 k hk),c⟩
  rw [xY] at ho ⊢
  have hR:=E.zBs s kn room hrm
  have hl:=h.len
  have hpc:((kZ s:Nat):Int)=gt s 0:=by have:=h.pc0;unfold kZ;omega
  by_cases hd:E.dead s kn=true
  ·rw [if_pos hd] at ho;cases ho
  rw [if_neg hd] at ho ⊢
  by_cases h13:(E.ins s).op=13∨(E.ins s).op=12
  ·rw [if_pos h13];exact ⟨rfl,fun _ _=>rfl,h13.symm⟩
  rw [if_neg h13] at ho ⊢
  have zSj:(E.c.getD (kZ s) jB).op≠13:=fun e=>h13 (.inl e)
  obtain ⟨hn1,hru⟩:=zCD hK h.zAw zSj
  have hi:=hK.ok (kZ s) h.zAw
  rw [hpc] at hru
  have hp0:=h.pc0
  have p0:∀ v,gt (s.set 0 v) 0=v:=fun v=>jP _ _ _ (by omega)
  have pk:∀ (v:Int) (k:Int),gt (s.set 0 v) (22+k.toNat)=gt s (22+k.toNat):=fun v k=>zO _ _ _ _ (by omega)
  by_cases o2:(E.ins s).op=2
  ·rw [if_pos o2] at ho ⊢
   have i2:=hi.1 o2
   obtain ⟨a1,a2⟩:=hru.2.1 o2
   have g1:=yC E hK.ok N n (s.set 0 (E.ins s).x) (E.kn' s kn room) (E.room' s kn room) (by omega) (h.xS _ i2.1 i2.2.1) hR
   have n1:=zBr E n (s.set 0 (E.ins s).x) (E.kn' s kn room) (E.room' s kn room)
   have k1:=on n (s.set 0 (E.ins s).x) (E.kn' s kn room) (E.room' s kn room) (by omega) (h.xS _ i2.1 i2.2.1) hR
   dsimp only at ho ⊢
   generalize look E n (s.set 0 (E.ins s).x) (E.kn' s kn room) (E.room' s kn room)=r at *
   by_cases hro:(r.ok||r.over)=true
   ·rw [if_pos hro] at ho ⊢
    exact k1 ho (by rw [p0];exact congrArg Att.y a1) (by rw [p0];exact congrArg Att.B a1) (fun k hk=>pk _ k)
   ·rw [if_neg hro] at ho ⊢
    exact on r.n (s.set 0 (E.ins s).y) r.kn r.room (by omega) (h.xS _ i2.2.2.1 i2.2.2.2) g1.2.2.1 ho (by rw [p0];exact congrArg Att.y a2) (by rw [p0];exact congrArg Att.B a2) (fun k hk=>pk _ k)
  rw [if_neg o2] at ho ⊢
  by_cases o11:(E.ins s).op=11
  ·rw [if_pos o11] at ho ⊢
   have i11:=hi.2.2.2.2.2.1 o11
   obtain ⟨a1,a2,a3,a4⟩:=hru.2.2.2.2.2.2.2.1 o11
   have gs:=h.xS (gt s 0+1) (by omega) (by omega)
   have g1:=yC E hK.ok N n (s.set 0 (gt s 0+1)) (E.kn' s kn room) (E.room' s kn room) (by omega) gs hR
   have n1:=zBr E n (s.set 0 (gt s 0+1)) (E.kn' s kn room) (E.room' s kn room)
   have k1:=ih n (s.set 0 (gt s 0+1)) (E.kn' s kn room) (E.room' s kn room) (by omega) gs hR
   rw [p0,a1] at k1
   dsimp only at ho k1 ⊢
   generalize look E n (s.set 0 (gt s 0+1)) (E.kn' s kn room) (E.room' s kn room)=r at *
   by_cases hov:r.over=true
   ·rw [if_pos hov] at ho;cases ho
   rw [if_neg hov] at ho ⊢
   by_cases hk:(qJ s (E.ins s) r.st r.ok).2=true
   ·rw [if_pos hk] at ho ⊢
    have ga:=zAK h g1.1 (E.ins s) i11.1 i11.2.1 hk
    have pa:gt (qJ s (E.ins s) r.st r.ok).1 0=(E.ins s).y∧∀ k∈(A (gt s 0)).G,gt (qJ s (E.ins s) r.st r.ok).1 (22+k.toNat)=gt s (22+k.toNat):=by
     unfold qJ at hk ⊢
     by_cases x0:(E.ins s).x=0
     ·rw [if_pos x0] at hk ⊢
      refine ⟨jP _ _ _ (by rw [g1.2.2.2.1];omega),fun k hkk=>?_⟩
      dsimp only
      rw [zO _ _ _ _ (by omega),(k1 hk).2.1 k hkk,pk]
     rw [if_neg x0] at hk ⊢
     by_cases x1:(E.ins s).x=1
     ·rw [if_pos x1] at hk ⊢
      refine ⟨jP _ _ _ (by rw [xI s r.st h.len g1.2.2.2.1];omega),fun k hkk=>?_⟩
      dsimp only
      rw [zO _ _ _ _ (by omega),zBg s r.st h.len g1.2.2.2.1,if_neg (by omega)]
     ·rw [if_neg x1];exact ⟨p0 _,fun k hkk=>pk _ k⟩
    exact on r.n _ r.kn r.room (by omega) ga g1.2.2.1 ho (by rw [pa.1];exact congrArg Att.y a2) (by rw [pa.1];exact congrArg Att.B a2) (fun k hkk=>pa.2 k (hru.2.2.2.2.2.2.2.2.2.1 k hkk))
   ·rw [if_neg hk] at ho;cases ho
  rw [if_neg o11] at ho ⊢
  by_cases hk:(qP E.t s (E.ins s)).2=true
  ·rw [if_pos hk] at ho ⊢
   have gg:=zBF hK.ok h (t:=E.t) o2 o11 zSj hk
   have pa:(A (gt (qP E.t s (E.ins s)).1 0)).y=(A (gt s 0)).y∧(A (gt (qP E.t s (E.ins s)).1 0)).B=(A (gt s 0)).B∧∀ k∈(A (gt s 0)).B,gt (qP E.t s (E.ins s)).1 (22+k.toNat)=gt s (22+k.toNat):=by
    have hxe:E.ins s=E.c.getD (kZ s) jB:=rfl
    rw [← hxe] at hru hi
    generalize E.ins s=x at *
    obtain ⟨r1,r2,r3,r4,r5,r6,r7,r11,r12,rB,rd,rG,ro⟩:=hru
    have q0:∀ (i:Nat) (u v:Int),gt ((s.set i u).set 0 v) 0=v:=fun i u v=>jP _ _ _ (by rw [List.length_set];omega)
    unfold qP at hk ⊢
    by_cases o1:x.op=1
    ·rw [if_pos o1];dsimp only
     rw [q0,r1 (by omega)]
     exact ⟨rfl,rfl,fun k hkk=>by rw [zO _ _ _ _ (by omega),zO _ _ _ _ (by omega)]⟩
    rw [if_neg o1] at hk ⊢
    by_cases o3:x.op=3
    ·rw [if_pos o3];dsimp only
     rw [p0,r3 o3];exact ⟨rfl,rfl,fun k hkk=>pk _ k⟩
    rw [if_neg o3] at hk ⊢
    by_cases o4:x.op=4
    ·rw [if_pos o4];dsimp only
     rw [q0,(r4 o4).2.1]
     exact ⟨rfl,rfl,fun k hkk=>by have:=rG k (rB k hkk);rw [zO _ _ _ _ (by omega),zO _ _ _ _ (by omega)]⟩
    rw [if_neg o4] at hk ⊢
    by_cases o5:x.op=5
    ·rw [if_pos o5];dsimp only
     rw [p0,(r5 o5).1];exact ⟨rfl,rfl,fun k hkk=>pk _ k⟩
    rw [if_neg o5] at hk ⊢
    by_cases o6:x.op=6
    ·rw [if_pos o6];dsimp only
     have i6:=hi.2.2.2.2.1 (.inl o6)
     rw [q0,(r6 o6).1]
     refine ⟨rfl,rfl,fun k hkk=>?_⟩
     have g1:=rG k (rB k hkk)
     have g2:x.x≠k:=fun e=>(r6 o6).2 (by rw [e];exact rB k hkk)
     rw [zO _ _ _ _ (by omega),zO _ _ _ _ (by omega)]
    rw [if_neg o6] at hk ⊢
    by_cases o7:x.op=7
    ·rw [if_pos o7];dsimp only
     have i6:=hi.2.2.2.2.1 (.inr (.inl o7))
     obtain ⟨g,b1,b2⟩:=r7 o7
     have:gt (((s.set (2+(2*x.x).toNat) (gt s (22+x.x.toNat))).set (2+(2*x.x+1).toNat) (gt s 1)).set 0 (gt s 0+1)) 0=gt s 0+1:=jP _ _ _ (by rw [List.length_set,List.length_set];omega)
     rw [this,b2]
     exact ⟨rfl,rfl,fun k hkk=>by rw [zO _ _ _ _ (by omega),zO _ _ _ _ (by omega),zO _ _ _ _ (by omega)]⟩
    rw [if_neg o7] at hk ⊢
    by_cases o8:x.op=8
    ·rw [if_pos o8] at hk ⊢
     unfold zBD at hk ⊢
     split at hk
     ·cases hk
     split at hk
     ·cases hk
     rename_i u1 u2
     rw [if_neg u1,if_neg u2];dsimp only
     rw [q0,r1 (by omega)]
     exact ⟨rfl,rfl,fun k hkk=>by rw [zO _ _ _ _ (by omega),zO _ _ _ _ (by omega)]⟩
    rw [if_neg o8] at hk ⊢
    by_cases o9:x.op=9
    ·rw [if_pos o9];dsimp only
     rw [p0,r1 (by omega)];exact ⟨rfl,rfl,fun k hkk=>pk _ k⟩
    rw [if_neg o9] at hk ⊢
    by_cases o10:x.op=10
    ·rw [if_pos o10];dsimp only
     rw [p0,r1 (by omega)];exact ⟨rfl,rfl,fun k hkk=>pk _ k⟩
    ·exfalso;omega
   exact on n _ _ _ (by omega) gg hR ho pa.1 pa.2.1 pa.2.2
  ·rw [if_neg hk] at ho;cases ho
def zCU (q e:Sta):Sta:=q.take 2++((e.drop 2).take 30++q.drop 32)
theorem zEx (q e:Sta) (hq:q.length=43) (he:e.length=43):(zCU q e).length=43:=by simp [zCU,hq,he]
theorem zFK (s r:Sta) (hs:s.length=43) (hr:r.length=43) (j:Nat):gt (zCU s r) j=if 2≤j∧j<32 then gt r j else gt s j:=by
 unfold zCU gt
 simp only [List.getD_eq_getElem?_getD]
 by_cases h1:j<2
 ·rw [if_neg (by omega),List.getElem?_append_left (by simp;omega),List.getElem?_take_of_lt h1]
 ·rw [List.getElem?_append_right (by simp;omega)]
  have l1:(s.take 2).length=2:=by simp [hs]
  have l2:((r.drop 2).take 30).length=30:=by simp [hr]
  by_cases h2:j<32
  ·rw [if_pos (by omega),List.getElem?_append_left (by omega),l1,List.getElem?_take_of_lt (by omega),List.getElem?_drop,show 2+(j-2)=j by omega]
  ·rw [if_neg (by omega),List.getElem?_append_right (by omega),l1,l2,List.getElem?_drop,show 32+(j-2-30)=j by omega]
def zEy (q:Sta) (x:Ins) (e:Sta):Sta:=if x.x=0 then e.set 0 x.y else if x.x=1 then (zCU q e).set 0 x.y else q.set 0 x.y
theorem zNM {E:Env} {A:Int→Att} {s q r e:Sta} {ok:Bool} (hK:Known E.c A) (hg:Good E.c.length E.t.size s) (h:Sim A s q) (ho:(E.ins s).op=11)
  (hr:ok=true→Good E.c.length E.t.size r) (hre:ok=true→Sim A r e) (hrl:r.length=44)
  (hk:ok=true→(A (gt r 0)).y=(A (gt s 0+1)).y∧(∀ k∈(A (gt s 0+1)).B,gt r (22+k.toNat)=gt s (22+k.toNat))∧((E.ins r).op=12∨(E.ins r).op=13))
  (hf:(qJ s (E.ins s) r ok).2=true):Sim A (qJ s (E.ins s) r ok).1 (zEy q (E.ins s) e):=by
 have hpc:((kZ s:Nat):Int)=gt s 0:=by have:=hg.pc0;unfold kZ;omega
 obtain ⟨hn1,hru⟩:=zCD hK hg.zAw (show (E.c.getD (kZ s) jB).op≠13 by
                                            have:(E.ins s).op≠13:=by omega
                                            exact this)
 rw [hpc] at hru
 obtain ⟨a1,a2,a3,a4⟩:=hru.2.2.2.2.2.2.2.1 ho
 have hend:ok=true→A (gt r 0)=⟨(A (gt s 0)).G,(A (gt s 0)).d,(E.ins s).y,(A (gt s 0)).G⟩:=fun hok=>by
  obtain ⟨k1,k2,k3⟩:=hk hok
  rw [a1] at k1
  dsimp only at k1
  have g:=hr hok
  have hpr:((kZ r:Nat):Int)=gt r 0:=by have:=g.pc0;unfold kZ;omega
  rcases Nat.lt_or_ge (kZ r+1) E.c.length with hlt | hge
  ·have rr:=hK.rule _ hlt
   rw [hpr] at rr
   have h12:(E.c.getD (kZ r) jB).op=12:=by
    have:=rr.2.2.2.2.2.2.2.2.2.2.2.2
    have k3':(E.c.getD (kZ r) jB).op=12∨(E.c.getD (kZ r) jB).op=13:=k3
    omega
   have y1:=rr.2.2.2.2.2.2.2.2.1 h12
   have ey:gt r 0=(E.ins s).y-1:=by
    rw [k1] at y1
    show gt r 0=(E.c.getD (kZ s) jB).y-1
    omega
   rw [ey];exact a3
  ·exfalso
   have hp:=g.zAw
   have e1:kZ r=E.c.length-1:=by omega
   have st:=hK.stop
   rw [← e1,hpr] at st
   rw [st] at k1
   dsimp only at k1
   omega
 unfold qJ at hf ⊢
 unfold zEy
 by_cases x0:(E.ins s).x=0
 ·rw [if_pos x0] at hf ⊢
  rw [if_pos x0]
  refine qU.to ?_
  have h2:=hre hf
  unfold Sim at h2
  rw [hend hf] at h2
  have a2':A (E.ins s).y=A (gt s 0):=a2
  rw [a2']
  exact h2.less (fun k hk=>hk) (Int.le_refl _)
 rw [if_neg x0] at hf ⊢
 rw [if_neg x0]
 by_cases x1:(E.ins s).x=1
 ·rw [if_pos x1] at hf ⊢
  rw [if_pos x1]
  refine qU.to ?_
  have a2':A (E.ins s).y=A (gt s 0):=a2
  rw [a2']
  have h2:=hre hf
  have h3:=h2
  unfold Sim at h3
  rw [hend hf] at h3
  obtain ⟨k1,k2,k3⟩:=hk hf
  rw [a1] at k2
  have h1:qU (A (gt s 0)) s q:=h
  have gw:=zBg s r h1.ls hrl
  have gb:=zFK q e h1.lq h3.lq
  refine ⟨xI s r h1.ls hrl,zEx q e h1.lq h3.lq,fun i hi=>?_,fun k hkk=>?_,fun j hj=>?_⟩
  ·rw [gw,gb]
   by_cases hh:2≤i
   ·rw [if_pos (by omega),if_pos (by omega)];exact h3.low i hi
   ·rw [if_neg (by omega),if_neg (by omega)];exact h1.low i hi
  ·have hR:=hru.2.2.2.2.2.2.2.2.2.2.2.1 k hkk
   rw [gw,gb,if_pos (by omega),if_neg (by omega),h3.notes k hkk,k2 k hkk]
  ·rw [gw,gb,if_neg (by omega),if_neg (by omega)];exact h1.marks j hj
 ·rw [if_neg x1] at hf ⊢
  rw [if_neg x1]
  exact Sim.jump h a2
def zBk (p:Int):Sta:=0::p::(nowhere++(List.replicate 10 0++List.replicate 11 (-1)))
theorem zLU (p:Int):(zBk p).length=43:=by simp [zBk,nowhere]
theorem zNN {c:List Ins} {A:Int→Att} (hK:Known c A) (p:Int):Sim A (kH p) (zBk p):=by
 have e0:gt (kH p) 0=0:=rfl
 unfold Sim
 rw [e0,hK.start]
 refine ⟨zB3 p,zLU p,fun i hi=>?_,fun k hk=>by simp at hk,fun j hj=>by dsimp only at hj;omega⟩
 unfold gt zBk kH
 simp only [List.getD_eq_getElem?_getD]
 match i with
 | 0=>rfl
 | 1=>rfl
 | i+2 =>
  simp only [List.getElem?_cons_succ]
  rw [List.getElem?_append_left (by simp [nowhere];omega),List.getElem?_append_left (by simp [nowhere];omega)]
end Mt
