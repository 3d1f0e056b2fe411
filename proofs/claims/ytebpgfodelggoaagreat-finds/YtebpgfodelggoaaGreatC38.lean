import Derived.Test.YtebpgfodelggoaaGreatC37
import Derived.Test.YtebpgfodelggoaaGreatC17
import Derived.Test.YtebpgfodelggoaaGreatC36
set_option linter.unusedVariables false
set_option linter.unusedSimpArgs false
namespace Mt
structure qV (a:Att) (s q:Sta):Prop where
 ls:s.length=44
 lq:q.length=43
 low:∀ i,i<22→gt q i=gt s i
 notes:∀ k∈a.G,gt q (22+k.toNat)=gt s (22+k.toNat)
 marks:∀ j:Nat,(j:Int)<a.d→gt q (32+j)=gt s (32+j)
def Sim (A:Int→Att) (s q:Sta):Prop:=qV (A (gt s 0)) s q
theorem qV.zD3 {a:Att} {s q:Sta} (h:qV a s q) (i:Nat) (hi:i<22) (v:Int):qV a (s.set i v) (q.set i v):=by
 refine ⟨by rw [List.length_set];exact h.ls,by rw [List.length_set];exact h.lq,fun j hj=>?_,fun k hk=>?_,fun j hj=>?_⟩
 ·have h1:=h.ls;have h2:=h.lq
  rw [zDo,zDo]
  by_cases e:i=j
  ·rw [if_pos ⟨e,by omega⟩,if_pos ⟨e,by omega⟩]
  ·rw [if_neg (by omega),if_neg (by omega)];exact h.low j hj
 ·rw [zS _ _ _ _ (by omega),zS _ _ _ _ (by omega)];exact h.notes k hk
 ·rw [zS _ _ _ _ (by omega),zS _ _ _ _ (by omega)];exact h.marks j hj
theorem qV.note {a:Att} {s q:Sta} (h:qV a s q) (k:Int) (hk:k.toNat<10) (hG:∀ z∈a.G,0≤z∧z<10) (v:Int):qV ⟨k::a.G,a.d,a.y,a.B⟩ (s.set (22+k.toNat) v) (q.set (22+k.toNat) v):=by
 have h1:=h.ls;have h2:=h.lq
 refine ⟨by rw [List.length_set];exact h.ls,by rw [List.length_set];exact h.lq,fun j hj=>?_,fun z hz=>?_,fun j hj=>?_⟩
 ·rw [zS _ _ _ _ (by omega),zS _ _ _ _ (by omega)];exact h.low j hj
 ·rw [zDo,zDo]
  by_cases e:k.toNat=z.toNat
  ·rw [if_pos ⟨by omega,by omega⟩,if_pos ⟨by omega,by omega⟩]
  ·rw [if_neg (by omega),if_neg (by omega)]
   rcases List.mem_cons.1 hz with rfl | hz
   ·exact absurd rfl e
   ·exact h.notes z hz
 ·rw [zS _ _ _ _ (by omega),zS _ _ _ _ (by omega)];exact h.marks j hj
theorem qV.mark {a:Att} {s q:Sta} (h:qV a s q) (x:Int) (hx:x=a.d) (h0:0≤x) (h11:x<11) (hG:∀ z∈a.G,0≤z∧z<10) (v:Int):qV ⟨a.G,a.d+1,a.y,a.B⟩ (s.set (32+x.toNat) v) (q.set (32+x.toNat) v):=by
 have h1:=h.ls;have h2:=h.lq
 refine ⟨by rw [List.length_set];exact h.ls,by rw [List.length_set];exact h.lq,fun j hj=>?_,fun z hz=>?_,fun j hj=>?_⟩
 ·rw [zS _ _ _ _ (by omega),zS _ _ _ _ (by omega)];exact h.low j hj
 ·have:=hG z hz
  rw [zS _ _ _ _ (by omega),zS _ _ _ _ (by omega)];exact h.notes z hz
 ·rw [zDo,zDo]
  by_cases e:x.toNat=j
  ·rw [if_pos ⟨by omega,by omega⟩,if_pos ⟨by omega,by omega⟩]
  ·rw [if_neg (by omega),if_neg (by omega)];exact h.marks j (by dsimp only at hj;omega)
theorem qV.less {a b:Att} {s q:Sta} (h:qV a s q) (hG:∀ k∈b.G,k∈a.G) (hd:b.d≤a.d):qV b s q :=
 ⟨h.ls,h.lq,h.low,fun k hk=>h.notes k (hG k hk),fun j hj=>h.marks j (by omega)⟩
theorem qV.to {A:Int→Att} {s q:Sta} {v:Int} (h:qV (A v) s q):Sim A (s.set 0 v) (q.set 0 v):=by
 have e:gt (s.set 0 v) 0=v:=qA _ _ _ (by have:=h.ls;omega)
 show qV (A (gt (s.set 0 v) 0)) _ _
 rw [e];exact h.zD3 0 (by omega) v
theorem Sim.jump {A:Int→Att} {s q:Sta} {v:Int} (h:Sim A s q) (e:A v=A (gt s 0)):Sim A (s.set 0 v) (q.set 0 v):=by
 refine qV.to ?_
 rw [e];exact h
theorem Sim.kY {A:Int→Att} {s q:Sta} (h:Sim A s q):kY q=kY s:=by unfold Mt.kY;rw [qV.low h 0 (by omega)]
theorem Sim.posOf {A:Int→Att} {s q:Sta} (h:Sim A s q):posOf q=posOf s:=by unfold Mt.posOf;rw [qV.low h 1 (by omega)]
theorem zNq {a:Att} (t:ByteArray) {s q:Sta} (h:qV a s q) (k:Int) (h0:0≤k) (h9:k<10):(zBT t q k).2=(zBT t s k).2∧((zBT t s k).2=true→qV a (zBT t s k).1 (zBT t q k).1∧gt (zBT t s k).1 0=gt s 0+1):=by
 have e1:=h.low (2+(2*k).toNat) (by omega)
 have e2:=h.low (2+(2*k+1).toNat) (by omega)
 have e3:=h.low 1 (by omega)
 have e4:=h.low 0 (by omega)
 unfold zBT
 rw [e1,e2,e3,e4]
 split
 ·exact ⟨rfl,fun e=>by cases e⟩
 split
 ·exact ⟨rfl,fun e=>by cases e⟩
 ·refine ⟨rfl,fun _=>⟨(h.zD3 1 (by omega) _).zD3 0 (by omega) _,?_⟩⟩
  have:=h.ls
  exact qA _ _ _ (by rw [List.length_set];omega)
theorem zCy {c:List Ins} {A:Int→Att} (hK:Known c A) {q:Nat} (hq:q<c.length) (h13:(c.getD q jA).op≠13):q+1<c.length∧Rule A q (c.getD q jA):=by
 have h1:q+1<c.length:=by
  rcases Nat.lt_or_ge (q+1) c.length with h | h
  ·exact h
  ·exfalso
   have e:q=c.length-1:=by omega
   rw [e] at h13;exact h13 hK.last
 exact ⟨h1,hK.rule q h1⟩
theorem zPf {c:List Ins} {A:Int→Att} {t:ByteArray} {s q:Sta} (hK:Known c A) (hg:Good c.length t.size s) (h:Sim A s q) (h2:(c.getD (kY s) jA).op≠2) (h11:(c.getD (kY s) jA).op≠11) (h12:(c.getD (kY s) jA).op≠12) (h13:(c.getD (kY s) jA).op≠13) :
  (qU t q (c.getD (kY s) jA)).2=(qU t s (c.getD (kY s) jA)).2∧((qU t s (c.getD (kY s) jA)).2=true→Sim A (qU t s (c.getD (kY s) jA)).1 (qU t q (c.getD (kY s) jA)).1):=by
 obtain ⟨hn,hr⟩:=zCy hK hg.zAG h13
 have hi:=hK.ok (kY s) hg.zAG
 have hpc:((kY s:Nat):Int)=gt s 0:=by have:=hg.pc0;unfold kY;omega
 rw [hpc] at hr
 generalize c.getD (kY s) jA=x at *
 obtain ⟨r1,r2,r3,r4,r5,r6,r7,r11,r12,rB,rd,rG,ro⟩:=hr
 have e0:=qV.low h 0 (by omega)
 have e1:=qV.low h 1 (by omega)
 unfold qU
 by_cases o1:x.op=1
 ·rw [if_pos o1,if_pos o1];dsimp only;rw [e0,e1]
  refine ⟨rfl,fun _=>Sim.jump (s:=s.set 1 _) ?_ ?_⟩
  ·have:Sim A (s.set 1 (gt s 1+1)) (q.set 1 (gt s 1+1)):=by
    show qV _ _ _
    rw [zS _ _ _ _ (by omega)];exact qV.zD3 h 1 (by omega) _
   exact this
  ·rw [zS _ _ _ _ (by omega)];exact r1 (by omega)
 rw [if_neg o1,if_neg o1]
 by_cases o3:x.op=3
 ·rw [if_pos o3,if_pos o3];exact ⟨rfl,fun _=>Sim.jump h (r3 o3)⟩
 rw [if_neg o3,if_neg o3]
 by_cases o4:x.op=4
 ·rw [if_pos o4,if_pos o4];dsimp only;rw [e0,e1]
  obtain ⟨a1,a2,a3⟩:=r4 o4
  have i4:=hi.2.2.1 o4
  refine ⟨rfl,fun _=>qV.to ?_⟩
  rw [a2];exact qV.mark h x.x a1 (by omega) a3 rG _
 rw [if_neg o4,if_neg o4]
 by_cases o5:x.op=5
 ·rw [if_pos o5,if_pos o5];dsimp only
  obtain ⟨a1,a2,a3,a4⟩:=r5 o5
  rw [e1,qV.marks h x.y.toNat (by omega)]
  refine ⟨rfl,fun _=>qV.to ?_⟩
  rw [a1];exact qV.less h (fun k hk=>hk) (by dsimp only;omega)
 rw [if_neg o5,if_neg o5]
 by_cases o6:x.op=6
 ·rw [if_pos o6,if_pos o6];dsimp only;rw [e0,e1]
  obtain ⟨a1,a2⟩:=r6 o6
  have i6:=hi.2.2.2.2.1 (.inl o6)
  refine ⟨rfl,fun _=>qV.to ?_⟩
  rw [a1];exact qV.note h x.x (by omega) rG _
 rw [if_neg o6,if_neg o6]
 by_cases o7:x.op=7
 ·rw [if_pos o7,if_pos o7];dsimp only;rw [e0,e1]
  obtain ⟨g,a1,a2⟩:=r7 o7
  have i6:=hi.2.2.2.2.1 (.inr (.inl o7))
  have en:=qV.notes h x.x (by rw [a1];exact List.mem_cons_self ..)
  rw [en]
  refine ⟨rfl,fun _=>qV.to ?_⟩
  rw [a2]
  exact qV.less ((qV.zD3 h (2+(2*x.x).toNat) (by omega) _).zD3 (2+(2*x.x+1).toNat) (by omega) _) (fun k hk=>by rw [a1];exact List.mem_cons_of_mem _ hk) (by dsimp only;omega)
 rw [if_neg o7,if_neg o7]
 by_cases o8:x.op=8
 ·rw [if_pos o8,if_pos o8]
  have i6:=hi.2.2.2.2.1 (.inr (.inr o8))
  have hb:=zNq t (show qV (A (gt s 0)) s q from h) x.x (by omega) (by omega)
  refine ⟨hb.1,fun hk=>?_⟩
  obtain ⟨b1,b2⟩:=hb.2 hk
  show qV (A (gt _ 0)) _ _
  rw [b2,r1 (by omega)];exact b1
 rw [if_neg o8,if_neg o8]
 by_cases o9:x.op=9
 ·rw [if_pos o9,if_pos o9];dsimp only;rw [e0,e1];exact ⟨rfl,fun _=>Sim.jump h (r1 (by omega))⟩
 rw [if_neg o9,if_neg o9]
 by_cases o10:x.op=10
 ·rw [if_pos o10,if_pos o10];dsimp only;rw [e0,e1];exact ⟨rfl,fun _=>Sim.jump h (r1 (by omega))⟩
 ·exfalso;omega
theorem zQO {E:Env} {A:Int→Att} {s q:Sta} (hK:Known E.c A) (har:∀ p,p<E.c.length→E.ar.getD p 0=kU E.c p) (hg:Good E.c.length E.t.size s) (h:Sim A s q):E.key q=E.key s∧E.isIn q=E.isIn s:=by
 unfold Env.key Env.isIn
 rw [h.kY,h.posOf]
 refine ⟨?_,rfl⟩
 unfold keyOf
 congr 1
 unfold lev zU
 refine List.countP_congr (fun j hj=>?_)
 rw [List.mem_range] at hj
 have hpc:((kY s:Nat):Int)=gt s 0:=by have:=hg.pc0;unfold kY;omega
 have hd:=hK.loops (kY s) hg.zAG
 rw [hpc] at hd
 rw [har _ hg.zAG] at hj
 rw [qV.low h 1 (by omega),qV.marks h j (by omega)]
def xP (E:Env):Nat→List Sta→List Bool→Int→Res
 | n,[],kn,room=>⟨[],false,n,kn,room,false⟩
 | n,s::st,kn,room=>if (look E n s kn room).ok||(look E n s kn room).over then look E n s kn room else xP E (look E n s kn room).n st (look E n s kn room).kn (look E n s kn room).room
theorem zD4 (E:Env) (s:Sta) (st:List Sta) (kn:List Bool) (room:Int):xP E 0 (s::st) kn room=⟨s,false,0,kn,room,true⟩:=rfl
theorem zLA (E:Env) (n:Nat) (s:Sta) (st:List Sta) (kn:List Bool) (room:Int) (h:E.dead s kn=true):xP E (n+1) (s::st) kn room=xP E n st (E.kn' s kn room) (E.room' s kn room):=by
 have hl:=zAt E n s kn room
 rw [if_pos h] at hl
 rw [xP,hl];rfl
theorem zNr (E:Env) (n:Nat) (s:Sta) (st:List Sta) (kn:List Bool) (room:Int) (h:E.dead s kn=false) (ho:(E.ins s).op=13∨(E.ins s).op=12):xP E (n+1) (s::st) kn room=⟨s,true,n,E.kn' s kn room,E.room' s kn room,false⟩:=by
 have hl:=zAt E n s kn room
 rw [if_neg (by rw [h];exact Bool.false_ne_true),if_pos ho] at hl
 rw [xP,hl];rfl
theorem zJE (E:Env) (n:Nat) (s:Sta) (st:List Sta) (kn:List Bool) (room:Int) (h:E.dead s kn=false) (ho:(E.ins s).op=2):xP E (n+1) (s::st) kn room=xP E n (s.set 0 (E.ins s).x::s.set 0 (E.ins s).y::st) (E.kn' s kn room) (E.room' s kn room):=by
 have hl:=zAt E n s kn room
 rw [if_neg (by rw [h];exact Bool.false_ne_true),if_neg (by omega),if_pos ho] at hl
 rw [xP,hl,xP]
 dsimp only
 generalize look E n (s.set 0 (E.ins s).x) (E.kn' s kn room) (E.room' s kn room)=r
 by_cases hr:(r.ok||r.over)=true
 ·rw [if_pos hr,if_pos hr,if_pos hr]
 ·rw [if_neg hr,if_neg hr,xP]
theorem zKq (E:Env) (n:Nat) (s:Sta) (st:List Sta) (kn:List Bool) (room:Int) (h:E.dead s kn=false) (h2:(E.ins s).op≠2) (h11:(E.ins s).op≠11) (h12:(E.ins s).op≠12) (h13:(E.ins s).op≠13) :
  xP E (n+1) (s::st) kn room=xP E n ((if (qU E.t s (E.ins s)).2 then [(qU E.t s (E.ins s)).1] else [])++st) (E.kn' s kn room) (E.room' s kn room):=by
 have hl:=zAt E n s kn room
 rw [if_neg (by rw [h];exact Bool.false_ne_true),if_neg (by omega),if_neg h2,if_neg h11] at hl
 rw [xP,hl]
 by_cases hr:(qU E.t s (E.ins s)).2=true
 ·rw [if_pos hr,if_pos hr];rfl
 ·rw [if_neg hr,if_neg hr];rfl
theorem zNs (E:Env) (n:Nat) (s:Sta) (st:List Sta) (kn:List Bool) (room:Int) (h:E.dead s kn=false) (ho:(E.ins s).op=11):xP E (n+1) (s::st) kn room =
  if (look E n (s.set 0 (gt s 0+1)) (E.kn' s kn room) (E.room' s kn room)).over then ⟨s,false,(look E n (s.set 0 (gt s 0+1)) (E.kn' s kn room) (E.room' s kn room)).n,(look E n (s.set 0 (gt s 0+1)) (E.kn' s kn room) (E.room' s kn room)).kn,(look E n (s.set 0 (gt s 0+1)) (E.kn' s kn room) (E.room' s kn room)).room,true⟩
  else xP E (look E n (s.set 0 (gt s 0+1)) (E.kn' s kn room) (E.room' s kn room)).n ((if (qP s (E.ins s) (look E n (s.set 0 (gt s 0+1)) (E.kn' s kn room) (E.room' s kn room)).st (look E n (s.set 0 (gt s 0+1)) (E.kn' s kn room) (E.room' s kn room)).ok).2 then [(qP s (E.ins s) (look E n (s.set 0 (gt s 0+1)) (E.kn' s kn room) (E.room' s kn room)).st (look E n (s.set 0 (gt s 0+1)) (E.kn' s kn room) (E.room' s kn room)).ok).1] else [])++st)
   (look E n (s.set 0 (gt s 0+1)) (E.kn' s kn room) (E.room' s kn room)).kn (look E n (s.set 0 (gt s 0+1)) (E.kn' s kn room) (E.room' s kn room)).room:=by
 have hl:=zAt E n s kn room
 rw [if_neg (by rw [h];exact Bool.false_ne_true),if_neg (by omega),if_neg (by omega),if_pos ho] at hl
 rw [xP,hl]
 clear hl
 dsimp only
 generalize look E n (s.set 0 (gt s 0+1)) (E.kn' s kn room) (E.room' s kn room)=r
 by_cases hr:r.over=true
 ·rw [if_pos hr,if_pos hr];rfl
 ·rw [if_neg hr,if_neg hr]
  by_cases hk:(qP s (E.ins s) r.st r.ok).2=true
  ·rw [if_pos hk,if_pos hk];rfl
  ·rw [if_neg hk,if_neg hk];rfl
theorem zNt (E:Env) (n:Nat) (s:Sta) (kn:List Bool) (room:Int):(xP E n [s] kn room).ok=(look E n s kn room).ok∧(xP E n [s] kn room).over=(look E n s kn room).over∧(xP E n [s] kn room).n=(look E n s kn room).n∧(xP E n [s] kn room).kn=(look E n s kn room).kn∧(xP E n [s] kn room).room=(look E n s kn room).room∧((look E n s kn room).ok=true→(xP E n [s] kn room).st=(look E n s kn room).st):=by
 rw [xP]
 generalize look E n s kn room=r
 split
 ·exact ⟨rfl,rfl,rfl,rfl,rfl,fun _=>rfl⟩
 ·rename_i hr
  simp only [Bool.or_eq_true,not_or,Bool.not_eq_true] at hr
  refine ⟨hr.1.symm,hr.2.symm,rfl,rfl,rfl,fun e=>?_⟩
  rw [hr.1] at e;cases e
theorem zGv (E:Env) (A:Int→Att) (hK:Known E.c A):∀ (N n:Nat) (s:Sta) (kn:List Bool) (room:Int),n≤N→Good E.c.length E.t.size s→0≤room∧room≤5000→(look E n s kn room).ok=true →
  (A (gt (look E n s kn room).st 0)).y=(A (gt s 0)).y∧(∀ k∈(A (gt s 0)).B,gt (look E n s kn room).st (22+k.toNat)=gt s (22+k.toNat))∧((E.ins (look E n s kn room).st).op=12∨(E.ins (look E n s kn room).st).op=13)
 | N,0,s,kn,room,_,h,hr,ho=>by rw [zCn] at ho;cases ho
 | 0,n+1,s,kn,room,hn,_,_,_=>by omega
 | N+1,n+1,s,kn,room,hn,h,hrm,ho=>by
  have ih:∀ (n:Nat) (s:Sta) (kn:List Bool) (room:Int),n≤N→Good E.c.length E.t.size s→0≤room∧room≤5000→(look E n s kn room).ok=true →
   (A (gt (look E n s kn room).st 0)).y=(A (gt s 0)).y∧(∀ k∈(A (gt s 0)).B,gt (look E n s kn room).st (22+k.toNat)=gt s (22+k.toNat))∧((E.ins (look E n s kn room).st).op=12∨(E.ins (look E n s kn room).st).op=13):=zGv E A hK N
  have on:∀ (n:Nat) (u:Sta) (kn:List Bool) (room:Int),n≤N→Good E.c.length E.t.size u→0≤room∧room≤5000→(look E n u kn room).ok=true→(A (gt u 0)).y=(A (gt s 0)).y→(A (gt u 0)).B=(A (gt s 0)).B→(∀ k∈(A (gt s 0)).B,gt u (22+k.toNat)=gt s (22+k.toNat)) →
   (A (gt (look E n u kn room).st 0)).y=(A (gt s 0)).y∧(∀ k∈(A (gt s 0)).B,gt (look E n u kn room).st (22+k.toNat)=gt s (22+k.toNat))∧((E.ins (look E n u kn room).st).op=12∨(E.ins (look E n u kn room).st).op=13):=fun n u kn room h1 h2 h3 h4 h5 h6 h7=>by
   obtain ⟨a,b,c⟩:=ih n u kn room h1 h2 h3 h4
   exact ⟨a.trans h5,fun k hk=>(b k (by rw [h6];exact hk)).trans (h7 k hk),c⟩
  rw [zAt] at ho ⊢
  have hR:=E.zBU s kn room hrm
  have hl:=h.len
  have hpc:((kY s:Nat):Int)=gt s 0:=by have:=h.pc0;unfold kY;omega
  by_cases hd:E.dead s kn=true
  ·rw [if_pos hd] at ho;cases ho
  rw [if_neg hd] at ho ⊢
  by_cases h13:(E.ins s).op=13∨(E.ins s).op=12
  ·rw [if_pos h13];exact ⟨rfl,fun _ _=>rfl,h13.symm⟩
  rw [if_neg h13] at ho ⊢
  have zRN:(E.c.getD (kY s) jA).op≠13:=fun e=>h13 (.inl e)
  obtain ⟨hn1,hru⟩:=zCy hK h.zAG zRN
  have hi:=hK.ok (kY s) h.zAG
  rw [hpc] at hru
  have hp0:=h.pc0
  have p0:∀ v,gt (s.set 0 v) 0=v:=fun v=>qA _ _ _ (by omega)
  have pk:∀ (v:Int) (k:Int),gt (s.set 0 v) (22+k.toNat)=gt s (22+k.toNat):=fun v k=>zS _ _ _ _ (by omega)
  by_cases o2:(E.ins s).op=2
  ·rw [if_pos o2] at ho ⊢
   have i2:=hi.1 o2
   obtain ⟨a1,a2⟩:=hru.2.1 o2
   have g1:=vP E hK.ok N n (s.set 0 (E.ins s).x) (E.kn' s kn room) (E.room' s kn room) (by omega) (h.zAl _ i2.1 i2.2.1) hR
   have n1:=zCm E n (s.set 0 (E.ins s).x) (E.kn' s kn room) (E.room' s kn room)
   have k1:=on n (s.set 0 (E.ins s).x) (E.kn' s kn room) (E.room' s kn room) (by omega) (h.zAl _ i2.1 i2.2.1) hR
   dsimp only at ho ⊢
   generalize look E n (s.set 0 (E.ins s).x) (E.kn' s kn room) (E.room' s kn room)=r at *
   by_cases hro:(r.ok||r.over)=true
   ·rw [if_pos hro] at ho ⊢
    exact k1 ho (by rw [p0];exact congrArg Att.y a1) (by rw [p0];exact congrArg Att.B a1) (fun k hk=>pk _ k)
   ·rw [if_neg hro] at ho ⊢
    exact on r.n (s.set 0 (E.ins s).y) r.kn r.room (by omega) (h.zAl _ i2.2.2.1 i2.2.2.2) g1.2.2.1 ho (by rw [p0];exact congrArg Att.y a2) (by rw [p0];exact congrArg Att.B a2) (fun k hk=>pk _ k)
  rw [if_neg o2] at ho ⊢
  by_cases o11:(E.ins s).op=11
  ·rw [if_pos o11] at ho ⊢
   have i11:=hi.2.2.2.2.2.1 o11
   obtain ⟨a1,a2,a3,a4⟩:=hru.2.2.2.2.2.2.2.1 o11
   have gs:=h.zAl (gt s 0+1) (by omega) (by omega)
   have g1:=vP E hK.ok N n (s.set 0 (gt s 0+1)) (E.kn' s kn room) (E.room' s kn room) (by omega) gs hR
   have n1:=zCm E n (s.set 0 (gt s 0+1)) (E.kn' s kn room) (E.room' s kn room)
   have k1:=ih n (s.set 0 (gt s 0+1)) (E.kn' s kn room) (E.room' s kn room) (by omega) gs hR
   rw [p0,a1] at k1
   dsimp only at ho k1 ⊢
   generalize look E n (s.set 0 (gt s 0+1)) (E.kn' s kn room) (E.room' s kn room)=r at *
   by_cases hov:r.over=true
   ·rw [if_pos hov] at ho;cases ho
   rw [if_neg hov] at ho ⊢
   by_cases hk:(qP s (E.ins s) r.st r.ok).2=true
   ·rw [if_pos hk] at ho ⊢
    have ga:=zBb h g1.1 (E.ins s) i11.1 i11.2.1 hk
    have pa:gt (qP s (E.ins s) r.st r.ok).1 0=(E.ins s).y∧∀ k∈(A (gt s 0)).G,gt (qP s (E.ins s) r.st r.ok).1 (22+k.toNat)=gt s (22+k.toNat):=by
     unfold qP at hk ⊢
     by_cases x0:(E.ins s).x=0
     ·rw [if_pos x0] at hk ⊢
      refine ⟨qA _ _ _ (by rw [g1.2.2.2.1];omega),fun k hkk=>?_⟩
      dsimp only
      rw [zS _ _ _ _ (by omega),(k1 hk).2.1 k hkk,pk]
     rw [if_neg x0] at hk ⊢
     by_cases x1:(E.ins s).x=1
     ·rw [if_pos x1] at hk ⊢
      refine ⟨qA _ _ _ (by rw [xE s r.st h.len g1.2.2.2.1];omega),fun k hkk=>?_⟩
      dsimp only
      rw [zS _ _ _ _ (by omega),zBz s r.st h.len g1.2.2.2.1,if_neg (by omega)]
     ·rw [if_neg x1];exact ⟨p0 _,fun k hkk=>pk _ k⟩
    exact on r.n _ r.kn r.room (by omega) ga g1.2.2.1 ho (by rw [pa.1];exact congrArg Att.y a2) (by rw [pa.1];exact congrArg Att.B a2) (fun k hkk=>pa.2 k (hru.2.2.2.2.2.2.2.2.2.1 k hkk))
   ·rw [if_neg hk] at ho;cases ho
  rw [if_neg o11] at ho ⊢
  by_cases hk:(qU E.t s (E.ins s)).2=true
  ·rw [if_pos hk] at ho ⊢
   have gg:=zCo hK.ok h (t:=E.t) o2 o11 zRN hk
   have pa:(A (gt (qU E.t s (E.ins s)).1 0)).y=(A (gt s 0)).y∧(A (gt (qU E.t s (E.ins s)).1 0)).B=(A (gt s 0)).B∧∀ k∈(A (gt s 0)).B,gt (qU E.t s (E.ins s)).1 (22+k.toNat)=gt s (22+k.toNat):=by
    have hxe:E.ins s=E.c.getD (kY s) jA:=rfl
    rw [← hxe] at hru hi
    generalize E.ins s=x at *
    obtain ⟨r1,r2,r3,r4,r5,r6,r7,r11,r12,rB,rd,rG,ro⟩:=hru
    have q0:∀ (i:Nat) (u v:Int),gt ((s.set i u).set 0 v) 0=v:=fun i u v=>qA _ _ _ (by rw [List.length_set];omega)
    unfold qU at hk ⊢
    by_cases o1:x.op=1
    ·rw [if_pos o1];dsimp only
     rw [q0,r1 (by omega)]
     exact ⟨rfl,rfl,fun k hkk=>by rw [zS _ _ _ _ (by omega),zS _ _ _ _ (by omega)]⟩
    rw [if_neg o1] at hk ⊢
    by_cases o3:x.op=3
    ·rw [if_pos o3];dsimp only
     rw [p0,r3 o3];exact ⟨rfl,rfl,fun k hkk=>pk _ k⟩
    rw [if_neg o3] at hk ⊢
    by_cases o4:x.op=4
    ·rw [if_pos o4];dsimp only
     rw [q0,(r4 o4).2.1]
     exact ⟨rfl,rfl,fun k hkk=>by have:=rG k (rB k hkk);rw [zS _ _ _ _ (by omega),zS _ _ _ _ (by omega)]⟩
    rw [if_neg o4] at hk ⊢
    by_cases o5:x.op=5
    ·rw [if_pos o5];dsimp only
     rw [p0,(r5 o5).1];exact ⟨rfl,rfl,fun k hkk=>pk _ k⟩
    rw [if_neg o5] at hk ⊢
    by_cases o6:x.op=6
    ·rw [if_pos o6];dsimp only
     have i6:=hi.2.2.2.2.1 (.inl o6)
     rw [q0,(r6 o6).1]
     refine ⟨rfl,rfl,fun k hkk=>?_⟩
     have g1:=rG k (rB k hkk)
     have g2:x.x≠k:=fun e=>(r6 o6).2 (by rw [e];exact rB k hkk)
     rw [zS _ _ _ _ (by omega),zS _ _ _ _ (by omega)]
    rw [if_neg o6] at hk ⊢
    by_cases o7:x.op=7
    ·rw [if_pos o7];dsimp only
     have i6:=hi.2.2.2.2.1 (.inr (.inl o7))
     obtain ⟨g,b1,b2⟩:=r7 o7
     have:gt (((s.set (2+(2*x.x).toNat) (gt s (22+x.x.toNat))).set (2+(2*x.x+1).toNat) (gt s 1)).set 0 (gt s 0+1)) 0=gt s 0+1:=qA _ _ _ (by rw [List.length_set,List.length_set];omega)
     rw [this,b2]
     exact ⟨rfl,rfl,fun k hkk=>by rw [zS _ _ _ _ (by omega),zS _ _ _ _ (by omega),zS _ _ _ _ (by omega)]⟩
    rw [if_neg o7] at hk ⊢
    by_cases o8:x.op=8
    ·rw [if_pos o8] at hk ⊢
     unfold zBT at hk ⊢
     split at hk
     ·cases hk
     split at hk
     ·cases hk
     rename_i u1 u2
     rw [if_neg u1,if_neg u2];dsimp only
     rw [q0,r1 (by omega)]
     exact ⟨rfl,rfl,fun k hkk=>by rw [zS _ _ _ _ (by omega),zS _ _ _ _ (by omega)]⟩
    rw [if_neg o8] at hk ⊢
    by_cases o9:x.op=9
    ·rw [if_pos o9];dsimp only
     rw [p0,r1 (by omega)];exact ⟨rfl,rfl,fun k hkk=>pk _ k⟩
    rw [if_neg o9] at hk ⊢
    by_cases o10:x.op=10
    ·rw [if_pos o10];dsimp only
     rw [p0,r1 (by omega)];exact ⟨rfl,rfl,fun k hkk=>pk _ k⟩
    ·exfalso;omega
   exact on n _ _ _ (by omega) gg hR ho pa.1 pa.2.1 pa.2.2
  ·rw [if_neg hk] at ho;cases ho
def zCP (q e:Sta):Sta:=q.take 2++((e.drop 2).take 30++q.drop 32)
theorem zEn (q e:Sta) (hq:q.length=43) (he:e.length=43):(zCP q e).length=43:=by simp [zCP,hq,he]
theorem zFB (s r:Sta) (hs:s.length=43) (hr:r.length=43) (j:Nat):gt (zCP s r) j=if 2≤j∧j<32 then gt r j else gt s j:=by
 unfold zCP gt
 simp only [List.getD_eq_getElem?_getD]
 by_cases h1:j<2
 ·rw [if_neg (by omega),List.getElem?_append_left (by simp;omega),List.getElem?_take_of_lt h1]
 ·rw [List.getElem?_append_right (by simp;omega)]
  have l1:(s.take 2).length=2:=by simp [hs]
  have l2:((r.drop 2).take 30).length=30:=by simp [hr]
  by_cases h2:j<32
  ·rw [if_pos (by omega),List.getElem?_append_left (by omega),l1,List.getElem?_take_of_lt (by omega),List.getElem?_drop,show 2+(j-2)=j by omega]
  ·rw [if_neg (by omega),List.getElem?_append_right (by omega),l1,l2,List.getElem?_drop,show 32+(j-2-30)=j by omega]
def zEo (q:Sta) (x:Ins) (e:Sta):Sta:=if x.x=0 then e.set 0 x.y else if x.x=1 then (zCP q e).set 0 x.y else q.set 0 x.y
theorem zNu {E:Env} {A:Int→Att} {s q r e:Sta} {ok:Bool} (hK:Known E.c A) (hg:Good E.c.length E.t.size s) (h:Sim A s q) (ho:(E.ins s).op=11)
  (hr:ok=true→Good E.c.length E.t.size r) (hre:ok=true→Sim A r e) (hrl:r.length=44)
  (hk:ok=true→(A (gt r 0)).y=(A (gt s 0+1)).y∧(∀ k∈(A (gt s 0+1)).B,gt r (22+k.toNat)=gt s (22+k.toNat))∧((E.ins r).op=12∨(E.ins r).op=13))
  (hf:(qP s (E.ins s) r ok).2=true):Sim A (qP s (E.ins s) r ok).1 (zEo q (E.ins s) e):=by
 have hpc:((kY s:Nat):Int)=gt s 0:=by have:=hg.pc0;unfold kY;omega
 obtain ⟨hn1,hru⟩:=zCy hK hg.zAG (show (E.c.getD (kY s) jA).op≠13 by
                                            have:(E.ins s).op≠13:=by omega
                                            exact this)
 rw [hpc] at hru
 obtain ⟨a1,a2,a3,a4⟩:=hru.2.2.2.2.2.2.2.1 ho
 have hend:ok=true→A (gt r 0)=⟨(A (gt s 0)).G,(A (gt s 0)).d,(E.ins s).y,(A (gt s 0)).G⟩:=fun hok=>by
  obtain ⟨k1,k2,k3⟩:=hk hok
  rw [a1] at k1
  dsimp only at k1
  have g:=hr hok
  have hpr:((kY r:Nat):Int)=gt r 0:=by have:=g.pc0;unfold kY;omega
  rcases Nat.lt_or_ge (kY r+1) E.c.length with hlt | hge
  ·have rr:=hK.rule _ hlt
   rw [hpr] at rr
   have h12:(E.c.getD (kY r) jA).op=12:=by
    have:=rr.2.2.2.2.2.2.2.2.2.2.2.2
    have k3':(E.c.getD (kY r) jA).op=12∨(E.c.getD (kY r) jA).op=13:=k3
    omega
   have y1:=rr.2.2.2.2.2.2.2.2.1 h12
   have ey:gt r 0=(E.ins s).y-1:=by
    rw [k1] at y1
    show gt r 0=(E.c.getD (kY s) jA).y-1
    omega
   rw [ey];exact a3
  ·exfalso
   have hp:=g.zAG
   have e1:kY r=E.c.length-1:=by omega
   have st:=hK.stop
   rw [← e1,hpr] at st
   rw [st] at k1
   dsimp only at k1
   omega
 unfold qP at hf ⊢
 unfold zEo
 by_cases x0:(E.ins s).x=0
 ·rw [if_pos x0] at hf ⊢
  rw [if_pos x0]
  refine qV.to ?_
  have h2:=hre hf
  unfold Sim at h2
  rw [hend hf] at h2
  have a2':A (E.ins s).y=A (gt s 0):=a2
  rw [a2']
  exact h2.less (fun k hk=>hk) (Int.le_refl _)
 rw [if_neg x0] at hf ⊢
 rw [if_neg x0]
 by_cases x1:(E.ins s).x=1
 ·rw [if_pos x1] at hf ⊢
  rw [if_pos x1]
  refine qV.to ?_
  have a2':A (E.ins s).y=A (gt s 0):=a2
  rw [a2']
  have h2:=hre hf
  have h3:=h2
  unfold Sim at h3
  rw [hend hf] at h3
  obtain ⟨k1,k2,k3⟩:=hk hf
  rw [a1] at k2
  have h1:qV (A (gt s 0)) s q:=h
  have gw:=zBz s r h1.ls hrl
  have gb:=zFB q e h1.lq h3.lq
  refine ⟨xE s r h1.ls hrl,zEn q e h1.lq h3.lq,fun i hi=>?_,fun k hkk=>?_,fun j hj=>?_⟩
  ·rw [gw,gb]
   by_cases hh:2≤i
   ·rw [if_pos (by omega),if_pos (by omega)];exact h3.low i hi
   ·rw [if_neg (by omega),if_neg (by omega)];exact h1.low i hi
  ·have hR:=hru.2.2.2.2.2.2.2.2.2.2.2.1 k hkk
   rw [gw,gb,if_pos (by omega),if_neg (by omega),h3.notes k hkk,k2 k hkk]
  ·rw [gw,gb,if_neg (by omega),if_neg (by omega)];exact h1.marks j hj
 ·rw [if_neg x1] at hf ⊢
  rw [if_neg x1]
  exact Sim.jump h a2
def zBg (p:Int):Sta:=0::p::(nowhere++(List.replicate 10 0++List.replicate 11 (-1)))
theorem zLB (p:Int):(zBg p).length=43:=by simp [zBg,nowhere]
theorem zNv {c:List Ins} {A:Int→Att} (hK:Known c A) (p:Int):Sim A (kJ p) (zBg p):=by
 have e0:gt (kJ p) 0=0:=rfl
 unfold Sim
 rw [e0,hK.start]
 refine ⟨zBY p,zLB p,fun i hi=>?_,fun k hk=>by simp at hk,fun j hj=>by dsimp only at hj;omega⟩
 unfold gt zBg kJ
 simp only [List.getD_eq_getElem?_getD]
 match i with
 | 0=>rfl
 | 1=>rfl
 | i+2 =>
  simp only [List.getElem?_cons_succ]
  rw [List.getElem?_append_left (by simp [nowhere];omega),List.getElem?_append_left (by simp [nowhere];omega)]
end Mt
namespace Go.Proofs.YtebpgfodelggoaaGreat
open Go.RowKit
def stC (q:List Int):List Value:=(List.range 43).map fun i=>Value.int .i64 (Mt.gt q i)
def stA (q:List Int):Array Value:=(stC q).toArray
theorem zB6 (q:List Int):(stC q).length=43:=by simp [stC]
theorem zQ (q:List Int):(stA q).size=43:=by simp [stA,stC]
theorem qF (q:List Int) (j:Nat) (hj:j<43):(stA q)[j]?=some (.int .i64 (Mt.gt q j)):=by
 simp [stA,stC,hj]
theorem zR5 (q:List Int):(stA q).toList=stC q:=rfl
theorem zAM (q:List Int):(stA q).all (·.oneCell')=true:=by
 rw [Array.all_eq_true]
 intro i hi
 simp [stA,stC,Value.oneCell']
theorem zJF (q:List Int):∀ u∈stC q,u.oneCell'=true:=by
 intro u hu
 simp only [stC,List.mem_map] at hu
 obtain ⟨i,_,rfl⟩:=hu
 rfl
theorem zBh (q:List Int) (hq:q.length=43) (j:Nat) (v:Int):(stA q).setIfInBounds j (.int .i64 v)=stA (q.set j v):=by
 apply Array.ext
 ·simp [stA,stC]
 ·intro i h1 h2
  have hi:i<43:=by simpa [stA,stC] using h2
  rw [Array.getElem_setIfInBounds (by simpa [stA,stC] using hi)]
  simp only [stA,stC,List.getElem_toArray,List.getElem_map,List.getElem_range]
  rw [Mt.zDo]
  by_cases e:j=i
  ·rw [if_pos e,if_pos ⟨e,by omega⟩]
  ·rw [if_neg e,if_neg (by omega)]
def zPg (w:World) (v:Value) (b:List Int):Prop:=w.ownsRow 0 3 1 v b.length (b.map (Value.int .i64))
def zNw (w:World) (v:Value) (b:List Bool):Prop:=w.ownsRow 0 4 1 v b.length (b.map Value.bool)
theorem Tryz.sizeSt:(Tryz.prog.info? 83).map (·.size)=some 43:=by kernel_rfl
structure Pk where
 L:Nat
 g:Nat
 gc:Nat
 gl:Nat
 gs:Nat
 gh:Nat
 cc:Nat
 cl:Nat
 cs:Nat
 ch:Nat
 c:List Mt.Ins
 t:ByteArray
 budget:Int
 lp:List Int
 sl:List Int
structure zL (k:Pk) (w:World) (steps:Int) (hd:List Bool) (room:Int) (wo:Option Addr) (wc:Nat) (W:List (List Int)):Prop where
 cell:w.heap[k.g]?=some (.cells #[.slice (some ⟨k.gc,0,none⟩) k.c.length k.cc,.string k.t,.int .i64 k.budget,.int .i64 steps,.int .i64 ((k.t.size:Int)+1),.slice (some ⟨k.gl,0,none⟩) k.c.length k.cl,.slice (some ⟨k.gs,0,none⟩) k.c.length k.cs,.slice (some ⟨k.gh,0,none⟩) hd.length k.ch,.int .i64 room,.slice wo W.length wc] 79 (0,0))
 code:zB w 0 (.slice (some ⟨k.gc,0,none⟩) k.c.length k.cc) k.c
 lps:zPg w (.slice (some ⟨k.gl,0,none⟩) k.lp.length k.cl) k.lp
 sls:zPg w (.slice (some ⟨k.gs,0,none⟩) k.sl.length k.cs) k.sl
 hds:zNw w (.slice (some ⟨k.gh,0,none⟩) hd.length k.ch) hd
 wt:w.ownsRow k.L 83 43 (.slice wo W.length wc) W.length (W.flatMap stC)
 lo:k.L≤k.g∧k.L≤k.gh
 ll:k.lp.length=k.c.length
 ls:k.sl.length=k.c.length
 apg:k.gc≠k.g∧k.gl≠k.g∧k.gs≠k.g∧k.gh≠k.g
 aph:k.gc≠k.gh∧k.gl≠k.gh∧k.gs≠k.gh
 apw:blk wo≠some k.g∧blk wo≠some k.gc∧blk wo≠some k.gl∧blk wo≠some k.gs∧blk wo≠some k.gh
structure kW (k:Pk) (wo wo':Option Addr) (w w':World):Prop where
 os:w'.os=w.os
 tape:w'.tape=w.tape
 output:w'.output=w.output
 size:w.heap.size≤w'.heap.size
 block:∀ i,i<w.heap.size→i≠k.g→i≠k.gh→blk wo≠some i→w'.heap[i]?=w.heap[i]?
 sub:∀ i,i<w.heap.size→blk wo'=some i→blk wo=some i
theorem kW.refl (k:Pk) (wo:Option Addr) (w:World):kW k wo wo w w:=⟨rfl,rfl,rfl,Nat.le_refl _,fun _ _ _ _ _=>rfl,fun _ _ h=>h⟩
theorem kW.trans {k:Pk} {wo w1 w2:Option Addr} {a b c:World} (h:kW k wo w1 a b) (j:kW k w1 w2 b c):kW k wo w2 a c :=
 ⟨j.os.trans h.os,j.tape.trans h.tape,j.output.trans h.output,Nat.le_trans h.size j.size,
 fun i hi h1 h2 h3=>(j.block i (Nat.lt_of_lt_of_le hi h.size) h1 h2 (fun e=>h3 (h.sub i hi e))).trans (h.block i hi h1 h2 h3),fun i hi ho=>h.sub i hi (j.sub i (Nat.lt_of_lt_of_le hi h.size) ho)⟩
theorem kW.below {k:Pk} {wo:Option Addr} {a b:World} (h:Below a.heap.size a b):kW k wo wo a b:=⟨h.os,h.tape,h.output,h.size,fun i hi _ _ _=>h.block i hi,fun _ _ h=>h⟩
theorem kW.drew {k:Pk} {wo w1:Option Addr} {a w:World} (h:kW k wo w1 a w):kW k wo w1 a w.drew:=h.trans (kW.below (Below.refl _ _).drew)
theorem kW.set {k:Pk} {wo w1:Option Addr} {a w:World} (h:kW k wo w1 a w) {p:Addr} (hp:p.block=k.g∨p.block=k.gh∨blk w1=some p.block) (u:Value):kW k wo w1 a (w.setCell p u) :=
 h.trans ⟨rfl,rfl,rfl,by simp [World.setCell],fun i hi h1 h2 h3=>Below.heap_setCell _ _ _ _ (fun e=>by rcases hp with hp | hp | hp;exact h1 (by rw [e,hp]);exact h2 (by rw [e,hp]);exact h3 (by rw [e,hp])),fun _ _ h=>h⟩
section
variable {k:Pk} {w:World} {steps:Int} {hd:List Bool} {room:Int} {wo:Option Addr} {wc:Nat} {W:List (List Int)}
theorem zL.lt (h:zL k w steps hd room wo wc W):k.g<w.heap.size∧k.gc<w.heap.size∧k.gl<w.heap.size∧k.gs<w.heap.size∧k.gh<w.heap.size∧(∀ i,blk wo=some i→k.L≤i∧i<w.heap.size) :=
 ⟨(Array.getElem?_eq_some_iff.1 h.cell).1,(World.ownsRow.lt h.code k.gc rfl).2,(World.ownsRow.lt h.lps k.gl rfl).2,(World.ownsRow.lt h.sls k.gs rfl).2,(World.ownsRow.lt h.hds k.gh rfl).2,fun i hi=>World.ownsRow.lt h.wt i (by rw [zW];exact hi)⟩
theorem zL.same {w':World} (h:zL k w steps hd room wo wc W) (hg:w'.heap[k.g]?=w.heap[k.g]?) (hc:w'.heap[k.gc]?=w.heap[k.gc]?) (hl:w'.heap[k.gl]?=w.heap[k.gl]?) (hs:w'.heap[k.gs]?=w.heap[k.gs]?) (hh:w'.heap[k.gh]?=w.heap[k.gh]?) (hw:∀ i,blk wo=some i→w'.heap[i]?=w.heap[i]?):zL k w' steps hd room wo wc W :=
 ⟨by rw [hg];exact h.cell,zK h.code (fun q hq=>by cases hq;exact hc),zK h.lps (fun q hq=>by cases hq;exact hl),zK h.sls (fun q hq=>by cases hq;exact hs),zK h.hds (fun q hq=>by cases hq;exact hh),zK h.wt hw,h.lo,h.ll,h.ls,h.apg,h.aph,h.apw⟩
theorem zL.below {w':World} (h:zL k w steps hd room wo wc W) (hb:Below w.heap.size w w'):zL k w' steps hd room wo wc W:=by
 obtain ⟨l1,l2,l3,l4,l5,l6⟩:=h.lt
 exact h.same (hb.block _ l1) (hb.block _ l2) (hb.block _ l3) (hb.block _ l4) (hb.block _ l5) (fun i hi=>hb.block _ (l6 i hi).2)
theorem zL.drew (h:zL k w steps hd room wo wc W):zL k w.drew steps hd room wo wc W:=h.same rfl rfl rfl rfl rfl (fun _ _=>rfl)
theorem kW.low {wo':Option Addr} {w':World} (h:zL k w steps hd room wo wc W) (hs:kW k wo wo' w w') (hL:k.L≤w.heap.size):Below k.L w w' :=
 ⟨hs.os,hs.tape,hs.output,hs.size,fun i hi=>hs.block i (by omega) (fun e=>by have:=h.lo.1;omega) (fun e=>by have:=h.lo.2;omega) (fun e=>by have:=(h.lt.2.2.2.2.2 i e).1;omega)⟩
theorem zL.cells (h:zL k w steps hd room wo wc W):w.cell? ⟨k.g,0,none⟩=some (.slice (some ⟨k.gc,0,none⟩) k.c.length k.cc)∧w.cell? ⟨k.g,1,none⟩=some (.string k.t)∧w.cell? ⟨k.g,2,none⟩=some (.int .i64 k.budget)∧w.cell? ⟨k.g,3,none⟩=some (.int .i64 steps)∧w.cell? ⟨k.g,4,none⟩=some (.int .i64 ((k.t.size:Int)+1))
  ∧ w.cell? ⟨k.g,5,none⟩=some (.slice (some ⟨k.gl,0,none⟩) k.c.length k.cl)∧w.cell? ⟨k.g,6,none⟩=some (.slice (some ⟨k.gs,0,none⟩) k.c.length k.cs)∧w.cell? ⟨k.g,7,none⟩=some (.slice (some ⟨k.gh,0,none⟩) hd.length k.ch)∧w.cell? ⟨k.g,8,none⟩=some (.int .i64 room)∧w.cell? ⟨k.g,9,none⟩=some (.slice wo W.length wc)∧(∀ j,w.frozen? ⟨k.g,j,none⟩=false):=by
 have hb:=zA h.cell
 exact ⟨hb.1 0,hb.1 1,hb.1 2,hb.1 3,hb.1 4,hb.1 5,hb.1 6,hb.1 7,hb.1 8,hb.1 9,hb.2⟩
theorem zL.zPh (h:zL k w steps hd room wo wc W) (v:Int):zL k (w.setCell ⟨k.g,3,none⟩ (.int .i64 v)) v hd room wo wc W:=by
 have o:∀ i,i≠k.g→(w.setCell ⟨k.g,3,none⟩ (.int .i64 v)).heap[i]?=w.heap[i]?:=fun i hi=>Below.heap_setCell _ _ _ _ hi
 refine ⟨?_,zK h.code (fun q hq=>by cases hq;exact o _ h.apg.1),zK h.lps (fun q hq=>by cases hq;exact o _ h.apg.2.1),zK h.sls (fun q hq=>by cases hq;exact o _ h.apg.2.2.1),zK h.hds (fun q hq=>by cases hq;exact o _ h.apg.2.2.2),zK h.wt (fun q hq=>o q (fun e=>h.apw.1 (by rw [← e];exact hq))),h.lo,h.ll,h.ls,h.apg,h.aph,h.apw⟩
 have:=Go.heap_setCell_same w k.g 3 _ _ (.int .i64 v) h.cell
 rw [this];rfl
theorem zL.zQP (h:zL k w steps hd room wo wc W) (v:Int):zL k (w.setCell ⟨k.g,8,none⟩ (.int .i64 v)) steps hd v wo wc W:=by
 have o:∀ i,i≠k.g→(w.setCell ⟨k.g,8,none⟩ (.int .i64 v)).heap[i]?=w.heap[i]?:=fun i hi=>Below.heap_setCell _ _ _ _ hi
 refine ⟨?_,zK h.code (fun q hq=>by cases hq;exact o _ h.apg.1),zK h.lps (fun q hq=>by cases hq;exact o _ h.apg.2.1),zK h.sls (fun q hq=>by cases hq;exact o _ h.apg.2.2.1),zK h.hds (fun q hq=>by cases hq;exact o _ h.apg.2.2.2),zK h.wt (fun q hq=>o q (fun e=>h.apw.1 (by rw [← e];exact hq))),h.lo,h.ll,h.ls,h.apg,h.aph,h.apw⟩
 have:=Go.heap_setCell_same w k.g 8 _ _ (.int .i64 v) h.cell
 rw [this];rfl
theorem zL.zQQ (h:zL k w steps hd room wo wc W) (i:Nat):zL k (w.setCell ⟨k.gh,i,none⟩ (.bool true)) steps (hd.set i true) room wo wc W:=by
 have o:∀ j,j≠k.gh→(w.setCell ⟨k.gh,i,none⟩ (.bool true)).heap[j]?=w.heap[j]?:=fun j hj=>Below.heap_setCell _ _ _ _ hj
 have hk:=(World.ownsRow.stored h.hds i (.bool true)).1
 refine ⟨?_,zK h.code (fun q hq=>by cases hq;exact o _ h.aph.1),zK h.lps (fun q hq=>by cases hq;exact o _ h.aph.2.1),zK h.sls (fun q hq=>by cases hq;exact o _ h.aph.2.2),?_,zK h.wt (fun q hq=>o q (fun e=>h.apw.2.2.2.2 (by rw [← e];exact hq))),h.lo,h.ll,h.ls,h.apg,h.aph,h.apw⟩
 ·rw [o k.g (Ne.symm h.apg.2.2.2),List.length_set];exact h.cell
 ·unfold zNw
  rw [List.length_set,List.map_set];exact hk
theorem zLC (W:List (List Int)):(W.flatMap stC).length=W.length*43:=by
 induction W with
 | nil=>rfl
 | cons a r ih=>rw [List.flatMap_cons,List.length_append,zB6,ih,List.length_cons,Nat.add_mul];omega
theorem zFC:∀ (W:List (List Int)) (n:Nat),(W.flatMap stC).take (n*43)=(W.take n).flatMap stC
 | [],n=>by simp
 | a::r,0=>by simp
 | a::r,n+1=>by
  rw [List.flatMap_cons,List.take_succ_cons,List.flatMap_cons,List.take_append,zB6,List.take_of_length_le (by rw [zB6,Nat.add_mul];omega),show (n+1)*43-43=n*43 by omega,zFC r n]
theorem zIo:∀ (W:List (List Int)) (i j:Nat),i<W.length→j<43→(W.flatMap stC)[i*43+j]?=some (.int .i64 (Mt.gt (W.getD i []) j))
 | [],i,j,h,_=>by simp at h
 | a::r,0,j,_,hj=>by
  rw [List.flatMap_cons,List.getElem?_append_left (by rw [zB6];omega)]
  simp [stC,hj]
 | a::r,i+1,j,h,hj=>by
  rw [List.flatMap_cons,List.getElem?_append_right (by rw [zB6];omega),zB6,show (i+1)*43+j-43=i*43+j by omega,zIo r i j (by simpa using h) hj]
  simp
theorem zL.cut (h:zL k w steps hd room wo wc W) (n:Nat) (hn:n≤W.length):zL k (w.setCell ⟨k.g,9,none⟩ (.slice wo n wc)) steps hd room wo wc (W.take n):=by
 have o:∀ i,i≠k.g→(w.setCell ⟨k.g,9,none⟩ (.slice wo n wc)).heap[i]?=w.heap[i]?:=fun i hi=>Below.heap_setCell _ _ _ _ hi
 have hl:(W.take n).length=n:=by rw [List.length_take];omega
 refine ⟨?_,zK h.code (fun q hq=>by cases hq;exact o _ h.apg.1),zK h.lps (fun q hq=>by cases hq;exact o _ h.apg.2.1),zK h.sls (fun q hq=>by cases hq;exact o _ h.apg.2.2.1),zK h.hds (fun q hq=>by cases hq;exact o _ h.apg.2.2.2),?_,h.lo,h.ll,h.ls,h.apg,h.aph,h.apw⟩
 ·have:=Go.heap_setCell_same w k.g 9 _ _ (.slice wo n wc) h.cell
  rw [this,hl];rfl
 ·rw [hl]
  refine zK (w:=w) ?_ (fun q hq=>o q (fun e=>h.apw.1 (by rw [← e];exact hq)))
  have h0:=h.wt
  refine ⟨by rw [zLC,hl],?_⟩
  rcases h0.2 with ⟨e,e2⟩ | ⟨gw,cap,cur,e,r1,r2,r3,r4,r5,r6⟩
  ·left
   simp only [Value.slice.injEq] at e
   obtain ⟨rfl,_,rfl⟩:=e
   have:n=0:=by omega
   subst this;exact ⟨rfl,rfl⟩
  ·right
   simp only [Value.slice.injEq] at e
   obtain ⟨rfl,_,rfl⟩:=e
   refine ⟨gw,wc,cur,rfl,r1,r2,by omega,r4,r5,?_⟩
   rw [← zFC,← r6,List.take_take]
   congr 1
   have:=Nat.mul_le_mul_right 43 hn
   omega
theorem zPi {w0 w1:World} {q cap:Nat} {x:List Int} (h:zL k w steps hd room wo wc W) (h0:Below w.heap.size w w0) (hs0:w.heap.size<w0.heap.size) (hg:w0.grownBy w1 (blk wo)) (hq:blk wo=some q∨q=w0.heap.size)
  (hown:w1.ownsRow k.L 83 43 (.slice (some ⟨q,0,none⟩) (W.length+1) cap) (W.length+1) (W.flatMap stC++stC x)) :
  zL k (w1.setCell ⟨k.g,9,none⟩ (.slice (some ⟨q,0,none⟩) (W.length+1) cap)) steps hd room (some ⟨q,0,none⟩) cap (W++[x])∧kW k wo (some ⟨q,0,none⟩) w (w1.setCell ⟨k.g,9,none⟩ (.slice (some ⟨q,0,none⟩) (W.length+1) cap)):=by
 obtain ⟨l1,l2,l3,l4,l5,l6⟩:=h.lt
 have n:q≠k.g∧q≠k.gc∧q≠k.gl∧q≠k.gs∧q≠k.gh:=by
  rcases hq with e | e
  ·exact ⟨fun x=>h.apw.1 (by rw [e,x]),fun x=>h.apw.2.1 (by rw [e,x]),fun x=>h.apw.2.2.1 (by rw [e,x]),fun x=>h.apw.2.2.2.1 (by rw [e,x]),fun x=>h.apw.2.2.2.2 (by rw [e,x])⟩
  ·omega
 obtain ⟨n1,n2,n3,n4,n5⟩:=n
 have kk:∀ i,i<w.heap.size→blk wo≠some i→w1.heap[i]?=w.heap[i]?:=fun i hi hr=>by rw [hg.block i (by have:=h0.size;omega) (fun e=>hr e.symm),h0.block i hi]
 have o:∀ i,i≠k.g→(w1.setCell ⟨k.g,9,none⟩ (.slice (some ⟨q,0,none⟩) (W.length+1) cap)).heap[i]?=w1.heap[i]?:=fun i hi=>Below.heap_setCell _ _ _ _ hi
 have ne:∀ i,i≠q→blk (some (⟨q,0,none⟩:Addr))≠some i:=fun i hi e=>hi (by simp [blk] at e;exact e.symm)
 refine ⟨⟨?_,zK h.code (fun i hi=>by cases hi;rw [o _ h.apg.1,kk _ l2 h.apw.2.1]),zK h.lps (fun i hi=>by cases hi;rw [o _ h.apg.2.1,kk _ l3 h.apw.2.2.1]),zK h.sls (fun i hi=>by cases hi;rw [o _ h.apg.2.2.1,kk _ l4 h.apw.2.2.2.1]),zK h.hds (fun i hi=>by cases hi;rw [o _ h.apg.2.2.2,kk _ l5 h.apw.2.2.2.2]),?_,h.lo,h.ll,h.ls,h.apg,h.aph,ne _ (Ne.symm n1),ne _ (Ne.symm n2),ne _ (Ne.symm n3),ne _ (Ne.symm n4),ne _ (Ne.symm n5)⟩,?_⟩
 ·have hc:=Go.heap_setCell_same w1 k.g 9 _ _ (.slice (some ⟨q,0,none⟩) (W.length+1) cap) (by rw [kk k.g l1 h.apw.1];exact h.cell)
  rw [hc];simp
 ·have e1:(W++[x]).length=W.length+1:=by simp
  have e2:(W++[x]).flatMap stC=W.flatMap stC++stC x:=by simp
  rw [e1,e2]
  exact zK hown (fun i hi=>o i (by simp [blk] at hi;omega))
 ·refine ⟨hg.os.trans h0.os,hg.tape.trans h0.tape,hg.output.trans h0.output,?_,fun i hi h1 h2 h3=>?_,fun i hi ho=>?_⟩
  ·have:=hg.size;have:=h0.size;simp [World.setCell];omega
  ·rw [o i h1,kk i hi h3]
  ·simp [blk] at ho
   subst ho
   rcases hq with hq | hq
   ·exact hq
   ·omega
end
end Go.Proofs.YtebpgfodelggoaaGreat
