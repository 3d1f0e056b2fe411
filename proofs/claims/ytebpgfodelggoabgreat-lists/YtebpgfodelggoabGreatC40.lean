import Derived.Test.YtebpgfodelggoabGreatC38
set_option linter.unusedVariables false
set_option linter.unusedSimpArgs false
namespace Mt
def zIM (s:Sta):Prop:=∀ k,k<10→(gt s (2+2*k)=-1∧gt s (2+(2*k+1))=-1)∨0≤gt s (2+2*k)
theorem zIM.of {s u:Sta} (h:zIM s) (e:∀ k,k<10→(gt u (2+2*k)=gt s (2+2*k)∧gt u (2+(2*k+1))=gt s (2+(2*k+1)))∨0≤gt u (2+2*k)):zIM u:=fun k hk=>by
 rcases e k hk with e1 | e1
 ·rw [e1.1,e1.2];exact h k hk
 ·exact .inr e1
theorem zIM.set {s:Sta} (h:zIM s) (i:Nat) (v:Int) (hi:i<2∨22≤i):zIM (s.set i v):=h.of fun k hk=>.inl ⟨zO _ _ _ _ (by omega),zO _ _ _ _ (by omega)⟩
theorem zJY (p:Int):zIM (kH p):=fun k hk=>by
 left
 have key:∀ j,j<20→gt (kH p) (2+j)=-1:=fun j hj=>by
  unfold gt kH nowhere
  rw [List.getD_eq_getElem?_getD,show 2+j=j+1+1 by omega,List.getElem?_cons_succ,List.getElem?_cons_succ,List.getElem?_append_left (by simp;omega),List.getElem?_replicate,if_pos (by omega)];rfl
 exact ⟨key _ (by omega),key _ (by omega)⟩
theorem zKN {L T:Nat} {t:ByteArray} {s:Sta} {x:Ins} (hg:Good L T s) (h:zIM s) (hx:x.op=6∨x.op=7∨x.op=8→0≤x.x∧x.x<10):zIM (qP t s x).1:=by
 unfold qP
 by_cases o1:x.op=1
 ·rw [if_pos o1];exact (h.set 1 _ (by omega)).set 0 _ (by omega)
 rw [if_neg o1]
 by_cases o3:x.op=3
 ·rw [if_pos o3];exact h.set 0 _ (by omega)
 rw [if_neg o3]
 by_cases o4:x.op=4
 ·rw [if_pos o4];exact (h.set _ _ (by omega)).set 0 _ (by omega)
 rw [if_neg o4]
 by_cases o5:x.op=5
 ·rw [if_pos o5];exact h.set 0 _ (by omega)
 rw [if_neg o5]
 by_cases o6:x.op=6
 ·rw [if_pos o6];exact (h.set _ _ (by omega)).set 0 _ (by omega)
 rw [if_neg o6]
 by_cases o7:x.op=7
 ·rw [if_pos o7]
  have hi:=hx (.inr (.inl o7))
  refine zIM.set ?_ 0 _ (by omega)
  refine h.of fun k hk=>?_
  have hl:=hg.len
  by_cases e:k=x.x.toNat
  ·right
   rw [zO _ _ _ _ (by omega),show 2+2*k=2+(2*x.x).toNat by omega,jP _ _ _ (by omega)]
   exact (hg.noted x.x.toNat (by omega)).1
  ·left
   rw [zO _ _ _ _ (by omega),zO _ _ _ _ (by omega),zO _ _ _ _ (by omega),zO _ _ _ _ (by omega)]
   exact ⟨rfl,rfl⟩
 rw [if_neg o7]
 by_cases o8:x.op=8
 ·rw [if_pos o8]
  unfold zBD
  split
  ·exact h
  split
  ·exact h
  ·exact (h.set 1 _ (by omega)).set 0 _ (by omega)
 rw [if_neg o8]
 split
 ·exact h.set 0 _ (by omega)
 split
 ·exact h.set 0 _ (by omega)
 ·exact h.set 0 _ (by omega)
theorem zGK {s r:Sta} {x:Ins} {ok:Bool} (hs:s.length=44) (hr:r.length=44) (h:zIM s) (h2:ok=true→zIM r) (hf:(qJ s x r ok).2=true):zIM (qJ s x r ok).1:=by
 unfold qJ at hf ⊢
 split
 ·rename_i a;rw [if_pos a] at hf;exact (h2 hf).set 0 _ (by omega)
 rename_i a
 rw [if_neg a] at hf
 split
 ·rename_i b
  rw [if_pos b] at hf
  refine zIM.set ?_ 0 _ (by omega)
  refine (h2 hf).of fun k hk=>.inl ?_
  rw [zBg s r hs hr,if_pos (by omega),zBg s r hs hr,if_pos (by omega)]
  exact ⟨rfl,rfl⟩
 ·exact h.set 0 _ (by omega)
theorem zKO (E:Env) (hc:codeOk E.c):∀ (N n:Nat) (s:Sta) (kn:List Bool) (room:Int),n≤N→Good E.c.length E.t.size s→0≤room∧room≤5000→zIM s→(look E n s kn room).ok=true→zIM (look E n s kn room).st
 | N,0,s,kn,room,_,h,hr,_,ho=>by rw [zBE] at ho;cases ho
 | 0,n+1,s,kn,room,hn,_,_,_,_=>by omega
 | N+1,n+1,s,kn,room,hn,h,hrm,hg,ho=>by
  have ih:=zKO E hc N
  rw [xY] at ho ⊢
  have hR:=E.zBs s kn room hrm
  have hpc:((kZ s:Nat):Int)=gt s 0:=by have:=h.pc0;unfold kZ;omega
  have hi:=hc (kZ s) h.zAw
  have hp0:=h.pc0
  by_cases hd:E.dead s kn=true
  ·rw [if_pos hd] at ho;cases ho
  rw [if_neg hd] at ho ⊢
  by_cases h13:(E.ins s).op=13∨(E.ins s).op=12
  ·rw [if_pos h13];exact hg
  rw [if_neg h13] at ho ⊢
  have zSj:(E.c.getD (kZ s) jB).op≠13:=fun e=>h13 (.inl e)
  by_cases o2:(E.ins s).op=2
  ·rw [if_pos o2] at ho ⊢
   have i2:=hi.1 o2
   have g1:=yC E hc N n (s.set 0 (E.ins s).x) (E.kn' s kn room) (E.room' s kn room) (by omega) (h.xS _ i2.1 i2.2.1) hR
   have n1:=zBr E n (s.set 0 (E.ins s).x) (E.kn' s kn room) (E.room' s kn room)
   have k1:=ih n (s.set 0 (E.ins s).x) (E.kn' s kn room) (E.room' s kn room) (by omega) (h.xS _ i2.1 i2.2.1) hR (hg.set 0 _ (by omega))
   dsimp only at ho ⊢
   generalize look E n (s.set 0 (E.ins s).x) (E.kn' s kn room) (E.room' s kn room)=r at *
   by_cases hro:(r.ok||r.over)=true
   ·rw [if_pos hro] at ho ⊢;exact k1 ho
   ·rw [if_neg hro] at ho ⊢
    exact ih r.n (s.set 0 (E.ins s).y) r.kn r.room (by omega) (h.xS _ i2.2.2.1 i2.2.2.2) g1.2.2.1 (hg.set 0 _ (by omega)) ho
  rw [if_neg o2] at ho ⊢
  by_cases o11:(E.ins s).op=11
  ·rw [if_pos o11] at ho ⊢
   have i11:=hi.2.2.2.2.2.1 o11
   have hn1:kZ s+1<E.c.length:=hi.2.2.2.2.2.2.1 zSj
   have gs:=h.xS (gt s 0+1) (by omega) (by omega)
   have g1:=yC E hc N n (s.set 0 (gt s 0+1)) (E.kn' s kn room) (E.room' s kn room) (by omega) gs hR
   have n1:=zBr E n (s.set 0 (gt s 0+1)) (E.kn' s kn room) (E.room' s kn room)
   have k1:=ih n (s.set 0 (gt s 0+1)) (E.kn' s kn room) (E.room' s kn room) (by omega) gs hR (hg.set 0 _ (by omega))
   dsimp only at ho ⊢
   generalize look E n (s.set 0 (gt s 0+1)) (E.kn' s kn room) (E.room' s kn room)=r at *
   by_cases hov:r.over=true
   ·rw [if_pos hov] at ho;cases ho
   rw [if_neg hov] at ho ⊢
   by_cases hk:(qJ s (E.ins s) r.st r.ok).2=true
   ·rw [if_pos hk] at ho ⊢
    exact ih r.n _ r.kn r.room (by omega) (zAK h g1.1 (E.ins s) i11.1 i11.2.1 hk) g1.2.2.1 (zGK h.len g1.2.2.2.1 hg k1 hk) ho
   ·rw [if_neg hk] at ho;cases ho
  rw [if_neg o11] at ho ⊢
  by_cases hk:(qP E.t s (E.ins s)).2=true
  ·rw [if_pos hk] at ho ⊢
   exact ih n _ _ _ (by omega) (zBF hc h (t:=E.t) o2 o11 zSj hk) hR (zKN h hg (fun e=>hi.2.2.2.2.1 e)) ho
  ·rw [if_neg hk] at ho;cases ho
theorem zRg (t:ByteArray) (q:Sta) (x:Ins) (pc pos a b X:Nat) (ho:x.op=8) (hX:x.x=X) (h0:gt q 0=pc) (h1:gt q 1=pos) (ha:gt q (2+2*X)=a) (hb:gt q (2+(2*X+1))=b) (hab:a≤b) (hbt:b≤t.size) (hpos:pos≤t.size) :
  (qP t q x).2=(if (t.size:Int)<pos+((b-a:Nat):Int) then false else zKM t pos a (b-a))∧((qP t q x).2=true→(qP t q x).1=(q.set 1 ((pos:Int)+((b-a:Nat):Int))).set 0 ((pc:Int)+1)):=by
 unfold qP
 rw [if_neg (by omega),if_neg (by omega),if_neg (by omega),if_neg (by omega),if_neg (by omega),if_neg (by omega),if_pos ho]
 unfold zBD
 have e1:(2*x.x).toNat=2*X:=by omega
 have e2:(2*x.x+1).toNat=2*X+1:=by omega
 rw [e1,e2,ha,hb,h0,h1,if_neg (by omega)]
 by_cases hlt:(t.size:Int)<pos+((b-a:Nat):Int)
 ·rw [if_pos (show (t.size:Int)<(pos:Int)+((b:Int)-(a:Int)) by omega),if_pos hlt]
  exact ⟨rfl,fun e=>by cases e⟩
 ·rw [if_neg (show ¬ (t.size:Int)<(pos:Int)+((b:Int)-(a:Int)) by omega),if_neg hlt]
  refine ⟨?_,fun _=>?_⟩
  ·dsimp only
   rw [zIJ t pos a (b-a) (by omega) (by omega)]
   simp only [Int.toNat_natCast]
   rw [show a+(b-a)=b by omega,show pos+b-a=pos+(b-a) by omega]
  ·dsimp only
   rw [show (pos:Int)+(b:Int)-(a:Int)=(pos:Int)+((b-a:Nat):Int) by omega]
theorem zRh (t:ByteArray) (q:Sta) (x:Ins) (X:Nat) (ho:x.op=8) (hX:x.x=X) (ha:gt q (2+2*X)=-1):(qP t q x).2=false:=by
 unfold qP
 rw [if_neg (by omega),if_neg (by omega),if_neg (by omega),if_neg (by omega),if_neg (by omega),if_neg (by omega),if_pos ho]
 unfold zBD
 have e1:(2*x.x).toNat=2*X:=by omega
 rw [e1,ha,if_pos (by omega)]
end Mt
