import Derived.Test.YtebpgfodelggoabC04
import Derived.Test.YtebpgfodelggoabC10
import Derived.Test.YtebpgfodelggoabC11
import Derived.Test.YtebpgfodelggoabC13
import Derived.Laws.Strings
import Derived.Test.YtebpgfodelggoabC14
import Derived.Test.YtebpgfodelggoabC15
import Derived.Test.YtebpgfodelggoabC16
import Derived.Test.YtebpgfodelggoabC17
import Derived.Test.YtebpgfodelggoabC18
import Derived.Test.YtebpgfodelggoabC19
import Derived.Test.YtebpgfodelggoabC20
import Derived.Test.YtebpgfodelggoabC21
set_option linter.unusedVariables false
set_option linter.unusedSimpArgs false
namespace Mt
theorem weightTo_next (c:List Ins) (k:Nat):weightTo c (k+1)=weightTo c k+1+loopsAt c k:=by
 unfold weightTo
 rw [List.range_succ,List.map_append,List.sum_append]
 simp;omega
theorem chosen_len (c:List Ins) (policy mask:Int):(chosen c policy mask).length=c.length:=by
 unfold chosen;split <;> simp
theorem opened_one (l:List Tok) (t:Tok):opened (l++[t])=opened l+delta t:=by rw [opened_append];simp [opened]
theorem holds_app {p:ByteArray}:∀ (a b:List UInt8) (i:Int),Holds p i (a++b)→Holds p i a∧Holds p (i+a.length) b
 | [],b,i,h=>by
  have:0≤i∧i≤p.size:=by cases b with
   | nil=>exact h
   | cons c r=>exact ⟨h.1,by have:=h.2.1;omega⟩
  exact ⟨this,by simpa using h⟩
 | c::a,b,i,h=>by
  obtain ⟨h1,h2⟩:=holds_app a b (i+1) h.2.2.2
  refine ⟨⟨h.1,h.2.1,h.2.2.1,h1⟩,?_⟩
  rw [List.length_cons,show i+((a.length+1:Nat):Int)=i+1+a.length by push_cast;omega];exact h2
theorem holds_drop {l:List UInt8}:∀ (n:Nat) (k:Nat),l.length-k=n→k≤l.length→Holds (bp l) k (l.drop k)
 | 0,k,h,hk=>by
  rw [List.drop_eq_nil_of_le (by omega)];exact ⟨by omega,by rw [bp_size];omega⟩
 | n+1,k,h,hk=>by
  rw [List.drop_eq_getElem_cons (by omega)]
  refine ⟨by omega,by rw [bp_size];omega,?_,?_⟩
  ·rw [atB_in _ _ (by omega) (by rw [bp_size];omega)]
   simp [bp,List.getD_eq_getElem?_getD,List.getElem?_eq_getElem (show k<l.length by omega)]
  ·exact_mod_cast holds_drop n (k+1) (by omega) (by omega)
theorem holds_self (l:List UInt8):Holds (bp l) 0 l:=by simpa using holds_drop (l:=l) l.length 0 (by omega) (by omega)
theorem at_end {p:ByteArray} {i:Int} (h:i=p.size):atB p i=-1:=atB_out p i (Or.inr (by omega))
section
variable {p:ByteArray} {j:Int}
theorem rep_star (h:Holds p j [42]) (c:Calm p (j+1)):nextT p j=(⟨8,j,j+1,0,-1,0,[]⟩,0):=by
 unfold Calm at c
 simp only [Holds] at h
 obtain ⟨h0,h1,a0,h⟩:=h
 (try obtain ⟨_,_,a1,h⟩:=h)
 (try obtain ⟨_,_,a2,h⟩:=h)
 (try obtain ⟨_,_,a3,h⟩:=h)
 (try obtain ⟨_,_,a4,h⟩:=h)
 (try obtain ⟨_,_,a5,h⟩:=h)
 (try simp only [Int.add_assoc] at *)
 simp at *
 simp [nextT,repeatT,count,number,mood, *,Int.add_assoc]
theorem rep_opt (h:Holds p j [63]) (c:Calm p (j+1)):nextT p j=(⟨8,j,j+1,0,1,0,[]⟩,0):=by
 unfold Calm at c
 simp only [Holds] at h
 obtain ⟨h0,h1,a0,h⟩:=h
 (try obtain ⟨_,_,a1,h⟩:=h)
 (try obtain ⟨_,_,a2,h⟩:=h)
 (try obtain ⟨_,_,a3,h⟩:=h)
 (try obtain ⟨_,_,a4,h⟩:=h)
 (try obtain ⟨_,_,a5,h⟩:=h)
 (try simp only [Int.add_assoc] at *)
 simp at *
 simp [nextT,repeatT,count,number,mood, *,Int.add_assoc]
theorem rep_starl (h:Holds p j [42,63]):nextT p j=(⟨8,j,j+2,0,-1,1,[]⟩,0):=by
 simp only [Holds] at h
 obtain ⟨h0,h1,a0,h⟩:=h
 (try obtain ⟨_,_,a1,h⟩:=h)
 (try obtain ⟨_,_,a2,h⟩:=h)
 (try obtain ⟨_,_,a3,h⟩:=h)
 (try obtain ⟨_,_,a4,h⟩:=h)
 (try obtain ⟨_,_,a5,h⟩:=h)
 (try simp only [Int.add_assoc] at *)
 simp at *
 simp [nextT,repeatT,count,number,mood, *,Int.add_assoc]
theorem rep_optl (h:Holds p j [63,63]):nextT p j=(⟨8,j,j+2,0,1,1,[]⟩,0):=by
 simp only [Holds] at h
 obtain ⟨h0,h1,a0,h⟩:=h
 (try obtain ⟨_,_,a1,h⟩:=h)
 (try obtain ⟨_,_,a2,h⟩:=h)
 (try obtain ⟨_,_,a3,h⟩:=h)
 (try obtain ⟨_,_,a4,h⟩:=h)
 (try obtain ⟨_,_,a5,h⟩:=h)
 (try simp only [Int.add_assoc] at *)
 simp at *
 simp [nextT,repeatT,count,number,mood, *,Int.add_assoc]
end
theorem oneP_pos {c:List Ins} {t:ByteArray} {s:Sta} (h:Good c.length t.size s) (x:Ins) (hi:insOk c (pcOf s) x) (ok:(oneP t s x).2=true):gt s 1≤gt (oneP t s x).1 1:=by
 have hl:=h.len
 have hx6:=hi.2.2.2.2.1
 have key:∀ (i:Nat) (v:Int),i≠1→gt (s.set i v) 1=gt s 1:=fun i v hi=>gt_set_ne _ _ _ _ hi
 unfold oneP at ok ⊢
 by_cases o1:x.op=1
 ·rw [if_pos o1]
  dsimp only
  rw [gt_set_ne _ _ _ _ (by omega),gt_set_same _ _ _ (by omega)];omega
 rw [if_neg o1] at ok ⊢
 by_cases o3:x.op=3
 ·rw [if_pos o3];dsimp only;rw [key _ _ (by omega)];exact Int.le_refl _
 rw [if_neg o3] at ok ⊢
 by_cases o4:x.op=4
 ·rw [if_pos o4];dsimp only;rw [gt_set_ne _ _ _ _ (by omega),gt_set_ne _ _ _ _ (by omega)];exact Int.le_refl _
 rw [if_neg o4] at ok ⊢
 by_cases o5:x.op=5
 ·rw [if_pos o5];dsimp only;rw [key _ _ (by omega)];exact Int.le_refl _
 rw [if_neg o5] at ok ⊢
 by_cases o6:x.op=6
 ·rw [if_pos o6];dsimp only;rw [gt_set_ne _ _ _ _ (by omega),gt_set_ne _ _ _ _ (by omega)];exact Int.le_refl _
 rw [if_neg o6] at ok ⊢
 by_cases o7:x.op=7
 ·rw [if_pos o7];dsimp only;rw [gt_set_ne _ _ _ _ (by omega),gt_set_ne _ _ _ _ (by omega),gt_set_ne _ _ _ _ (by omega)];exact Int.le_refl _
 rw [if_neg o7] at ok ⊢
 by_cases o8:x.op=8
 ·rw [if_pos o8] at ok ⊢
  have hk:=hx6 (.inr (.inr o8))
  have hpl:=h.place x.x.toNat (by omega)
  rw [show 2*x.x.toNat=(2*x.x).toNat by omega] at hpl
  rw [show (2*x.x).toNat+1=(2*x.x+1).toNat by omega] at hpl
  unfold backP at ok ⊢
  split
  ·exact Int.le_refl _
  split
  ·exact Int.le_refl _
  ·dsimp only
   rw [gt_set_ne _ _ _ _ (by omega),gt_set_same _ _ _ (by omega)];omega
 rw [if_neg o8] at ok ⊢
 split
 ·dsimp only;rw [key _ _ (by omega)];exact Int.le_refl _
 split
 ·dsimp only;rw [key _ _ (by omega)];exact Int.le_refl _
 ·dsimp only;rw [key _ _ (by omega)];exact Int.le_refl _
theorem look_pos (E:Env) (hc:codeOk E.c):∀ (N n:Nat) (s:Sta) (kn:List Bool) (room:Int),n≤N→Good E.c.length E.t.size s→0≤room∧room≤5000→(look E n s kn room).ok=true→gt s 1≤gt (look E n s kn room).st 1
 | N,0,s,kn,room,_,h,hr,ok=>by rw [look_zero] at ok;cases ok
 | 0,n+1,s,kn,room,hn,_,_,_=>by omega
 | N+1,n+1,s,kn,room,hn,h,hr,ok=>by
  have ih:∀ (n:Nat) (s:Sta) (kn:List Bool) (room:Int),n≤N→Good E.c.length E.t.size s→0≤room∧room≤5000→(look E n s kn room).ok=true→gt s 1≤gt (look E n s kn room).st 1:=look_pos E hc N
  have hgood:=fun (m:Nat) (u:Sta) (k:List Bool) (r:Int) (hu:Good E.c.length E.t.size u) (hr':0≤r∧r≤5000)=>look_good E hc m m u k r (Nat.le_refl _) hu hr'
  rw [look_step] at ok ⊢
  have hR:=E.room'_in s kn room hr
  have hi:=hc (pcOf s) h.pcOf_lt
  have hpc:((pcOf s:Nat):Int)=gt s 0:=by have:=h.pc0;unfold pcOf;omega
  have hpc0:=h.pc0
  by_cases hd:E.dead s kn=true
  ·rw [if_pos hd] at ok;cases ok
  rw [if_neg hd] at ok ⊢
  by_cases h13:(E.ins s).op=13∨(E.ins s).op=12
  ·rw [if_pos h13];exact Int.le_refl _
  rw [if_neg h13] at ok ⊢
  by_cases o2:(E.ins s).op=2
  ·rw [if_pos o2] at ok ⊢
   have i2:=hi.1 o2
   have g1:=h.at_pc (E.ins s).x i2.1 i2.2.1
   have g2:=h.at_pc (E.ins s).y i2.2.2.1 i2.2.2.2
   have p1:=ih n (s.set 0 (E.ins s).x) (E.kn' s kn room) (E.room' s kn room) (by omega) g1 hR
   have q1:=hgood n (s.set 0 (E.ins s).x) (E.kn' s kn room) (E.room' s kn room) g1 hR
   have n1:=look_n E n (s.set 0 (E.ins s).x) (E.kn' s kn room) (E.room' s kn room)
   dsimp only at ok ⊢
   generalize look E n (s.set 0 (E.ins s).x) (E.kn' s kn room) (E.room' s kn room)=r at *
   rw [gt_set_ne _ _ _ _ (by omega)] at p1
   split at ok
   ·rename_i hh;rw [if_pos hh];exact p1 ok
   ·rename_i hh;rw [if_neg hh]
    have:=ih r.n (s.set 0 (E.ins s).y) r.kn r.room (by omega) g2 q1.2.2.1 ok
    rw [gt_set_ne _ _ _ _ (by omega)] at this
    exact this
  rw [if_neg o2] at ok ⊢
  by_cases o11:(E.ins s).op=11
  ·rw [if_pos o11] at ok ⊢
   have i11:=hi.2.2.2.2.2.1 o11
   have hnx:pcOf s+1<E.c.length:=hi.2.2.2.2.2.2.1 (by show (E.ins s).op≠13;omega)
   have g1:=h.at_pc (gt s 0+1) (by omega) (by omega)
   have p1:=ih n (s.set 0 (gt s 0+1)) (E.kn' s kn room) (E.room' s kn room) (by omega) g1 hR
   have q1:=hgood n (s.set 0 (gt s 0+1)) (E.kn' s kn room) (E.room' s kn room) g1 hR
   have n1:=look_n E n (s.set 0 (gt s 0+1)) (E.kn' s kn room) (E.room' s kn room)
   dsimp only at ok ⊢
   generalize look E n (s.set 0 (gt s 0+1)) (E.kn' s kn room) (E.room' s kn room)=r at *
   rw [gt_set_ne _ _ _ _ (by omega)] at p1
   split at ok
   ·cases ok
   rename_i hov
   rw [if_neg hov]
   split at ok
   ·rename_i hk
    rw [if_pos hk]
    have:=ih r.n _ r.kn r.room (by omega) (apartP_good h q1.1 (E.ins s) i11.1 i11.2.1 hk) q1.2.2.1 ok
    refine Int.le_trans ?_ this
    unfold apartP at hk ⊢
    by_cases x0:(E.ins s).x=0
    ·rw [if_pos x0] at hk ⊢
     dsimp only at hk ⊢
     rw [gt_set_ne _ _ _ _ (by omega)];exact p1 hk
    rw [if_neg x0] at hk ⊢
    by_cases x1:(E.ins s).x=1
    ·rw [if_pos x1] at hk ⊢
     dsimp only at hk ⊢
     rw [gt_set_ne _ _ _ _ (by omega),gt_withAt s r.st h.len (q1.1 hk).len,if_neg (by omega)];exact Int.le_refl _
    rw [if_neg x1]
    dsimp only
    rw [gt_set_ne _ _ _ _ (by omega)];exact Int.le_refl _
   ·cases ok
  rw [if_neg o11] at ok ⊢
  split at ok
  ·rename_i hk
   rw [if_pos hk]
   have hg:=oneP_good hc h o2 o11 (by show (E.ins s).op≠13;omega) hk
   have:=ih n _ (E.kn' s kn room) (E.room' s kn room) (by omega) hg hR ok
   exact Int.le_trans (oneP_pos h (E.ins s) hi hk) this
  ·cases ok
theorem look_n_lt (E:Env) (n:Nat) (s:Sta) (kn:List Bool) (room:Int):(look E (n+1) s kn room).n<n+1:=by
 rw [look_step]
 split
 ·exact Nat.lt_succ_self n
 split
 ·exact Nat.lt_succ_self n
 split
 ·have h1:=look_n E n (s.set 0 (E.ins s).x) (E.kn' s kn room) (E.room' s kn room)
  dsimp only
  generalize look E n (s.set 0 (E.ins s).x) (E.kn' s kn room) (E.room' s kn room)=r at *
  split
  ·omega
  ·have:=look_n E r.n (s.set 0 (E.ins s).y) r.kn r.room;omega
 split
 ·have h1:=look_n E n (s.set 0 (gt s 0+1)) (E.kn' s kn room) (E.room' s kn room)
  dsimp only
  generalize look E n (s.set 0 (gt s 0+1)) (E.kn' s kn room) (E.room' s kn room)=r at *
  split
  ·dsimp only;omega
  split
  ·have:=look_n E r.n (apartP s (E.ins s) r.st r.ok).1 r.kn r.room;omega
  ·dsimp only;omega
 split
 ·have:=look_n E n (oneP E.t s (E.ins s)).1 (E.kn' s kn room) (E.room' s kn room);omega
 ·exact Nat.lt_succ_self n
theorem look_more (E:Env) (d:Nat):∀ (N n:Nat) (s:Sta) (kn:List Bool) (room:Int),n≤N→(look E n s kn room).over=false →
  look E (n+d) s kn room=⟨(look E n s kn room).st,(look E n s kn room).ok,(look E n s kn room).n+d,(look E n s kn room).kn,(look E n s kn room).room,false⟩
 | N,0,s,kn,room,_,h=>by rw [look_zero] at h;cases h
 | 0,n+1,s,kn,room,hn,_=>by omega
 | N+1,n+1,s,kn,room,hn,h=>by
  have ih:∀ (n:Nat) (s:Sta) (kn:List Bool) (room:Int),n≤N→(look E n s kn room).over=false →
   look E (n+d) s kn room=⟨(look E n s kn room).st,(look E n s kn room).ok,(look E n s kn room).n+d,(look E n s kn room).kn,(look E n s kn room).room,false⟩:=look_more E d N
  rw [show n+1+d=(n+d)+1 by omega]
  rw [look_step E n] at h ⊢
  rw [look_step E (n+d)]
  by_cases hd:E.dead s kn=true
  ·rw [if_pos hd,if_pos hd]
  rw [if_neg hd] at h ⊢
  rw [if_neg hd]
  by_cases h13:(E.ins s).op=13∨(E.ins s).op=12
  ·rw [if_pos h13,if_pos h13]
  rw [if_neg h13] at h ⊢
  rw [if_neg h13]
  by_cases o2:(E.ins s).op=2
  ·rw [if_pos o2] at h ⊢
   rw [if_pos o2]
   have i1:=ih n (s.set 0 (E.ins s).x) (E.kn' s kn room) (E.room' s kn room) (by omega)
   have n1:=look_n E n (s.set 0 (E.ins s).x) (E.kn' s kn room) (E.room' s kn room)
   dsimp only at h ⊢
   generalize look E n (s.set 0 (E.ins s).x) (E.kn' s kn room) (E.room' s kn room)=r at *
   by_cases hr:(r.ok||r.over)=true
   ·rw [if_pos hr] at h ⊢
    rw [i1 h]
    have:r.ok=true:=by simpa [h] using hr
    rw [if_pos (by simp [this])]
   ·rw [if_neg hr] at h ⊢
    have hr2:r.ok=false∧r.over=false:=by simpa using hr
    rw [i1 hr2.2]
    rw [if_neg (by simp [hr2.1])]
    exact ih r.n _ r.kn r.room (by omega) h
  rw [if_neg o2] at h ⊢
  rw [if_neg o2]
  by_cases o11:(E.ins s).op=11
  ·rw [if_pos o11] at h ⊢
   rw [if_pos o11]
   have i1:=ih n (s.set 0 (gt s 0+1)) (E.kn' s kn room) (E.room' s kn room) (by omega)
   have n1:=look_n E n (s.set 0 (gt s 0+1)) (E.kn' s kn room) (E.room' s kn room)
   dsimp only at h ⊢
   generalize look E n (s.set 0 (gt s 0+1)) (E.kn' s kn room) (E.room' s kn room)=r at *
   by_cases hr:r.over=true
   ·rw [if_pos hr] at h;cases h
   ·rw [if_neg hr] at h ⊢
    have hr2:r.over=false:=by simpa using hr
    rw [i1 hr2]
    dsimp only
    rw [if_neg (by simp)]
    by_cases hk:(apartP s (E.ins s) r.st r.ok).2=true
    ·rw [if_pos hk] at h ⊢
     rw [if_pos hk]
     exact ih r.n _ r.kn r.room (by omega) h
    ·rw [if_neg hk,if_neg hk]
  rw [if_neg o11] at h ⊢
  rw [if_neg o11]
  by_cases hk:(oneP E.t s (E.ins s)).2=true
  ·rw [if_pos hk] at h ⊢
   rw [if_pos hk]
   exact ih n _ _ _ (by omega) h
  ·rw [if_neg hk,if_neg hk]
theorem search_more (E:Env) (b:Int) (d:Nat):∀ (f p n:Nat) (kn:List Bool) (room:Int),(search E b f p n kn room).2=false→search E (b+d) f p (n+d) kn room=search E b f p n kn room
 | 0,p,n,kn,room,_=>by
  simp only [search]
  rw [show b+(d:Int)-((n+d:Nat):Int)=b-n by omega]
 | f+1,p,n,kn,room,h=>by
  have m:=look_more E d n n (startSt p) kn room (Nat.le_refl _)
  rw [search] at h ⊢
  conv=>rhs;rw [search]
  generalize look E n (startSt p) kn room=r at *
  by_cases ho:r.over=true
  ·rw [if_pos ho] at h;cases h
  ·have ho2:r.over=false:=by simpa using ho
   rw [if_neg ho] at h ⊢
   rw [m ho2]
   dsimp only
   rw [if_neg (by simp)]
   by_cases hk:r.ok=true
   ·rw [if_pos hk,if_pos hk,show b+(d:Int)-((r.n+d:Nat):Int)=b-r.n by omega]
   ·rw [if_neg hk] at h ⊢
    rw [if_neg hk]
    exact search_more E b d f (p+1) r.n r.kn r.room h
theorem foundAt_get (p:Int) (r:Sta) (h:r.length=44) (j:Nat) (hj:j<20):(foundAt p r).getD j 0=if j=0 then p else if j=1 then gt r 1 else gt r (2+j):=by
 unfold foundAt
 rcases j with _ | _ | j
 ·rfl
 ·rfl
 ·rw [if_neg (by omega),if_neg (by omega)]
  unfold gt
  rw [List.getD_eq_getElem?_getD,List.getElem?_cons_succ,List.getElem?_cons_succ,List.getElem?_take,if_pos (by omega),List.getElem?_drop,List.getD_eq_getElem?_getD]
  congr 2;omega
theorem nowhere_get (j:Nat) (hj:j<20):nowhere.getD j 0=-1:=by
 unfold nowhere
 rw [List.getD_eq_getElem?_getD,List.getElem?_replicate,if_pos hj];rfl
theorem search_inside (E:Env) (hc:codeOk E.c) (hc0:0<E.c.length) (budget:Int):∀ (f p n:Nat) (kn:List Bool) (room:Int),p+f≤E.t.size+1→(0≤room∧room≤5000)→(n:Int)≤budget→(search E budget f p n kn room).2=false →
  (search E budget f p n kn room).1.at'.length=20∧(∀ i,i<10→((search E budget f p n kn room).1.at'.getD (2*i) 0=-1∧(search E budget f p n kn room).1.at'.getD (2*i+1) 0=-1)∨((search E budget f p n kn room).1.ok=true∧0≤(search E budget f p n kn room).1.at'.getD (2*i) 0∧(search E budget f p n kn room).1.at'.getD (2*i) 0≤(search E budget f p n kn room).1.at'.getD (2*i+1) 0∧(search E budget f p n kn room).1.at'.getD (2*i+1) 0≤E.t.size)) ∧
  ((search E budget f p n kn room).1.ok=true→(p:Int)≤(search E budget f p n kn room).1.at'.getD 0 0∧budget-n+((search E budget f p n kn room).1.at'.getD 0 0-p+1)≤(search E budget f p n kn room).1.steps)∧((search E budget f p n kn room).1.ok=false→budget-n+f≤(search E budget f p n kn room).1.steps)∧(search E budget f p n kn room).1.steps≤budget∧((search E budget f p n kn room).1.ok=false→(search E budget f p n kn room).1.at'=nowhere)
 | 0,p,n,kn,room,_,_,hn,_=>by
  simp only [search]
  refine ⟨by simp [nowhere],fun i hi=>.inl ⟨nowhere_get _ (by omega),nowhere_get _ (by omega)⟩,fun h=>(by cases h),fun _=>by omega,by omega,fun _=>trivial⟩
 | f+1,p,n,kn,room,hp,hr,hn,ho=>by
  have hst:=startSt_good E.c.length E.t.size p hc0 (by omega)
  have hg:=look_good E hc n n (startSt p) kn room (Nat.le_refl _) hst hr
  have hpos:=look_pos E hc n n (startSt p) kn room (Nat.le_refl _) hst hr
  have hneg:=look_neg E hc n n (startSt p) kn room (Nat.le_refl _) hst hr (startSt_neg p)
  have hlt:(look E n (startSt p) kn room).over=false→(look E n (startSt p) kn room).n<n:=fun e=>by
   cases n with
   | zero=>rw [look_zero] at e;cases e
   | succ n=>exact look_n_lt E n _ kn room
  rw [search] at ho ⊢
  generalize look E n (startSt p) kn room=r at *
  by_cases hov:r.over=true
  ·rw [if_pos hov] at ho;cases ho
  have hlt:=hlt (by simpa using hov)
  rw [if_neg hov] at ho ⊢
  by_cases hok:r.ok=true
  ·rw [if_pos hok]
   have h1:=hpos hok
   have h2:=hg.1 hok
   have h3:=hneg hok
   have h4:=h2.pos1
   have e1:gt (startSt p) 1=p:=rfl
   rw [e1] at h1
   have hge:=foundAt_get p r.st h2.len
   dsimp only
   refine ⟨foundAt_len _ _ h2.len,fun i hi=>?_,fun _=>?_,fun h=>(by cases h),by omega,fun h=>(by cases h)⟩
   ·rw [hge _ (by omega),hge _ (by omega)]
    by_cases i0:i=0
    ·subst i0
     exact .inr ⟨rfl,by simp,by simp;omega,by simp;omega⟩
    ·rw [if_neg (by omega),if_neg (by omega),if_neg (by omega),if_neg (by omega)]
     rcases h3 i hi with a | a
     ·exact .inl a
     ·rcases h2.place i hi with b | b
      ·omega
      ·exact .inr ⟨rfl,b.1,b.2.1,b.2.2⟩
   ·rw [hge 0 (by omega),if_pos rfl];omega
  ·rw [if_neg hok] at ho ⊢
   obtain ⟨a1,a2,a3,a4,a5,a6⟩:=search_inside E hc hc0 budget f (p+1) r.n r.kn r.room (by omega) hg.2.2.1 (by omega) ho
   refine ⟨a1,a2,fun h=>?_,fun h=>?_,a5,a6⟩
   ·have:=a3 h;omega
   ·have:=a4 h;omega
theorem searchAll_inside {c:List Ins} (hc:codeOk c) (hc0:0<c.length) (t:ByteArray) (policy mask room budget:Int) (frm:Nat) (hf:frm≤t.size) (hr:0≤room∧room≤5000) (hb:0≤budget∧budget≤10000) (h:(searchAll c t policy mask room budget frm).2=false):Inside t.size frm (searchAll c t policy mask room budget frm).1:=by
 unfold searchAll at h ⊢
 obtain ⟨a1,a2,a3,a4,a5,a6⟩:=search_inside (envOf c t policy mask) hc hc0 budget (t.size+1-frm) frm budget.toNat (List.replicate (c.length*(t.size+1)*12) false) room (by show frm+(t.size+1-frm)≤t.size+1;omega) hr (by omega) h
 generalize (search (envOf c t policy mask) budget (t.size+1-frm) frm budget.toNat (List.replicate (c.length*(t.size+1)*12) false) room).1=S at *
 refine ⟨a1,?_,by omega,a2,fun h=>?_,fun h=>?_,fun h j hj=>by rw [a6 h];exact nowhere_get j hj⟩
 ·cases e:S.ok
  ·have:=a4 e;omega
  ·have:=a3 e;omega
 ·have:=a3 h;omega
 ·have:=a4 h;omega
theorem findR_ok (p t:ByteArray) (frm:Nat) (policy mask room budget:Int) (h:(checkR p).1=0) (hT:t.size≤60) (hf:frm≤t.size) (ho:Opt policy mask room budget) :
  findR p t frm policy mask room budget=if (searchAll (codeR p).1 t policy mask room budget frm).2 then (fnd0,14) else ((searchAll (codeR p).1 t policy mask room budget frm).1,0):=by
 obtain ⟨h1,h2,h3,h4⟩:=ho
 have hm:mayFind t.size (frm:Int) policy mask room budget=0:=by
  unfold mayFind maySelect
  rw [if_neg (by omega),if_pos ⟨by rw [decide_eq_true_eq];omega,by omega⟩]
 unfold findR
 rw [codeR_err,if_neg (by omega),hm,if_neg (by omega),Int.toNat_natCast]
theorem fwd_none {q:Int} {x:Ins} (h:x.op≠2∧x.op≠3∧x.op≠11):Fwd q x:=⟨fun e=>absurd e h.1,fun e=>absurd e h.2.1,fun e=>absurd e h.2.2⟩
theorem fwd_spl {q x y:Int} {late:Bool} (h:q<x∧q<y):Fwd q (spl x y late):=by
 cases late
 ·exact ⟨fun _=>h,fun e=>by simp [spl] at e,fun e=>by simp [spl] at e⟩
 ·exact ⟨fun _=>⟨h.2,h.1⟩,fun e=>by simp [spl] at e,fun e=>by simp [spl] at e⟩
theorem code_fwd:∀ (r:Re) (p d:Int) (i:Nat) (x:Ins),(r.code p d)[i]?=some x→Fwd (p+i) x
 | .eps,p,d,i,x,h=>by simp [Re.code] at h
 | .one s,p,d,i,x,h=>by
  rcases get_cons h with ⟨rfl,rfl⟩ | ⟨j,rfl,h2⟩
  ·exact fwd_none (by simp)
  ·simp at h2
 | .back s,p,d,i,x,h=>by
  rcases get_cons h with ⟨rfl,rfl⟩ | ⟨j,rfl,h2⟩
  ·exact fwd_none (by simp)
  ·simp at h2
 | .head,p,d,i,x,h=>by
  rcases get_cons h with ⟨rfl,rfl⟩ | ⟨j,rfl,h2⟩
  ·exact fwd_none (by simp)
  ·simp at h2
 | .tail,p,d,i,x,h=>by
  rcases get_cons h with ⟨rfl,rfl⟩ | ⟨j,rfl,h2⟩
  ·exact fwd_none (by simp)
  ·simp at h2
 | .cat a b,p,d,i,x,h=>by
  rcases get_app h with ⟨_,h⟩ | ⟨hl,h⟩
  ·exact code_fwd a _ _ _ x h
  ·rw [Re.code_len] at h hl;exact (code_fwd b _ _ _ x h).at (by omega)
 | .alt a b,p,d,i,x,h=>by
  rcases get_cons h with ⟨rfl,rfl⟩ | ⟨j,rfl,h⟩
  ·exact ⟨fun _=>by dsimp only;omega,fun e=>by simp at e,fun e=>by simp at e⟩
  rcases get_app h with ⟨_,h⟩ | ⟨hl,h⟩
  ·exact (code_fwd a _ _ _ x h).at (by omega)
  rw [Re.code_len] at h hl
  rcases get_cons h with ⟨e,rfl⟩ | ⟨k,e,h⟩
  ·exact ⟨fun e=>by simp at e,fun _=>by dsimp only;omega,fun e=>by simp at e⟩
  ·exact (code_fwd b _ _ _ x h).at (by omega)
 | .cap k a,p,d,i,x,h=>by
  rcases get_cons h with ⟨rfl,rfl⟩ | ⟨j,rfl,h⟩
  ·exact fwd_none (by simp)
  rcases get_app h with ⟨_,h⟩ | ⟨hl,h⟩
  ·exact (code_fwd a _ _ _ x h).at (by omega)
  rcases get_cons h with ⟨e,rfl⟩ | ⟨k,e,h⟩
  ·exact fwd_none (by simp)
  ·simp at h
 | .sub s a,p,d,i,x,h=>by
  rcases get_cons h with ⟨rfl,rfl⟩ | ⟨j,rfl,h⟩
  ·exact ⟨fun e=>by simp at e,fun e=>by simp at e,fun _=>by dsimp only;omega⟩
  rcases get_app h with ⟨_,h⟩ | ⟨hl,h⟩
  ·exact (code_fwd a _ _ _ x h).at (by omega)
  rcases get_cons h with ⟨e,rfl⟩ | ⟨k,e,h⟩
  ·exact fwd_none (by simp)
  ·simp at h
 | .opt late a,p,d,i,x,h=>by
  rcases get_cons h with ⟨rfl,rfl⟩ | ⟨j,rfl,h⟩
  ·exact fwd_spl (by omega)
  ·exact (code_fwd a _ _ _ x h).at (by omega)
 | .loop late a,p,d,i,x,h=>by
  rcases get_cons h with ⟨rfl,rfl⟩ | ⟨j,rfl,h2⟩
  ·exact fwd_spl (by omega)
  rcases get_cons h2 with ⟨rfl,rfl⟩ | ⟨k,rfl,h3⟩
  ·exact fwd_none (by simp)
  rcases get_app h3 with ⟨_,h4⟩ | ⟨hl,h4⟩
  ·exact (code_fwd a _ _ _ x h4).at (by omega)
  rcases get_cons h4 with ⟨e,rfl⟩ | ⟨k,e,h5⟩
  ·exact fwd_none (by simp)
  ·simp at h5
theorem lies_y (A:Int→Att):∀ (r:Re) (p d:Int) (a:Att),Lies A r p a→∀ i:Nat,i<r.len→(A (p+i)).y=a.y∨SubAt (r.code p d) p i
 | .eps,p,d,a,h,i,hi=>by simp [Re.len] at hi
 | .one s,p,d,a,h,i,hi=>by
  obtain rfl:i=0:=by simp [Re.len] at hi;exact hi
  rw [show p+((0:Nat):Int)=p by omega,h.1];exact .inl rfl
 | .back s,p,d,a,h,i,hi=>by
  obtain rfl:i=0:=by simp [Re.len] at hi;exact hi
  rw [show p+((0:Nat):Int)=p by omega,h.1];exact .inl rfl
 | .head,p,d,a,h,i,hi=>by
  obtain rfl:i=0:=by simp [Re.len] at hi;exact hi
  rw [show p+((0:Nat):Int)=p by omega,h.1];exact .inl rfl
 | .tail,p,d,a,h,i,hi=>by
  obtain rfl:i=0:=by simp [Re.len] at hi;exact hi
  rw [show p+((0:Nat):Int)=p by omega,h.1];exact .inl rfl
 | .cat x y,p,d,a,h,i,hi=>by
  simp only [Re.len] at hi
  by_cases hx:i<x.len
  ·rcases lies_y A x p d a h.1 i hx with e | e
   ·exact .inl e
   ·exact .inr (e.left _)
  ·obtain ⟨k,rfl⟩:∃ k,i=x.len+k:=⟨i-x.len,by omega⟩
   rcases lies_y A y (p+x.len) d a h.2 k (by omega) with e | e
   ·left;rw [← e];congr 2;omega
   ·right;have:=e.right (x.code p d) (p:=p) (by rw [Re.code_len]);rw [Re.code_len] at this;exact this
 | .alt x y,p,d,a,h,i,hi=>by
  simp only [Re.len] at hi
  rcases i with _ | i
  ·rw [show p+((0:Nat):Int)=p by omega,h.1];exact .inl rfl
  by_cases hx:i<x.len
  ·rcases lies_y A x (p+1) d a h.2.1 i hx with e | e
   ·left;rw [← e];congr 2;omega
   ·exact .inr ((e.left _).cons _ rfl)
  by_cases hx2:i=x.len
  ·subst hx2
   left;rw [← Lies.last h.2.1];congr 2;omega
  ·obtain ⟨k,rfl⟩:∃ k,i=x.len+(k+1):=⟨i-x.len-1,by omega⟩
   rcases lies_y A y (p+x.len+2) d a h.2.2 k (by omega) with e | e
   ·left;rw [← e];congr 2;omega
   ·right
    have h1:=e.cons (p:=p+1+x.len) ⟨3,p+x.len+2+y.len,0,[]⟩ (by omega)
    have h2:=h1.right (p:=p+1) (x.code (p+1) d) (by rw [Re.code_len])
    rw [Re.code_len] at h2
    exact h2.cons _ rfl
 | .cap g x,p,d,a,h,i,hi=>by
  simp only [Re.len] at hi
  rcases i with _ | i
  ·rw [show p+((0:Nat):Int)=p by omega,h.1];exact .inl rfl
  by_cases hx:i<x.len
  ·rcases lies_y A x (p+1) d _ h.2.1 i hx with e | e
   ·left;rw [show p+((i+1:Nat):Int)=p+1+i by omega,e]
   ·exact .inr ((e.left _).cons _ rfl)
  ·left;rw [show p+((i+1:Nat):Int)=p+1+x.len by omega,Lies.last h.2.1]
 | .sub s x,p,d,a,h,i,hi=>by
  simp only [Re.len] at hi
  rcases i with _ | i
  ·rw [show p+((0:Nat):Int)=p by omega,h.1];exact .inl rfl
  ·exact .inr ⟨0,_,by omega,rfl,rfl,by dsimp only;omega⟩
 | .opt late x,p,d,a,h,i,hi=>by
  simp only [Re.len] at hi
  rcases i with _ | i
  ·rw [show p+((0:Nat):Int)=p by omega,h.1];exact .inl rfl
  rcases lies_y A x (p+1) d a h.2 i (by omega) with e | e
  ·left;rw [← e];congr 2;omega
  ·exact .inr (e.cons _ rfl)
 | .loop late x,p,d,a,h,i,hi=>by
  simp only [Re.len] at hi
  rcases i with _ | i
  ·rw [show p+((0:Nat):Int)=p by omega,h.1];exact .inl rfl
  rcases i with _ | i
  ·left;rw [show p+((0+1:Nat):Int)=p+1 by omega,h.2.1]
  by_cases hx:i<x.len
  ·rcases lies_y A x (p+2) (d+1) _ h.2.2.1 i hx with e | e
   ·left;rw [show p+((i+1+1:Nat):Int)=p+2+i by omega,e]
   ·exact .inr (((e.left _).cons (p:=p+1) _ (by omega)).cons _ rfl)
  ·left;rw [show p+((i+1+1:Nat):Int)=p+2+x.len by omega,Lies.last h.2.2.1]
theorem pattern_kn (p:ByteArray) (h:(checkR p).1=0):∃ A,Kn (codeR p).1 A:=by
 obtain ⟨A,f,hK,hA,hc⟩:=pattern_lies p h
 have hlen:(codeR p).1.length=f.len+1:=by rw [hc,List.length_append,Re.code_len];rfl
 refine ⟨A,hK,fun q hq=>?_,fun q hq hs=>?_⟩
 ·have hl:q<(f.code 0 0).length:=by rw [Re.code_len];omega
  have:=code_fwd f 0 0 q ((codeR p).1.getD q ins0) (by
   rw [hc,List.getD_eq_getElem?_getD,List.getElem?_append_left hl,List.getElem?_eq_getElem hl];rfl)
  exact this.at (by omega)
 ·by_cases hl:q<f.len
  ·rcases lies_y A f 0 0 _ hA q hl with e | ⟨j,x,h1,h2,h3,h4⟩
   ·rw [Int.zero_add] at e;exact e
   ·exfalso
    have hj:(codeR p).1.getD j ins0=x:=by
     rw [hc,List.getD_eq_getElem?_getD,List.getElem?_append_left (List.getElem?_eq_some_iff.1 h2).1,h2];rfl
    have:=any_of_take (codeR p).1 (isOver q) j q h1 (by omega) (by
     rw [hj];unfold isOver;rw [decide_eq_true_eq];exact ⟨h3,by omega⟩)
    unfold inSub at hs
    rw [this] at hs;cases hs
  ·have:(q:Int)=((codeR p).1.length-1:Nat):=by omega
   rw [this,hK.stop]
theorem cnt_le (k:Nat) (s:Sta):cnt k s≤k:=by
 unfold cnt;refine Nat.le_trans List.countP_le_length ?_;simp
theorem cnt_congr {k:Nat} {s u:Sta} (h1:gt u 1=gt s 1) (h:∀ j,j<k→gt u (32+j)=gt s (32+j)):cnt k u=cnt k s:=by
 unfold cnt
 refine List.countP_congr fun j hj=>?_
 rw [List.mem_range] at hj
 rw [h1,h j hj]
theorem cnt_mono {k:Nat} {s u:Sta} (h1:gt u 1=gt s 1) (h:∀ j,j<k→gt s (32+j)=gt s 1→gt u (32+j)=gt s 1):cnt k u≤cnt k s:=by
 induction k with
 | zero=>exact Nat.le_refl _
 | succ k ih =>
  have:=ih fun j hj=>h j (by omega)
  have hk:=h k (by omega)
  rw [cnt_succ,cnt_succ,h1]
  by_cases e:gt s (32+k)=gt s 1
  ·rw [hk e,e];simpa using this
  ·have:(gt s (32+k) != gt s 1)=true:=by simpa using e
   rw [this];split <;> simp <;> omega
theorem lex_lt {a b c d M:Nat} (h:a<c) (hb:b<M):a*M+b<c*M+d:=by
 have:=Nat.mul_le_mul_right M (show a+1≤c from h)
 rw [Nat.add_mul] at this
 omega
theorem mu_m {E:Env} {A:Int→Att} {s u:Sta} (hp:gt u 1=gt s 1) (hm:mOf A u<mOf A s):mu E A u<mu E A s:=by
 unfold mu
 have:posOf u=posOf s:=by unfold posOf;rw [hp]
 rw [this]
 exact lex_lt (by omega) (by omega)
theorem mu_pc {E:Env} {A:Int→Att} {s u:Sta} (hs:Good E.c.length E.t.size s) (hu:Good E.c.length E.t.size u) (hp:gt u 1=gt s 1) (hm:mOf A u≤mOf A s) (hpc:gt s 0<gt u 0):mu E A u<mu E A s:=by
 by_cases e:mOf A u<mOf A s
 ·exact mu_m hp e
 ·have e1:mOf A u=mOf A s:=by omega
  have:posOf u=posOf s:=by unfold posOf;rw [hp]
  unfold mu
  rw [this,e1]
  have a1:=hs.pc0;have a2:=hu.pc0;have a3:=hs.pc1;have a4:=hu.pc1
  unfold pcOf
  omega
theorem mu_pos {E:Env} {A:Int→Att} {s u:Sta} (hs:Good E.c.length E.t.size s) (hu:Good E.c.length E.t.size u) (hd:(A (gt u 0)).d≤11) (hp:gt s 1<gt u 1):mu E A u<mu E A s:=by
 have:=cnt_le (A (gt u 0)).d.toNat u
 unfold mu
 refine lex_lt ?_ (by omega)
 have a1:=hs.pos0;have a2:=hu.pos0;have a3:=hs.pos1;have a4:=hu.pos1
 unfold posOf mOf
 omega
theorem nice_keep {E:Env} {A:Int→Att} {s u:Sta} (hK:Kn E.c A) (h:Nice E A s) (gu:Good E.c.length E.t.size u) (hd:(A (gt u 0)).d=(A (gt s 0)).d) (hp:gt s 1≤gt u 1) (hpc:gt s 0<gt u 0) (hm:∀ j,j<12→gt u (32+j)=gt s (32+j)) :
  Nice E A u∧mu E A u<mu E A s∧gt s 1≤gt u 1∧(gt u 1=gt s 1→∀ j,j<12→gt s (32+j)=gt s 1→gt u (32+j)=gt s 1):=by
 have hd11:=hK.dOk gu.pc0 gu.pc1
 refine ⟨⟨gu,fun j hj=>?_,fun i j hij hj=>?_⟩,?_,hp,fun _ j hj e=>by rw [hm j hj];exact e⟩
 ·rw [hm j (by omega)];have:=h.le j (by omega);omega
 ·rw [hm j (by omega),hm i (by omega)];exact h.mono i j hij (by omega)
 ·by_cases e:gt u 1=gt s 1
  ·refine mu_pc h.g gu e ?_ hpc
   unfold mOf
   rw [hd]
   exact Nat.le_of_eq (cnt_congr e fun j hj=>hm j (by omega))
  ·exact mu_pos h.g gu hd11.2 (by omega)
theorem step_one {E:Env} {A:Int→Att} {s:Sta} (hK:Kn E.c A) (h:Nice E A s) (h2:(E.ins s).op≠2) (h11:(E.ins s).op≠11) (h12:(E.ins s).op≠12) (h13:(E.ins s).op≠13) (hk:(oneP E.t s (E.ins s)).2=true) :
  (Nice E A (oneP E.t s (E.ins s)).1∧mu E A (oneP E.t s (E.ins s)).1<mu E A s∧gt s 1≤gt (oneP E.t s (E.ins s)).1 1∧(gt (oneP E.t s (E.ins s)).1 1=gt s 1→∀ j,j<12→gt s (32+j)=gt s 1→gt (oneP E.t s (E.ins s)).1 (32+j)=gt s 1))
  ∧ (A (gt (oneP E.t s (E.ins s)).1 0)).y=(A (gt s 0)).y:=by
 have gg:=oneP_good hK.k.ok h.g h2 h11 h13 hk
 have hi:=hK.k.ok (pcOf s) h.g.pcOf_lt
 have hpp:=oneP_pos h.g (E.ins s) hi hk
 obtain ⟨hn1,hru⟩:=known_att hK.k h.g.pcOf_lt h13
 have hfw:=hK.fwd (pcOf s) hn1
 have hpc:((pcOf s:Nat):Int)=gt s 0:=by have:=h.g.pc0;unfold pcOf;omega
 rw [hpc] at hru hfw
 have hxe:E.ins s=E.c.getD (pcOf s) ins0:=rfl
 rw [← hxe] at hru hi hfw
 rw [← hxe] at gg
 generalize E.ins s=x at *
 obtain ⟨r1,r2,r3,r4,r5,r6,r7,r11,r12,rB,rd,rG,ro⟩:=hru
 have hl:=h.g.len
 have q0:∀ (i:Nat) (u v:Int),gt ((s.set i u).set 0 v) 0=v:=fun i u v=>gt_set_same _ _ _ (by rw [List.length_set];omega)
 unfold oneP at gg hk hpp ⊢
 by_cases o1:x.op=1
 ·rw [if_pos o1] at gg hpp ⊢;dsimp only at gg hpp ⊢
  have e:=r1 (by omega)
  refine ⟨nice_keep hK h gg (by rw [q0,e]) hpp (by rw [q0];omega) fun j hj=>?_,by rw [q0,e]⟩
  rw [gt_pc (by omega),gt_set_ne _ _ _ _ (by omega)]
 rw [if_neg o1] at gg hk hpp ⊢
 by_cases o3:x.op=3
 ·rw [if_pos o3] at gg hpp ⊢;dsimp only at gg hpp ⊢
  have e:=r3 o3
  refine ⟨nice_keep hK h gg (by rw [gt_pc0 hl,e]) hpp (by rw [gt_pc0 hl];exact hfw.2.1 o3) fun j hj=>gt_pc (by omega),by rw [gt_pc0 hl,e]⟩
 rw [if_neg o3] at gg hk hpp ⊢
 by_cases o4:x.op=4
 ·rw [if_pos o4] at gg hpp ⊢;dsimp only at gg hpp ⊢
  obtain ⟨e1,e2,e3⟩:=r4 o4
  have ed:(A (gt s 0+1)).d=(A (gt s 0)).d+1:=by rw [e2]
  have hp1:gt ((s.set (32+x.x.toNat) (gt s 1)).set 0 (gt s 0+1)) 1=gt s 1:=by rw [gt_pc (by omega),gt_set_ne _ _ _ _ (by omega)]
  have hm:∀ j,gt ((s.set (32+x.x.toNat) (gt s 1)).set 0 (gt s 0+1)) (32+j)=if j=x.x.toNat then gt s 1 else gt s (32+j):=fun j=>by
   rw [gt_pc (by omega),gt_set]
   by_cases ej:j=x.x.toNat
   ·rw [if_pos ⟨by omega,by omega⟩,if_pos ej]
   ·rw [if_neg (by omega),if_neg ej]
  have hsame:∀ j,j<12→gt s (32+j)=gt s 1→gt ((s.set (32+x.x.toNat) (gt s 1)).set 0 (gt s 0+1)) (32+j)=gt s 1:=fun j hj e=>by
   rw [hm];split
   ·rfl
   ·exact e
  refine ⟨⟨⟨gg,fun j hj=>?_,fun i j hij hj=>?_⟩,?_,hpp,fun _=>hsame⟩,by rw [q0,e2]⟩
  ·rw [q0,ed] at hj
   rw [hm,hp1]
   split
   ·omega
   ·exact h.le j (by omega)
  ·rw [q0,ed] at hj
   rw [hm,hm]
   by_cases ej:j=x.x.toNat
   ·rw [if_pos ej]
    split
    ·omega
    ·exact h.le i (by omega)
   ·rw [if_neg ej,if_neg (by omega)]
    exact h.mono i j hij (by omega)
  ·refine mu_pc h.g gg hp1 ?_ (by rw [q0];omega)
   unfold mOf
   rw [q0,ed,show ((A (gt s 0)).d+1).toNat=(A (gt s 0)).d.toNat+1 by omega,cnt_succ]
   have:gt ((s.set (32+x.x.toNat) (gt s 1)).set 0 (gt s 0+1)) (32+(A (gt s 0)).d.toNat)=gt s 1:=by rw [hm,if_pos (by omega)]
   rw [this,hp1]
   simp only [bne_self_eq_false,Bool.false_eq_true,if_false,Nat.add_zero]
   exact Nat.le_of_eq (cnt_congr hp1 fun j hj=>by rw [hm,if_neg (by omega)])
 rw [if_neg o4] at gg hk hpp ⊢
 by_cases o5:x.op=5
 ·rw [if_pos o5] at gg hk hpp ⊢;dsimp only at gg hk hpp ⊢
  obtain ⟨e1,e2,e3,e4⟩:=r5 o5
  have ed:(A x.x).d=(A (gt s 0)).d-1:=by rw [e1]
  have hne:gt s (32+x.y.toNat)≠gt s 1:=by simpa using hk
  refine ⟨⟨⟨gg,fun j hj=>?_,fun i j hij hj=>?_⟩,?_,hpp,fun _ j hj e=>by rw [gt_pc (by omega)];exact e⟩,by rw [gt_pc0 hl,e1]⟩
  ·rw [gt_pc0 hl,ed] at hj
   rw [gt_pc (by omega),gt_pc (by omega)];exact h.le j (by omega)
  ·rw [gt_pc0 hl,ed] at hj
   rw [gt_pc (by omega),gt_pc (by omega)];exact h.mono i j hij (by omega)
  ·refine mu_m (gt_pc (by omega)) ?_
   unfold mOf
   rw [gt_pc0 hl,ed,show (A (gt s 0)).d.toNat=((A (gt s 0)).d-1).toNat+1 by omega,cnt_succ]
   rw [cnt_congr (u:=s.set 0 x.x) (s:=s) (gt_pc (by omega)) fun j hj=>gt_pc (by omega)]
   have:(gt s (32+((A (gt s 0)).d-1).toNat) != gt s 1)=true:=by
    rw [show ((A (gt s 0)).d-1).toNat=x.y.toNat by omega];simpa using hne
   rw [this];simp
 rw [if_neg o5] at gg hk hpp ⊢
 by_cases o6:x.op=6
 ·rw [if_pos o6] at gg hpp ⊢;dsimp only at gg hpp ⊢
  have hi6:=hi.2.2.2.2.1 (by omega)
  obtain ⟨e,_⟩:=r6 o6
  refine ⟨nice_keep hK h gg (by rw [q0,e]) hpp (by rw [q0];omega) fun j hj=>?_,by rw [q0,e]⟩
  rw [gt_pc (by omega),gt_set_ne _ _ _ _ (by omega)]
 rw [if_neg o6] at gg hk hpp ⊢
 by_cases o7:x.op=7
 ·rw [if_pos o7] at gg hpp ⊢;dsimp only at gg hpp ⊢
  have hi7:=hi.2.2.2.2.1 (by omega)
  obtain ⟨g,_,e⟩:=r7 o7
  have q1:gt (((s.set (2+(2*x.x).toNat) (gt s (22+x.x.toNat))).set (2+(2*x.x+1).toNat) (gt s 1)).set 0 (gt s 0+1)) 0=gt s 0+1:=gt_set_same _ _ _ (by simp [List.length_set];omega)
  refine ⟨nice_keep hK h gg (by rw [q1,e]) hpp (by rw [q1];omega) fun j hj=>?_,by rw [q1,e]⟩
  rw [gt_pc (by omega),gt_set_ne _ _ _ _ (by omega),gt_set_ne _ _ _ _ (by omega)]
 rw [if_neg o7] at gg hk hpp ⊢
 by_cases o8:x.op=8
 ·rw [if_pos o8] at gg hk hpp ⊢
  have e:=r1 (by omega)
  unfold backP at gg hk hpp ⊢
  by_cases b1:gt s (2+(2*x.x).toNat)<0
  ·rw [if_pos b1] at hk;cases hk
  rw [if_neg b1] at gg hk hpp ⊢
  by_cases b2:(E.t.size:Int)<gt s 1+(gt s (2+(2*x.x+1).toNat)-gt s (2+(2*x.x).toNat))
  ·rw [if_pos b2] at hk;cases hk
  rw [if_neg b2] at gg hk hpp ⊢
  dsimp only at gg hk hpp ⊢
  refine ⟨nice_keep hK h gg (by rw [q0,e]) hpp (by rw [q0];omega) fun j hj=>?_,by rw [q0,e]⟩
  rw [gt_pc (by omega),gt_set_ne _ _ _ _ (by omega)]
 rw [if_neg o8] at gg hk hpp ⊢
 by_cases o9:x.op=9
 ·rw [if_pos o9] at gg hpp ⊢;dsimp only at gg hpp ⊢
  have e:=r1 (by omega)
  exact ⟨nice_keep hK h gg (by rw [gt_pc0 hl,e]) hpp (by rw [gt_pc0 hl];omega) fun j hj=>gt_pc (by omega),by rw [gt_pc0 hl,e]⟩
 rw [if_neg o9] at gg hk hpp ⊢
 by_cases o10:x.op=10
 ·rw [if_pos o10] at gg hpp ⊢;dsimp only at gg hpp ⊢
  have e:=r1 (by omega)
  exact ⟨nice_keep hK h gg (by rw [gt_pc0 hl,e]) hpp (by rw [gt_pc0 hl];omega) fun j hj=>gt_pc (by omega),by rw [gt_pc0 hl,e]⟩
 ·exfalso;omega
theorem step_split {E:Env} {A:Int→Att} {s:Sta} (hK:Kn E.c A) (h:Nice E A s) (h2:(E.ins s).op=2) :
  (Nice E A (s.set 0 (E.ins s).x)∧mu E A (s.set 0 (E.ins s).x)<mu E A s∧(A (gt (s.set 0 (E.ins s).x) 0)).y=(A (gt s 0)).y) ∧
  (Nice E A (s.set 0 (E.ins s).y)∧mu E A (s.set 0 (E.ins s).y)<mu E A s∧(A (gt (s.set 0 (E.ins s).y) 0)).y=(A (gt s 0)).y):=by
 have h13:(E.ins s).op≠13:=by omega
 obtain ⟨hn1,hru⟩:=known_att hK.k h.g.pcOf_lt h13
 have hfw:=hK.fwd (pcOf s) hn1
 have hi:=hK.k.ok (pcOf s) h.g.pcOf_lt
 have hpc:((pcOf s:Nat):Int)=gt s 0:=by have:=h.g.pc0;unfold pcOf;omega
 rw [hpc] at hru hfw
 have hxe:E.ins s=E.c.getD (pcOf s) ins0:=rfl
 rw [← hxe] at hru hi hfw
 have i2:=hi.1 h2
 obtain ⟨a1,a2⟩:=hru.2.1 h2
 obtain ⟨f1,f2⟩:=hfw.1 h2
 have hl:=h.g.len
 have key:∀ v:Int,0≤v→v<E.c.length→A v=A (gt s 0)→gt s 0<v→Nice E A (s.set 0 v)∧mu E A (s.set 0 v)<mu E A s∧(A (gt (s.set 0 v) 0)).y=(A (gt s 0)).y:=fun v v0 v1 e f=>by
  obtain ⟨x1,x2,_⟩:=nice_keep hK h (h.g.at_pc v v0 v1) (by rw [gt_pc0 hl,e]) (by rw [gt_pc (by omega)];omega) (by rw [gt_pc0 hl];exact f) fun j hj=>gt_pc (by omega)
  exact ⟨x1,x2,by rw [gt_pc0 hl,e]⟩
 exact ⟨key _ i2.1 i2.2.1 a1 f1,key _ i2.2.2.1 i2.2.2.2 a2 f2⟩
theorem step_in {E:Env} {A:Int→Att} {s:Sta} (hK:Kn E.c A) (h:Nice E A s) (ho:(E.ins s).op=11) :
  Nice E A (s.set 0 (gt s 0+1))∧mu E A (s.set 0 (gt s 0+1))<mu E A s∧(A (gt (s.set 0 (gt s 0+1)) 0)).y=(E.ins s).y∧0<(E.ins s).y:=by
 have h13:(E.ins s).op≠13:=by omega
 obtain ⟨hn1,hru⟩:=known_att hK.k h.g.pcOf_lt h13
 have hpc:((pcOf s:Nat):Int)=gt s 0:=by have:=h.g.pc0;unfold pcOf;omega
 rw [hpc] at hru
 have hxe:E.ins s=E.c.getD (pcOf s) ins0:=rfl
 rw [← hxe] at hru
 obtain ⟨a1,a2,a3,a4⟩:=hru.2.2.2.2.2.2.2.1 ho
 have hl:=h.g.len
 have h0:=h.g.pc0
 obtain ⟨x1,x2,_⟩:=nice_keep hK h (h.g.at_pc (gt s 0+1) (by omega) (by omega)) (by rw [gt_pc0 hl,a1]) (by rw [gt_pc (by omega)];omega) (by rw [gt_pc0 hl];omega) fun j hj=>gt_pc (by omega)
 exact ⟨x1,x2,by rw [gt_pc0 hl,a1],a4⟩
theorem step_out {E:Env} {A:Int→Att} {s r:Sta} {ok:Bool} (hK:Kn E.c A) (h:Nice E A s) (ho:(E.ins s).op=11) (hl44:r.length=44) (hr:ok=true→Ended E A s r∧gt r 0=(E.ins s).y-1) (hk:(apartP s (E.ins s) r ok).2=true) :
  Ended E A s (apartP s (E.ins s) r ok).1∧mu E A (apartP s (E.ins s) r ok).1<mu E A s∧(A (gt (apartP s (E.ins s) r ok).1 0)).y=(A (gt s 0)).y∧gt (apartP s (E.ins s) r ok).1 0=(E.ins s).y:=by
 have h13:(E.ins s).op≠13:=by omega
 obtain ⟨hn1,hru⟩:=known_att hK.k h.g.pcOf_lt h13
 have hfw:=hK.fwd (pcOf s) hn1
 have hi:=hK.k.ok (pcOf s) h.g.pcOf_lt
 have hpc:((pcOf s:Nat):Int)=gt s 0:=by have:=h.g.pc0;unfold pcOf;omega
 rw [hpc] at hru hfw
 have hxe:E.ins s=E.c.getD (pcOf s) ins0:=rfl
 rw [← hxe] at hru hi hfw
 obtain ⟨a1,a2,a3,a4⟩:=hru.2.2.2.2.2.2.2.1 ho
 have f1:=hfw.2.2 ho
 have i11:=hi.2.2.2.2.2.1 ho
 have hl:=h.g.len
 have ga:=apartP_good h.g (fun e=>(hr e).1.1.g) (E.ins s) i11.1 i11.2.1 hk
 unfold apartP at hk ga ⊢
 by_cases x0:(E.ins s).x=0
 ·rw [if_pos x0] at hk ga ⊢
  dsimp only at hk ga ⊢
  obtain ⟨⟨hnr,hp,hm⟩,hre⟩:=hr hk
  have q0:gt (r.set 0 (E.ins s).y) 0=(E.ins s).y:=gt_pc0 hl44
  have q1:gt (r.set 0 (E.ins s).y) 1=gt r 1:=gt_pc (by omega)
  have ed:(A (gt r 0)).d=(A (gt s 0)).d:=by rw [hre,a3]
  have hd11:=hK.dOk h.g.pc0 h.g.pc1
  refine ⟨⟨⟨ga,fun j hj=>?_,fun i j hij hj=>?_⟩,by rw [q1];exact hp,fun e j hj ee=>?_⟩,?_,by rw [q0,a2],q0⟩
  ·rw [q0,a2] at hj
   rw [gt_pc (by omega),q1];exact hnr.le j (by omega)
  ·rw [q0,a2] at hj
   rw [gt_pc (by omega),gt_pc (by omega)];exact hnr.mono i j hij (by omega)
  ·rw [gt_pc (by omega)];exact hm (by rw [← e,q1]) j hj ee
  ·by_cases e:gt r 1=gt s 1
   ·refine mu_pc h.g ga (by rw [q1,e]) ?_ (by rw [q0];exact f1)
    unfold mOf
    rw [q0,a2]
    exact cnt_mono (by rw [q1,e]) fun j hj ee=>by rw [gt_pc (by omega)];exact hm e j (by omega) ee
   ·exact mu_pos h.g ga (by rw [q0,a2];exact hd11.2) (by rw [q1];omega)
 rw [if_neg x0] at hk ga ⊢
 by_cases x1:(E.ins s).x=1
 ·rw [if_pos x1] at hk ga ⊢
  dsimp only at hk ga ⊢
  have hl2:=withAt_len s r hl hl44
  have q0:gt ((withAt s r).set 0 (E.ins s).y) 0=(E.ins s).y:=gt_pc0 hl2
  have q1:gt ((withAt s r).set 0 (E.ins s).y) 1=gt s 1:=by rw [gt_pc (by omega),gt_withAt s r hl hl44,if_neg (by omega)]
  obtain ⟨b1,b2,b3,b4⟩:=nice_keep hK h ga (by rw [q0,a2]) (by rw [q1];omega) (by rw [q0];exact f1) fun j hj=>by
   rw [gt_pc (by omega),gt_withAt s r hl hl44,if_neg (by omega)]
  exact ⟨⟨b1,b3,b4⟩,b2,by rw [q0,a2],q0⟩
 ·rw [if_neg x1] at hk ga ⊢
  dsimp only at hk ga ⊢
  obtain ⟨b1,b2,b3,b4⟩:=nice_keep hK h ga (by rw [gt_pc0 hl,a2]) (by rw [gt_pc (by omega)];omega) (by rw [gt_pc0 hl];exact f1) fun j hj=>gt_pc (by omega)
  exact ⟨⟨b1,b3,b4⟩,b2,by rw [gt_pc0 hl,a2],gt_pc0 hl⟩
variable {E:Env} {A:Int→Att}
theorem look_d {n:Nat} {s:Sta} {kn:List Bool} {room:Int} (h:E.dead s kn=true):look E (n+1) s kn room=⟨s,false,n,E.kn' s kn room,E.room' s kn room,false⟩:=by rw [look_step,if_pos h]
theorem look_f {n:Nat} {s:Sta} {kn:List Bool} {room:Int} (h:E.dead s kn=false) (ho:(E.ins s).op=13∨(E.ins s).op=12):look E (n+1) s kn room=⟨s,true,n,E.kn' s kn room,E.room' s kn room,false⟩:=by
 rw [look_step,if_neg (by rw [h];exact Bool.false_ne_true),if_pos ho]
theorem look_2 {n:Nat} {s:Sta} {kn:List Bool} {room:Int} (h:E.dead s kn=false) (ho:(E.ins s).op=2) {r:Res} (hr:r=look E n (s.set 0 (E.ins s).x) (E.kn' s kn room) (E.room' s kn room)):look E (n+1) s kn room=if r.ok||r.over then r else look E r.n (s.set 0 (E.ins s).y) r.kn r.room:=by
 rw [look_step,if_neg (by rw [h];exact Bool.false_ne_true),if_neg (by omega),if_pos ho,hr]
theorem look_11 {n:Nat} {s:Sta} {kn:List Bool} {room:Int} (h:E.dead s kn=false) (ho:(E.ins s).op=11) {r:Res} (hr:r=look E n (s.set 0 (gt s 0+1)) (E.kn' s kn room) (E.room' s kn room)):look E (n+1) s kn room=if r.over then ⟨s,false,r.n,r.kn,r.room,true⟩ else if (apartP s (E.ins s) r.st r.ok).2 then look E r.n (apartP s (E.ins s) r.st r.ok).1 r.kn r.room else ⟨(apartP s (E.ins s) r.st r.ok).1,false,r.n,r.kn,r.room,false⟩:=by
 rw [look_step,if_neg (by rw [h];exact Bool.false_ne_true),if_neg (by omega),if_neg (by omega),if_pos ho,hr]
theorem look_1 {n:Nat} {s:Sta} {kn:List Bool} {room:Int} (h:E.dead s kn=false) (h2:(E.ins s).op≠2) (h11:(E.ins s).op≠11) (h12:(E.ins s).op≠12) (h13:(E.ins s).op≠13):look E (n+1) s kn room=if (oneP E.t s (E.ins s)).2 then look E n (oneP E.t s (E.ins s)).1 (E.kn' s kn room) (E.room' s kn room) else ⟨(oneP E.t s (E.ins s)).1,false,n,E.kn' s kn room,E.room' s kn room,false⟩:=by
 rw [look_step,if_neg (by rw [h];exact Bool.false_ne_true),if_neg (by omega),if_neg h2,if_neg h11]
theorem ended_pc {s:Sta} {v:Int} (h:Nice E A (s.set 0 v)):Ended E A s (s.set 0 v):=⟨h,by rw [gt_pc (by omega)];omega,fun _ j _ e=>by rw [gt_pc (by omega)];exact e⟩
theorem sub_end (hK:Kn E.c A) {n:Nat} {s:Sta} {kn:List Bool} {room:Int} (h:Nice E A s) (ho:(E.ins s).op=11) (hr:0≤room∧room≤5000) (hk:(look E n (s.set 0 (gt s 0+1)) kn room).ok=true):gt (look E n (s.set 0 (gt s 0+1)) kn room).st 0=(E.ins s).y-1:=by
 obtain ⟨h1,_,hy,hy0⟩:=step_in hK h ho
 obtain ⟨k1,_,k3⟩:=look_keeps E A hK.k n n _ kn room (Nat.le_refl _) h1.g hr hk
 have hg:=(look_good E hK.k.ok n n _ kn room (Nat.le_refl _) h1.g hr).1 hk
 generalize (look E n (s.set 0 (gt s 0+1)) kn room).st=u at *
 rw [hy] at k1
 have hpc:((pcOf u:Nat):Int)=gt u 0:=by have:=hg.pc0;unfold pcOf;omega
 by_cases hl:pcOf u+1<E.c.length
 ·have hru:=hK.k.rule (pcOf u) hl
  rw [hpc] at hru
  rcases k3 with k3 | k3
  ·have:=hru.2.2.2.2.2.2.2.2.1 k3;omega
  ·have:=hru.2.2.2.2.2.2.2.2.2.2.2.2;have e:(E.c.getD (pcOf u) ins0).op=13:=k3;omega
 ·have h1:=hg.pcOf_lt
  have e:gt u 0=((E.c.length-1:Nat):Int):=by omega
  have:=hK.k.stop
  rw [← e] at this
  rw [this] at k1
  dsimp only at k1;omega
theorem look_end (hK:Kn E.c A):∀ (N n:Nat) (s:Sta) (kn:List Bool) (room:Int),n≤N→Nice E A s→0≤room∧room≤5000→(look E n s kn room).ok=true→Ended E A s (look E n s kn room).st
 | N,0,s,kn,room,_,h,hr,ho=>by rw [look_zero] at ho;cases ho
 | 0,n+1,s,kn,room,hn,_,_,_=>by omega
 | N+1,n+1,s,kn,room,hn,h,hrm,ho=>by
  have ih:=look_end hK N
  have hR:=E.room'_in s kn room hrm
  cases hd:E.dead s kn with
  | true=>rw [look_d hd] at ho;cases ho
  | false =>
  by_cases h13:(E.ins s).op=13∨(E.ins s).op=12
  ·rw [look_f hd h13];exact h.ended
  by_cases o2:(E.ins s).op=2
  ·obtain ⟨⟨x1,x2,x3⟩,⟨y1,y2,y3⟩⟩:=step_split hK h o2
   obtain ⟨r,hr⟩:∃ r,r=look E n (s.set 0 (E.ins s).x) (E.kn' s kn room) (E.room' s kn room):=⟨_,rfl⟩
   have g1:=look_good E hK.k.ok N n _ (E.kn' s kn room) (E.room' s kn room) (by omega) x1.g hR
   have n1:=look_n E n (s.set 0 (E.ins s).x) (E.kn' s kn room) (E.room' s kn room)
   have k1:=ih n _ (E.kn' s kn room) (E.room' s kn room) (by omega) x1 hR
   rw [← hr] at g1 n1 k1
   rw [look_2 hd o2 hr] at ho ⊢
   by_cases hro:(r.ok||r.over)=true
   ·rw [if_pos hro] at ho ⊢
    exact (ended_pc x1).trans (k1 ho)
   ·rw [if_neg hro] at ho ⊢
    exact (ended_pc y1).trans (ih _ _ _ _ (by omega) y1 g1.2.2.1 ho)
  by_cases o11:(E.ins s).op=11
  ·obtain ⟨x1,x2,x3,x4⟩:=step_in hK h o11
   obtain ⟨r,hr⟩:∃ r,r=look E n (s.set 0 (gt s 0+1)) (E.kn' s kn room) (E.room' s kn room):=⟨_,rfl⟩
   have g1:=look_good E hK.k.ok N n _ (E.kn' s kn room) (E.room' s kn room) (by omega) x1.g hR
   have n1:=look_n E n (s.set 0 (gt s 0+1)) (E.kn' s kn room) (E.room' s kn room)
   have k1:=ih n _ (E.kn' s kn room) (E.room' s kn room) (by omega) x1 hR
   have e1:=sub_end hK (n:=n) (kn:=E.kn' s kn room) h o11 hR
   rw [← hr] at g1 n1 k1 e1
   rw [look_11 hd o11 hr] at ho ⊢
   by_cases hov:r.over=true
   ·rw [if_pos hov] at ho;cases ho
   rw [if_neg hov] at ho ⊢
   by_cases hk:(apartP s (E.ins s) r.st r.ok).2=true
   ·rw [if_pos hk] at ho ⊢
    obtain ⟨z1,z2,z3⟩:=step_out hK h o11 g1.2.2.2.1 (fun e=>⟨(ended_pc x1).trans (k1 e),e1 e⟩) hk
    exact z1.trans (ih _ _ _ _ (by omega) z1.1 g1.2.2.1 ho)
   ·rw [if_neg hk] at ho;cases ho
  have o12:(E.ins s).op≠12:=fun e=>h13 (.inr e)
  have o13:(E.ins s).op≠13:=fun e=>h13 (.inl e)
  rw [look_1 hd o2 o11 o12 o13] at ho ⊢
  by_cases hk:(oneP E.t s (E.ins s)).2=true
  ·rw [if_pos hk] at ho ⊢
   obtain ⟨⟨z1,z2,z3,z4⟩,z5⟩:=step_one hK h o2 o11 o12 o13 hk
   exact Ended.trans ⟨z1,z3,z4⟩ (ih _ _ _ _ (by omega) z1 hR ho)
  ·rw [if_neg hk] at ho;cases ho
theorem look_apart (hK:Kn E.c A) (hin:∀ s,Good E.c.length E.t.size s→E.isIn s=true→(A (gt s 0)).y=0):∀ (N n:Nat) (s:Sta) (kn:List Bool) (room:Int),n≤N→Nice E A s→0≤room∧room≤5000→(A (gt s 0)).y≠0→(look E n s kn room).kn=kn∧(look E n s kn room).room=room
 | N,0,s,kn,room,_,h,hr,ho=>by rw [look_zero];exact ⟨rfl,rfl⟩
 | 0,n+1,s,kn,room,hn,_,_,_=>by omega
 | N+1,n+1,s,kn,room,hn,h,hrm,hy=>by
  have ih:=look_apart hK hin N
  have hni:E.isIn s=false:=by
   cases e:E.isIn s
   ·rfl
   ·exact absurd (hin s h.g e) hy
  obtain ⟨hd,ek,er⟩:=E.not_in s kn room hni
  by_cases h13:(E.ins s).op=13∨(E.ins s).op=12
  ·rw [look_f hd h13];exact ⟨ek,er⟩
  by_cases o2:(E.ins s).op=2
  ·obtain ⟨⟨x1,x2,x3⟩,⟨y1,y2,y3⟩⟩:=step_split hK h o2
   obtain ⟨r,hr⟩:∃ r,r=look E n (s.set 0 (E.ins s).x) (E.kn' s kn room) (E.room' s kn room):=⟨_,rfl⟩
   have n1:=look_n E n (s.set 0 (E.ins s).x) (E.kn' s kn room) (E.room' s kn room)
   have k1:=ih n (s.set 0 (E.ins s).x) (E.kn' s kn room) (E.room' s kn room) (by omega) x1 (by rw [er];exact hrm) (by rw [x3];exact hy)
   rw [← hr] at n1 k1
   rw [look_2 hd o2 hr]
   rw [ek,er] at k1
   by_cases hro:(r.ok||r.over)=true
   ·rw [if_pos hro];exact k1
   ·rw [if_neg hro]
    have:=ih r.n (s.set 0 (E.ins s).y) r.kn r.room (by omega) y1 (by rw [k1.2];exact hrm) (by rw [y3];exact hy)
    rw [k1.1,k1.2] at this
    rw [k1.1,k1.2];exact this
  by_cases o11:(E.ins s).op=11
  ·obtain ⟨x1,x2,x3,x4⟩:=step_in hK h o11
   have hR:=E.room'_in s kn room hrm
   obtain ⟨r,hr⟩:∃ r,r=look E n (s.set 0 (gt s 0+1)) (E.kn' s kn room) (E.room' s kn room):=⟨_,rfl⟩
   have g1:=look_good E hK.k.ok N n _ (E.kn' s kn room) (E.room' s kn room) (by omega) x1.g hR
   have n1:=look_n E n (s.set 0 (gt s 0+1)) (E.kn' s kn room) (E.room' s kn room)
   have k1:=ih n _ (E.kn' s kn room) (E.room' s kn room) (by omega) x1 hR (by rw [x3];omega)
   have e1:=sub_end hK (n:=n) (kn:=E.kn' s kn room) h o11 hR
   have k2:=look_end hK N n _ (E.kn' s kn room) (E.room' s kn room) (by omega) x1 hR
   rw [← hr] at g1 n1 k1 e1 k2
   rw [ek,er] at k1
   rw [look_11 hd o11 hr]
   by_cases hov:r.over=true
   ·rw [if_pos hov];exact k1
   rw [if_neg hov]
   by_cases hk:(apartP s (E.ins s) r.st r.ok).2=true
   ·rw [if_pos hk]
    obtain ⟨z1,z2,z3,z4⟩:=step_out hK h o11 g1.2.2.2.1 (fun e=>⟨(ended_pc x1).trans (k2 e),e1 e⟩) hk
    have:=ih r.n _ r.kn r.room (by omega) z1.1 (by rw [k1.2];exact hrm) (by rw [z3];exact hy)
    rw [k1.1,k1.2] at this
    rw [k1.1,k1.2];exact this
   ·rw [if_neg hk];exact k1
  have o12:(E.ins s).op≠12:=fun e=>h13 (.inr e)
  have o13:(E.ins s).op≠13:=fun e=>h13 (.inl e)
  rw [look_1 hd o2 o11 o12 o13,ek,er]
  by_cases hk:(oneP E.t s (E.ins s)).2=true
  ·rw [if_pos hk]
   obtain ⟨⟨z1,z2,z3,z4⟩,z5⟩:=step_one hK h o2 o11 o12 o13 hk
   exact ih _ _ _ _ (by omega) z1 hrm (by rw [z5];exact hy)
  ·rw [if_neg hk];exact ⟨rfl,rfl⟩
end Mt
namespace Mt
variable {E:Env} {A:Int→Att}
theorem Lk.to' {s u s' u':Sta} (h:Lk A s u) (pc:gt u' 0=gt s' 0) (ps:gt s' 1=gt s 1) (pu:gt u' 1=gt s 1) (hd:(A (gt s' 0)).d≤(A (gt s 0)).d) (hm:∀ j:Nat,j<12→gt s' (32+j)=gt s (32+j)∧gt u' (32+j)=gt u (32+j)) (h11:(A (gt s 0)).d≤11):Lk A s' u':=by
 refine ⟨pc,by rw [ps,pu],fun j hj=>?_⟩
 have:=hm j (by omega)
 rw [this.1,this.2,ps]
 exact h.eq j (by omega)
theorem lk_one (hK:Kn E.c A) (hB:∀ q,q<E.c.length→(E.c.getD q ins0).op≠8) {s u:Sta} (hs:Nice E A s) (hu:Nice E A u) (h:Lk A s u) (h2:(E.ins s).op≠2) (h11:(E.ins s).op≠11) (h12:(E.ins s).op≠12) (h13:(E.ins s).op≠13) :
  (oneP E.t u (E.ins s)).2=(oneP E.t s (E.ins s)).2∧((oneP E.t s (E.ins s)).2=true→Lk A (oneP E.t s (E.ins s)).1 (oneP E.t u (E.ins s)).1):=by
 have h8:(E.ins s).op≠8:=hB _ hs.g.pcOf_lt
 obtain ⟨hn1,hru⟩:=known_att hK.k hs.g.pcOf_lt h13
 have hi:=hK.k.ok (pcOf s) hs.g.pcOf_lt
 have hpc:((pcOf s:Nat):Int)=gt s 0:=by have:=hs.g.pc0;unfold pcOf;omega
 rw [hpc] at hru
 have hxe:E.ins s=E.c.getD (pcOf s) ins0:=rfl
 rw [← hxe] at hru hi
 have hd:=hK.dOk hs.g.pc0 hs.g.pc1
 generalize E.ins s=x at *
 obtain ⟨r1,r2,r3,r4,r5,r6,r7,r11,r12,rB,rd,rG,ro⟩:=hru
 have ls:=hs.g.len
 have lu:=hu.g.len
 have q0:∀ (s:Sta) (i:Nat) (u v:Int),s.length=44→gt ((s.set i u).set 0 v) 0=v:=fun s i u v hl=>gt_set_same _ _ _ (by rw [List.length_set];omega)
 unfold oneP
 by_cases o1:x.op=1
 ·rw [if_pos o1,if_pos o1];dsimp only
  refine ⟨by rw [h.pos],fun _=>?_⟩
  have e:=r1 (by omega)
  have p1:∀ (z:Sta) (y:Int),z.length=44→gt ((z.set 1 y).set 0 (gt z 0+1)) 1=y:=fun z y hz=>by rw [gt_pc (by omega),gt_set_same _ _ _ (by omega)]
  refine ⟨by rw [q0 _ _ _ _ ls,q0 _ _ _ _ lu,h.pc],by rw [p1 _ _ lu,p1 _ _ ls,h.pos],fun j hj=>?_⟩
  rw [q0 _ _ _ _ ls,e] at hj
  rw [p1 _ _ ls,gt_pc (by omega),gt_set_ne _ _ _ _ (by omega),gt_pc (by omega),gt_set_ne _ _ _ _ (by omega)]
  have a1:=hs.le j hj
  have a2:=hu.le j (by rw [h.pc];exact hj)
  have:=h.pos
  constructor <;> intro hh <;> omega
 rw [if_neg o1,if_neg o1]
 by_cases o3:x.op=3
 ·rw [if_pos o3,if_pos o3];dsimp only
  exact ⟨rfl,fun _=>h.to ls lu (r3 o3)⟩
 rw [if_neg o3,if_neg o3]
 by_cases o4:x.op=4
 ·rw [if_pos o4,if_pos o4];dsimp only
  obtain ⟨e1,e2,e3⟩:=r4 o4
  refine ⟨rfl,fun _=>⟨by rw [q0 _ _ _ _ ls,q0 _ _ _ _ lu,h.pc],?_,fun j hj=>?_⟩⟩
  ·rw [gt_pc (by omega),gt_set_ne _ _ _ _ (by omega),gt_pc (by omega),gt_set_ne _ _ _ _ (by omega)];exact h.pos
  ·rw [q0 _ _ _ _ ls,e2] at hj
   rw [show gt ((s.set (32+x.x.toNat) (gt s 1)).set 0 (gt s 0+1)) 1=gt s 1 by rw [gt_pc (by omega),gt_set_ne _ _ _ _ (by omega)],gt_pc (by omega),gt_pc (by omega)]
   by_cases ej:j=x.x.toNat
   ·subst ej
    rw [gt_set_same _ _ _ (by omega),gt_set_same _ _ _ (by omega),h.pos]
   ·rw [gt_set_ne _ _ _ _ (by omega),gt_set_ne _ _ _ _ (by omega)]
    exact h.eq j (by dsimp only at hj;omega)
 rw [if_neg o4,if_neg o4]
 by_cases o5:x.op=5
 ·rw [if_pos o5,if_pos o5];dsimp only
  obtain ⟨e1,e2,e3,e4⟩:=r5 o5
  have hm:=h.eq x.y.toNat (by omega)
  refine ⟨?_,fun _=>h.to' (by rw [gt_pc0 ls,gt_pc0 lu]) (gt_pc (by omega)) (by rw [gt_pc (by omega)];exact h.pos) (by rw [gt_pc0 ls,e1];dsimp only;omega) (fun j _=>⟨gt_pc (by omega),gt_pc (by omega)⟩) hd.2⟩
  rw [h.pos]
  by_cases e:gt s (32+x.y.toNat)=gt s 1
  ·rw [hm.1 e,e]
  ·have e':gt u (32+x.y.toNat)≠gt s 1:=fun he=>e (hm.2 he)
   rw [bne_iff_ne.2 e',bne_iff_ne.2 e]
 rw [if_neg o5,if_neg o5]
 by_cases o6:x.op=6
 ·rw [if_pos o6,if_pos o6];dsimp only
  have hi6:=hi.2.2.2.2.1 (by omega)
  obtain ⟨e,_⟩:=r6 o6
  refine ⟨rfl,fun _=>h.to' (by rw [q0 _ _ _ _ ls,q0 _ _ _ _ lu,h.pc]) ?_ ?_ (by rw [q0 _ _ _ _ ls,e];exact Int.le_refl _) (fun j hj=>⟨?_,?_⟩) hd.2⟩
  all_goals rw [gt_pc (by omega),gt_set_ne _ _ _ _ (by omega)]
  exact h.pos
 rw [if_neg o6,if_neg o6]
 by_cases o7:x.op=7
 ·rw [if_pos o7,if_pos o7];dsimp only
  have hi7:=hi.2.2.2.2.1 (by omega)
  obtain ⟨g,_,e⟩:=r7 o7
  have q1:∀ z:Sta,z.length=44→gt (((z.set (2+(2*x.x).toNat) (gt z (22+x.x.toNat))).set (2+(2*x.x+1).toNat) (gt z 1)).set 0 (gt z 0+1)) 0=gt z 0+1:=fun z hz=>gt_set_same _ _ _ (by simp [List.length_set];omega)
  refine ⟨rfl,fun _=>h.to' (by rw [q1 _ ls,q1 _ lu,h.pc]) ?_ ?_ (by rw [q1 _ ls,e];exact Int.le_refl _) (fun j hj=>⟨?_,?_⟩) hd.2⟩
  all_goals rw [gt_pc (by omega),gt_set_ne _ _ _ _ (by omega),gt_set_ne _ _ _ _ (by omega)]
  exact h.pos
 rw [if_neg o7,if_neg o7]
 rw [if_neg h8,if_neg h8]
 by_cases o9:x.op=9
 ·rw [if_pos o9,if_pos o9];dsimp only
  have e:=r1 (by omega)
  rw [h.pos,h.pc]
  exact ⟨rfl,fun _=>h.to ls lu e⟩
 rw [if_neg o9,if_neg o9]
 by_cases o10:x.op=10
 ·rw [if_pos o10,if_pos o10];dsimp only
  have e:=r1 (by omega)
  rw [h.pos,h.pc]
  exact ⟨rfl,fun _=>h.to ls lu e⟩
 ·exfalso;clear q0 hxe hpc hn1 hd rd rG rB r12 r11 r7 r6 r5 r4 r3 r2 r1 hi h hs hu hB hK ls lu;omega
theorem lk_apart (hK:Kn E.c A) {s u r q:Sta} {ok:Bool} (hs:Nice E A s) (hu:Nice E A u) (h:Lk A s u) (ho:(E.ins s).op=11) (lr:r.length=44) (lq:q.length=44) (hr:ok=true→Lk A r q∧gt r 0=(E.ins s).y-1) :
  (apartP u (E.ins s) q ok).2=(apartP s (E.ins s) r ok).2∧((apartP s (E.ins s) r ok).2=true→Lk A (apartP s (E.ins s) r ok).1 (apartP u (E.ins s) q ok).1):=by
 have h13:(E.ins s).op≠13:=by omega
 obtain ⟨hn1,hru⟩:=known_att hK.k hs.g.pcOf_lt h13
 have hpc:((pcOf s:Nat):Int)=gt s 0:=by have:=hs.g.pc0;unfold pcOf;omega
 rw [hpc] at hru
 have hxe:E.ins s=E.c.getD (pcOf s) ins0:=rfl
 rw [← hxe] at hru
 obtain ⟨a1,a2,a3,a4⟩:=hru.2.2.2.2.2.2.2.1 ho
 have ls:=hs.g.len
 have lu:=hu.g.len
 have hd:=hK.dOk hs.g.pc0 hs.g.pc1
 generalize E.ins s=x at *
 unfold apartP
 by_cases x0:x.x=0
 ·rw [if_pos x0,if_pos x0];dsimp only
  refine ⟨rfl,fun hk=>?_⟩
  obtain ⟨h1,h2⟩:=hr hk
  refine h1.to' (by rw [gt_pc0 lr,gt_pc0 lq]) (gt_pc (by omega)) (by rw [gt_pc (by omega)];exact h1.pos) (by rw [gt_pc0 lr,a2,h2,a3];exact Int.le_refl _) (fun j _=>⟨gt_pc (by omega),gt_pc (by omega)⟩) (by rw [h2,a3];exact hd.2)
 rw [if_neg x0,if_neg x0]
 by_cases x1:x.x=1
 ·rw [if_pos x1,if_pos x1];dsimp only
  refine ⟨rfl,fun hk=>?_⟩
  refine h.to' (by rw [gt_pc0 (withAt_len s r ls lr),gt_pc0 (withAt_len u q lu lq)]) (by rw [gt_pc (by omega),gt_withAt s r ls lr,if_neg (by omega)]) (by rw [gt_pc (by omega),gt_withAt u q lu lq,if_neg (by omega)];exact h.pos) (by rw [gt_pc0 (withAt_len s r ls lr),a2];exact Int.le_refl _) (fun j _=>⟨by rw [gt_pc (by omega),gt_withAt s r ls lr,if_neg (by omega)],by rw [gt_pc (by omega),gt_withAt u q lu lq,if_neg (by omega)]⟩) hd.2
 ·rw [if_neg x1,if_neg x1];dsimp only
  exact ⟨rfl,fun _=>h.to ls lu a2⟩
theorem look_alike (hK:Kn E.c A) (kn:List Bool) (hin:Idle E kn 0) (hB:∀ q,q<E.c.length→(E.c.getD q ins0).op≠8):∀ (N n:Nat) (s u:Sta),n≤N→Nice E A s→Nice E A u→Lk A s u →
  (look E n u kn 0).ok=(look E n s kn 0).ok∧(look E n u kn 0).over=(look E n s kn 0).over∧(look E n u kn 0).n=(look E n s kn 0).n∧(look E n u kn 0).kn=kn∧(look E n s kn 0).kn=kn∧(look E n u kn 0).room=0∧(look E n s kn 0).room=0∧((look E n s kn 0).ok=true→Lk A (look E n s kn 0).st (look E n u kn 0).st)
 | N,0,s,u,_,hs,hu,h=>by rw [look_zero,look_zero];exact ⟨rfl,rfl,rfl,rfl,rfl,rfl,rfl,fun e=>by cases e⟩
 | 0,n+1,s,u,hn,_,_,_=>by omega
 | N+1,n+1,s,u,hn,hs,hu,h=>by
  have ih:=look_alike hK kn hin hB N
  obtain ⟨ds,ks,rs⟩:=hin s
  obtain ⟨du,ku,ru⟩:=hin u
  have hx:E.ins u=E.ins s:=h.ins
  have ls:=hs.g.len
  have lu:=hu.g.len
  have hR:(0:Int)≤0∧(0:Int)≤5000:=by omega
  by_cases h13:(E.ins s).op=13∨(E.ins s).op=12
  ·rw [look_f ds h13,look_f du (by rw [hx];exact h13),ks,ku,rs,ru]
   exact ⟨rfl,rfl,rfl,rfl,rfl,rfl,rfl,fun _=>h⟩
  by_cases o2:(E.ins s).op=2
  ·obtain ⟨⟨x1,x2,x3⟩,⟨y1,y2,y3⟩⟩:=step_split hK hs o2
   obtain ⟨⟨v1,v2,v3⟩,⟨w1,w2,w3⟩⟩:=step_split hK hu (by rw [hx];exact o2)
   rw [hx] at v1 w1
   have hn1:=known_att hK.k hs.g.pcOf_lt (show (E.ins s).op≠13 by omega)
   have hpc:((pcOf s:Nat):Int)=gt s 0:=by have:=hs.g.pc0;unfold pcOf;omega
   obtain ⟨a1,a2⟩:=hn1.2.2.1 o2
   rw [hpc] at a1 a2
   obtain ⟨r,hr⟩:∃ r,r=look E n (s.set 0 (E.ins s).x) (E.kn' s kn 0) (E.room' s kn 0):=⟨_,rfl⟩
   obtain ⟨q,hq⟩:∃ q,q=look E n (u.set 0 (E.ins u).x) (E.kn' u kn 0) (E.room' u kn 0):=⟨_,rfl⟩
   rw [look_2 ds o2 hr,look_2 du (by rw [hx];exact o2) hq,hx]
   have k1:=ih n _ _ (by omega) x1 v1 (h.to ls lu a1)
   have n1:=look_n E n (s.set 0 (E.ins s).x) kn 0
   rw [ks,rs] at hr
   rw [ku,ru,hx] at hq
   rw [← hr,← hq] at k1
   rw [← hr] at n1
   obtain ⟨e1,e2,e3,e4,e5,e6,e7,e8⟩:=k1
   rw [e1,e2,e3,e4,e5,e6,e7]
   by_cases hro:(r.ok||r.over)=true
   ·rw [if_pos hro,if_pos hro]
    exact ⟨e1,e2,e3,e4,e5,e6,e7,e8⟩
   ·rw [if_neg hro,if_neg hro]
    exact ih r.n _ _ (by omega) y1 w1 (h.to ls lu a2)
  by_cases o11:(E.ins s).op=11
  ·obtain ⟨x1,x2,x3,x4⟩:=step_in hK hs o11
   obtain ⟨v1,v2,v3,v4⟩:=step_in hK hu (by rw [hx];exact o11)
   have hn1:=known_att hK.k hs.g.pcOf_lt (show (E.ins s).op≠13 by omega)
   have hpc:((pcOf s:Nat):Int)=gt s 0:=by have:=hs.g.pc0;unfold pcOf;omega
   obtain ⟨a1,a2,a3,a4⟩:=hn1.2.2.2.2.2.2.2.2.1 o11
   rw [hpc] at a1
   obtain ⟨r,hr⟩:∃ r,r=look E n (s.set 0 (gt s 0+1)) (E.kn' s kn 0) (E.room' s kn 0):=⟨_,rfl⟩
   obtain ⟨q,hq⟩:∃ q,q=look E n (u.set 0 (gt u 0+1)) (E.kn' u kn 0) (E.room' u kn 0):=⟨_,rfl⟩
   rw [look_11 ds o11 hr,look_11 du (by rw [hx];exact o11) hq,hx]
   have hin':Lk A (s.set 0 (gt s 0+1)) (u.set 0 (gt u 0+1)):=by
    rw [h.pc]
    refine h.to' (by rw [gt_pc0 ls,gt_pc0 lu]) (gt_pc (by omega)) (by rw [gt_pc (by omega)];exact h.pos) (by rw [gt_pc0 ls,a1];exact Int.le_refl _) (fun j _=>⟨gt_pc (by omega),gt_pc (by omega)⟩) (hK.dOk hs.g.pc0 hs.g.pc1).2
   have k1:=ih n _ _ (by omega) x1 v1 hin'
   have n1:=look_n E n (s.set 0 (gt s 0+1)) kn 0
   have g1:=look_good E hK.k.ok N n _ kn 0 (by omega) x1.g hR
   have g2:=look_good E hK.k.ok N n _ kn 0 (by omega) v1.g hR
   have s1:=sub_end hK (n:=n) (kn:=kn) hs o11 hR
   have s2:=sub_end hK (n:=n) (kn:=kn) hu (by rw [hx];exact o11) hR
   have d1:=look_end hK N n _ kn 0 (by omega) x1 hR
   have d2:=look_end hK N n _ kn 0 (by omega) v1 hR
   rw [ks,rs] at hr
   rw [ku,ru] at hq
   rw [← hr,← hq] at k1
   rw [← hr] at n1 g1 s1 d1
   rw [← hq] at g2 s2 d2
   obtain ⟨e1,e2,e3,e4,e5,e6,e7,e8⟩:=k1
   rw [e1,e2,e3,e4,e5,e6,e7]
   by_cases hov:r.over=true
   ·rw [if_pos hov,if_pos hov]
    exact ⟨rfl,rfl,rfl,rfl,rfl,rfl,rfl,fun e=>by cases e⟩
   rw [if_neg hov,if_neg hov]
   obtain ⟨p1,p2⟩:=lk_apart hK (ok:=r.ok) hs hu h o11 g1.2.2.2.1 g2.2.2.2.1 (fun e=>⟨e8 e,s1 e⟩)
   rw [p1]
   by_cases hk:(apartP s (E.ins s) r.st r.ok).2=true
   ·rw [if_pos hk,if_pos hk]
    have z1:=(step_out hK hs o11 g1.2.2.2.1 (fun e=>⟨(ended_pc x1).trans (d1 e),s1 e⟩) hk).1.1
    have z2:=(step_out (r:=q.st) (ok:=r.ok) hK hu (by rw [hx];exact o11) g2.2.2.2.1 (fun e=>⟨(ended_pc v1).trans (d2 (by rw [e1];exact e)),s2 (by rw [e1];exact e)⟩) (by rw [hx,p1];exact hk)).1.1
    rw [hx] at z2
    exact ih r.n _ _ (by omega) z1 z2 (p2 hk)
   ·rw [if_neg hk,if_neg hk]
    exact ⟨rfl,rfl,rfl,rfl,rfl,rfl,rfl,fun e=>by cases e⟩
  have o12:(E.ins s).op≠12:=fun e=>h13 (.inr e)
  have o13:(E.ins s).op≠13:=fun e=>h13 (.inl e)
  obtain ⟨p1,p2⟩:=lk_one hK hB hs hu h o2 o11 o12 o13
  rw [look_1 ds o2 o11 o12 o13,look_1 du (by rw [hx];exact o2) (by rw [hx];exact o11) (by rw [hx];exact o12) (by rw [hx];exact o13),hx,p1,ks,ku,rs,ru]
  by_cases hk:(oneP E.t s (E.ins s)).2=true
  ·rw [if_pos hk,if_pos hk]
   have z1:=(step_one hK hs o2 o11 o12 o13 hk).1.1
   have z2:=(step_one hK hu (by rw [hx];exact o2) (by rw [hx];exact o11) (by rw [hx];exact o12) (by rw [hx];exact o13) (by rw [hx,p1];exact hk)).1.1
   rw [hx] at z2
   exact ih n _ _ (by omega) z1 z2 (p2 hk)
  ·rw [if_neg hk,if_neg hk]
   exact ⟨rfl,rfl,rfl,rfl,rfl,rfl,rfl,fun e=>by cases e⟩
end Mt
namespace Mt
variable {E:Env} {A:Int→Att}
theorem idle_nil (E:Env):Idle E [] 0:=fun s=>by
 unfold Env.dead Env.kn' Env.room' deadKn deadRoom
 refine ⟨?_,?_,?_⟩ <;> simp
theorem dead_idle {s:Sta} {kn:List Bool} (room:Int) (h:E.dead s kn=true):E.kn' s kn room=kn∧E.room' s kn room=room∧E.isIn s=true∧kn.getD (E.key s) false=true:=by
 unfold Env.dead at h
 by_cases hi:E.isIn s=true
 ·rw [if_pos hi] at h
  unfold Env.kn' Env.room' deadKn deadRoom
  rw [if_pos hi,if_pos hi,if_pos h,if_pos h];exact ⟨rfl,rfl,hi,h⟩
 ·rw [if_neg hi] at h;cases h
theorem fail_alike (hy:Hy E A) {s u:Sta} (hs:Nice E A s) (hu:Nice E A u) (hi:E.isIn s=true) (e:E.key u=E.key s) (h:Fail E s):Fail E u:=by
 obtain ⟨n,h1,h2⟩:=h
 obtain ⟨a,b,_⟩:=look_alike hy.k [] (idle_nil E) (hy.nb s hi) n n s u (Nat.le_refl _) hs hu (lk_of_key hy.k hy.ar hs hu e).1
 exact ⟨n,by rw [b];exact h1,by rw [a];exact h2⟩
theorem adds_kn' (hy:Hy E A) {kn:List Bool} {room:Int} {s:Sta} (hs:Nice E A s) (h:Fail E s):Adds E A kn (E.kn' s kn room):=fun u hu hi hk=>by
 rcases kn'_mem hk with hk | ⟨hi2,e⟩
 ·exact .inl hk
 ·exact .inr (fail_alike hy hs hu hi2 e h)
theorem look_closed (Pd:List Bool→Int→Prop) (hcl:∀ s kn room,Pd kn room→Pd (E.kn' s kn room) (E.room' s kn room)):∀ (N n:Nat) (s:Sta) (kn:List Bool) (room:Int),n≤N→Pd kn room→Pd (look E n s kn room).kn (look E n s kn room).room
 | N,0,s,kn,room,_,h=>h
 | 0,n+1,s,kn,room,hn,_=>by omega
 | N+1,n+1,s,kn,room,hn,h=>by
  have ih:=look_closed Pd hcl N
  have h':=hcl s kn room h
  cases hd:E.dead s kn with
  | true=>rw [look_d hd];exact h'
  | false =>
  by_cases h13:(E.ins s).op=13∨(E.ins s).op=12
  ·rw [look_f hd h13];exact h'
  by_cases o2:(E.ins s).op=2
  ·obtain ⟨r,hr⟩:∃ r,r=look E n (s.set 0 (E.ins s).x) (E.kn' s kn room) (E.room' s kn room):=⟨_,rfl⟩
   have n1:=look_n E n (s.set 0 (E.ins s).x) (E.kn' s kn room) (E.room' s kn room)
   have k1:=ih n (s.set 0 (E.ins s).x) _ _ (by omega) h'
   rw [← hr] at n1 k1
   rw [look_2 hd o2 hr]
   split
   ·exact k1
   ·exact ih _ _ _ _ (by omega) k1
  by_cases o11:(E.ins s).op=11
  ·obtain ⟨r,hr⟩:∃ r,r=look E n (s.set 0 (gt s 0+1)) (E.kn' s kn room) (E.room' s kn room):=⟨_,rfl⟩
   have n1:=look_n E n (s.set 0 (gt s 0+1)) (E.kn' s kn room) (E.room' s kn room)
   have k1:=ih n (s.set 0 (gt s 0+1)) _ _ (by omega) h'
   rw [← hr] at n1 k1
   rw [look_11 hd o11 hr]
   split
   ·exact k1
   split
   ·exact ih _ _ _ _ (by omega) k1
   ·exact k1
  rw [look_1 hd o2 o11 (fun e=>h13 (.inr e)) (fun e=>h13 (.inl e))]
  split
  ·exact ih _ _ _ _ (by omega) h'
  ·exact h'
theorem apart_eq (s:Sta) (x:Ins) (a b:Sta) (ok:Bool) (h:ok=true→b=a):(apartP s x b ok).2=(apartP s x a ok).2∧((apartP s x a ok).2=true→(apartP s x b ok).1=(apartP s x a ok).1):=by
 unfold apartP
 split
 ·exact ⟨rfl,fun e=>by rw [h e]⟩
 split
 ·exact ⟨rfl,fun e=>by rw [h e]⟩
 ·exact ⟨rfl,fun _=>rfl⟩
theorem look_fewer (hy:Hy E A) (Pd:List Bool→Int→Prop) (hcl:∀ s kn room,Pd kn room→Pd (E.kn' s kn room) (E.room' s kn room))
  (hF:∀ n s kn room,Pd kn room→InR room→Nice E A s→KInv E A kn s→Fail E s→(look E n s kn room).over=false→(look E n s kn room).ok=false)
  (hG:∀ n s kn room,Pd kn room→InR room→Nice E A s→KInv E A kn s→(look E n s kn room).over=false→(look E n s kn room).ok=false→Fail E s) :
  ∀ (N n1 n2:Nat) (s:Sta) (kn1:List Bool) (room1:Int) (kn2:List Bool) (room2:Int),n1≤N→n1≤n2→Nice E A s→InR room1→InR room2→Pd kn1 room1→KInv E A kn1 s→KInv E A kn2 s→Rel kn1 room1 kn2 room2→(look E n1 s kn1 room1).over=false →
  (look E n2 s kn2 room2).over=false∧(look E n2 s kn2 room2).ok=(look E n1 s kn1 room1).ok∧((look E n1 s kn1 room1).ok=true→(look E n2 s kn2 room2).st=(look E n1 s kn1 room1).st)∧n2+(look E n1 s kn1 room1).n≤n1+(look E n2 s kn2 room2).n ∧
  ((look E n1 s kn1 room1).ok=false→Rel (look E n1 s kn1 room1).kn (look E n1 s kn1 room1).room (look E n2 s kn2 room2).kn (look E n2 s kn2 room2).room∧Adds E A kn1 (look E n1 s kn1 room1).kn∧Adds E A kn2 (look E n2 s kn2 room2).kn)
 | N,0,n2,s,kn1,room1,kn2,room2,_,_,_,_,_,_,_,_,_,ho=>by rw [look_zero] at ho;cases ho
 | 0,n1+1,n2,s,kn1,room1,kn2,room2,hn,_,_,_,_,_,_,_,_,_=>by omega
 | N+1,n1+1,0,s,kn1,room1,kn2,room2,_,hn,_,_,_,_,_,_,_,_=>by omega
 | N+1,n1+1,n2+1,s,kn1,room1,kn2,room2,hn,hnn,hs,hr1,hr2,hp,k1,k2,hR,ho=>by
  have ih:=look_fewer hy Pd hcl hF hG N
  have hK:=hy.k
  have hp':=hcl s kn1 room1 hp
  have i1:=E.room'_in s kn1 room1 hr1
  have i2:=E.room'_in s kn2 room2 hr2
  have fin:(look E (n1+1) s kn1 room1).ok=false→Fail E s:=hG _ _ _ _ hp hr1 hs k1 ho
  cases d1:E.dead s kn1 with
  | true =>
   obtain ⟨a1,a2,a3,a4⟩:=dead_idle room1 d1
   have d2:E.dead s kn2=true:=by
    unfold Env.dead;rw [if_pos a3]
    rcases hR with ⟨rfl,_⟩ | ⟨_,h⟩
    ·exact a4
    ·exact h _ a4
   obtain ⟨b1,b2,b3,b4⟩:=dead_idle room2 d2
   rw [look_d d1,look_d d2,a1,a2,b1,b2]
   exact ⟨rfl,rfl,fun e=>(by cases e),by dsimp only;omega,fun _=>⟨hR,Adds.refl _,Adds.refl _⟩⟩
  | false =>
  cases d2:E.dead s kn2 with
  | true =>
   obtain ⟨b1,b2,b3,b4⟩:=dead_idle room2 d2
   have hfs:Fail E s:=by
    rcases k2 s hs b3 b4 with h | h
    ·exact h
    ·omega
   have hok:=hF _ _ _ _ hp hr1 hs k1 hfs ho
   have hr0:room1=0∧∀ i,kn1.getD i false=true→kn2.getD i false=true:=by
    rcases hR with ⟨rfl,_⟩ | h
    ·rw [d1] at d2;cases d2
    ·exact h
   have hc:=look_closed (E:=E) (fun kn room=>kn=kn1∧room=0) (fun s kn room h=>by rw [h.1,h.2];exact idle_room E kn1 s) (n1+1) (n1+1) s kn1 room1 (Nat.le_refl _) ⟨rfl,hr0.1⟩
   have hlt:=look_n_lt E n1 s kn1 room1
   rw [look_d d2,b1,b2,hc.1,hc.2,hok]
   exact ⟨rfl,rfl,fun e=>(by cases e),by dsimp only;omega,fun _=>⟨.inr ⟨rfl,hr0.2⟩,Adds.refl _,Adds.refl _⟩⟩
  | false =>
  have hR':=hR.step d1 d2
  by_cases h13:(E.ins s).op=13∨(E.ins s).op=12
  ·rw [look_f d1 h13,look_f d2 h13]
   exact ⟨rfl,rfl,fun _=>rfl,by dsimp only;omega,fun e=>by cases e⟩
  by_cases o2:(E.ins s).op=2
  ·obtain ⟨⟨x1,x2,x3⟩,⟨y1,y2,y3⟩⟩:=step_split hK hs o2
   obtain ⟨r,hr⟩:∃ r,r=look E n1 (s.set 0 (E.ins s).x) (E.kn' s kn1 room1) (E.room' s kn1 room1):=⟨_,rfl⟩
   obtain ⟨q,hq⟩:∃ q,q=look E n2 (s.set 0 (E.ins s).x) (E.kn' s kn2 room2) (E.room' s kn2 room2):=⟨_,rfl⟩
   have l1:=look_n E n1 (s.set 0 (E.ins s).x) (E.kn' s kn1 room1) (E.room' s kn1 room1)
   have g1:=(look_good E hK.k.ok N n1 _ (E.kn' s kn1 room1) (E.room' s kn1 room1) (by omega) x1.g i1).2.2.1
   have g2:=(look_good E hK.k.ok n2 n2 _ (E.kn' s kn2 room2) (E.room' s kn2 room2) (by omega) x1.g i2).2.2.1
   have c1:=look_closed Pd hcl n1 n1 (s.set 0 (E.ins s).x) _ _ (Nat.le_refl _) hp'
   have j:=ih n1 n2 (s.set 0 (E.ins s).x) (E.kn' s kn1 room1) (E.room' s kn1 room1) (E.kn' s kn2 room2) (E.room' s kn2 room2) (by omega) (by omega) x1 i1 i2 hp' (k1.step hy hs x2) (k2.step hy hs x2) hR'
   rw [look_2 d1 o2 hr] at ho fin ⊢
   rw [look_2 d2 o2 hq]
   rw [← hr] at l1 g1 c1 j
   rw [← hq] at g2 j
   by_cases hro:(r.ok||r.over)=true
   ·rw [if_pos hro] at ho fin ⊢
    obtain ⟨j1,j2,j3,j4,j5⟩:=j ho
    have hok:r.ok=true:=by simpa [ho] using hro
    rw [if_pos (by rw [j2,hok];rfl)]
    exact ⟨j1,j2,j3,by omega,fun e=>by rw [hok] at e;cases e⟩
   ·rw [if_neg hro] at ho fin ⊢
    have hr2:r.ok=false∧r.over=false:=by simpa using hro
    obtain ⟨j1,j2,j3,j4,j5⟩:=j hr2.2
    obtain ⟨v1,v2,v3⟩:=j5 hr2.1
    rw [if_neg (by rw [j2,j1,hr2.1];simp)]
    have k:=ih r.n q.n (s.set 0 (E.ins s).y) r.kn r.room q.kn q.room (by omega) (by omega) y1 g1 g2 c1 ((k1.step hy hs y2).adds v2) ((k2.step hy hs y2).adds v3) v1 ho
    obtain ⟨z1,z2,z3,z4,z5⟩:=k
    refine ⟨z1,z2,z3,by omega,fun e=>?_⟩
    obtain ⟨w1,w2,w3⟩:=z5 e
    have hf:=fin e
    exact ⟨w1,((adds_kn' hy hs hf).trans v2).trans w2,((adds_kn' hy hs hf).trans v3).trans w3⟩
  by_cases o11:(E.ins s).op=11
  ·obtain ⟨x1,x2,x3,x4⟩:=step_in hK hs o11
   obtain ⟨r,hr⟩:∃ r,r=look E n1 (s.set 0 (gt s 0+1)) (E.kn' s kn1 room1) (E.room' s kn1 room1):=⟨_,rfl⟩
   obtain ⟨q,hq⟩:∃ q,q=look E n2 (s.set 0 (gt s 0+1)) (E.kn' s kn2 room2) (E.room' s kn2 room2):=⟨_,rfl⟩
   have l1:=look_n E n1 (s.set 0 (gt s 0+1)) (E.kn' s kn1 room1) (E.room' s kn1 room1)
   have g1:=look_good E hK.k.ok N n1 _ (E.kn' s kn1 room1) (E.room' s kn1 room1) (by omega) x1.g i1
   have e1:=look_end hK n1 n1 _ (E.kn' s kn1 room1) (E.room' s kn1 room1) (by omega) x1 i1
   have s1:=sub_end hK (n:=n1) (kn:=E.kn' s kn1 room1) hs o11 i1
   have t1:=look_apart hK hy.inn n1 n1 _ (E.kn' s kn1 room1) (E.room' s kn1 room1) (by omega) x1 i1 (by rw [x3];omega)
   have t2:=look_apart hK hy.inn n2 n2 _ (E.kn' s kn2 room2) (E.room' s kn2 room2) (by omega) x1 i2 (by rw [x3];omega)
   have j:=ih n1 n2 (s.set 0 (gt s 0+1)) (E.kn' s kn1 room1) (E.room' s kn1 room1) (E.kn' s kn2 room2) (E.room' s kn2 room2) (by omega) (by omega) x1 i1 i2 hp' (k1.step hy hs x2) (k2.step hy hs x2) hR'
   rw [look_11 d1 o11 hr] at ho fin ⊢
   rw [look_11 d2 o11 hq]
   rw [← hr] at l1 g1 e1 s1 t1 j
   rw [← hq] at t2 j
   by_cases hov:r.over=true
   ·rw [if_pos hov] at ho;cases ho
   rw [if_neg hov] at ho fin ⊢
   have hov':r.over=false:=by simpa using hov
   obtain ⟨j1,j2,j3,j4,j5⟩:=j hov'
   rw [if_neg (by rw [j1];simp),j2]
   obtain ⟨p1,p2⟩:=apart_eq s (E.ins s) r.st q.st r.ok j3
   rw [p1]
   rw [t1.1,t1.2] at ho fin ⊢
   rw [t2.1,t2.2]
   by_cases hk:(apartP s (E.ins s) r.st r.ok).2=true
   ·rw [if_pos hk] at ho fin ⊢
    rw [if_pos hk,p2 hk]
    obtain ⟨z1,z2,z3⟩:=step_out hK hs o11 g1.2.2.2.1 (fun e=>⟨(ended_pc x1).trans (e1 e),s1 e⟩) hk
    have k:=ih r.n q.n _ (E.kn' s kn1 room1) (E.room' s kn1 room1) (E.kn' s kn2 room2) (E.room' s kn2 room2) (by omega) (by omega) z1.1 i1 i2 hp' (k1.step hy hs z2) (k2.step hy hs z2) hR' ho
    obtain ⟨y1,y2,y3,y4,y5⟩:=k
    refine ⟨y1,y2,y3,by omega,fun e=>?_⟩
    obtain ⟨w1,w2,w3⟩:=y5 e
    have hf:=fin e
    exact ⟨w1,(adds_kn' hy hs hf).trans w2,(adds_kn' hy hs hf).trans w3⟩
   ·rw [if_neg hk] at ho fin ⊢
    rw [if_neg hk]
    have hf:=fin rfl
    exact ⟨rfl,rfl,fun e=>(by cases e),by dsimp only;omega,fun _=>⟨hR',adds_kn' hy hs hf,adds_kn' hy hs hf⟩⟩
  have o12:(E.ins s).op≠12:=fun e=>h13 (.inr e)
  have o13:(E.ins s).op≠13:=fun e=>h13 (.inl e)
  rw [look_1 d1 o2 o11 o12 o13] at ho fin ⊢
  rw [look_1 d2 o2 o11 o12 o13]
  by_cases hk:(oneP E.t s (E.ins s)).2=true
  ·rw [if_pos hk] at ho fin ⊢
   rw [if_pos hk]
   obtain ⟨⟨z1,z2,z3,z4⟩,z5⟩:=step_one hK hs o2 o11 o12 o13 hk
   obtain ⟨y1,y2,y3,y4,y5⟩:=ih n1 n2 _ (E.kn' s kn1 room1) (E.room' s kn1 room1) (E.kn' s kn2 room2) (E.room' s kn2 room2) (by omega) (by omega) z1 i1 i2 hp' (k1.step hy hs z2) (k2.step hy hs z2) hR' ho
   refine ⟨y1,y2,y3,by omega,fun e=>?_⟩
   obtain ⟨w1,w2,w3⟩:=y5 e
   have hf:=fin e
   exact ⟨w1,(adds_kn' hy hs hf).trans w2,(adds_kn' hy hs hf).trans w3⟩
  ·rw [if_neg hk] at ho fin ⊢
   rw [if_neg hk]
   have hf:=fin rfl
   exact ⟨rfl,rfl,fun e=>(by cases e),by dsimp only;omega,fun _=>⟨hR',adds_kn' hy hs hf,adds_kn' hy hs hf⟩⟩
end Mt
namespace Mt
variable {E:Env} {A:Int→Att}
theorem rel_nil (kn:List Bool) (room:Int):Rel [] 0 kn room:=.inr ⟨rfl,fun i h=>by simp at h⟩
theorem inR0:InR 0:=by unfold InR;omega
theorem nil_cl (s:Sta) (kn:List Bool) (room:Int) (h:PNil kn room):PNil (E.kn' s kn room) (E.room' s kn room):=by
 obtain ⟨rfl,rfl⟩:=h
 exact ⟨(idle_nil E s).2.1,(idle_nil E s).2.2⟩
theorem look_same {n m:Nat} {s:Sta} {kn:List Bool} {room:Int} (h1:(look E n s kn room).over=false) (h2:(look E m s kn room).over=false):(look E n s kn room).ok=(look E m s kn room).ok:=by
 have a:=look_more E m n n s kn room (Nat.le_refl _) h1
 have b:=look_more E n m m s kn room (Nat.le_refl _) h2
 rw [Nat.add_comm m n,a] at b
 injection b
theorem nil_F (n:Nat) (s:Sta) (kn:List Bool) (room:Int) (hp:PNil kn room) (_:InR room) (_:Nice E A s) (_:KInv E A kn s) (hf:Fail E s) (ho:(look E n s kn room).over=false):(look E n s kn room).ok=false:=by
 obtain ⟨rfl,rfl⟩:=hp
 obtain ⟨m,h1,h2⟩:=hf
 rw [look_same ho h1];exact h2
theorem nil_G (n:Nat) (s:Sta) (kn:List Bool) (room:Int) (hp:PNil kn room) (_:InR room) (_:Nice E A s) (_:KInv E A kn s) (ho:(look E n s kn room).over=false) (hk:(look E n s kn room).ok=false):Fail E s:=by
 obtain ⟨rfl,rfl⟩:=hp
 exact ⟨n,ho,hk⟩
theorem KF.inv {kn:List Bool} (h:KF E A kn) (s:Sta):KInv E A kn s:=fun u hu hi hk=>.inl (h u hu hi hk)
theorem kf_new (n:Nat):KF E A (List.replicate n false):=fun u _ _ h=>by
 rw [List.getD_eq_getElem?_getD,List.getElem?_replicate] at h
 split at h <;> simp at h
theorem start_nice (hK:Kn E.c A) (p:Nat) (hp:p≤E.t.size):Nice E A (startSt p):=by
 have e0:gt (startSt p) 0=0:=rfl
 refine ⟨startSt_good _ _ p hK.k.pos hp,fun j hj=>?_,fun i j hij hj=>?_⟩
 ·rw [e0,hK.k.start] at hj;dsimp only at hj;omega
 ·rw [e0,hK.k.start] at hj;dsimp only at hj;omega
theorem search_fewer (hy:Hy E A) (Pd:List Bool→Int→Prop) (hcl:∀ s kn room,Pd kn room→Pd (E.kn' s kn room) (E.room' s kn room))
  (hF:∀ n s kn room,Pd kn room→InR room→Nice E A s→KInv E A kn s→Fail E s→(look E n s kn room).over=false→(look E n s kn room).ok=false)
  (hG:∀ n s kn room,Pd kn room→InR room→Nice E A s→KInv E A kn s→(look E n s kn room).over=false→(look E n s kn room).ok=false→Fail E s) (b1 b2:Int) :
  ∀ (f p n1 n2:Nat) (kn1:List Bool) (room1:Int) (kn2:List Bool) (room2:Int),p+f≤E.t.size+1→n1≤n2→InR room1→InR room2→Pd kn1 room1→KF E A kn1→KF E A kn2→Rel kn1 room1 kn2 room2→(search E b1 f p n1 kn1 room1).2=false →
  (search E b2 f p n2 kn2 room2).2=false∧(search E b2 f p n2 kn2 room2).1.ok=(search E b1 f p n1 kn1 room1).1.ok∧(search E b2 f p n2 kn2 room2).1.at'=(search E b1 f p n1 kn1 room1).1.at'∧(search E b2 f p n2 kn2 room2).1.steps+n2-b2≤(search E b1 f p n1 kn1 room1).1.steps+n1-b1
 | 0,p,n1,n2,kn1,room1,kn2,room2,_,hn,_,_,_,_,_,_,_=>by
  simp only [search]
  exact ⟨trivial,trivial,trivial,by omega⟩
 | f+1,p,n1,n2,kn1,room1,kn2,room2,hpf,hn,hr1,hr2,hp,k1,k2,hR,ho=>by
  have hs:=start_nice (E:=E) hy.k p (by omega)
  have j:=look_fewer hy Pd hcl hF hG n1 n1 n2 (startSt p) kn1 room1 kn2 room2 (Nat.le_refl _) hn hs hr1 hr2 hp (k1.inv _) (k2.inv _) hR
  have g1:=(look_good E hy.k.k.ok n1 n1 (startSt p) kn1 room1 (Nat.le_refl _) hs.g hr1).2.2.1
  have g2:=(look_good E hy.k.k.ok n2 n2 (startSt p) kn2 room2 (Nat.le_refl _) hs.g hr2).2.2.1
  have c1:=look_closed Pd hcl n1 n1 (startSt p) kn1 room1 (Nat.le_refl _) hp
  have l1:=look_n E n1 (startSt p) kn1 room1
  have l2:=look_n E n2 (startSt p) kn2 room2
  rw [search] at ho ⊢
  rw [search]
  generalize look E n1 (startSt p) kn1 room1=r at *
  generalize look E n2 (startSt p) kn2 room2=q at *
  by_cases hov:r.over=true
  ·rw [if_pos hov] at ho;cases ho
  have hov':r.over=false:=by simpa using hov
  obtain ⟨j1,j2,j3,j4,j5⟩:=j hov'
  rw [if_neg hov] at ho ⊢
  rw [if_neg (by rw [j1];simp)]
  by_cases hok:r.ok=true
  ·rw [if_pos hok,if_pos (by rw [j2];exact hok),j3 hok]
   refine ⟨rfl,rfl,rfl,?_⟩
   dsimp only;omega
  ·have hok':r.ok=false:=by simpa using hok
   obtain ⟨v1,v2,v3⟩:=j5 hok'
   rw [if_neg hok] at ho ⊢
   rw [if_neg (by rw [j2];exact hok)]
   obtain ⟨z1,z2,z3,z4⟩:=search_fewer hy Pd hcl hF hG b1 b2 f (p+1) r.n q.n r.kn r.room q.kn q.room (by omega) (by omega) g1 g2 c1 (k1.adds v2) (k2.adds v3) v1 ho
   exact ⟨z1,z2,z3,by omega⟩
theorem env_hy {c:List Ins} {A:Int→Att} (hK:Kn c A) (t:ByteArray) (policy mask:Int):Hy (envOf c t policy mask) A:=by
 have key:∀ q,q<c.length→(chosen c policy mask).getD q false=true→hasBack c=false∧inSub c q=false:=fun q hq h=>by
  unfold chosen at h
  by_cases hb:hasBack c=true
  ·rw [if_pos hb,List.getD_eq_getElem?_getD,List.getElem?_replicate] at h
   split at h <;> simp at h
  ·rw [if_neg hb,List.getD_eq_getElem?_getD,List.getElem?_map,List.getElem?_range hq] at h
   refine ⟨by simpa using hb,?_⟩
   simp only [Option.map_some,Option.getD_some] at h
   unfold chosenAt at h
   cases e:inSub c q
   ·rfl
   ·rw [e] at h;simp at h
 have out:∀ q,(chosen c policy mask).getD q false=true→q<c.length:=fun q h=>by
  apply Classical.byContradiction
  intro hq
  rw [List.getD_eq_getElem?_getD,List.getElem?_eq_none (by rw [chosen_len];omega)] at h
  simp at h
 refine ⟨hK,fun p hp=>?_,fun s hg hi=>?_,fun s hi q hq=>?_⟩
 ·have hp:p<c.length:=hp
  show ((List.range c.length).map fun p=>(loopsAt c p:Int)).getD p 0=_
  rw [List.getD_eq_getElem?_getD,List.getElem?_map,List.getElem?_range hp];rfl
 ·have hpc:((pcOf s:Nat):Int)=gt s 0:=by have:=hg.pc0;unfold pcOf;omega
  rw [← hpc]
  exact hK.suby _ hg.pcOf_lt (key _ hg.pcOf_lt hi).2
 ·have hb:=(key _ (out _ hi) hi).1
  unfold hasBack at hb
  rw [List.any_eq_false] at hb
  have hq:q<c.length:=hq
  intro e
  have e:(c.getD q ins0).op=8:=e
  refine hb (c.getD q ins0) ?_ (by rw [decide_eq_true_eq];exact e)
  rw [List.getD_eq_getElem?_getD,List.getElem?_eq_getElem hq];exact List.getElem_mem hq
theorem table_plain {c:List Ins} {A:Int→Att} (hK:Kn c A) (t:ByteArray) (policy mask room budget:Int) (frm n:Nat) (hf:frm≤t.size+1) (hr:InR room) (hb:0≤budget) (hn:(search (envOf c t policy mask) 0 (t.size+1-frm) frm n [] 0).2=false) (h:(searchAll c t policy mask room budget frm).2=false) :
  (searchAll c t policy mask room budget frm).1.ok=(search (envOf c t policy mask) 0 (t.size+1-frm) frm n [] 0).1.ok∧(searchAll c t policy mask room budget frm).1.at'=(search (envOf c t policy mask) 0 (t.size+1-frm) frm n [] 0).1.at':=by
 unfold searchAll at h ⊢
 have hm:=search_more _ budget n _ _ _ _ _ h
 obtain ⟨a1,a2,a3,a4⟩:=search_fewer (env_hy hK t policy mask) PNil nil_cl nil_F nil_G 0 (budget+n) (t.size+1-frm) frm n (budget.toNat+n) [] 0 (List.replicate (c.length*(t.size+1)*12) false) room (by show frm+(t.size+1-frm)≤t.size+1;omega) (by omega) inR0 hr ⟨rfl,rfl⟩ (fun u _ _ h=>by simp at h) (kf_new _) (rel_nil _ _) hn
 rw [hm] at a2 a3
 exact ⟨a2,a3⟩
end Mt
namespace Mt
variable {E:Env} {s u:Sta} {r:Option Sta} {k k1 k2:Nat}
theorem gives_stop (h:(E.ins s).op=13∨(E.ins s).op=12):Gives E s (some s) 1:=by
 obtain ⟨d,k,r⟩:=idle_nil E s
 refine ⟨s,fun v e=>by injection e,fun m=>?_⟩
 rw [look_f d h,k,r];rfl
theorem gives_one (h2:(E.ins s).op≠2) (h11:(E.ins s).op≠11) (h12:(E.ins s).op≠12) (h13:(E.ins s).op≠13) (hk:(oneP E.t s (E.ins s)).2=true) (g:Gives E (oneP E.t s (E.ins s)).1 r k):Gives E s r (k+1):=by
 obtain ⟨d,kk,rr⟩:=idle_nil E s
 obtain ⟨u,hu,g⟩:=g
 refine ⟨u,hu,fun m=>?_⟩
 rw [show m+(k+1)=(m+k)+1 from rfl,look_1 d h2 h11 h12 h13,if_pos hk,kk,rr,g]
theorem gives_not (h2:(E.ins s).op≠2) (h11:(E.ins s).op≠11) (h12:(E.ins s).op≠12) (h13:(E.ins s).op≠13) (hk:(oneP E.t s (E.ins s)).2=false):Gives E s none 1:=by
 obtain ⟨d,kk,rr⟩:=idle_nil E s
 refine ⟨(oneP E.t s (E.ins s)).1,fun v e=>(by simp at e),fun m=>?_⟩
 rw [look_1 d h2 h11 h12 h13,if_neg (by rw [hk];simp),kk,rr];rfl
theorem gives_left (h:(E.ins s).op=2) (g:Gives E (s.set 0 (E.ins s).x) (some u) k):Gives E s (some u) (k+1):=by
 obtain ⟨d,kk,rr⟩:=idle_nil E s
 obtain ⟨v,hv,g⟩:=g
 refine ⟨v,hv,fun m=>?_⟩
 have:=look_2 (n:=m+k) (room:=0) d h rfl
 rw [kk,rr,g] at this
 rw [show m+(k+1)=(m+k)+1 from rfl,this];rfl
theorem gives_right (h:(E.ins s).op=2) (g1:Gives E (s.set 0 (E.ins s).x) none k1) (g2:Gives E (s.set 0 (E.ins s).y) r k2):Gives E s r (k2+k1+1):=by
 obtain ⟨d,kk,rr⟩:=idle_nil E s
 obtain ⟨v,hv,g1⟩:=g1
 obtain ⟨v2,hv2,g2⟩:=g2
 refine ⟨v2,hv2,fun m=>?_⟩
 have:=look_2 (n:=(m+k2)+k1) (room:=0) d h rfl
 rw [kk,rr,g1] at this
 rw [show m+(k2+k1+1)=((m+k2)+k1)+1 by omega,this]
 dsimp only
 rw [if_neg (by simp),g2]
theorem within_stop (h:(E.ins s).op=13∨(E.ins s).op=12):Within E 1 s (some s):=⟨1,Nat.le_refl _,gives_stop h⟩
theorem within_one {K:Nat} (h2:(E.ins s).op≠2) (h11:(E.ins s).op≠11) (h12:(E.ins s).op≠12) (h13:(E.ins s).op≠13) (hk:(oneP E.t s (E.ins s)).2=true) (g:Within E K (oneP E.t s (E.ins s)).1 r):Within E (K+1) s r:=by
 obtain ⟨k,a,b⟩:=g;exact ⟨k+1,by omega,gives_one h2 h11 h12 h13 hk b⟩
theorem within_not (h2:(E.ins s).op≠2) (h11:(E.ins s).op≠11) (h12:(E.ins s).op≠12) (h13:(E.ins s).op≠13) (hk:(oneP E.t s (E.ins s)).2=false):Within E 1 s none:=⟨1,Nat.le_refl _,gives_not h2 h11 h12 h13 hk⟩
theorem within_left {K:Nat} (h:(E.ins s).op=2) (g:Within E K (s.set 0 (E.ins s).x) (some u)):Within E (K+1) s (some u):=by
 obtain ⟨k,a,b⟩:=g;exact ⟨k+1,by omega,gives_left h b⟩
theorem within_right {K L:Nat} (h:(E.ins s).op=2) (g1:Within E K (s.set 0 (E.ins s).x) none) (g2:Within E L (s.set 0 (E.ins s).y) r):Within E (K+L+1) s r:=by
 obtain ⟨k,a,b⟩:=g1;obtain ⟨l,c,d⟩:=g2;exact ⟨l+k+1,by omega,gives_right h b d⟩
theorem search_miss {K:Nat} {b:Int}:∀ (f p n:Nat),(∀ q,p≤q→q<p+f→Within E K (startSt (q:Nat)) none)→f*K≤n →
  ∃ t,search E b f p n [] 0=(⟨false,nowhere,t⟩,false)
 | 0,p,n,_,_=>⟨_,rfl⟩
 | f+1,p,n,hq,hn=>by
  obtain ⟨k,hk,v,hv,g⟩:=hq p (Nat.le_refl _) (by omega)
  have e:(f+1)*K=f*K+K:=by rw [Nat.add_mul f 1 K];omega
  obtain ⟨m,rfl⟩:∃ m,n=m+k:=⟨n-k,by omega⟩
  rw [search,g]
  obtain ⟨t,ht⟩:=search_miss (b:=b) f (p+1) m (fun q h1 h2=>hq q (by omega) (by omega)) (by omega)
  refine ⟨t,?_⟩
  dsimp only
  rw [if_neg (by simp),if_neg (by simp),ht]
end Mt
namespace Mt
variable {E:Env} {r:Option Sta} {R:List Int} {K L:Nat} {pc pos:Nat}
theorem here_app {c:List Ins}:∀ {a b:List Ins} {p:Nat},Here c p (a++b)→Here c p a∧Here c (p+a.length) b
 | [],b,p,h=>⟨trivial,h⟩
 | x::a,b,p,h=>by
  obtain ⟨h1,h2⟩:=here_app (a:=a) h.2
  exact ⟨⟨h.1,h1⟩,by rw [List.length_cons,show p+(a.length+1)=p+1+a.length by omega];exact h2⟩
theorem here_in:∀ (b a c:List Ins),Here (a++(b++c)) a.length b
 | [],a,c=>trivial
 | x::b,a,c=>by
  refine ⟨by rw [List.getD_eq_getElem?_getD,List.getElem?_append_right (Nat.le_refl _)];simp,?_⟩
  have:=here_in b (a++[x]) c
  rw [List.length_append,List.append_assoc] at this
  exact this
theorem here_self (b c:List Ins):Here (b++c) 0 b:=here_in b [] c
theorem ins_at (E:Env) (pc:Nat) (l:List Int):E.ins ((pc:Int)::l)=E.c.getD pc ins0:=by
 unfold Env.ins pcOf gt;simp
theorem w_byte {s:List UInt8} (hc:E.c.getD pc ins0=⟨1,0,0,s⟩) (h:byteAt E.t pos s=true) (g:Within E K (((pc+1:Nat):Int)::((pos+1:Nat):Int)::R) r):Within E (K+1) ((pc:Int)::(pos:Int)::R) r:=by
 have hi:=ins_at E pc ((pos:Int)::R)
 rw [hc] at hi
 have e:oneP E.t ((pc:Int)::(pos:Int)::R) (E.ins ((pc:Int)::(pos:Int)::R))=(((pc+1:Nat):Int)::((pos+1:Nat):Int)::R,true):=by
  rw [hi];unfold oneP
  rw [if_pos rfl]
  unfold byteAt at h
  show (_,if (pos:Int)<E.t.size then hasB ⟨s.toArray⟩ (byI E.t (pos:Int).toNat) else false)=_
  rw [Int.toNat_natCast,h];rfl
 refine within_one (by rw [hi];simp) (by rw [hi];simp) (by rw [hi];simp) (by rw [hi];simp) (by rw [e]) (by rw [e];exact g)
theorem w_nobyte {s:List UInt8} (hc:E.c.getD pc ins0=⟨1,0,0,s⟩) (h:byteAt E.t pos s=false):Within E 1 ((pc:Int)::(pos:Int)::R) none:=by
 have hi:=ins_at E pc ((pos:Int)::R)
 rw [hc] at hi
 have e:(oneP E.t ((pc:Int)::(pos:Int)::R) (E.ins ((pc:Int)::(pos:Int)::R))).2=false:=by
  rw [hi];unfold oneP
  rw [if_pos rfl]
  unfold byteAt at h
  show (if (pos:Int)<E.t.size then hasB ⟨s.toArray⟩ (byI E.t (pos:Int).toNat) else false)=_
  rw [Int.toNat_natCast,h]
 exact within_not (by rw [hi];simp) (by rw [hi];simp) (by rw [hi];simp) (by rw [hi];simp) e
theorem w_jump {q:Nat} (hc:E.c.getD pc ins0=⟨3,(q:Int),0,[]⟩) (g:Within E K ((q:Int)::(pos:Int)::R) r):Within E (K+1) ((pc:Int)::(pos:Int)::R) r:=by
 have hi:=ins_at E pc ((pos:Int)::R)
 rw [hc] at hi
 have e:oneP E.t ((pc:Int)::(pos:Int)::R) (E.ins ((pc:Int)::(pos:Int)::R))=((q:Int)::(pos:Int)::R,true):=by
  rw [hi];rfl
 exact within_one (by rw [hi];simp) (by rw [hi];simp) (by rw [hi];simp) (by rw [hi];simp) (by rw [e]) (by rw [e];exact g)
theorem w_left {x y:Nat} {u:Sta} (hc:E.c.getD pc ins0=⟨2,(x:Int),(y:Int),[]⟩) (g:Within E K ((x:Int)::(pos:Int)::R) (some u)):Within E (K+1) ((pc:Int)::(pos:Int)::R) (some u):=by
 have hi:=ins_at E pc ((pos:Int)::R)
 rw [hc] at hi
 exact within_left (by rw [hi]) (by rw [hi];exact g)
theorem w_right {x y:Nat} (hc:E.c.getD pc ins0=⟨2,(x:Int),(y:Int),[]⟩) (g1:Within E K ((x:Int)::(pos:Int)::R) none) (g2:Within E L ((y:Int)::(pos:Int)::R) r):Within E (K+L+1) ((pc:Int)::(pos:Int)::R) r:=by
 have hi:=ins_at E pc ((pos:Int)::R)
 rw [hc] at hi
 exact within_right (by rw [hi]) (by rw [hi];exact g1) (by rw [hi];exact g2)
theorem w_stop {o:Int} (hc:E.c.getD pc ins0=⟨o,0,0,[]⟩) (ho:o=13∨o=12):Within E 1 ((pc:Int)::(pos:Int)::R) (some ((pc:Int)::(pos:Int)::R)):=by
 have hi:=ins_at E pc ((pos:Int)::R)
 rw [hc] at hi
 exact within_stop (by rw [hi];exact ho)
theorem here_alt {c:List Ins} {a b:Re} {p:Nat} {d:Int} (h:Here c p ((Re.alt a b).code p d)):c.getD p ins0=⟨2,((p+1:Nat):Int),((p+a.len+2:Nat):Int),[]⟩∧Here c (p+1) (a.code ((p+1:Nat):Int) d)∧c.getD (p+1+a.len) ins0=⟨3,((p+a.len+2+b.len:Nat):Int),0,[]⟩∧Here c (p+a.len+2) (b.code ((p+a.len+2:Nat):Int) d):=by
 rw [Re.code] at h
 obtain ⟨h1,h2⟩:=h
 obtain ⟨h3,h4⟩:=here_app h2
 rw [Re.code_len] at h4
 refine ⟨by rw [h1];simp,by simpa using h3,by rw [h4.1];simp,?_⟩
 have:=h4.2
 rw [show p+1+a.len+1=p+a.len+2 by omega] at this
 simpa using this
theorem here_cat {c:List Ins} {a b:Re} {p:Nat} {d:Int} (h:Here c p ((Re.cat a b).code p d)):Here c p (a.code p d)∧Here c (p+a.len) (b.code ((p+a.len:Nat):Int) d):=by
 rw [Re.code] at h
 obtain ⟨h3,h4⟩:=here_app h
 rw [Re.code_len] at h4
 exact ⟨h3,by simpa using h4⟩
end Mt
namespace Mt
variable {E:Env} {u v w:List UInt8} {R:List Int} {pos:Nat}
end Mt
namespace Mt
theorem reads_read {p:ByteArray} {l m:List Tok} {i j:Int} (h:Reads p l i m j):j=p.size→0≤j→readOn p l i=(l++m,0,(p.size:Int)):=by
 induction h with
 | nil l i =>
  intro e h0
  rw [readOn_step p l i h0 (by omega),if_pos (by omega),e];simp
 | @cons l m i j t h0 h1 ht hm hl ih =>
  intro e hj
  rw [readOn_step p l i h0 (by omega),if_neg (by omega),ht,if_neg (by simp),if_neg (by rw [hm];simp),ih e hj];simp
theorem code_reads (p:ByteArray) (T:Fs) (hp:p.size≤64) (hw:T.wf) (hl:Reads p [] 0 T.flat p.size) (ho:opened T.flat=0) (hn:T.flat.length≤64):codeR p=codeOf T.re:=by
 have hr:=reads_read hl rfl (by omega)
 rw [List.nil_append] at hr
 have ht:tokens p=(T.flat,0,0):=by
  unfold tokens
  rw [if_neg (by omega),readOn_start p hp,hr,if_neg (by simp),if_neg (by rw [ho];simp)]
 have e:=treeOf_flat T hw hn
 have hc:=coded_len T.flat
 rw [e] at hc
 have hk:checkR p=if 300<(coded T.flat).length then (12,0) else (0,0):=by unfold checkR;rw [ht];simp
 unfold codeR codeOf
 rw [hk,ht]
 by_cases x:300<T.re.len+1
 ·rw [if_pos x,if_pos (hc.2 x)];simp
 ·have hlen:=hc.1 (by omega)
  have:=(coded_tree T.flat (by omega)).1
  rw [e] at this
  rw [if_neg x,if_neg (show ¬ 300<(coded T.flat).length by omega)]
  simp [this]
theorem reads_group {p:ByteArray} {l:List Tok} {i:Int} {c:UInt8} {how:Int} (h:Holds p i [40,63,c]) (hc:(c=58∧how=3)∨(c=62∧how=0)∨(c=61∧how=1)∨(c=33∧how=2)) (ho:opened l<10):Reads p l i [⟨6,i,i+3,0,0,how,[]⟩] (i+3):=by
 obtain ⟨h0,h1,h2,h3,h4,h5,h6,h7,h8,h9⟩:=h
 have e2:atB p i=40:=h2
 have e5:atB p (i+1)=63:=h5
 have e8:atB p (i+2)=(c.toNat:Int):=by rw [← h8];congr 1;omega
 have hn:nextT p i=(⟨6,i,i+3,0,0,how,[]⟩,0):=by
  unfold nextT
  rw [e2,if_neg (by omega),if_neg (by omega),if_neg (by omega),if_neg (by omega),if_neg (by omega),if_neg (by omega),if_pos rfl]
  unfold opening
  rw [e5,e8]
  rcases hc with ⟨rfl,rfl⟩ | ⟨rfl,rfl⟩ | ⟨rfl,rfl⟩ | ⟨rfl,rfl⟩ <;> rfl
 refine Reads.one h0 h1 hn ?_ ?_
 ·unfold may
  rcases hc with ⟨rfl,rfl⟩ | ⟨rfl,rfl⟩ | ⟨rfl,rfl⟩ | ⟨rfl,rfl⟩ <;> simp <;> omega
 ·unfold joined isCap
  rcases hc with ⟨rfl,rfl⟩ | ⟨rfl,rfl⟩ | ⟨rfl,rfl⟩ | ⟨rfl,rfl⟩ <;> simp
theorem reads_close {p:ByteArray} {l:List Tok} {i:Int} (h:Holds p i [41]) (ho:opened l≠0):Reads p l i [⟨7,i,i+1,0,0,0,[]⟩] (i+1):=by
 obtain ⟨h0,h1,h2,h3⟩:=h
 have e2:atB p i=41:=h2
 have hn:nextT p i=(⟨7,i,i+1,0,0,0,[]⟩,0):=by
  unfold nextT
  rw [e2,if_neg (by omega),if_pos rfl]
 exact Reads.one h0 h1 hn (by unfold may;simp [ho]) (by unfold joined isCap;simp)
theorem reads_bar {p:ByteArray} {l:List Tok} {i:Int} (h:Holds p i [124]):Reads p l i [⟨5,i,i+1,0,0,0,[]⟩] (i+1):=by
 obtain ⟨h0,h1,h2,h3⟩:=h
 have e2:atB p i=124:=h2
 have hn:nextT p i=(⟨5,i,i+1,0,0,0,[]⟩,0):=by
  unfold nextT
  rw [e2,if_pos rfl]
 exact Reads.one h0 h1 hn (by unfold may;simp) (by unfold joined isCap;simp)
variable {E:Env} {r:Option Sta} {R:List Int} {K L:Nat} {pc pos:Nat}
theorem search_hit2 {K H:Nat} {b:Int} {u:Sta}:∀ (j p f n:Nat),j<f→(∀ q,p≤q→q<p+j→Within E K (startSt (q:Nat)) none)→Within E H (startSt ((p+j:Nat):Int)) (some u)→j*K+H≤n →
  ∃ t,search E b f p n [] 0=(⟨true,foundAt ((p+j:Nat):Int) u,t⟩,false)
 | 0,p,f+1,n,_,_,h,hn=>by
  obtain ⟨k,hk,v,hv,g⟩:=h
  obtain ⟨m,rfl⟩:∃ m,n=m+k:=⟨n-k,by omega⟩
  rw [Nat.add_zero] at g ⊢
  rw [search,g]
  rw [hv u rfl]
  exact ⟨_,rfl⟩
 | j+1,p,f+1,n,hj,hq,h,hn=>by
  obtain ⟨k,hk,v,hv,g⟩:=hq p (Nat.le_refl _) (by omega)
  have e:(j+1)*K=j*K+K:=by rw [Nat.add_mul j 1 K];omega
  obtain ⟨m,rfl⟩:∃ m,n=m+k:=⟨n-k,by omega⟩
  rw [search,g]
  obtain ⟨t,ht⟩:=search_hit2 (b:=b) j (p+1) f m (by omega) (fun q h1 h2=>hq q (by omega) (by omega)) (by rw [show p+1+j=p+(j+1) by omega];exact h) (by omega)
  refine ⟨t,?_⟩
  dsimp only
  rw [if_neg (by simp),if_neg (by simp),ht,show p+1+j=p+(j+1) by omega]
theorem here_last (a:List Ins) (x:Ins):(a++[x]).getD a.length ins0=x:=by
 rw [List.getD_eq_getElem?_getD,List.getElem?_append_right (Nat.le_refl _)];simp
section
variable {u v w:List UInt8}
end
end Mt
namespace Mt
theorem holds_one {p:ByteArray} {i:Int} {x:UInt8} {r:List UInt8} (h:Holds p i (x::r)):Holds p i [x]:=(holds_app [x] r i h).1
variable {E:Env} {r:Option Sta} {R:List Int} {K L:Nat} {pc pos:Nat} {w:List UInt8}
theorem here_opt {c:List Ins} {a:Re} {p:Nat} {d:Int} {late:Bool} (h:Here c p ((Re.opt late a).code p d)):c.getD p ins0=(if late then ⟨2,((p+a.len+1:Nat):Int),((p+1:Nat):Int),[]⟩ else ⟨2,((p+1:Nat):Int),((p+a.len+1:Nat):Int),[]⟩)∧Here c (p+1) (a.code ((p+1:Nat):Int) d):=by
 rw [Re.code] at h
 obtain ⟨h1,h2⟩:=h
 exact ⟨by rw [h1];unfold spl;cases late <;> simp,by simpa using h2⟩
theorem w_mark {d:Nat} (hc:E.c.getD pc ins0=⟨4,(d:Int),0,[]⟩) (g:Within E K (((pc+1:Nat):Int)::(pos:Int)::R.set (30+d) pos) r):Within E (K+1) ((pc:Int)::(pos:Int)::R) r:=by
 have hi:=ins_at E pc ((pos:Int)::R)
 rw [hc] at hi
 have e:oneP E.t ((pc:Int)::(pos:Int)::R) (E.ins ((pc:Int)::(pos:Int)::R))=(((pc+1:Nat):Int)::(pos:Int)::R.set (30+d) pos,true):=by
  rw [hi]
  show ((((pc:Int)::(pos:Int)::R).set (32+(d:Int).toNat) (pos:Int)).set 0 ((pc:Int)+1),true)=_
  rw [Int.toNat_natCast,show 32+d=30+d+1+1 by omega,List.set_cons_succ,List.set_cons_succ];rfl
 exact within_one (by rw [hi];simp) (by rw [hi];simp) (by rw [hi];simp) (by rw [hi];simp) (by rw [e]) (by rw [e];exact g)
theorem w_again {q d:Nat} (hc:E.c.getD pc ins0=⟨5,(q:Int),(d:Int),[]⟩) (hm:R.getD (30+d) 0≠(pos:Int)) (g:Within E K ((q:Int)::(pos:Int)::R) r):Within E (K+1) ((pc:Int)::(pos:Int)::R) r:=by
 have hi:=ins_at E pc ((pos:Int)::R)
 rw [hc] at hi
 have e:oneP E.t ((pc:Int)::(pos:Int)::R) (E.ins ((pc:Int)::(pos:Int)::R))=((q:Int)::(pos:Int)::R,true):=by
  rw [hi]
  show (((pc:Int)::(pos:Int)::R).set 0 (q:Int),gt ((pc:Int)::(pos:Int)::R) (32+(d:Int).toNat) != (pos:Int))=_
  have e1:gt ((pc:Int)::(pos:Int)::R) (32+(d:Int).toNat)=R.getD (30+d) 0:=by
   unfold gt
   rw [Int.toNat_natCast,show 32+d=30+d+1+1 by omega,List.getD_cons_succ,List.getD_cons_succ]
  rw [e1]
  have:(R.getD (30+d) 0 != (pos:Int))=true:=by simpa using hm
  rw [this];rfl
 exact within_one (by rw [hi];simp) (by rw [hi];simp) (by rw [hi];simp) (by rw [hi];simp) (by rw [e]) (by rw [e];exact g)
theorem here_loop {c:List Ins} {a:Re} {p:Nat} {d:Nat} {late:Bool} (h:Here c p ((Re.loop late a).code p d)):c.getD p ins0=(if late then ⟨2,((p+a.len+3:Nat):Int),((p+1:Nat):Int),[]⟩ else ⟨2,((p+1:Nat):Int),((p+a.len+3:Nat):Int),[]⟩)∧c.getD (p+1) ins0=⟨4,(d:Int),0,[]⟩∧Here c (p+2) (a.code ((p+2:Nat):Int) ((d+1:Nat):Int))∧c.getD (p+2+a.len) ins0=⟨5,(p:Int),(d:Int),[]⟩:=by
 rw [Re.code] at h
 obtain ⟨h1,h2,h3⟩:=h
 obtain ⟨h4,h5⟩:=here_app h3
 rw [Re.code_len] at h5
 exact ⟨by rw [h1];unfold spl;cases late <;> simp,h2,by simpa using h4,h5.1⟩
end Mt
namespace Mt
theorem star_cases {A:Nat→Nat→Prop} {i j:Nat} (h:Star A i j):i=j∨∃ k,A i k∧k≠i∧Star A k j:=by
 induction h with
 | stop i=>exact .inl rfl
 | @more i k j h g ih =>
  by_cases e:k=i
  ·subst e;exact ih
  ·exact .inr ⟨k,h,e,g⟩
section
variable {E:Env}
theorem w_noagain {pc pos q d:Nat} {R:List Int} (hc:E.c.getD pc ins0=⟨5,(q:Int),(d:Int),[]⟩) (hm:R.getD (30+d) 0=(pos:Int)):Within E 1 ((pc:Int)::(pos:Int)::R) none:=by
 have hi:=ins_at E pc ((pos:Int)::R)
 rw [hc] at hi
 have e:(oneP E.t ((pc:Int)::(pos:Int)::R) (E.ins ((pc:Int)::(pos:Int)::R))).2=false:=by
  rw [hi]
  show (gt ((pc:Int)::(pos:Int)::R) (32+(d:Int).toNat) != (pos:Int))=_
  have e1:gt ((pc:Int)::(pos:Int)::R) (32+(d:Int).toNat)=R.getD (30+d) 0:=by
   unfold gt
   rw [Int.toNat_natCast,show 32+d=30+d+1+1 by omega,List.getD_cons_succ,List.getD_cons_succ]
  rw [e1,hm];simp
 exact within_not (by rw [hi];simp) (by rw [hi];simp) (by rw [hi];simp) (by rw [hi];simp) e
theorem ends_split {pc pos x y:Nat} {R:List Int} {A B:Prop} {T:Sta→Prop} (hc:E.c.getD pc ins0=⟨2,(x:Int),(y:Int),[]⟩) (ha:Ends E x pos R A T) (hb:Ends E y pos R B T):Ends E pc pos R (A∨B) T:=by
 refine ⟨fun s=>?_,fun s=>?_⟩
 ·by_cases a:A
  ·obtain ⟨K,u,h1,h2⟩:=ha.1 a
   exact ⟨_,u,w_left hc h1,h2⟩
  ·obtain ⟨K,h1⟩:=ha.2 a
   obtain ⟨L,u,h3,h4⟩:=hb.1 (s.resolve_left a)
   exact ⟨_,u,w_right hc h1 h3,h4⟩
 ·obtain ⟨K,h1⟩:=ha.2 (fun a=>s (.inl a))
  obtain ⟨L,h3⟩:=hb.2 (fun b=>s (.inr b))
  exact ⟨_,w_right hc h1 h3⟩
theorem ends_jump {pc pos q:Nat} {R:List Int} {A:Prop} {T:Sta→Prop} (hc:E.c.getD pc ins0=⟨3,(q:Int),0,[]⟩) (h:Ends E q pos R A T):Ends E pc pos R A T :=
 ⟨fun s=>by obtain ⟨K,u,a,b⟩:=h.1 s;exact ⟨_,u,w_jump hc a,b⟩,fun s=>by obtain ⟨K,a⟩:=h.2 s;exact ⟨_,w_jump hc a⟩⟩
theorem ends_mark {pc pos d:Nat} {R:List Int} {A:Prop} {T:Sta→Prop} (hc:E.c.getD pc ins0=⟨4,(d:Int),0,[]⟩) (h:Ends E (pc+1) pos (R.set (30+d) (pos:Int)) A T):Ends E pc pos R A T :=
 ⟨fun s=>by obtain ⟨K,u,a,b⟩:=h.1 s;exact ⟨_,u,w_mark hc a,b⟩,fun s=>by obtain ⟨K,a⟩:=h.2 s;exact ⟨_,w_mark hc a⟩⟩
theorem run_plain:∀ (r:Re),r.plain=true→∀ (p d pos:Nat) (R:List Int) (S:Nat→Prop) (T:Nat→Sta→Prop),Here E.c p (r.code p (d:Int))→pos≤E.t.size→d+r.nest≤12→R.length=42 →
  (∀ j R',pos≤j→j≤E.t.size→Agree d R R'→Ends E (p+r.len) j R' (S j) (T j)) →
  Ends E p pos R (∃ j,Fits E.t r pos j∧S j) (fun u=>∃ j,Fits E.t r pos j∧S j∧T j u)
 | .eps,_,p,d,pos,R,S,T,h,hp,hd,hR,hc=>by
  have:=hc pos R (Nat.le_refl _) hp (Agree.refl _ _)
  refine ⟨fun s=>?_,fun s=>this.2 (fun x=>s ⟨pos,rfl,x⟩)⟩
  obtain ⟨j,e,s⟩:=s
  obtain rfl:pos=j:=e
  obtain ⟨K,u,a,b⟩:=this.1 s
  exact ⟨K,u,a,pos,rfl,s,b⟩
 | .one b,_,p,d,pos,R,S,T,h,hp,hd,hR,hc=>by
  cases e:byteAt E.t pos b
  ·refine ⟨fun ⟨j,hj,_⟩=>?_,fun _=>⟨1,w_nobyte h.1 e⟩⟩
   have:=hj.2
   rw [e] at this;cases this
  ·have hf:Fits E.t (.one b) pos (pos+1):=⟨rfl,e⟩
   have hin:=fits_in E.t (.one b) pos (pos+1) hp hf
   have:=hc (pos+1) R (by omega) hin.2 (Agree.refl _ _)
   refine ⟨fun s=>?_,fun s=>?_⟩
   ·obtain ⟨j,hj,s⟩:=s
    obtain rfl:j=pos+1:=hj.1
    obtain ⟨K,u,a,g⟩:=this.1 s
    exact ⟨_,u,w_byte h.1 e a,_,hf,s,g⟩
   ·obtain ⟨K,a⟩:=this.2 (fun x=>s ⟨_,hf,x⟩)
    exact ⟨_,w_byte h.1 e a⟩
 | .cat a b,hpl,p,d,pos,R,S,T,h,hp,hd,hR,hc=>by
  obtain ⟨pa,pb⟩:a.plain=true∧b.plain=true:=by simpa [Re.plain] using hpl
  obtain ⟨ha,hb⟩:=here_cat h
  have hn:d+a.nest≤12∧d+b.nest≤12:=by simp only [Re.nest] at hd;omega
  have:=run_plain a pa p d pos R (fun k=>∃ j,Fits E.t b k j∧S j) (fun k u=>∃ j,Fits E.t b k j∧S j∧T j u) ha hp hn.1 hR (fun k R' h1 h2 hA =>
   run_plain b pb (p+a.len) d k R' S T hb h2 hn.2 (hA.1.trans hR) (fun j R2 h3 h4 hA2=>by
    have:=hc j R2 (by omega) h4 (hA.trans hA2)
    rw [Re.len,← Nat.add_assoc] at this
    exact this))
  refine this.same ⟨fun ⟨j,⟨k,h1,h2⟩,s⟩=>⟨k,h1,j,h2,s⟩,fun ⟨k,h1,j,h2,s⟩=>⟨j,⟨k,h1,h2⟩,s⟩⟩ (fun u ⟨k,h1,_,j,h2,s,g⟩=>⟨j,⟨k,h1,h2⟩,s,g⟩)
 | .alt a b,hpl,p,d,pos,R,S,T,h,hp,hd,hR,hc=>by
  obtain ⟨pa,pb⟩:a.plain=true∧b.plain=true:=by simpa [Re.plain] using hpl
  obtain ⟨h0,ha,hj,hb⟩:=here_alt h
  have hn:d+a.nest≤12∧d+b.nest≤12:=by simp only [Re.nest] at hd;omega
  have el:p+(Re.alt a b).len=p+a.len+2+b.len:=by simp only [Re.len];omega
  rw [el] at hc
  have x:=run_plain a pa (p+1) d pos R S T ha hp hn.1 hR (fun j R' h1 h2 hA=>ends_jump hj (hc j R' h1 h2 hA))
  have y:=run_plain b pb (p+a.len+2) d pos R S T hb hp hn.2 hR hc
  have x':=x.same (T':=fun u=>∃ j,Fits E.t (.alt a b) pos j∧S j∧T j u) Iff.rfl (fun u ⟨j,h1,s,g⟩=>⟨j,.inl h1,s,g⟩)
  have y':=y.same (T':=fun u=>∃ j,Fits E.t (.alt a b) pos j∧S j∧T j u) Iff.rfl (fun u ⟨j,h1,s,g⟩=>⟨j,.inr h1,s,g⟩)
  refine (ends_split h0 x' y').same ⟨fun ⟨j,h1,s⟩=>?_,fun h=>?_⟩ (fun u g=>g)
  ·rcases (h1:Fits E.t a pos j∨Fits E.t b pos j) with h1 | h1
   ·exact .inl ⟨j,h1,s⟩
   ·exact .inr ⟨j,h1,s⟩
  ·rcases h with ⟨j,h1,s⟩ | ⟨j,h1,s⟩
   ·exact ⟨j,.inl h1,s⟩
   ·exact ⟨j,.inr h1,s⟩
 | .opt late a,hpl,p,d,pos,R,S,T,h,hp,hd,hR,hc=>by
  obtain ⟨h0,ha⟩:=here_opt h
  have el:p+(Re.opt late a).len=p+a.len+1:=by simp only [Re.len];omega
  rw [el] at hc
  have x:=run_plain a hpl (p+1) d pos R S T ha hp hd hR (fun j R' h1 h2 hA=>by rw [show p+1+a.len=p+a.len+1 by omega];exact hc j R' h1 h2 hA)
  have x':=x.same (T':=fun u=>∃ j,Fits E.t (.opt late a) pos j∧S j∧T j u) Iff.rfl (fun u ⟨j,h1,s,g⟩=>⟨j,.inl h1,s,g⟩)
  have y:=hc pos R (Nat.le_refl _) hp (Agree.refl _ _)
  have y':Ends E (p+a.len+1) pos R (S pos) (fun u=>∃ j,Fits E.t (.opt late a) pos j∧S j∧T j u):=by
   refine ⟨fun s=>?_,y.2⟩
   obtain ⟨K,u,h1,h2⟩:=y.1 s
   exact ⟨K,u,h1,pos,.inr rfl,s,h2⟩
  have key:(∃ j,Fits E.t (.opt late a) pos j∧S j)↔((∃ j,Fits E.t a pos j∧S j)∨S pos):=by
   constructor
   ·rintro ⟨j,h1,s⟩
    rcases (h1:Fits E.t a pos j∨pos=j) with h1 | rfl
    ·exact .inl ⟨j,h1,s⟩
    ·exact .inr s
   ·rintro (⟨j,h1,s⟩ | s)
    ·exact ⟨j,.inl h1,s⟩
    ·exact ⟨pos,.inr rfl,s⟩
  cases late
  ·simp only [Bool.false_eq_true,if_false] at h0
   exact (ends_split h0 x' y').same key (fun u g=>g)
  ·simp only [if_true] at h0
   exact (ends_split h0 y' x').same (key.trans Or.comm) (fun u g=>g)
 | .loop late a,hpl,p,d,pos0,R0,S,T,h,hp0,hd,hR0,hc0=>by
  obtain ⟨h0,h1,ha,h5⟩:=here_loop h
  have el:p+(Re.loop late a).len=p+a.len+3:=by simp only [Re.len];omega
  rw [el] at hc0
  have hn:d+1+a.nest≤12:=by simp only [Re.nest] at hd;omega
  have all:∀ (f pos:Nat) (R:List Int),E.t.size-pos≤f→pos≤E.t.size→R.length=42→(∀ j R',pos≤j→j≤E.t.size→Agree d R R'→Ends E (p+a.len+3) j R' (S j) (T j)) →
    Ends E p pos R (∃ j,Star (Fits E.t a) pos j∧S j) (fun u=>∃ j,Star (Fits E.t a) pos j∧S j∧T j u):=by
   intro f
   induction f with
   | zero =>
    intro pos R hf hp hR hc
    have x:=run_plain a hpl (p+2) (d+1) pos (R.set (30+d) (pos:Int)) (fun _=>False) (fun _ _=>False) ha hp hn (by simpa using hR) (fun k R' h1 h2 hA=>by
     have:k=pos:=by omega
     subst this
     refine ⟨fun s=>s.elim,fun _=>⟨1,?_⟩⟩
     exact w_noagain h5 (hA.mark (by omega)))
    have x':Ends E (p+1) pos R False (fun u=>∃ j,Star (Fits E.t a) pos j∧S j∧T j u):=ends_mark h1 (x.same ⟨fun h=>h.elim,fun ⟨_,_,h⟩=>h⟩ (fun u ⟨_,_,h,_⟩=>h.elim))
    have y:=hc pos R (Nat.le_refl _) hp (Agree.refl _ _)
    have y':Ends E (p+a.len+3) pos R (S pos) (fun u=>∃ j,Star (Fits E.t a) pos j∧S j∧T j u):=by
     refine ⟨fun s=>?_,y.2⟩
     obtain ⟨K,u,h1,h2⟩:=y.1 s
     exact ⟨K,u,h1,pos,.stop _,s,h2⟩
    have key:(∃ j,Star (Fits E.t a) pos j∧S j)↔(False∨S pos):=by
     constructor
     ·rintro ⟨j,h1,s⟩
      rcases star_cases h1 with rfl | ⟨k,h2,h3,h4⟩
      ·exact .inr s
      ·have:=fits_in E.t a pos k hp h2;omega
     ·rintro (h | s)
      ·exact h.elim
      ·exact ⟨pos,.stop _,s⟩
    cases late
    ·simp only [Bool.false_eq_true,if_false] at h0
     exact (ends_split h0 x' y').same key (fun u g=>g)
    ·simp only [if_true] at h0
     exact (ends_split h0 y' x').same (key.trans Or.comm) (fun u g=>g)
   | succ f ih =>
    intro pos R hf hp hR hc
    have x:=run_plain a hpl (p+2) (d+1) pos (R.set (30+d) (pos:Int)) (fun k=>k≠pos∧∃ j,Star (Fits E.t a) k j∧S j) (fun k u=>∃ j,Star (Fits E.t a) k j∧S j∧T j u) ha hp hn (by simpa using hR) (fun k R' hk1 hk2 hA=>by
     have hmk:=hA.mark (by omega)
     have hA':Agree d R R':=(Agree.set d R _).trans hA.less
     by_cases e:k=pos
     ·subst e
      exact ⟨fun s=>absurd rfl s.1,fun _=>⟨1,w_noagain h5 hmk⟩⟩
     ·have z:=ih k R' (by omega) hk2 (hA'.1.trans hR) (fun j R2 hj1 hj2 hA2=>hc j R2 (by omega) hj2 (hA'.trans hA2))
      have hne:R'.getD (30+d) 0≠(k:Int):=by rw [hmk];omega
      refine ⟨fun s=>?_,fun s=>?_⟩
      ·obtain ⟨K,u,g1,g2⟩:=z.1 s.2
       exact ⟨_,u,w_again h5 hne g1,g2⟩
      ·obtain ⟨K,g1⟩:=z.2 (fun g=>s ⟨e,g⟩)
       exact ⟨_,w_again h5 hne g1⟩)
    have x':Ends E (p+1) pos R (∃ k,Fits E.t a pos k∧k≠pos∧∃ j,Star (Fits E.t a) k j∧S j) (fun u=>∃ j,Star (Fits E.t a) pos j∧S j∧T j u):=ends_mark h1 (x.same Iff.rfl (fun u ⟨k,g1,_,j,g2,s,g3⟩=>⟨j,.more g1 g2,s,g3⟩))
    have y:=hc pos R (Nat.le_refl _) hp (Agree.refl _ _)
    have y':Ends E (p+a.len+3) pos R (S pos) (fun u=>∃ j,Star (Fits E.t a) pos j∧S j∧T j u):=by
     refine ⟨fun s=>?_,y.2⟩
     obtain ⟨K,u,h1,h2⟩:=y.1 s
     exact ⟨K,u,h1,pos,.stop _,s,h2⟩
    have key:(∃ j,Star (Fits E.t a) pos j∧S j)↔((∃ k,Fits E.t a pos k∧k≠pos∧∃ j,Star (Fits E.t a) k j∧S j)∨S pos):=by
     constructor
     ·rintro ⟨j,h1,s⟩
      rcases star_cases h1 with rfl | ⟨k,h2,h3,h4⟩
      ·exact .inr s
      ·exact .inl ⟨k,h2,h3,j,h4,s⟩
     ·rintro (⟨k,h2,h3,j,h4,s⟩ | s)
      ·exact ⟨j,.more h2 h4,s⟩
      ·exact ⟨pos,.stop _,s⟩
    cases late
    ·simp only [Bool.false_eq_true,if_false] at h0
     exact (ends_split h0 x' y').same key (fun u g=>g)
    ·simp only [if_true] at h0
     exact (ends_split h0 y' x').same (key.trans Or.comm) (fun u g=>g)
  exact all _ pos0 R0 (Nat.le_refl _) hp0 hR0 hc0
end
theorem all_dot (p:ByteArray) (i:Int):all p i i true=dotS:=by
 have e:∀ c:Int,inClass p i i c=false:=fun c=>by rw [inClass_step,if_pos (Int.le_refl _)]
 have e2:(List.range 256).filter (fun c:Nat=>inClass p i i (c:Int) != true)=List.range 256:=by
  rw [List.filter_eq_self]
  intro a _
  rw [e];rfl
 unfold all allTo dotS
 rw [e2]
variable {E:Env} {A:Int→Att}
theorem keysTo_len (E:Env):∀ k,(keysTo E k).length=(E.t.size+1)*weightTo E.c k
 | 0=>by simp [keysTo,weightTo]
 | k+1=>by
  rw [keysTo,List.length_append,keysTo_len E k,weightTo_next]
  have:(keysAt E k).length=(E.t.size+1)*(loopsAt E.c k+1):=flat_len (fun i=>by simp) _
  rw [this,Nat.add_assoc,Nat.mul_add (E.t.size+1) (weightTo E.c k),Nat.add_comm 1]
theorem keysTo_mem (E:Env) {p pos l:Nat} (hpos:pos≤E.t.size) (hl:l≤loopsAt E.c p):∀ k,p<k→(p*(E.t.size+1)+pos)*12+l∈keysTo E k
 | 0,h=>by omega
 | k+1,h=>by
  rw [keysTo,List.mem_append]
  by_cases e:p<k
  ·exact .inl (keysTo_mem E hpos hl k e)
  ·obtain rfl:p=k:=by omega
   right
   unfold keysAt
   rw [List.mem_flatMap]
   refine ⟨pos,by rw [List.mem_range];omega,?_⟩
   rw [List.mem_map]
   exact ⟨l,by rw [List.mem_range];omega,rfl⟩
theorem inTab_le (E:Env) (kn:List Bool):inTab E kn≤(E.t.size+1)*weightC E.c:=by
 unfold inTab weightC
 rw [← keysTo_len];exact List.countP_le_length
theorem count_more {l:List Nat} {p q:Nat→Bool} (h:∀ x,p x=true→q x=true) {k:Nat} (hk:k∈l) (h1:p k=false) (h2:q k=true):l.countP p+1≤l.countP q:=by
 induction l with
 | nil=>simp at hk
 | cons a l ih =>
  rw [List.countP_cons,List.countP_cons]
  have hm:l.countP p≤l.countP q:=List.countP_mono_left fun x _=>h x
  rcases List.mem_cons.1 hk with rfl | hk
  ·rw [h1,h2];simp;omega
  ·have:=ih hk
   by_cases ea:p a=true
   ·rw [if_pos ea,if_pos (h a ea)];omega
   ·rw [if_neg ea];split <;> omega
theorem put_in (hS:Str E A) {s:Sta} (hs:Nice E A s) {kn:List Bool} {room:Int} (hl:kn.length=E.c.length*(E.t.size+1)*12) (hr:5000≤room+inTab E kn) (hd:E.dead s kn=false) :
  inTab E kn+1≤inTab E (E.kn' s kn room)∧5000≤E.room' s kn room+inTab E (E.kn' s kn room)∧(E.kn' s kn room).length=E.c.length*(E.t.size+1)*12:=by
 have hin:=hS.inn s hs.g
 have hb:=inTab_le E kn
 have hf:=hS.few
 have hr0:0<room:=by omega
 have hkn:kn.getD (E.key s) false=false:=by unfold Env.dead at hd;rw [if_pos hin] at hd;exact hd
 have e1:E.kn' s kn room=kn.set (E.key s) true:=by unfold Env.kn' deadKn;rw [if_pos hin,if_neg (by rw [hkn];simp),if_pos hr0]
 have e2:E.room' s kn room=room-1:=by unfold Env.room' deadRoom;rw [if_pos hin,if_neg (by rw [hkn];simp),if_pos hr0]
 have hp:=hs.g.pcOf_lt
 have a1:=hs.g.pos0;have a2:=hs.g.pos1
 have hpos:posOf s≤E.t.size:=by unfold posOf;omega
 have hlev:=lev_le s (loopsAt E.c (pcOf s))
 have hdd:=hS.k.k.loops _ hp
 have hd11:=hS.k.dOk (q:=((pcOf s:Nat):Int)) (by omega) (by omega)
 have ek:E.key s=(pcOf s*(E.t.size+1)+posOf s)*12+lev s (loopsAt E.c (pcOf s)):=by unfold Env.key keyOf;rw [hS.ar _ hp,Int.toNat_natCast]
 have hmem:E.key s∈keysTo E E.c.length:=by rw [ek];exact keysTo_mem E hpos hlev.2 _ hp
 have hlt:E.key s<kn.length:=by
  rw [ek,hl]
  have b1:pcOf s*(E.t.size+1)+posOf s+1≤E.c.length*(E.t.size+1):=by
   have:=Nat.mul_le_mul_right (E.t.size+1) (show pcOf s+1≤E.c.length from hp)
   rw [Nat.add_mul] at this;omega
  have b2:=Nat.mul_le_mul_right 12 b1
  rw [Nat.add_mul] at b2
  omega
 have hm:inTab E kn+1≤inTab E (kn.set (E.key s) true):=by
  refine count_more (fun x hx=>?_) hmem hkn ?_
  ·rw [getD_set_b];split
   ·rfl
   ·exact hx
  ·rw [getD_set_b,if_pos ⟨rfl,hlt⟩]
 rw [e1,e2]
 exact ⟨hm,by omega,by rw [List.length_set];exact hl⟩
theorem look_few (hS:Str E A):∀ (N n:Nat) (s:Sta) (kn:List Bool) (room:Int),n≤N→Nice E A s→InR room→kn.length=E.c.length*(E.t.size+1)*12→5000≤room+inTab E kn →
  n+2*inTab E kn≤(look E n s kn room).n+2*inTab E (look E n s kn room).kn+(if (look E n s kn room).over then 0 else 1)∧5000≤(look E n s kn room).room+inTab E (look E n s kn room).kn
 | N,0,s,kn,room,_,_,_,_,hr=>by rw [look_zero];exact ⟨by simp,hr⟩
 | 0,n+1,s,kn,room,hn,_,_,_,_=>by omega
 | N+1,n+1,s,kn,room,hn,hs,hR,hl,hr=>by
  have ih:=look_few hS N
  have hK:=hS.k
  have i1:=E.room'_in s kn room hR
  cases hd:E.dead s kn with
  | true =>
   obtain ⟨a1,a2,_⟩:=dead_idle room hd
   rw [look_d hd,a1,a2]
   exact ⟨by simp;omega,hr⟩
  | false =>
  obtain ⟨p1,p2,p3⟩:=put_in hS hs hl hr hd
  by_cases h13:(E.ins s).op=13∨(E.ins s).op=12
  ·rw [look_f hd h13];exact ⟨by simp;omega,p2⟩
  by_cases o2:(E.ins s).op=2
  ·obtain ⟨⟨x1,x2,x3⟩,⟨y1,y2,y3⟩⟩:=step_split hK hs o2
   obtain ⟨r,hq⟩:∃ r,r=look E n (s.set 0 (E.ins s).x) (E.kn' s kn room) (E.room' s kn room):=⟨_,rfl⟩
   have l1:=look_n E n (s.set 0 (E.ins s).x) (E.kn' s kn room) (E.room' s kn room)
   have g1:=look_good E hK.k.ok N n _ (E.kn' s kn room) (E.room' s kn room) (by omega) x1.g i1
   have j:=ih n (s.set 0 (E.ins s).x) (E.kn' s kn room) (E.room' s kn room) (by omega) x1 i1 p3 p2
   rw [look_2 hd o2 hq]
   rw [← hq] at l1 g1 j
   by_cases hro:(r.ok||r.over)=true
   ·rw [if_pos hro]
    exact ⟨by have:=j.1;omega,j.2⟩
   ·rw [if_neg hro]
    have hr2:r.ok=false∧r.over=false:=by simpa using hro
    have j1:=j.1
    rw [hr2.2] at j1
    simp only [Bool.false_eq_true,if_false] at j1
    obtain ⟨k1,k2⟩:=ih r.n (s.set 0 (E.ins s).y) r.kn r.room (by omega) y1 g1.2.2.1 (by rw [g1.2.1];exact p3) j.2
    exact ⟨by omega,k2⟩
  have o11:(E.ins s).op≠11:=hS.no11 _ hs.g.pcOf_lt
  have o12:(E.ins s).op≠12:=fun e=>h13 (.inr e)
  have o13:(E.ins s).op≠13:=fun e=>h13 (.inl e)
  rw [look_1 hd o2 o11 o12 o13]
  by_cases hk:(oneP E.t s (E.ins s)).2=true
  ·rw [if_pos hk]
   obtain ⟨⟨z1,z2,z3,z4⟩,z5⟩:=step_one hK hs o2 o11 o12 o13 hk
   obtain ⟨k1,k2⟩:=ih n _ _ _ (by omega) z1 i1 p3 p2
   exact ⟨by omega,k2⟩
  ·rw [if_neg hk];exact ⟨by simp;omega,p2⟩
theorem search_few (hS:Str E A) (budget:Int):∀ (f p n:Nat) (kn:List Bool) (room:Int),p+f≤E.t.size+1→InR room→kn.length=E.c.length*(E.t.size+1)*12→5000≤room+inTab E kn→f+2*((E.t.size+1)*weightC E.c)≤n+2*inTab E kn →
  (search E budget f p n kn room).2=false∧(search E budget f p n kn room).1.steps≤budget-n+f+2*((E.t.size+1)*weightC E.c:Nat)-2*(inTab E kn:Nat)
 | 0,p,n,kn,room,_,_,_,_,hn=>by
  have:=inTab_le E kn
  rw [search]
  refine ⟨rfl,?_⟩
  dsimp only;omega
 | f+1,p,n,kn,room,hpf,hR,hl,hr,hn=>by
  have hs:=start_nice (E:=E) hS.k p (by omega)
  obtain ⟨k1,k2⟩:=look_few hS n n (startSt p) kn room (Nat.le_refl _) hs hR hl hr
  have g1:=look_good E hS.k.k.ok n n (startSt p) kn room (Nat.le_refl _) hs.g hR
  rw [search]
  generalize look E n (startSt p) kn room=r at *
  have hb:=inTab_le E r.kn
  by_cases hov:r.over=true
  ·rw [if_pos hov] at k1
   have:=(g1.2.2.2.2 hov).2
   exfalso;omega
  rw [if_neg hov] at k1 ⊢
  by_cases hok:r.ok=true
  ·rw [if_pos hok]
   refine ⟨rfl,?_⟩
   dsimp only;omega
  ·rw [if_neg hok]
   obtain ⟨z1,z2⟩:=search_few hS budget f (p+1) r.n r.kn r.room (by omega) g1.2.2.1 (by rw [g1.2.1];exact hl) k2 (by omega)
   exact ⟨z1,by omega⟩
theorem linear_math {c:List Ins} {A:Int→Att} (hK:Kn c A) (t:ByteArray) (h8:∀ q,q<c.length→(c.getD q ins0).op≠8) (h11:∀ q,q<c.length→(c.getD q ins0).op≠11) (hb:(t.size+1)*(2*weightC c+1)≤10000) :
  (searchAll c t 1 0 5000 10000 0).2=false∧(searchAll c t 1 0 5000 10000 0).1.steps≤((t.size+1)*(2*weightC c+1):Nat):=by
 have e:(t.size+1)*(2*weightC c+1)=2*((t.size+1)*weightC c)+(t.size+1):=by
  rw [Nat.mul_add,Nat.mul_one,← Nat.mul_assoc,Nat.mul_comm _ 2,Nat.mul_assoc]
 have hS:Str (envOf c t 1 0) A:=by
  refine ⟨hK,(env_hy hK t 1 0).ar,fun s hg=>?_,h11,?_⟩
  ·have hq:pcOf s<c.length:=hg.pcOf_lt
   show (chosen c 1 0).getD (pcOf s) false=true
   have hnb:hasBack c=false:=by
    unfold hasBack
    rw [List.any_eq_false]
    intro x hx
    obtain ⟨i,hi,rfl⟩:=List.getElem_of_mem hx
    have:=h8 i hi
    rw [List.getD_eq_getElem?_getD,List.getElem?_eq_getElem hi] at this
    simpa using this
   have hns:inSub c (pcOf s)=false:=by
    unfold inSub
    rw [List.any_eq_false]
    intro x hx
    obtain ⟨i,hi,rfl⟩:=List.getElem_of_mem (List.mem_of_mem_take hx)
    have:=h11 i hi
    rw [List.getD_eq_getElem?_getD,List.getElem?_eq_getElem hi] at this
    unfold isOver
    simp only [Option.getD_some] at this
    simp [this]
   unfold chosen
   rw [hnb,if_neg (by simp),List.getD_eq_getElem?_getD,List.getElem?_map,List.getElem?_range hq]
   simp only [Option.map_some,Option.getD_some]
   unfold chosenAt picked
   rw [hns];simp
  ·show (t.size+1)*weightC c<5000
   omega
 have h0:inTab (envOf c t 1 0) (List.replicate (c.length*(t.size+1)*12) false)=0:=by
  unfold inTab
  rw [List.countP_eq_zero]
  intro a _ h
  rw [List.getD_eq_getElem?_getD,List.getElem?_replicate] at h
  split at h <;> simp at h
 obtain ⟨a,b⟩:=search_few hS 10000 (t.size+1-0) 0 (10000:Int).toNat (List.replicate (c.length*(t.size+1)*12) false) 5000 (by show 0+(t.size+1-0)≤t.size+1;omega) (by unfold InR;omega) (by simp [envOf]) (by rw [h0];omega) (by rw [h0];show _+2*((t.size+1)*weightC c)≤10000+2*0;omega)
 refine ⟨a,Int.le_trans b ?_⟩
 rw [h0,e]
 show (10000:Int)-((10000:Nat):Int)+((t.size+1-0:Nat):Int)+2*((t.size+1)*weightC c:Nat)-2*((0:Nat):Int)≤_
 omega
end Mt
namespace Mt
theorem fs_flat:∀ (s:Shape) (i:Int) (rest:Fs),(s.fs i rest).flat=(s.fs i .nil).flat++rest.flat
 | .byte c,i,rest=>rfl
 | .dot,i,rest=>rfl
 | .both x y,i,rest=>by
  simp only [Shape.fs]
  rw [fs_flat x,fs_flat x i (y.fs _ .nil),fs_flat y,List.append_assoc]
 | .either x y,i,rest=>by simp [Shape.fs,Fs.flat]
 | .star l x,i,rest=>by simp [Shape.fs,Fs.flat]
 | .maybe l x,i,rest=>by simp [Shape.fs,Fs.flat]
theorem fs_wf:∀ (s:Shape) (i:Int) (rest:Fs),rest.wf→(s.fs i rest).wf
 | .byte c,i,rest,h=>⟨.inl rfl,fun q h=>by simp at h,h⟩
 | .dot,i,rest,h=>⟨.inl rfl,fun q h=>by simp at h,h⟩
 | .both x y,i,rest,h=>fs_wf x _ _ (fs_wf y _ _ h)
 | .either x y,i,rest,h=>⟨rfl,rfl,fs_wf x _ _ ⟨rfl,fs_wf y _ _ trivial⟩,fun q h=>by simp at h,h⟩
 | .star l x,i,rest,h=>⟨rfl,rfl,fs_wf x _ _ trivial,fun q h=>by injection h with h;rw [← h],h⟩
 | .maybe l x,i,rest,h=>⟨rfl,rfl,fs_wf x _ _ trivial,fun q h=>by injection h with h;rw [← h],h⟩
theorem fs_opened (s:Shape) (i:Int):opened (s.fs i .nil).flat=0:=opened_flat _ (fs_wf s i .nil trivial)
theorem rep_star_re (l:Bool) (x:Re) (a b:Int):repA x ⟨8,a,b,0,-1,moodI l,[]⟩=.cat .eps (.loop l x):=by
 cases l <;> simp [repA,moodI]
theorem rep_maybe_re (l:Bool) (x:Re) (a b:Int):repA x ⟨8,a,b,0,1,moodI l,[]⟩=.cat .eps (.opt l (.cat x .eps)):=by
 cases l <;> simp [repA,moodI,timesA,optA]
theorem fs_both:∀ (s:Shape) (i:Int) (rest:Fs),(s.fs i rest).both=(s.be rest.both.1,rest.both.2)
 | .byte c,i,rest=>rfl
 | .dot,i,rest=>rfl
 | .both x y,i,rest=>by simp only [Shape.fs,Shape.be];rw [fs_both x,fs_both y]
 | .either x y,i,rest=>by
  simp only [Shape.fs,Shape.be,Fs.both,fs_both x,fs_both y,joinRe,part,grpRe,if_true]
 | .star l x,i,rest=>by
  simp only [Shape.fs,Shape.be,Fs.both,fs_both x,joinRe,part,grpRe,if_true,rep_star_re,starRe]
 | .maybe l x,i,rest=>by
  simp only [Shape.fs,Shape.be,Fs.both,fs_both x,joinRe,part,grpRe,if_true,rep_maybe_re,maybeRe]
theorem pat_head:∀ s:Shape,s.ok→∃ c r,s.pat=c::r∧c≠63∧c≠43
 | .byte c,h=>⟨c,[],rfl,by rcases h with rfl | rfl <;> decide,by rcases h with rfl | rfl <;> decide⟩
 | .dot,_=>⟨46,[],rfl,by decide,by decide⟩
 | .both x y,h=>by
  obtain ⟨c,r,e,h1,h2⟩:=pat_head x h.1
  exact ⟨c,r++y.pat,by simp [Shape.pat,e],h1,h2⟩
 | .either x y,_=>⟨40,_,rfl,by decide,by decide⟩
 | .star l x,_=>⟨40,_,rfl,by decide,by decide⟩
 | .maybe l x,_=>⟨40,_,rfl,by decide,by decide⟩
theorem calm_of {p:ByteArray} {j:Int} {c:UInt8} {r:List UInt8} (h:Holds p j (c::r)) (h1:c≠63) (h2:c≠43):Calm p j:=by
 have e:atB p j=(c.toNat:Int):=h.2.2.1
 refine ⟨fun g=>h1 (UInt8.toNat_inj.1 (show c.toNat=63 by omega)),fun g=>h2 (UInt8.toNat_inj.1 (show c.toNat=43 by omega))⟩
theorem reads_rep {p:ByteArray} {l:List Tok} {i:Int} {t:Tok} (h0:0≤i) (h1:i<p.size) (hn:nextT p i=(t,0)) (hk:t.kind=8) (ha:atomEnds l=true):Reads p l i [t] t.to :=
 Reads.one h0 h1 hn (by unfold may;simp [hk,ha]) (by unfold joined isCap;simp [hk])
theorem next_byte {p:ByteArray} {i:Int} {c:UInt8} (hc:c=97∨c=98) (h:atB p i=(c.toNat:Int)):nextT p i=(⟨1,i,i+1,0,0,0,[c]⟩,0):=by
 unfold nextT
 rw [h]
 rcases hc with rfl | rfl <;> rfl
theorem next_dot {p:ByteArray} {i:Int} (h:atB p i=46):nextT p i=(⟨1,i,i+1,0,0,0,dotS⟩,0):=by
 unfold nextT
 rw [h,if_neg (by omega),if_neg (by omega),if_neg (by omega),if_neg (by omega),if_neg (by omega),if_neg (by omega),if_neg (by omega),if_neg (by omega),if_pos rfl,all_dot]
theorem reads_shape {p:ByteArray}:∀ (s:Shape) (l:List Tok) (i:Int),s.ok→Holds p i s.pat→Calm p (i+s.pat.length)→opened l+s.deep≤10→0≤opened l→Reads p l i (s.fs i .nil).flat (i+s.pat.length)
 | .byte c,l,i,ho,h,hc,hd,h0=>Reads.one (t:=⟨1,i,i+1,0,0,0,[c]⟩) h.1 h.2.1 (next_byte ho h.2.2.1) (by unfold may;simp) (by unfold joined isCap;simp [Option.toList])
 | .dot,l,i,ho,h,hc,hd,h0=>Reads.one (t:=⟨1,i,i+1,0,0,0,dotS⟩) h.1 h.2.1 (next_dot h.2.2.1) (by unfold may;simp) (by unfold joined isCap;simp [Option.toList])
 | .both x y,l,i,ho,h,hc,hd,h0=>by
  obtain ⟨h1,h2⟩:=holds_app _ _ _ (h:Holds p i (x.pat++y.pat))
  have hdx:opened l+x.deep≤10∧opened l+y.deep≤10:=by simp only [Shape.deep] at hd;omega
  obtain ⟨c,r,e,n1,n2⟩:=pat_head y ho.2
  have c1:Calm p (i+x.pat.length):=calm_of (by rw [e] at h2;exact h2) n1 n2
  have a:=reads_shape x l i ho.1 h1 c1 hdx.1 h0
  have el:i+(x.pat.length:Int)+y.pat.length=i+((x.pat++y.pat).length:Int):=by rw [List.length_append];push_cast;omega
  have b:=reads_shape y (l++(x.fs i .nil).flat) (i+x.pat.length) ho.2 h2 (by rw [el];exact hc) (by rw [opened_append,fs_opened];omega) (by rw [opened_append,fs_opened];omega)
  have:=a.app b
  rw [el] at this
  simp only [Shape.fs,Shape.pat]
  rw [fs_flat x]
  exact this
 | .either x y,l,i,ho,h,hc,hd,h0=>by
  have hs1:Holds p i ([40,63,58]++(x.pat++124::(y.pat++[41]))):=h
  obtain ⟨a1,a2⟩:=holds_app _ _ _ hs1
  have e3:i+(([40,63,58]:List UInt8).length:Int)=i+3:=rfl
  rw [e3] at a2
  obtain ⟨b1,b2⟩:=holds_app _ _ _ a2
  obtain ⟨c1,c2⟩:=holds_app _ _ _ b2.2.2.2
  have hdx:opened l+x.deep+1≤10∧opened l+y.deep+1≤10:=by simp only [Shape.deep] at hd;omega
  have dl:delta ⟨6,i,i+3,0,0,3,[]⟩=1:=rfl
  have o1:opened (l++[⟨6,i,i+3,0,0,3,[]⟩])=opened l+1:=by rw [opened_one,dl]
  have r1:Reads p l i [⟨6,i,i+3,0,0,3,[]⟩] (i+3):=reads_group a1 (.inl ⟨rfl,rfl⟩) (by omega)
  have r2:=reads_shape x (l++[⟨6,i,i+3,0,0,3,[]⟩]) (i+3) ho.1 b1 (calm_of b2 (by decide) (by decide)) (by rw [o1];omega) (by rw [o1];omega)
  have r3:=reads_bar (l:=l++[⟨6,i,i+3,0,0,3,[]⟩]++(x.fs (i+3) .nil).flat) (holds_one b2)
  have o3:opened (l++[⟨6,i,i+3,0,0,3,[]⟩]++(x.fs (i+3) .nil).flat++[⟨5,i+3+x.pat.length,i+3+x.pat.length+1,0,0,0,[]⟩])=opened l+1:=by
   rw [opened_one,opened_append,fs_opened,o1];simp [delta]
  have r4:=reads_shape y (l++[⟨6,i,i+3,0,0,3,[]⟩]++(x.fs (i+3) .nil).flat++[⟨5,i+3+x.pat.length,i+3+x.pat.length+1,0,0,0,[]⟩]) (i+3+x.pat.length+1) ho.2 c1 (calm_of c2 (by decide) (by decide)) (by rw [o3];omega) (by rw [o3];omega)
  have r5:=reads_close (l:=l++[⟨6,i,i+3,0,0,3,[]⟩]++(x.fs (i+3) .nil).flat++[⟨5,i+3+x.pat.length,i+3+x.pat.length+1,0,0,0,[]⟩]++(y.fs (i+3+x.pat.length+1) .nil).flat) (holds_one c2) (by rw [opened_append,o3,fs_opened];omega)
  have rr:=r1.app (r2.app (r3.app (r4.app r5)))
  have el:i+((Shape.either x y).pat.length:Int)=i+3+x.pat.length+1+y.pat.length+1:=by simp [Shape.pat];omega
  rw [el]
  simp only [Shape.fs,Fs.flat,Option.toList]
  rw [fs_flat x]
  simpa only [Fs.flat,List.append_nil,List.append_assoc,List.nil_append,List.cons_append] using rr
 | .star late x,l,i,ho,h,hc,hd,h0=>by
  have hs1:Holds p i ([40,63,58]++(x.pat++41::42::lateL late)):=h
  obtain ⟨a1,a2⟩:=holds_app _ _ _ hs1
  have e3:i+(([40,63,58]:List UInt8).length:Int)=i+3:=rfl
  rw [e3] at a2
  obtain ⟨b1,b2⟩:=holds_app _ _ _ a2
  have hdx:opened l+x.deep+1≤10:=by simp only [Shape.deep] at hd;omega
  have dl:delta ⟨6,i,i+3,0,0,3,[]⟩=1:=rfl
  have o1:opened (l++[⟨6,i,i+3,0,0,3,[]⟩])=opened l+1:=by rw [opened_one,dl]
  have r1:Reads p l i [⟨6,i,i+3,0,0,3,[]⟩] (i+3):=reads_group a1 (.inl ⟨rfl,rfl⟩) (by omega)
  have r2:=reads_shape x (l++[⟨6,i,i+3,0,0,3,[]⟩]) (i+3) ho b1 (calm_of b2 (by decide) (by decide)) (by rw [o1];omega) (by rw [o1];omega)
  have r3:=reads_close (l:=l++[⟨6,i,i+3,0,0,3,[]⟩]++(x.fs (i+3) .nil).flat) (holds_one b2) (by rw [opened_append,o1,fs_opened];omega)
  have g:=b2.2.2.2
  have el:i+((Shape.star late x).pat.length:Int)=i+3+x.pat.length+1+1+(lateL late).length:=by simp [Shape.pat];omega
  rw [el] at hc ⊢
  have hn:nextT p (i+3+x.pat.length+1)=(⟨8,i+3+x.pat.length+1,i+3+x.pat.length+1+1+(lateL late).length,0,-1,moodI late,[]⟩,0):=by
   cases late
   ·have:=rep_star g (by simpa [lateL] using hc)
    simpa [lateL,moodI] using this
   ·have:=rep_starl g
    rw [this]
    simp [lateL,moodI];omega
  have r4:=reads_rep (l:=l++[⟨6,i,i+3,0,0,3,[]⟩]++(x.fs (i+3) .nil).flat++[⟨7,i+3+x.pat.length,i+3+x.pat.length+1,0,0,0,[]⟩]) g.1 g.2.1 hn rfl (by unfold atomEnds;rw [List.getLast?_concat];simp)
  have rr:=r1.app (r2.app (r3.app r4))
  simp only [Shape.fs,Fs.flat,Option.toList]
  simpa only [Fs.flat,List.append_nil,List.append_assoc,List.nil_append,List.cons_append] using rr
 | .maybe late x,l,i,ho,h,hc,hd,h0=>by
  have hs1:Holds p i ([40,63,58]++(x.pat++41::63::lateL late)):=h
  obtain ⟨a1,a2⟩:=holds_app _ _ _ hs1
  have e3:i+(([40,63,58]:List UInt8).length:Int)=i+3:=rfl
  rw [e3] at a2
  obtain ⟨b1,b2⟩:=holds_app _ _ _ a2
  have hdx:opened l+x.deep+1≤10:=by simp only [Shape.deep] at hd;omega
  have dl:delta ⟨6,i,i+3,0,0,3,[]⟩=1:=rfl
  have o1:opened (l++[⟨6,i,i+3,0,0,3,[]⟩])=opened l+1:=by rw [opened_one,dl]
  have r1:Reads p l i [⟨6,i,i+3,0,0,3,[]⟩] (i+3):=reads_group a1 (.inl ⟨rfl,rfl⟩) (by omega)
  have r2:=reads_shape x (l++[⟨6,i,i+3,0,0,3,[]⟩]) (i+3) ho b1 (calm_of b2 (by decide) (by decide)) (by rw [o1];omega) (by rw [o1];omega)
  have r3:=reads_close (l:=l++[⟨6,i,i+3,0,0,3,[]⟩]++(x.fs (i+3) .nil).flat) (holds_one b2) (by rw [opened_append,o1,fs_opened];omega)
  have g:=b2.2.2.2
  have el:i+((Shape.maybe late x).pat.length:Int)=i+3+x.pat.length+1+1+(lateL late).length:=by simp [Shape.pat];omega
  rw [el] at hc ⊢
  have hn:nextT p (i+3+x.pat.length+1)=(⟨8,i+3+x.pat.length+1,i+3+x.pat.length+1+1+(lateL late).length,0,1,moodI late,[]⟩,0):=by
   cases late
   ·have:=rep_opt g (by simpa [lateL] using hc)
    simpa [lateL,moodI] using this
   ·have:=rep_optl g
    rw [this]
    simp [lateL,moodI];omega
  have r4:=reads_rep (l:=l++[⟨6,i,i+3,0,0,3,[]⟩]++(x.fs (i+3) .nil).flat++[⟨7,i+3+x.pat.length,i+3+x.pat.length+1,0,0,0,[]⟩]) g.1 g.2.1 hn rfl (by unfold atomEnds;rw [List.getLast?_concat];simp)
  have rr:=r1.app (r2.app (r3.app r4))
  simp only [Shape.fs,Fs.flat,Option.toList]
  simpa only [Fs.flat,List.append_nil,List.append_assoc,List.nil_append,List.cons_append] using rr
theorem be_plain:∀ (s:Shape) (r:Re),r.plain=true→(s.be r).plain=true
 | .byte c,r,h=>by simp [Shape.be,Re.plain,h]
 | .dot,r,h=>by simp [Shape.be,Re.plain,h]
 | .both x y,r,h=>be_plain x _ (be_plain y r h)
 | .either x y,r,h=>by simp [Shape.be,Re.plain,h,be_plain x .eps rfl,be_plain y .eps rfl]
 | .star l x,r,h=>by simp [Shape.be,starRe,Re.plain,h,be_plain x .eps rfl]
 | .maybe l x,r,h=>by simp [Shape.be,maybeRe,Re.plain,h,be_plain x .eps rfl]
theorem be_nest:∀ (s:Shape) (r:Re),(s.be r).nest≤max s.deep r.nest
 | .byte c,r=>by simp [Shape.be,Re.nest];omega
 | .dot,r=>by simp [Shape.be,Re.nest];omega
 | .both x y,r=>by
  have a:=be_nest x (y.be r)
  have b:=be_nest y r
  simp only [Shape.be,Shape.deep];omega
 | .either x y,r=>by
  have a:=be_nest x .eps
  have b:=be_nest y .eps
  simp only [Shape.be,Shape.deep,Re.nest] at *;omega
 | .star l x,r=>by
  have a:=be_nest x .eps
  simp only [Shape.be,starRe,Shape.deep,Re.nest] at *;omega
 | .maybe l x,r=>by
  have a:=be_nest x .eps
  simp only [Shape.be,maybeRe,Shape.deep,Re.nest] at *;omega
theorem be_len:∀ (s:Shape) (r:Re),(s.be r).len+2*s.loops≤s.pat.length+r.len∧(s.be r).nloops=s.loops+r.nloops∧5*s.loops+1≤s.pat.length
 | .byte c,r=>by simp [Shape.be,Re.len,Re.nloops,Shape.loops,Shape.pat]
 | .dot,r=>by simp [Shape.be,Re.len,Re.nloops,Shape.loops,Shape.pat]
 | .both x y,r=>by
  have a:=be_len x (y.be r)
  have b:=be_len y r
  simp only [Shape.be,Shape.loops,Shape.pat,List.length_append];omega
 | .either x y,r=>by
  have a:=be_len x .eps
  have b:=be_len y .eps
  simp only [Shape.be,Shape.loops,Shape.pat,List.length_append,List.length_cons,List.length_nil,Re.len,Re.nloops] at *;omega
 | .star l x,r=>by
  have a:=be_len x .eps
  simp only [Shape.be,starRe,Shape.loops,Shape.pat,List.length_append,List.length_cons,List.length_nil,Re.len,Re.nloops] at *;omega
 | .maybe l x,r=>by
  have a:=be_len x .eps
  simp only [Shape.be,maybeRe,Shape.loops,Shape.pat,List.length_append,List.length_cons,List.length_nil,Re.len,Re.nloops] at *;omega
theorem spl_op (x y:Int) (l:Bool):(spl x y l).op=2:=by cases l <;> rfl
theorem plain_ops:∀ (r:Re),r.plain=true→∀ (p d:Int),(∀ x∈r.code p d,x.op≠8∧x.op≠11)∧(r.code p d).countP (fun x=>decide (x.op=5))=r.nloops
 | .eps,_,p,d=>by simp [Re.code,Re.nloops]
 | .one s,_,p,d=>by simp [Re.code,Re.nloops]
 | .cat a b,h,p,d=>by
  obtain ⟨pa,pb⟩:a.plain=true∧b.plain=true:=by simpa [Re.plain] using h
  have x:=plain_ops a pa p d
  have y:=plain_ops b pb (p+a.len) d
  refine ⟨fun z hz=>?_,?_⟩
  ·simp only [Re.code,List.mem_append] at hz
   rcases hz with hz | hz
   ·exact x.1 z hz
   ·exact y.1 z hz
  ·simp only [Re.code,List.countP_append,x.2,y.2,Re.nloops]
 | .alt a b,h,p,d=>by
  obtain ⟨pa,pb⟩:a.plain=true∧b.plain=true:=by simpa [Re.plain] using h
  have x:=plain_ops a pa (p+1) d
  have y:=plain_ops b pb (p+a.len+2) d
  refine ⟨fun z hz=>?_,?_⟩
  ·simp only [Re.code,List.mem_append,List.mem_cons] at hz
   rcases hz with rfl | hz | rfl | hz
   ·simp
   ·exact x.1 z hz
   ·simp
   ·exact y.1 z hz
  ·simp only [Re.code,List.countP_append,List.countP_cons,x.2,y.2,Re.nloops];simp
 | .opt l a,h,p,d=>by
  have x:=plain_ops a h (p+1) d
  refine ⟨fun z hz=>?_,?_⟩
  ·simp only [Re.code,List.mem_cons] at hz
   rcases hz with rfl | hz
   ·rw [spl_op];simp
   ·exact x.1 z hz
  ·simp only [Re.code,List.countP_cons,x.2,Re.nloops,spl_op];simp
 | .loop l a,h,p,d=>by
  have x:=plain_ops a h (p+2) (d+1)
  refine ⟨fun z hz=>?_,?_⟩
  ·simp only [Re.code,List.mem_append,List.mem_cons,List.not_mem_nil,or_false] at hz
   rcases hz with rfl | rfl | hz | rfl
   ·rw [spl_op];simp
   ·simp
   ·exact x.1 z hz
   ·simp
  ·simp only [Re.code,List.countP_append,List.countP_cons,x.2,Re.nloops,spl_op,List.countP_nil];simp
theorem loopsAt_few (c:List Ins) (p:Nat):loopsAt c p≤c.countP (fun x=>decide (x.op=5)):=by
 unfold loopsAt loopsTo
 refine Nat.le_trans (List.countP_mono_left (fun x _ h=>?_)) (List.Sublist.countP_le ((List.take_sublist _ _).trans (List.drop_sublist _ _)))
 unfold isLoop at h
 simp only [decide_eq_true_eq] at h ⊢
 exact h.1
theorem weight_few (c:List Ins) (n:Nat) (h:c.countP (fun x=>decide (x.op=5))≤n):∀ k,weightTo c k≤k*(1+n)
 | 0=>by simp [weightTo]
 | k+1=>by
  have:=weight_few c n h k
  have g:=loopsAt_few c k
  rw [weightTo_next,Nat.add_mul];omega
theorem shape_code (s:Shape) (ho:s.ok) (hd:s.deep≤10) (hp:s.pat.length≤48):codeR (bp s.pat)=(shapeC s,0):=by
 have hs:=holds_self s.pat
 have hsz:(bp s.pat).size=s.pat.length:=bp_size _
 have hc:Calm (bp s.pat) (0+s.pat.length):=by
  have:atB (bp s.pat) (0+s.pat.length)=-1:=at_end (by rw [hsz];omega)
  unfold Calm
  rw [this];omega
 have rr:=reads_shape s [] 0 ho hs hc (by simp [opened];omega) (by simp [opened])
 rw [Int.zero_add] at rr
 have hn:(s.fs 0 .nil).flat.length≤64:=by
  have:∀ (s:Shape) (i:Int),(s.fs i .nil).flat.length≤s.pat.length:=by
   intro s
   induction s with
   | byte c=>intro i;simp [Shape.fs,Fs.flat,Shape.pat]
   | dot=>intro i;simp [Shape.fs,Fs.flat,Shape.pat]
   | both x y hx hy =>
    intro i
    simp only [Shape.fs,Shape.pat]
    rw [fs_flat x,List.length_append,List.length_append]
    have a:=hx i
    have b:=hy (i+x.pat.length)
    omega
   | either x y hx hy =>
    intro i
    simp only [Shape.fs,Shape.pat,Fs.flat]
    rw [fs_flat x]
    have a:=hx (i+3)
    have b:=hy (i+3+x.pat.length+1)
    simp [Fs.flat];omega
   | star l x hx =>
    intro i
    have a:=hx (i+3)
    simp [Shape.fs,Shape.pat,Fs.flat];omega
   | maybe l x hx =>
    intro i
    have a:=hx (i+3)
    simp [Shape.fs,Shape.pat,Fs.flat];omega
  have:=this s 0
  omega
 have hT:=code_reads (bp s.pat) (s.fs 0 .nil) (by rw [hsz];omega) (fs_wf s 0 .nil trivial) (by rw [hsz];exact rr) (fs_opened s 0) hn
 rw [hT]
 have e:(s.fs 0 .nil).re=s.be .eps:=by unfold Fs.re;rw [fs_both];rfl
 rw [e]
 have:=(be_len s .eps).1
 simp only [Re.len] at this
 unfold codeOf shapeC
 rw [if_neg (by omega)]
theorem shape_weight (s:Shape) (hp:s.pat.length≤48):weightC (shapeC s)≤310:=by
 have a:=be_len s .eps
 have b:=plain_ops (s.be .eps) (be_plain s .eps rfl) 0 0
 have hcount:(shapeC s).countP (fun x=>decide (x.op=5))≤s.loops:=by
  unfold shapeC
  rw [List.countP_append,b.2,a.2.1];simp [Re.nloops]
 have hlen:(shapeC s).length=(s.be .eps).len+1:=by unfold shapeC;rw [List.length_append,Re.code_len];rfl
 have:=weight_few (shapeC s) s.loops hcount (shapeC s).length
 unfold weightC
 refine Nat.le_trans this ?_
 simp only [Re.len] at a
 have h1:(shapeC s).length≤49-2*s.loops:=by omega
 have h9:s.loops≤9:=by omega
 refine Nat.le_trans (Nat.mul_le_mul_right _ h1) ?_
 have:s.loops=0∨s.loops=1∨s.loops=2∨s.loops=3∨s.loops=4∨s.loops=5∨s.loops=6∨s.loops=7∨s.loops=8∨s.loops=9:=by omega
 rcases this with e | e | e | e | e | e | e | e | e | e <;> rw [e] <;> decide
theorem shape_run (s:Shape) (hd:s.deep≤10) {E:Env} (hc:E.c=shapeC s) (pos:Nat) (hp:pos≤E.t.size) :
  ((∃ j,SFits E.t s pos j)→∃ K e R' ,SFits E.t s pos e∧(R'.drop 2).take 18=List.replicate 18 (-1)∧Within E K (0::(pos:Int)::free) (some ((((s.be .eps).len:Nat):Int)::(e:Int)::R')))∧((¬ ∃ j,SFits E.t s pos j)→∃ K,Within E K (0::(pos:Int)::free) none):=by
 have h:=here_self ((s.be .eps).code 0 0) [⟨13,0,0,[]⟩]
 have h13:=here_last ((s.be .eps).code 0 0) ⟨13,0,0,[]⟩
 rw [Re.code_len] at h13
 change Here (shapeC s) 0 ((s.be .eps).code ((0:Nat):Int) ((0:Nat):Int)) at h
 change (shapeC s).getD _ ins0=_ at h13
 rw [← hc] at h h13
 have hn:=be_nest s .eps
 have:=run_plain (s.be .eps) (be_plain s .eps rfl) 0 0 pos free (fun _=>True) (fun j u=>∃ R',Agree 0 free R'∧u=((((s.be .eps).len:Nat):Int)::(j:Int)::R')) h hp (by simp only [Re.nest] at hn;omega) (by decide) (fun j R' _ _ hA=>by
  rw [Nat.zero_add]
  exact ⟨fun _=>⟨1,_,w_stop h13 (.inl rfl),R',hA,rfl⟩,fun x=>(x trivial).elim⟩)
 refine ⟨fun ⟨j,hj⟩=>?_,fun hno=>?_⟩
 ·obtain ⟨K,u,a,j2,hf,_,R',hA,rfl⟩:=this.1 ⟨j,(fits_shape E.t s pos j).2 hj,trivial⟩
  refine ⟨K,j2,R',(fits_shape E.t s pos j2).1 hf,?_,a⟩
  have e:(R'.drop 2).take 18=((R'.take 30).take 20).drop 2:=by rw [List.take_take,List.drop_take];rfl
  have hA2:R'.take 30=free.take 30:=hA.2
  rw [e,hA2];rfl
 ·exact this.2 (fun ⟨j,hf,_⟩=>hno ⟨j,(fits_shape E.t s pos j).1 hf⟩)
theorem uniform {P:Nat→Nat→Prop} (hm:∀ q K L,P q K→K≤L→P q L):∀ n,(∀ q,q<n→∃ K,P q K)→∃ K,∀ q,q<n→P q K
 | 0,_=>⟨0,fun q h=>by omega⟩
 | n+1,h=>by
  obtain ⟨K,hK⟩:=uniform hm n (fun q hq=>h q (by omega))
  obtain ⟨L,hL⟩:=h n (by omega)
  refine ⟨K+L,fun q hq=>?_⟩
  by_cases e:q<n
  ·exact hm q K _ (hK q e) (by omega)
  ·have:q=n:=by omega
   subst this;exact hm q L _ hL (by omega)
theorem kleene_is (s:Shape) (ho:s.ok) (hd:s.deep≤10) (hp:s.pat.length≤48) (t:ByteArray) (hT:t.size≤10):KleeneIs t s (findR (bp s.pat) t 0 1 0 5000 10000):=by
 have hcode:=shape_code s ho hd hp
 have h0:(checkR (bp s.pat)).1=0:=by rw [← codeR_err,hcode]
 obtain ⟨A,hK⟩:=pattern_kn (bp s.pat) h0
 rw [hcode] at hK
 have hw:=shape_weight s hp
 have hops:=plain_ops (s.be .eps) (be_plain s .eps rfl) 0 0
 have hall:∀ q,q<(shapeC s).length→((shapeC s).getD q ins0).op≠8∧((shapeC s).getD q ins0).op≠11:=fun q hq=>by
  rw [List.getD_eq_getElem?_getD,List.getElem?_eq_getElem hq]
  have hm:(shapeC s)[q]∈shapeC s:=List.getElem_mem hq
  have:∀ x∈shapeC s,x.op≠8∧x.op≠11:=fun x hx=>by
   unfold shapeC at hx
   rw [List.mem_append] at hx
   rcases hx with hx | hx
   ·exact hops.1 x hx
   ·simp only [List.mem_cons,List.not_mem_nil,or_false] at hx
    subst hx;simp
  exact this _ hm
 have hlin:=linear_math hK t (fun q hq=>(hall q hq).1) (fun q hq=>(hall q hq).2) (by
  refine Nat.le_trans (Nat.mul_le_mul (show t.size+1≤11 by omega) (show 2*weightC (shapeC s)+1≤621 by omega)) (by decide))
 have hopt:Opt 1 0 5000 10000:=by unfold Opt;omega
 have hf:=findR_ok (bp s.pat) t 0 1 0 5000 10000 h0 (by omega) (by omega) hopt
 rw [hcode] at hf
 have hin:=searchAll_inside hK.k.ok hK.k.pos t 1 0 5000 10000 0 (by omega) (by omega) (by omega) hlin.1
 obtain ⟨E,hE⟩:∃ E,E=envOf (shapeC s) t 1 0:=⟨_,rfl⟩
 have hEc:E.c=shapeC s:=by rw [hE];rfl
 have hEt:E.t=t:=by rw [hE];rfl
 have run:=fun pos hp=>shape_run s hd (E:=E) hEc pos hp
 rw [hEt] at run
 rw [hlin.1] at hf
 rw [show ((0:Nat):Int)=0 from rfl] at hf
 have hG:findR (bp s.pat) t 0 1 0 5000 10000=((searchAll (shapeC s) t 1 0 5000 10000 0).1,0):=hf
 rw [hG]
 have plain:∀ {n:Nat} {ok:Bool} {l:List Int} {k:Int},search E 0 (t.size+1) 0 n [] 0=(⟨ok,l,k⟩,false)→(searchAll (shapeC s) t 1 0 5000 10000 0).1.ok=ok∧(searchAll (shapeC s) t 1 0 5000 10000 0).1.at'=l:=fun {n ok l k} h=>by
  have hx:(search (envOf (shapeC s) t 1 0) 0 (t.size+1-0) 0 n [] 0).2=false:=by rw [← hE,Nat.sub_zero,h]
  obtain ⟨x,y⟩:=table_plain hK t 1 0 5000 10000 0 n (by omega) (by unfold InR;omega) (by omega) hx hlin.1
  rw [← hE,Nat.sub_zero,h] at x y
  exact ⟨x,y⟩
 refine ⟨rfl,hin.len,hin.steps1,hin.steps2,fun i hi hq hj=>?_,fun hq=>?_⟩
 ·obtain ⟨H,e,R',hfe,hR,hit⟩:=(run i hi).1 hj
  obtain ⟨K,hKq⟩:=uniform (P:=fun q K=>Within E K (startSt (q:Nat)) none) (fun q K L h hl=>h.mono hl) i (fun q h=>(run q (by omega)).2 (hq q h))
  obtain ⟨k,hs⟩:=search_hit2 (E:=E) (K:=K) (H:=H) (b:=0) i 0 (t.size+1) (i*K+H) (by omega) (fun q _ h=>hKq q (by omega)) (by rw [Nat.zero_add];exact hit) (Nat.le_refl _)
  obtain ⟨x,y⟩:=plain hs
  refine ⟨x,e,hfe,?_⟩
  rw [y,Nat.zero_add]
  show (i:Int)::(e:Int)::(R'.drop 2).take 18=_
  rw [hR]
 ·obtain ⟨K,hKq⟩:=uniform (P:=fun q K=>Within E K (startSt (q:Nat)) none) (fun q K L h hl=>h.mono hl) (t.size+1) (fun q h=>(run q (by omega)).2 (hq q (by omega)))
  obtain ⟨k,hs⟩:=search_miss (E:=E) (K:=K) (b:=0) (t.size+1) 0 ((t.size+1)*K) (fun q _ h=>hKq q (by omega)) (Nat.le_refl _)
  exact plain hs
section
variable {t:ByteArray} {x y:Shape} {X Y C:Nat→Nat→Bool}
end
end Mt
