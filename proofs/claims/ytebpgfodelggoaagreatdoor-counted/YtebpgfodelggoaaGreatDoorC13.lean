import Derived.Test.YtebpgfodelggoaaGreatDoorC12
import Derived.Test.YtebpgfodelggoaaGreatDoorC07
set_option linter.unusedVariables false
set_option linter.unusedSimpArgs false
namespace Mt
def bp (l:List UInt8):ByteArray:=⟨l.toArray⟩
theorem bp_size (l:List UInt8):(bp l).size=l.length:=by simp [bp,ByteArray.size]
def Holds (p:ByteArray):Int→List UInt8→Prop
 | i,[]=>0≤i∧i≤p.size
 | i,c::r=>0≤i∧i<p.size∧atB p i=(c.toNat:Int)∧Holds p (i+1) r
theorem holds_app {p:ByteArray}:∀ (a b:List UInt8) (i:Int),Holds p i (a++b)→Holds p i a∧Holds p (i+a.length) b
 | [],b,i,h=>by
  have:0≤i∧i≤p.size:=by cases b with
   | nil=>exact h
   | cons c r=>exact ⟨h.1,by have:=h.2.1;omega⟩
  exact ⟨this,by simpa using h⟩
 | c::a,b,i,h=>by
  obtain ⟨h1,h2⟩:=holds_app a b (i+1) h.2.2.2
  refine ⟨⟨h.1,h.2.1,h.2.2.1,h1⟩,?_⟩
  rw [List.length_cons,show i+((a.length+1:Nat):Int)=i+1+a.length by push_cast;omega];exact h2
theorem holds_at {p:ByteArray}:∀ (a:List UInt8) (i:Int),Holds p i a→(0≤i∧i+a.length≤p.size)∧∀ k:Nat,k<a.length→atB p (i+k)=((a.getD k 0).toNat:Int)
 | [],i,h=>⟨⟨h.1,by have:=h.2;simpa using this⟩,fun k hk=>by simp at hk⟩
 | c::a,i,h=>by
  obtain ⟨h1,h2⟩:=holds_at a (i+1) h.2.2.2
  refine ⟨⟨h.1,by rw [List.length_cons];push_cast;omega⟩,fun k hk=>?_⟩
  cases k with
  | zero=>simpa using h.2.2.1
  | succ k =>
   have:=h2 k (by simpa using hk)
   rw [show i+((k+1:Nat):Int)=i+1+k by push_cast;omega,this];simp
theorem holds_drop {l:List UInt8}:∀ (n:Nat) (k:Nat),l.length-k=n→k≤l.length→Holds (bp l) k (l.drop k)
 | 0,k,h,hk=>by
  rw [List.drop_eq_nil_of_le (by omega)];exact ⟨by omega,by rw [bp_size];omega⟩
 | n+1,k,h,hk=>by
  rw [List.drop_eq_getElem_cons (by omega)]
  refine ⟨by omega,by rw [bp_size];omega,?_,?_⟩
  ·rw [atB_in _ _ (by omega) (by rw [bp_size];omega)]
   simp [bp,List.getD_eq_getElem?_getD,List.getElem?_eq_getElem (show k<l.length by omega)]
  ·exact_mod_cast holds_drop n (k+1) (by omega) (by omega)
theorem holds_self (l:List UInt8):Holds (bp l) 0 l:=by simpa using holds_drop (l:=l) l.length 0 (by omega) (by omega)
theorem holds_stands {p:ByteArray} {x r:List UInt8} {i:Int} (h:Holds p i (x++41::r)):Stands (bp x) p i:=by
 obtain ⟨h1,h2⟩:=holds_app x (41::r) i h
 obtain ⟨⟨a,b⟩,c⟩:=holds_at x i h1
 refine ⟨a,by rw [bp_size];have:=h2.2.1;omega,fun j h0 hj=>?_,by rw [bp_size,Int.add_comm];exact h2.2.2.1⟩
 rw [bp_size] at hj
 obtain ⟨k,rfl⟩:=Int.eq_ofNat_of_zero_le h0
 rw [Int.add_comm,c k (by omega),atB_in _ _ h0 (by rw [bp_size];exact hj)]
 simp [bp,List.getD_eq_getElem?_getD]
theorem at_end {p:ByteArray} {i:Int} (h:i=p.size):atB p i=-1:=atB_out p i (Or.inr (by omega))
def Calm (p:ByteArray) (i:Int):Prop:=atB p i≠63∧atB p i≠43
section
variable {p:ByteArray} {j:Int}
theorem rep_star (h:Holds p j [42]) (c:Calm p (j+1)):nextT p j=(⟨8,j,j+1,0,-1,0,[]⟩,0):=by
 unfold Calm at c
 simp only [Holds] at h
 obtain ⟨h0,h1,a0,h⟩:=h
 (try obtain ⟨_,_,a1,h⟩:=h)
 (try obtain ⟨_,_,a2,h⟩:=h)
 (try obtain ⟨_,_,a3,h⟩:=h)
 (try obtain ⟨_,_,a4,h⟩:=h)
 (try obtain ⟨_,_,a5,h⟩:=h)
 (try simp only [Int.add_assoc] at *)
 simp at *
 simp [nextT,repeatT,count,number,mood, *,Int.add_assoc]
theorem rep_plus (h:Holds p j [43]) (c:Calm p (j+1)):nextT p j=(⟨8,j,j+1,1,-1,0,[]⟩,0):=by
 unfold Calm at c
 simp only [Holds] at h
 obtain ⟨h0,h1,a0,h⟩:=h
 (try obtain ⟨_,_,a1,h⟩:=h)
 (try obtain ⟨_,_,a2,h⟩:=h)
 (try obtain ⟨_,_,a3,h⟩:=h)
 (try obtain ⟨_,_,a4,h⟩:=h)
 (try obtain ⟨_,_,a5,h⟩:=h)
 (try simp only [Int.add_assoc] at *)
 simp at *
 simp [nextT,repeatT,count,number,mood, *,Int.add_assoc]
theorem rep_opt (h:Holds p j [63]) (c:Calm p (j+1)):nextT p j=(⟨8,j,j+1,0,1,0,[]⟩,0):=by
 unfold Calm at c
 simp only [Holds] at h
 obtain ⟨h0,h1,a0,h⟩:=h
 (try obtain ⟨_,_,a1,h⟩:=h)
 (try obtain ⟨_,_,a2,h⟩:=h)
 (try obtain ⟨_,_,a3,h⟩:=h)
 (try obtain ⟨_,_,a4,h⟩:=h)
 (try obtain ⟨_,_,a5,h⟩:=h)
 (try simp only [Int.add_assoc] at *)
 simp at *
 simp [nextT,repeatT,count,number,mood, *,Int.add_assoc]
theorem rep_starl (h:Holds p j [42,63]):nextT p j=(⟨8,j,j+2,0,-1,1,[]⟩,0):=by
 simp only [Holds] at h
 obtain ⟨h0,h1,a0,h⟩:=h
 (try obtain ⟨_,_,a1,h⟩:=h)
 (try obtain ⟨_,_,a2,h⟩:=h)
 (try obtain ⟨_,_,a3,h⟩:=h)
 (try obtain ⟨_,_,a4,h⟩:=h)
 (try obtain ⟨_,_,a5,h⟩:=h)
 (try simp only [Int.add_assoc] at *)
 simp at *
 simp [nextT,repeatT,count,number,mood, *,Int.add_assoc]
theorem rep_plusl (h:Holds p j [43,63]):nextT p j=(⟨8,j,j+2,1,-1,1,[]⟩,0):=by
 simp only [Holds] at h
 obtain ⟨h0,h1,a0,h⟩:=h
 (try obtain ⟨_,_,a1,h⟩:=h)
 (try obtain ⟨_,_,a2,h⟩:=h)
 (try obtain ⟨_,_,a3,h⟩:=h)
 (try obtain ⟨_,_,a4,h⟩:=h)
 (try obtain ⟨_,_,a5,h⟩:=h)
 (try simp only [Int.add_assoc] at *)
 simp at *
 simp [nextT,repeatT,count,number,mood, *,Int.add_assoc]
theorem rep_optl (h:Holds p j [63,63]):nextT p j=(⟨8,j,j+2,0,1,1,[]⟩,0):=by
 simp only [Holds] at h
 obtain ⟨h0,h1,a0,h⟩:=h
 (try obtain ⟨_,_,a1,h⟩:=h)
 (try obtain ⟨_,_,a2,h⟩:=h)
 (try obtain ⟨_,_,a3,h⟩:=h)
 (try obtain ⟨_,_,a4,h⟩:=h)
 (try obtain ⟨_,_,a5,h⟩:=h)
 (try simp only [Int.add_assoc] at *)
 simp at *
 simp [nextT,repeatT,count,number,mood, *,Int.add_assoc]
theorem rep_starp (h:Holds p j [42,43]):nextT p j=(⟨8,j,j+2,0,-1,2,[]⟩,0):=by
 simp only [Holds] at h
 obtain ⟨h0,h1,a0,h⟩:=h
 (try obtain ⟨_,_,a1,h⟩:=h)
 (try obtain ⟨_,_,a2,h⟩:=h)
 (try obtain ⟨_,_,a3,h⟩:=h)
 (try obtain ⟨_,_,a4,h⟩:=h)
 (try obtain ⟨_,_,a5,h⟩:=h)
 (try simp only [Int.add_assoc] at *)
 simp at *
 simp [nextT,repeatT,count,number,mood, *,Int.add_assoc]
theorem rep_optp (h:Holds p j [63,43]):nextT p j=(⟨8,j,j+2,0,1,2,[]⟩,0):=by
 simp only [Holds] at h
 obtain ⟨h0,h1,a0,h⟩:=h
 (try obtain ⟨_,_,a1,h⟩:=h)
 (try obtain ⟨_,_,a2,h⟩:=h)
 (try obtain ⟨_,_,a3,h⟩:=h)
 (try obtain ⟨_,_,a4,h⟩:=h)
 (try obtain ⟨_,_,a5,h⟩:=h)
 (try simp only [Int.add_assoc] at *)
 simp at *
 simp [nextT,repeatT,count,number,mood, *,Int.add_assoc]
theorem rep_1 (h:Holds p j [123,49,125]) (c:Calm p (j+3)):nextT p j=(⟨8,j,j+3,1,1,0,[]⟩,0):=by
 unfold Calm at c
 simp only [Holds] at h
 obtain ⟨h0,h1,a0,h⟩:=h
 (try obtain ⟨_,_,a1,h⟩:=h)
 (try obtain ⟨_,_,a2,h⟩:=h)
 (try obtain ⟨_,_,a3,h⟩:=h)
 (try obtain ⟨_,_,a4,h⟩:=h)
 (try obtain ⟨_,_,a5,h⟩:=h)
 (try simp only [Int.add_assoc] at *)
 simp at *
 simp [nextT,repeatT,count,number,mood, *,Int.add_assoc]
theorem rep_0 (h:Holds p j [123,48,125]) (c:Calm p (j+3)):nextT p j=(⟨8,j,j+3,0,0,0,[]⟩,0):=by
 unfold Calm at c
 simp only [Holds] at h
 obtain ⟨h0,h1,a0,h⟩:=h
 (try obtain ⟨_,_,a1,h⟩:=h)
 (try obtain ⟨_,_,a2,h⟩:=h)
 (try obtain ⟨_,_,a3,h⟩:=h)
 (try obtain ⟨_,_,a4,h⟩:=h)
 (try obtain ⟨_,_,a5,h⟩:=h)
 (try simp only [Int.add_assoc] at *)
 simp at *
 simp [nextT,repeatT,count,number,mood, *,Int.add_assoc]
theorem rep_2 (h:Holds p j [123,50,125]) (c:Calm p (j+3)):nextT p j=(⟨8,j,j+3,2,2,0,[]⟩,0):=by
 unfold Calm at c
 simp only [Holds] at h
 obtain ⟨h0,h1,a0,h⟩:=h
 (try obtain ⟨_,_,a1,h⟩:=h)
 (try obtain ⟨_,_,a2,h⟩:=h)
 (try obtain ⟨_,_,a3,h⟩:=h)
 (try obtain ⟨_,_,a4,h⟩:=h)
 (try obtain ⟨_,_,a5,h⟩:=h)
 (try simp only [Int.add_assoc] at *)
 simp at *
 simp [nextT,repeatT,count,number,mood, *,Int.add_assoc]
theorem rep_0e (h:Holds p j [123,48,44,125]) (c:Calm p (j+4)):nextT p j=(⟨8,j,j+4,0,-1,0,[]⟩,0):=by
 unfold Calm at c
 simp only [Holds] at h
 obtain ⟨h0,h1,a0,h⟩:=h
 (try obtain ⟨_,_,a1,h⟩:=h)
 (try obtain ⟨_,_,a2,h⟩:=h)
 (try obtain ⟨_,_,a3,h⟩:=h)
 (try obtain ⟨_,_,a4,h⟩:=h)
 (try obtain ⟨_,_,a5,h⟩:=h)
 (try simp only [Int.add_assoc] at *)
 simp at *
 simp [nextT,repeatT,count,number,mood, *,Int.add_assoc]
theorem rep_01 (h:Holds p j [123,48,44,49,125]) (c:Calm p (j+5)):nextT p j=(⟨8,j,j+5,0,1,0,[]⟩,0):=by
 unfold Calm at c
 simp only [Holds] at h
 obtain ⟨h0,h1,a0,h⟩:=h
 (try obtain ⟨_,_,a1,h⟩:=h)
 (try obtain ⟨_,_,a2,h⟩:=h)
 (try obtain ⟨_,_,a3,h⟩:=h)
 (try obtain ⟨_,_,a4,h⟩:=h)
 (try obtain ⟨_,_,a5,h⟩:=h)
 (try simp only [Int.add_assoc] at *)
 simp at *
 simp [nextT,repeatT,count,number,mood, *,Int.add_assoc]
theorem rep_23 (h:Holds p j [123,50,44,51,125]) (c:Calm p (j+5)):nextT p j=(⟨8,j,j+5,2,3,0,[]⟩,0):=by
 unfold Calm at c
 simp only [Holds] at h
 obtain ⟨h0,h1,a0,h⟩:=h
 (try obtain ⟨_,_,a1,h⟩:=h)
 (try obtain ⟨_,_,a2,h⟩:=h)
 (try obtain ⟨_,_,a3,h⟩:=h)
 (try obtain ⟨_,_,a4,h⟩:=h)
 (try obtain ⟨_,_,a5,h⟩:=h)
 (try simp only [Int.add_assoc] at *)
 simp at *
 simp [nextT,repeatT,count,number,mood, *,Int.add_assoc]
theorem rep_1el (h:Holds p j [123,49,44,125,63]):nextT p j=(⟨8,j,j+5,1,-1,1,[]⟩,0):=by
 simp only [Holds] at h
 obtain ⟨h0,h1,a0,h⟩:=h
 (try obtain ⟨_,_,a1,h⟩:=h)
 (try obtain ⟨_,_,a2,h⟩:=h)
 (try obtain ⟨_,_,a3,h⟩:=h)
 (try obtain ⟨_,_,a4,h⟩:=h)
 (try obtain ⟨_,_,a5,h⟩:=h)
 (try simp only [Int.add_assoc] at *)
 simp at *
 simp [nextT,repeatT,count,number,mood, *,Int.add_assoc]
theorem rep_1ep (h:Holds p j [123,49,44,125,43]):nextT p j=(⟨8,j,j+5,1,-1,2,[]⟩,0):=by
 simp only [Holds] at h
 obtain ⟨h0,h1,a0,h⟩:=h
 (try obtain ⟨_,_,a1,h⟩:=h)
 (try obtain ⟨_,_,a2,h⟩:=h)
 (try obtain ⟨_,_,a3,h⟩:=h)
 (try obtain ⟨_,_,a4,h⟩:=h)
 (try obtain ⟨_,_,a5,h⟩:=h)
 (try simp only [Int.add_assoc] at *)
 simp at *
 simp [nextT,repeatT,count,number,mood, *,Int.add_assoc]
theorem rep_02l (h:Holds p j [123,48,44,50,125,63]):nextT p j=(⟨8,j,j+6,0,2,1,[]⟩,0):=by
 simp only [Holds] at h
 obtain ⟨h0,h1,a0,h⟩:=h
 (try obtain ⟨_,_,a1,h⟩:=h)
 (try obtain ⟨_,_,a2,h⟩:=h)
 (try obtain ⟨_,_,a3,h⟩:=h)
 (try obtain ⟨_,_,a4,h⟩:=h)
 (try obtain ⟨_,_,a5,h⟩:=h)
 (try simp only [Int.add_assoc] at *)
 simp at *
 simp [nextT,repeatT,count,number,mood, *,Int.add_assoc]
end
theorem oneP_pos {c:List Ins} {t:ByteArray} {s:Sta} (h:Good c.length t.size s) (x:Ins) (hi:insOk c (pcOf s) x) (ok:(oneP t s x).2=true):gt s 1≤gt (oneP t s x).1 1:=by
 have hl:=h.len
 have hx6:=hi.2.2.2.2.1
 have key:∀ (i:Nat) (v:Int),i≠1→gt (s.set i v) 1=gt s 1:=fun i v hi=>gt_set_ne _ _ _ _ hi
 unfold oneP at ok ⊢
 by_cases o1:x.op=1
 ·rw [if_pos o1]
  dsimp only
  rw [gt_set_ne _ _ _ _ (by omega),gt_set_same _ _ _ (by omega)];omega
 rw [if_neg o1] at ok ⊢
 by_cases o3:x.op=3
 ·rw [if_pos o3];dsimp only;rw [key _ _ (by omega)];exact Int.le_refl _
 rw [if_neg o3] at ok ⊢
 by_cases o4:x.op=4
 ·rw [if_pos o4];dsimp only;rw [gt_set_ne _ _ _ _ (by omega),gt_set_ne _ _ _ _ (by omega)];exact Int.le_refl _
 rw [if_neg o4] at ok ⊢
 by_cases o5:x.op=5
 ·rw [if_pos o5];dsimp only;rw [key _ _ (by omega)];exact Int.le_refl _
 rw [if_neg o5] at ok ⊢
 by_cases o6:x.op=6
 ·rw [if_pos o6];dsimp only;rw [gt_set_ne _ _ _ _ (by omega),gt_set_ne _ _ _ _ (by omega)];exact Int.le_refl _
 rw [if_neg o6] at ok ⊢
 by_cases o7:x.op=7
 ·rw [if_pos o7];dsimp only;rw [gt_set_ne _ _ _ _ (by omega),gt_set_ne _ _ _ _ (by omega),gt_set_ne _ _ _ _ (by omega)];exact Int.le_refl _
 rw [if_neg o7] at ok ⊢
 by_cases o8:x.op=8
 ·rw [if_pos o8] at ok ⊢
  have hk:=hx6 (.inr (.inr o8))
  have hpl:=h.place x.x.toNat (by omega)
  rw [show 2*x.x.toNat=(2*x.x).toNat by omega] at hpl
  rw [show (2*x.x).toNat+1=(2*x.x+1).toNat by omega] at hpl
  unfold backP at ok ⊢
  split
  ·exact Int.le_refl _
  split
  ·exact Int.le_refl _
  ·dsimp only
   rw [gt_set_ne _ _ _ _ (by omega),gt_set_same _ _ _ (by omega)];omega
 rw [if_neg o8] at ok ⊢
 split
 ·dsimp only;rw [key _ _ (by omega)];exact Int.le_refl _
 split
 ·dsimp only;rw [key _ _ (by omega)];exact Int.le_refl _
 ·dsimp only;rw [key _ _ (by omega)];exact Int.le_refl _
theorem look_pos (E:Env) (hc:codeOk E.c):∀ (N n:Nat) (s:Sta) (kn:List Bool) (room:Int),n≤N→Good E.c.length E.t.size s→0≤room∧room≤5000→(look E n s kn room).ok=true→gt s 1≤gt (look E n s kn room).st 1
 | N,0,s,kn,room,_,h,hr,ok=>by rw [look_zero] at ok;cases ok
 | 0,n+1,s,kn,room,hn,_,_,_=>by omega
 | N+1,n+1,s,kn,room,hn,h,hr,ok=>by
  have ih:∀ (n:Nat) (s:Sta) (kn:List Bool) (room:Int),n≤N→Good E.c.length E.t.size s→0≤room∧room≤5000→(look E n s kn room).ok=true→gt s 1≤gt (look E n s kn room).st 1:=look_pos E hc N
  have hgood:=fun (m:Nat) (u:Sta) (k:List Bool) (r:Int) (hu:Good E.c.length E.t.size u) (hr':0≤r∧r≤5000)=>look_good E hc m m u k r (Nat.le_refl _) hu hr'
  rw [look_step] at ok ⊢
  have hR:=E.room'_in s kn room hr
  have hi:=hc (pcOf s) h.pcOf_lt
  have hpc:((pcOf s:Nat):Int)=gt s 0:=by have:=h.pc0;unfold pcOf;omega
  have hpc0:=h.pc0
  by_cases hd:E.dead s kn=true
  ·rw [if_pos hd] at ok;cases ok
  rw [if_neg hd] at ok ⊢
  by_cases h13:(E.ins s).op=13∨(E.ins s).op=12
  ·rw [if_pos h13];exact Int.le_refl _
  rw [if_neg h13] at ok ⊢
  by_cases o2:(E.ins s).op=2
  ·rw [if_pos o2] at ok ⊢
   have i2:=hi.1 o2
   have g1:=h.at_pc (E.ins s).x i2.1 i2.2.1
   have g2:=h.at_pc (E.ins s).y i2.2.2.1 i2.2.2.2
   have p1:=ih n (s.set 0 (E.ins s).x) (E.kn' s kn room) (E.room' s kn room) (by omega) g1 hR
   have q1:=hgood n (s.set 0 (E.ins s).x) (E.kn' s kn room) (E.room' s kn room) g1 hR
   have n1:=look_n E n (s.set 0 (E.ins s).x) (E.kn' s kn room) (E.room' s kn room)
   dsimp only at ok ⊢
   generalize look E n (s.set 0 (E.ins s).x) (E.kn' s kn room) (E.room' s kn room)=r at *
   rw [gt_set_ne _ _ _ _ (by omega)] at p1
   split at ok
   ·rename_i hh;rw [if_pos hh];exact p1 ok
   ·rename_i hh;rw [if_neg hh]
    have:=ih r.n (s.set 0 (E.ins s).y) r.kn r.room (by omega) g2 q1.2.2.1 ok
    rw [gt_set_ne _ _ _ _ (by omega)] at this
    exact this
  rw [if_neg o2] at ok ⊢
  by_cases o11:(E.ins s).op=11
  ·rw [if_pos o11] at ok ⊢
   have i11:=hi.2.2.2.2.2.1 o11
   have hnx:pcOf s+1<E.c.length:=hi.2.2.2.2.2.2.1 (by show (E.ins s).op≠13;omega)
   have g1:=h.at_pc (gt s 0+1) (by omega) (by omega)
   have p1:=ih n (s.set 0 (gt s 0+1)) (E.kn' s kn room) (E.room' s kn room) (by omega) g1 hR
   have q1:=hgood n (s.set 0 (gt s 0+1)) (E.kn' s kn room) (E.room' s kn room) g1 hR
   have n1:=look_n E n (s.set 0 (gt s 0+1)) (E.kn' s kn room) (E.room' s kn room)
   dsimp only at ok ⊢
   generalize look E n (s.set 0 (gt s 0+1)) (E.kn' s kn room) (E.room' s kn room)=r at *
   rw [gt_set_ne _ _ _ _ (by omega)] at p1
   split at ok
   ·cases ok
   rename_i hov
   rw [if_neg hov]
   split at ok
   ·rename_i hk
    rw [if_pos hk]
    have:=ih r.n _ r.kn r.room (by omega) (apartP_good h q1.1 (E.ins s) i11.1 i11.2.1 hk) q1.2.2.1 ok
    refine Int.le_trans ?_ this
    unfold apartP at hk ⊢
    by_cases x0:(E.ins s).x=0
    ·rw [if_pos x0] at hk ⊢
     dsimp only at hk ⊢
     rw [gt_set_ne _ _ _ _ (by omega)];exact p1 hk
    rw [if_neg x0] at hk ⊢
    by_cases x1:(E.ins s).x=1
    ·rw [if_pos x1] at hk ⊢
     dsimp only at hk ⊢
     rw [gt_set_ne _ _ _ _ (by omega),gt_withAt s r.st h.len (q1.1 hk).len,if_neg (by omega)];exact Int.le_refl _
    rw [if_neg x1]
    dsimp only
    rw [gt_set_ne _ _ _ _ (by omega)];exact Int.le_refl _
   ·cases ok
  rw [if_neg o11] at ok ⊢
  split at ok
  ·rename_i hk
   rw [if_pos hk]
   have hg:=oneP_good hc h o2 o11 (by show (E.ins s).op≠13;omega) hk
   have:=ih n _ (E.kn' s kn room) (E.room' s kn room) (by omega) hg hR ok
   exact Int.le_trans (oneP_pos h (E.ins s) hi hk) this
  ·cases ok
theorem search_in (E:Env) (hc:codeOk E.c) (hc0:0<E.c.length) (budget:Int):∀ (f p n:Nat) (kn:List Bool) (room:Int),p+f≤E.t.size+1→(0≤room∧room≤5000)→(n:Int)≤budget→(search E budget f p n kn room).2=false →
  (0≤(search E budget f p n kn room).1.steps∧(search E budget f p n kn room).1.steps≤budget)∧((search E budget f p n kn room).1.ok=true→∃ a b:Nat,(search E budget f p n kn room).1.at'.getD 0 0=(a:Int)∧(search E budget f p n kn room).1.at'.getD 1 0=(b:Int)∧p≤a∧a≤b∧b≤E.t.size)
 | 0,p,n,kn,room,_,_,hn,_=>by
  simp only [search]
  exact ⟨by omega,fun h=>by cases h⟩
 | f+1,p,n,kn,room,hp,hr,hn,ho=>by
  have hst:=startSt_good E.c.length E.t.size p hc0 (by omega)
  have hg:=look_good E hc n n (startSt p) kn room (Nat.le_refl _) hst hr
  have hpos:=look_pos E hc n n (startSt p) kn room (Nat.le_refl _) hst hr
  have hln:=look_n E n (startSt p) kn room
  rw [search] at ho ⊢
  generalize look E n (startSt p) kn room=r at *
  by_cases hov:r.over=true
  ·rw [if_pos hov] at ho;cases ho
  rw [if_neg hov] at ho ⊢
  by_cases hok:r.ok=true
  ·rw [if_pos hok]
   have h1:=hpos hok
   have h2:=(hg.1 hok).pos1
   have e1:gt (startSt p) 1=p:=rfl
   rw [e1] at h1
   refine ⟨by dsimp only;omega,fun _=>⟨p,(gt r.st 1).toNat,rfl,?_,Nat.le_refl _,by omega,by omega⟩⟩
   show gt r.st 1=_
   omega
  ·rw [if_neg hok] at ho ⊢
   obtain ⟨h1,h2⟩:=search_in E hc hc0 budget f (p+1) r.n r.kn r.room (by omega) hg.2.2.1 (by omega) ho
   refine ⟨h1,fun h=>?_⟩
   obtain ⟨a,b,x1,x2,x3,x4,x5⟩:=h2 h
   exact ⟨a,b,x1,x2,by omega,x4,x5⟩
def nextFrom (f:Fnd):Nat:=if f.at'.getD 0 0=f.at'.getD 1 0 then (f.at'.getD 1 0).toNat+1 else (f.at'.getD 1 0).toNat
def allFrom (c:List Ins) (text:ByteArray) (policy mask room budget:Int):Nat→Nat→Int→List Fnd→List Fnd × Int × Int
 | 0,_,used,l=>(l,used,0)
 | F+1,frm,used,l =>
  if text.size<frm then (l,used,0)
  else if (searchAll c text policy mask room (budget-used) frm).2 then ([],0,14)
  else if (searchAll c text policy mask room (budget-used) frm).1.ok=false then (l,used+(searchAll c text policy mask room (budget-used) frm).1.steps,0)
  else allFrom c text policy mask room budget F (nextFrom (searchAll c text policy mask room (budget-used) frm).1) (used+(searchAll c text policy mask room (budget-used) frm).1.steps) (l++[(searchAll c text policy mask room (budget-used) frm).1])
def findAllR (p text:ByteArray) (policy mask room budget:Int):List Fnd × Int × Int :=
 if (codeR p).2≠0 then ([],0,(codeR p).2)
 else if mayFind text.size 0 policy mask room budget≠0 then ([],0,mayFind text.size 0 policy mask room budget)
 else allFrom (codeR p).1 text policy mask room budget (text.size+2) 0 0 []
end Mt
