import Derived.Test.YtebpgfodelggoaaC23
import Derived.Test.YtebpgfodelggoaaC52
set_option linter.unusedVariables false
set_option linter.unusedSimpArgs false
set_option maxRecDepth 100000
set_option maxHeartbeats 2000000
namespace Go.Proofs.Ytebpgfodelggoaa
open Go.RowKit
def FirstAB (t:ByteArray) (f:Nat→Option Nat) (a b:Int):Prop :=
 (∃ i k:Nat,i≤t.size∧(∀ q,q<i→f q=none)∧f i=some k∧a=(i:Int)∧b=(i:Int)+(k:Int))∨((∀ q,q≤t.size→f q=none)∧a=-1∧b=-1)
theorem first_shown {t:ByteArray} {f:Nat→Option Nat} {G:Mt.Fnd × Int} {a b:Int} (h:Mt.FirstIs t f G) (hab:FirstAB t f a b):Shown G.1 a b∧Without G.1 0:=by
 rcases hab with ⟨i,k,h1,h2,h3,rfl,rfl⟩ | ⟨h1,rfl,rfl⟩
 ·obtain ⟨e1,e2⟩:=h.hit i h1 h2 k h3
  refine ⟨⟨h.len,h.s1,h.s2,by rw [e1];simp,?_,?_⟩,⟨h.len,fun j j1 j2 j3=>?_⟩⟩
  ·rw [e2,if_neg (by omega)];rfl
  ·rw [e2,if_neg (by omega)];show ((i+k:Nat):Int)=_;push_cast;rfl
  ·rw [e2]
   have hj:j=1∨j=2∨j=3∨j=4∨j=5∨j=6∨j=7∨j=8∨j=9:=by omega
   rcases hj with rfl | rfl | rfl | rfl | rfl | rfl | rfl | rfl | rfl <;> exact ⟨rfl,rfl⟩
 ·obtain ⟨e1,e2⟩:=h.miss h1
  refine ⟨⟨h.len,h.s1,h.s2,by rw [e1];rfl,?_,?_⟩,⟨h.len,fun j j1 j2 j3=>?_⟩⟩
  ·rw [e2];rfl
  ·rw [e2];rfl
  ·rw [e2]
   have hj:j=1∨j=2∨j=3∨j=4∨j=5∨j=6∨j=7∨j=8∨j=9:=by omega
   rcases hj with rfl | rfl | rfl | rfl | rfl | rfl | rfl | rfl | rfl <;> exact ⟨rfl,rfl⟩
theorem none_next {f:Nat→Option Nat} {k:Nat} (h:∀ q,q<k→f q=none) (hk:f k=none):∀ q,q<k+1→f q=none:=fun q hq=>by
 by_cases e:q<k
 ·exact h q e
 ·have:q=k:=by omega
  subst this;exact hk
theorem starts_le {t q:ByteArray} {i:Nat} (h:startsB t i q=true):i+q.size≤t.size:=by
 unfold startsB at h
 rw [Bool.and_eq_true,decide_eq_true_eq] at h
 exact h.1
theorem cut_cases (t u v x:ByteArray) (i:Nat) (h:i≤t.size):Mt.cutAt t u.data.toList v.data.toList x.data.toList i=if startsB t i u then (if startsB t (i+u.size) x then some (u.size+x.size) else none) else if startsB t i v then (if startsB t (i+v.size) x then some (v.size+x.size) else none) else none:=by
 unfold Mt.cutAt
 have lu:u.data.toList.length=u.size:=by simp
 have lv:v.data.toList.length=v.size:=by simp
 have lx:x.data.toList.length=x.size:=by simp
 rw [lu,lv,lx,← starts_stands t u i h,← starts_stands t v i h]
 cases e1:startsB t i u
 ·cases e2:startsB t i v
  ·rfl
  ·rw [← starts_stands t x (i+v.size) (starts_le e2)];rfl
 ·rw [← starts_stands t x (i+u.size) (starts_le e1)];rfl
theorem see_cases (t u v:ByteArray) (yes:Bool) (i:Nat) (h:i≤t.size):Mt.seeAt t u.data.toList v.data.toList yes i=if startsB t i u=yes then (if startsB t i v then some v.size else none) else none:=by
 unfold Mt.seeAt
 have lv:v.data.toList.length=v.size:=by simp
 rw [lv,← starts_stands t u i h,← starts_stands t v i h]
theorem cut_any (t u v x:ByteArray) (w:World) (ht:t.size≤60) (hu:u.size≤8) (hv:v.size≤8) (hx:x.size≤8) :
  Calls Try.prog 20 #[.string t,.string u,.string v,.string x] w fun e w'=>∃ a b:Int,e=.returned (.tuple #[.int .i64 a,.int .i64 b])∧FirstAB t (Mt.cutAt t u.data.toList v.data.toList x.data.toList) a b∧Below w.heap.size w w':=by
 have HF:Hid (∀ i,i≤t.size→Mt.cutAt t u.data.toList v.data.toList x.data.toList i=if startsB t i u then (if startsB t (i+u.size) x then some (u.size+x.size) else none) else if startsB t i v then (if startsB t (i+v.size) x then some (v.size+x.size) else none) else none):=fun i hi=>cut_cases t u v x i hi
 generalize Mt.cutAt t u.data.toList v.data.toList x.data.toList=f at *
 have KF0:Hid (∀ (i:Nat) (z:World) (g cap:Nat),i≤60→z.heap[g]?=some (.cells #[.string u,.string v] 9 (0,0))→Calls Try.prog 17 #[.string t,.int .i64 (i:Int),.slice (some ⟨g,0,none⟩) 2 cap] z fun e w'=>e=.returned (.int .i64 (firstIn t i [u,v] 0))∧w'=z):=fun i z g cap hi hg=>by
  exact first_any t i [u,v] g cap z ht (by omega) (by simp) (fun q hq=>by simp at hq;rcases hq with rfl | rfl <;> omega) (fun k q hk=>by
   rw [(cell_block hg).1 k]
   match k,hk with
   | 0,hk=>simp at hk;subst hk;rfl
   | 1,hk=>simp at hk;subst hk;rfl
   | k+2,hk=>simp at hk)
 have KS0:Hid (∀ (i:Nat) (j:Int) (z:World),i≤100→j=(i:Int)→Calls Try.prog 33 #[.string t,.int .i64 j,.string x] z fun e w'=>e=.returned (.bool (startsB t i x))∧w'=z):=fun i j z hi hj=>by
  subst hj;exact starts_any t x i z ht (by omega) (by omega)
 go_enter Try.func20,Try.ntmps20
 go_wp2_with fail
 go_loopw [10] (fun i wr=>∃ k:Nat,k≤t.size+1∧i=.int .i64 k∧Hid (Below w.heap.size w wr)∧Hid (∀ q,q<k→f q=none)) (fun i _=>t.size+1-(intOf i).toNat)
 case atStart=>exact ⟨0,by omega,rfl,Below.refl _ _,fun q h=>by omega⟩
 case round =>
  obtain ⟨k,hk,rfl,HB,HQ⟩:=hrel
  by_cases hle:k≤t.size
  ·have hle':(k:Int)≤(t.size:Int):=by omega
   have hfk:=HF.out k hle
   have HB1:Hid (Below w.heap.size w (wr.alloc (.cells #[.string u,.string v] 9))):=HB.out.trans ((Below.refl _ _).alloc HB.out.size _)
   have KF:Hid (Calls Try.prog 17 #[.string t,.int .i64 (k:Int),.slice (some ⟨wr.heap.size,0,none⟩) 2 2] (wr.alloc (.cells #[.string u,.string v] 9)) fun e w'=>e=.returned (.int .i64 (firstIn t k [u,v] 0))∧w'=wr.alloc (.cells #[.string u,.string v] 9)):=KF0.out k _ wr.heap.size 2 (by omega) (heap_b1 _ _)
   have KU:Hid (∀ z:World,Calls Try.prog 33 #[.string t,.int .i64 ((k:Int)+(u.size:Int)),.string x] z fun e w'=>e=.returned (.bool (startsB t (k+u.size) x))∧w'=z):=fun z=>KS0.out (k+u.size) _ z (by omega) (by push_cast;rfl)
   have KV:Hid (∀ z:World,Calls Try.prog 33 #[.string t,.int .i64 ((k:Int)+(v.size:Int)),.string x] z fun e w'=>e=.returned (.bool (startsB t (k+v.size) x))∧w'=z):=fun z=>KS0.out (k+v.size) _ z (by omega) (by push_cast;rfl)
   generalize hcu:startsB t (k+u.size) x=cu at *
   generalize hcv:startsB t (k+v.size) x=cv at *
   unfold firstIn firstIn firstIn at KF
   clear hcu hcv KF0 KS0 HF
   cases hb1:startsB t k u
   ·cases hb2:startsB t k v
    ·rw [hb1,hb2] at KF hfk
     simp only [Bool.false_eq_true,if_false] at KF hfk
     have HN:Hid (∀ q,q<k+1→f q=none):=none_next HQ.out hfk
     clear hb1 hb2 hfk HQ KV
     go_wp2_with fail
     refine KF.out.mono ?_
     rintro e w' ⟨rfl,rfl⟩
     go_wp2_with fail
     refine (KU.out _).mono ?_
     rintro e w' ⟨rfl,rfl⟩
     go_wp2_with fail
     go_roundw
     case rel=>exact ⟨k+1,by omega,by go_num,HB1,HN⟩
     case measure=>simp [intOf];omega
    ·rw [hb1,hb2] at KF hfk
     simp only [Bool.false_eq_true,if_false,if_true] at KF hfk
     clear hb1 hb2 KU
     cases cv
     ·have HN:Hid (∀ q,q<k+1→f q=none):=none_next HQ.out (by simpa using hfk)
      clear hfk HQ
      go_wp2_with fail
      refine KF.out.mono ?_
      rintro e w' ⟨rfl,rfl⟩
      go_wp2_with fail
      refine (KV.out _).mono ?_
      rintro e w' ⟨rfl,rfl⟩
      go_wp2_with fail
      go_roundw
      case rel=>exact ⟨k+1,by omega,by go_num,HB1,HN⟩
      case measure=>simp [intOf];omega
     ·have HH:Hid (f k=some (v.size+x.size)):=(by simpa using hfk:f k=some (v.size+x.size))
      clear hfk
      go_wp2_with fail
      refine KF.out.mono ?_
      rintro e w' ⟨rfl,rfl⟩
      go_wp2_with fail
      refine (KV.out _).mono ?_
      rintro e w' ⟨rfl,rfl⟩
      go_wp2_with fail
      go_ret2
      exact ⟨_,_,rfl,.inl ⟨k,v.size+x.size,hle,HQ.out,HH.out,rfl,by push_cast;omega⟩,HB1.out⟩
   ·rw [hb1] at KF hfk
    simp only [if_true] at KF hfk
    clear hb1 KV
    cases cu
    ·have HN:Hid (∀ q,q<k+1→f q=none):=none_next HQ.out (by simpa using hfk)
     clear hfk HQ
     go_wp2_with fail
     refine KF.out.mono ?_
     rintro e w' ⟨rfl,rfl⟩
     go_wp2_with fail
     refine (KU.out _).mono ?_
     rintro e w' ⟨rfl,rfl⟩
     go_wp2_with fail
     go_roundw
     case rel=>exact ⟨k+1,by omega,by go_num,HB1,HN⟩
     case measure=>simp [intOf];omega
    ·have HH:Hid (f k=some (u.size+x.size)):=(by simpa using hfk:f k=some (u.size+x.size))
     clear hfk
     go_wp2_with fail
     refine KF.out.mono ?_
     rintro e w' ⟨rfl,rfl⟩
     go_wp2_with fail
     refine (KU.out _).mono ?_
     rintro e w' ⟨rfl,rfl⟩
     go_wp2_with fail
     go_ret2
     exact ⟨_,_,rfl,.inl ⟨k,u.size+x.size,hle,HQ.out,HH.out,rfl,by push_cast;omega⟩,HB1.out⟩
  ·have hle':¬ (k:Int)≤(t.size:Int):=by omega
   go_wp2_with fail
   go_ret2
   exact ⟨_,_,rfl,.inr ⟨fun q hq=>HQ.out q (by omega),rfl,rfl⟩,HB.out⟩
theorem ahead_any (t u v:ByteArray) (yes:Bool) (w:World) (ht:t.size≤60) (hu:u.size≤8) (hv:v.size≤8) :
  Calls Try.prog 21 #[.string t,.string u,.string v,.bool yes] w fun e w'=>∃ a b:Int,e=.returned (.tuple #[.int .i64 a,.int .i64 b])∧FirstAB t (Mt.seeAt t u.data.toList v.data.toList yes) a b∧w'=w:=by
 have HF:Hid (∀ i,i≤t.size→Mt.seeAt t u.data.toList v.data.toList yes i=if startsB t i u=yes then (if startsB t i v then some v.size else none) else none):=fun i hi=>see_cases t u v yes i hi
 generalize Mt.seeAt t u.data.toList v.data.toList yes=f at *
 have KU0:Hid (∀ (i:Nat) (z:World),i≤60→Calls Try.prog 33 #[.string t,.int .i64 (i:Int),.string u] z fun e w'=>e=.returned (.bool (startsB t i u))∧w'=z):=fun i z hi=>starts_any t u i z ht (by omega) (by omega)
 have KV0:Hid (∀ (i:Nat) (z:World),i≤60→Calls Try.prog 33 #[.string t,.int .i64 (i:Int),.string v] z fun e w'=>e=.returned (.bool (startsB t i v))∧w'=z):=fun i z hi=>starts_any t v i z ht (by omega) (by omega)
 go_enter Try.func21,Try.ntmps21
 go_wp2_with fail
 go_loopw [10] (fun i wr=>∃ k:Nat,k≤t.size+1∧i=.int .i64 k∧wr=w∧Hid (∀ q,q<k→f q=none)) (fun i _=>t.size+1-(intOf i).toNat)
 case atStart=>exact ⟨0,by omega,rfl,rfl,fun q h=>by omega⟩
 case round =>
  obtain ⟨k,hk,rfl,rfl,HQ⟩:=hrel
  by_cases hle:k≤t.size
  ·have hle':(k:Int)≤(t.size:Int):=by omega
   have hfk:=HF.out k hle
   have KU:Hid (∀ z:World,Calls Try.prog 33 #[.string t,.int .i64 (k:Int),.string u] z fun e w'=>e=.returned (.bool (startsB t k u))∧w'=z):=fun z=>KU0.out k z (by omega)
   have KV:Hid (∀ z:World,Calls Try.prog 33 #[.string t,.int .i64 (k:Int),.string v] z fun e w'=>e=.returned (.bool (startsB t k v))∧w'=z):=fun z=>KV0.out k z (by omega)
   generalize startsB t k u=b1 at *
   generalize startsB t k v=b2 at *
   clear KU0 KV0 HF
   by_cases hhit:b1=yes∧b2=true
   ·obtain ⟨rfl,rfl⟩:=hhit
    have HH:Hid (f k=some v.size):=(by simpa using hfk:f k=some v.size)
    clear hfk
    cases b1
    all_goals
     go_wp2_with fail
     refine (KU.out _).mono ?_
     rintro e w' ⟨rfl,rfl⟩
     go_wp2_with fail
     refine (KV.out _).mono ?_
     rintro e w' ⟨rfl,rfl⟩
     go_wp2_with fail
     go_ret2
     exact ⟨_,_,rfl,.inl ⟨k,v.size,hle,HQ.out,HH.out,rfl,rfl⟩,rfl⟩
   ·have HN:Hid (∀ q,q<k+1→f q=none):=none_next HQ.out (by
     rw [hfk]
     cases b1 <;> cases b2 <;> cases yes <;> simp_all)
    clear hfk HQ
    cases b1 <;> cases b2 <;> cases yes
    all_goals first
     | exact absurd ⟨rfl,rfl⟩ hhit
     | (
      clear hhit
      go_wp2_with fail
      refine (KU.out _).mono ?_
      rintro e w' ⟨rfl,rfl⟩
      go_wp2_with fail
      refine (KV.out _).mono ?_
      rintro e w' ⟨rfl,rfl⟩
      go_wp2_with fail
      go_roundw
      case rel=>exact ⟨k+1,by omega,by go_num,trivial,HN⟩
      case measure=>simp [intOf];omega)
  ·have hle':¬ (k:Int)≤(t.size:Int):=by omega
   go_wp2_with fail
   go_ret2
   exact ⟨_,_,rfl,.inr ⟨fun q hq=>HQ.out q (by omega),rfl,rfl⟩,rfl⟩
end Go.Proofs.Ytebpgfodelggoaa
