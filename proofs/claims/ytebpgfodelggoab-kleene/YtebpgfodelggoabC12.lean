import Derived.Test.YtebpgfodelggoabC11
import Derived.Test.YtebpgfodelggoabC06
set_option linter.unusedVariables false
set_option linter.unusedSimpArgs false
namespace Mt
def Rule (A:Int→Att) (q:Int) (x:Ins):Prop :=
 (x.op=1∨x.op=8∨x.op=9∨x.op=10→A (q+1)=A q)
 ∧ (x.op=2→A x.x=A q∧A x.y=A q)
 ∧ (x.op=3→A x.x=A q)
 ∧ (x.op=4→x.x=(A q).d∧A (q+1)=⟨(A q).G,(A q).d+1,(A q).y,(A q).B⟩∧x.x<11)
 ∧ (x.op=5→A x.x=⟨(A q).G,(A q).d-1,(A q).y,(A q).B⟩∧x.y=(A q).d-1∧0≤x.y∧x.y<11)
 ∧ (x.op=6→A (q+1)=⟨x.x::(A q).G,(A q).d,(A q).y,(A q).B⟩∧x.x∉(A q).G)
 ∧ (x.op=7→∃ g,(A q).G=x.x::g∧A (q+1)=⟨g,(A q).d,(A q).y,(A q).B⟩)
 ∧ (x.op=11→A (q+1)=⟨(A q).G,(A q).d,x.y,(A q).G⟩∧A x.y=A q∧A (x.y-1)=⟨(A q).G,(A q).d,x.y,(A q).G⟩∧0<x.y)
 ∧ (x.op=12→(A q).y=q+1)
 ∧ (∀ k∈(A q).B,k∈(A q).G)∧(0≤(A q).d∧(A q).d≤11)∧(∀ k∈(A q).G,0≤k∧k<10)∧(1≤x.op∧x.op≤12)
theorem get_app {α:Type} {a b:List α} {i:Nat} {x:α} (h:(a++b)[i]?=some x):(i<a.length∧a[i]?=some x)∨(a.length≤i∧b[i-a.length]?=some x):=by
 by_cases hi:i<a.length
 ·rw [List.getElem?_append_left hi] at h;exact .inl ⟨hi,h⟩
 ·rw [List.getElem?_append_right (by omega)] at h;exact .inr ⟨by omega,h⟩
theorem get_cons {α:Type} {b:List α} {c:α} {i:Nat} {x:α} (h:(c::b)[i]?=some x):(i=0∧x=c)∨(∃ j,i=j+1∧b[j]?=some x):=by
 cases i with
 | zero=>simp at h;exact .inl ⟨rfl,h.symm⟩
 | succ j=>rw [List.getElem?_cons_succ] at h;exact .inr ⟨j,rfl,h⟩
theorem rule_flat {A:Int→Att} {q:Int} {x:Ins} (h:A (q+1)=A q) (ho:x.op=1∨x.op=8∨x.op=9∨x.op=10) (hB:∀ k∈(A q).B,k∈(A q).G) (hd:0≤(A q).d∧(A q).d≤11) (hR:∀ k∈(A q).G,0≤k∧k<10):Rule A q x :=
 ⟨fun _=>h,fun e=>by omega,fun e=>by omega,fun e=>by omega,fun e=>by omega,fun e=>by omega,fun e=>by omega,fun e=>by omega,fun e=>by omega,hB,hd,hR,by omega⟩
theorem rule_spl {A:Int→Att} {q:Int} (u v:Int) (late:Bool) (h1:A u=A q) (h2:A v=A q) (hB:∀ k∈(A q).B,k∈(A q).G) (hd:0≤(A q).d∧(A q).d≤11) (hR:∀ k∈(A q).G,0≤k∧k<10):Rule A q (spl u v late):=by
 have ho:(spl u v late).op=2:=by cases late <;> rfl
 refine ⟨fun e=>by omega,fun _=>?_,fun e=>by omega,fun e=>by omega,fun e=>by omega,fun e=>by omega,fun e=>by omega,fun e=>by omega,fun e=>by omega,hB,hd,hR,by omega⟩
 cases late
 ·exact ⟨h1,h2⟩
 ·exact ⟨h2,h1⟩
theorem lies_rule (A:Int→Att):∀ (r:Re) (p:Int) (a:Att) (m:Int),Lies A r p a→r.inc m→r.fine→(∀ k∈a.G,k≤m)→(∀ k∈a.G,0≤k∧k<10)→(∀ k∈a.B,k∈a.G)→0≤a.d→a.d+r.deep≤11→0≤p →
  ∀ (i:Nat) (x:Ins),(r.code p a.d)[i]?=some x→Rule A (p+i) x
 | .eps,p,a,m,h,hi,hF,hG,hR,hB,h0,hd,hp,i,x,hx=>by simp [Re.code] at hx
 | .one s,p,a,m,h,hi,hF,hG,hR,hB,h0,hd,hp,i,x,hx=>by
  simp only [Re.deep] at hd
  rcases get_cons hx with ⟨rfl,rfl⟩ | ⟨j,_,hj⟩
  ·simp only [Int.natCast_zero,Int.add_zero];exact rule_flat (h.2.trans h.1.symm) (by simp) (by rw [h.1];exact hB) (by rw [h.1];omega) (by rw [h.1];exact hR)
  ·simp at hj
 | .back s,p,a,m,h,hi,hF,hG,hR,hB,h0,hd,hp,i,x,hx=>by
  simp only [Re.deep] at hd
  rcases get_cons hx with ⟨rfl,rfl⟩ | ⟨j,_,hj⟩
  ·simp only [Int.natCast_zero,Int.add_zero];exact rule_flat (h.2.trans h.1.symm) (by simp) (by rw [h.1];exact hB) (by rw [h.1];omega) (by rw [h.1];exact hR)
  ·simp at hj
 | .head,p,a,m,h,hi,hF,hG,hR,hB,h0,hd,hp,i,x,hx=>by
  simp only [Re.deep] at hd
  rcases get_cons hx with ⟨rfl,rfl⟩ | ⟨j,_,hj⟩
  ·simp only [Int.natCast_zero,Int.add_zero];exact rule_flat (h.2.trans h.1.symm) (by simp) (by rw [h.1];exact hB) (by rw [h.1];omega) (by rw [h.1];exact hR)
  ·simp at hj
 | .tail,p,a,m,h,hi,hF,hG,hR,hB,h0,hd,hp,i,x,hx=>by
  simp only [Re.deep] at hd
  rcases get_cons hx with ⟨rfl,rfl⟩ | ⟨j,_,hj⟩
  ·simp only [Int.natCast_zero,Int.add_zero];exact rule_flat (h.2.trans h.1.symm) (by simp) (by rw [h.1];exact hB) (by rw [h.1];omega) (by rw [h.1];exact hR)
  ·simp at hj
 | .cat u v,p,a,m,h,hi,hF,hG,hR,hB,h0,hd,hp,i,x,hx=>by
  simp only [Re.deep] at hd
  rcases get_app hx with ⟨_,hj⟩ | ⟨hl,hj⟩
  ·exact lies_rule A u p a m h.1 hi.1 hF.1 hG hR hB h0 (by omega) hp i x hj
  ·rw [Re.code_len] at hl hj
   have:=lies_rule A v _ a m h.2 hi.2 hF.2 hG hR hB h0 (by omega) (by omega) _ x hj
   rw [show p+(u.len:Int)+((i-u.len:Nat):Int)=p+i by omega] at this;exact this
 | .alt u v,p,a,m,h,hi,hF,hG,hR,hB,h0,hd,hp,i,x,hx=>by
  simp only [Re.deep] at hd
  have hl1:=h.2.1.last
  have hl2:=h.2.2.last
  rcases get_cons hx with ⟨rfl,rfl⟩ | ⟨j,rfl,hj⟩
  ·simp only [Int.natCast_zero,Int.add_zero]
   exact rule_spl (p+1) (p+u.len+2) false (h.2.1.first.trans h.1.symm) (h.2.2.first.trans h.1.symm) (by rw [h.1];exact hB) (by rw [h.1];omega) (by rw [h.1];exact hR)
  rcases get_app hj with ⟨_,hj⟩ | ⟨hl,hj⟩
  ·have:=lies_rule A u _ a m h.2.1 hi.1 hF.1 hG hR hB h0 (by omega) (by omega) _ x hj
   rw [show p+1+(j:Int)=p+((j+1:Nat):Int) by omega] at this;exact this
  ·rw [Re.code_len] at hl hj
   rcases get_cons hj with ⟨e,rfl⟩ | ⟨k,e,hk⟩
   ·have e2:p+((j+1:Nat):Int)=p+1+u.len:=by omega
    rw [e2]
    refine ⟨fun e=>by simp at e,fun e=>by simp at e,fun _=>?_,fun e=>by simp at e,fun e=>by simp at e,fun e=>by simp at e,fun e=>by simp at e,fun e=>by simp at e,fun e=>by simp at e,by rw [hl1];exact hB,by rw [hl1];omega,by rw [hl1];exact hR,by simp⟩
    rw [hl1];exact hl2
   ·have:=lies_rule A v _ a m h.2.2 hi.2 hF.2 hG hR hB h0 (by omega) (by omega) _ x hk
    rw [show p+(u.len:Int)+2+(k:Int)=p+((j+1:Nat):Int) by omega] at this;exact this
 | .cap k u,p,a,m,h,hi,hF,hG,hR,hB,h0,hd,hp,i,x,hx=>by
  simp only [Re.deep] at hd
  have hR':∀ z∈k::a.G,0≤z∧z<10:=fun z hz=>by
   have hk:=hF.1
   rcases List.mem_cons.1 hz with rfl | hz
   ·omega
   ·exact hR z hz
  have hl1:=h.2.1.last
  have hf:=h.2.1.first
  rcases get_cons hx with ⟨rfl,rfl⟩ | ⟨j,rfl,hj⟩
  ·simp only [Int.natCast_zero,Int.add_zero]
   refine ⟨fun e=>by simp at e,fun e=>by simp at e,fun e=>by simp at e,fun e=>by simp at e,fun e=>by simp at e,fun _=>⟨by rw [h.1];exact hf,?_⟩,fun e=>by simp at e,fun e=>by simp at e,fun e=>by simp at e,by rw [h.1];exact hB,by rw [h.1];omega,by rw [h.1];exact hR,by simp⟩
   rw [h.1];intro hk;have:=hG _ hk;have:=hi.1;simp at *;omega
  rcases get_app hj with ⟨_,hj⟩ | ⟨hl,hj⟩
  ·have:=lies_rule A u _ _ k h.2.1 hi.2 hF.2 (fun z hz=>by
    rcases List.mem_cons.1 hz with rfl | hz
    ·exact Int.le_refl _
    ·have:=hG z hz;have:=hi.1;omega) hR' (fun z hz=>List.mem_cons_of_mem _ (hB z hz)) h0 (by simpa using hd) (by omega) _ x hj
   rw [show p+1+(j:Int)=p+((j+1:Nat):Int) by omega] at this;exact this
  ·rw [Re.code_len] at hl hj
   rcases get_cons hj with ⟨e,rfl⟩ | ⟨k',e,hk⟩
   ·have e2:p+((j+1:Nat):Int)=p+1+u.len:=by omega
    rw [e2]
    refine ⟨fun e=>by simp at e,fun e=>by simp at e,fun e=>by simp at e,fun e=>by simp at e,fun e=>by simp at e,fun e=>by simp at e,fun _=>⟨a.G,by rw [hl1],?_⟩,fun e=>by simp at e,fun e=>by simp at e,by rw [hl1];exact fun z hz=>List.mem_cons_of_mem _ (hB z hz),by rw [hl1];dsimp only;omega,by rw [hl1];exact hR',by simp⟩
    rw [hl1,show p+1+(u.len:Int)+1=p+u.len+2 by omega,h.2.2]
   ·simp at hk
 | .sub s u,p,a,m,h,hi,hF,hG,hR,hB,h0,hd,hp,i,x,hx=>by
  simp only [Re.deep] at hd
  have hl1:=h.2.1.last
  have hf:=h.2.1.first
  rcases get_cons hx with ⟨rfl,rfl⟩ | ⟨j,rfl,hj⟩
  ·simp only [Int.natCast_zero,Int.add_zero]
   refine ⟨fun e=>by simp at e,fun e=>by simp at e,fun e=>by simp at e,fun e=>by simp at e,fun e=>by simp at e,fun e=>by simp at e,fun e=>by simp at e,fun _=>⟨by rw [h.1];exact hf,by rw [h.1];exact h.2.2,?_,by dsimp only;omega⟩,fun e=>by simp at e,by rw [h.1];exact hB,by rw [h.1];omega,by rw [h.1];exact hR,by simp⟩
   dsimp only
   rw [show p+(u.len:Int)+2-1=p+1+u.len by omega,hl1,h.1]
  rcases get_app hj with ⟨_,hj⟩ | ⟨hl,hj⟩
  ·have:=lies_rule A u _ _ m h.2.1 hi hF.2 hG hR (fun z hz=>hz) h0 (by simpa using hd) (by omega) _ x hj
   rw [show p+1+(j:Int)=p+((j+1:Nat):Int) by omega] at this;exact this
  ·rw [Re.code_len] at hl hj
   rcases get_cons hj with ⟨e,rfl⟩ | ⟨k',e,hk⟩
   ·have e2:p+((j+1:Nat):Int)=p+1+u.len:=by omega
    rw [e2]
    refine ⟨fun e=>by simp at e,fun e=>by simp at e,fun e=>by simp at e,fun e=>by simp at e,fun e=>by simp at e,fun e=>by simp at e,fun e=>by simp at e,fun e=>by simp at e,fun _=>?_,by rw [hl1];exact fun z hz=>hz,by rw [hl1];dsimp only;omega,by rw [hl1];exact hR,by simp⟩
    rw [hl1];dsimp only;omega
   ·simp at hk
 | .opt late u,p,a,m,h,hi,hF,hG,hR,hB,h0,hd,hp,i,x,hx=>by
  simp only [Re.deep] at hd
  have hl1:=h.2.last
  rcases get_cons hx with ⟨rfl,rfl⟩ | ⟨j,rfl,hj⟩
  ·simp only [Int.natCast_zero,Int.add_zero]
   refine rule_spl (p+1) (p+u.len+1) late (h.2.first.trans h.1.symm) ?_ (by rw [h.1];exact hB) (by rw [h.1];omega) (by rw [h.1];exact hR)
   rw [show p+(u.len:Int)+1=p+1+u.len by omega,hl1,h.1]
  ·have:=lies_rule A u _ a m h.2 hi hF hG hR hB h0 (by omega) (by omega) _ x hj
   rw [show p+1+(j:Int)=p+((j+1:Nat):Int) by omega] at this;exact this
 | .loop late u,p,a,m,h,hi,hF,hG,hR,hB,h0,hd,hp,i,x,hx=>by
  simp only [Re.deep] at hd
  have hl1:=h.2.2.1.last
  have hf:=h.2.2.1.first
  rcases get_cons hx with ⟨rfl,rfl⟩ | ⟨j,rfl,hj⟩
  ·simp only [Int.natCast_zero,Int.add_zero]
   exact rule_spl (p+1) (p+u.len+3) late (h.2.1.trans h.1.symm) (h.2.2.2.trans h.1.symm) (by rw [h.1];exact hB) (by rw [h.1];omega) (by rw [h.1];exact hR)
  rcases get_cons hj with ⟨rfl,rfl⟩ | ⟨j,rfl,hj⟩
  ·simp only [Nat.zero_add,Int.natCast_one]
   refine ⟨fun e=>by simp at e,fun e=>by simp at e,fun e=>by simp at e,fun _=>⟨by rw [h.2.1],by rw [h.2.1,show p+1+1=p+2 by omega];exact hf,by dsimp only;omega⟩,fun e=>by simp at e,fun e=>by simp at e,fun e=>by simp at e,fun e=>by simp at e,fun e=>by simp at e,by rw [h.2.1];exact hB,by rw [h.2.1];omega,by rw [h.2.1];exact hR,by simp⟩
  rcases get_app hj with ⟨_,hj⟩ | ⟨hl,hj⟩
  ·have:=lies_rule A u _ _ m h.2.2.1 hi hF hG hR hB (by dsimp only;omega) (by dsimp only;omega) (by omega) _ x hj
   rw [show p+2+(j:Int)=p+((j+1+1:Nat):Int) by omega] at this;exact this
  ·rw [Re.code_len] at hl hj
   rcases get_cons hj with ⟨e,rfl⟩ | ⟨k',e,hk⟩
   ·have e2:p+((j+1+1:Nat):Int)=p+2+u.len:=by omega
    rw [e2]
    refine ⟨fun e=>by simp at e,fun e=>by simp at e,fun e=>by simp at e,fun e=>by simp at e,fun _=>⟨?_,?_,by dsimp only;omega,by dsimp only;omega⟩,fun e=>by simp at e,fun e=>by simp at e,fun e=>by simp at e,fun e=>by simp at e,by rw [hl1];exact hB,by rw [hl1];dsimp only;omega,by rw [hl1];exact hR,by simp⟩
    ·rw [hl1,h.1];dsimp only;rw [Int.add_sub_cancel]
    ·rw [hl1];dsimp only;omega
   ·simp at hk
theorem lies_count (A:Int→Att):∀ (r:Re) (p d:Int) (a:Att),Lies A r p a→∀ i:Nat,i≤r.len→(A (p+i)).d+((r.code p d).take i).countP isAgain=a.d+((r.code p d).take i).countP isMark
 | .eps,p,d,a,h,i,hi=>by
  have e:i=0:=by simp [Re.len] at hi;exact hi
  subst e
  have h':A p=a:=h
  simp [h',Re.code]
 | .one s,p,d,a,h,i,hi=>flat1 A p a h.1 h.2 ⟨1,0,0,s⟩ rfl rfl i hi
 | .back s,p,d,a,h,i,hi=>flat1 A p a h.1 h.2 ⟨8,s,0,[]⟩ rfl rfl i hi
 | .head,p,d,a,h,i,hi=>flat1 A p a h.1 h.2 ⟨9,0,0,[]⟩ rfl rfl i hi
 | .tail,p,d,a,h,i,hi=>flat1 A p a h.1 h.2 ⟨10,0,0,[]⟩ rfl rfl i hi
 | .cat u v,p,d,a,h,i,hi=>by
  simp only [Re.len] at hi
  rw [Re.code,take_app',take_app',Re.code_len]
  by_cases hl:i≤u.len
  ·have:=lies_count A u p d a h.1 i hl
   rw [show i-u.len=0 by omega];simpa using this
  ·have h1:=lies_count A u p d a h.1 u.len (Nat.le_refl _)
   have h2:=lies_count A v (p+u.len) d a h.2 (i-u.len) (by omega)
   rw [show p+(u.len:Int)+((i-u.len:Nat):Int)=p+i by omega] at h2
   rw [h.1.last,List.take_of_length_le (by rw [Re.code_len];omega)] at h1
   rw [List.take_of_length_le (by rw [Re.code_len];omega)]
   omega
 | .alt u v,p,d,a,h,i,hi=>by
  simp only [Re.len] at hi
  rw [Re.code,take_cons',take_cons',take_app',take_app',take_cons',take_cons',Re.code_len]
  have h1:=lies_count A u (p+1) d a h.2.1 u.len (Nat.le_refl _)
  rw [h.2.1.last,List.take_of_length_le (by rw [Re.code_len];omega)] at h1
  simp only [isMark,isAgain] at *
  simp only [show ((2:Int)=4)=False by simp,show ((2:Int)=5)=False by simp,show ((3:Int)=4)=False by simp,show ((3:Int)=5)=False by simp,decide_false,Bool.false_eq_true,and_false,if_false,Nat.zero_add]
  by_cases h0:i=0
  ·subst h0;simp [h.1]
  by_cases hl:i≤u.len+1
  ·have:=lies_count A u (p+1) d a h.2.1 (i-1) (by omega)
   rw [show p+1+((i-1:Nat):Int)=p+i by omega] at this
   rw [show i-1-u.len-1=0 by omega];simpa using this
  ·have h2:=lies_count A v (p+u.len+2) d a h.2.2 (i-u.len-2) (by omega)
   rw [show p+(u.len:Int)+2+((i-u.len-2:Nat):Int)=p+i by omega] at h2
   rw [List.take_of_length_le (by rw [Re.code_len];omega),show i-1-u.len-1=i-u.len-2 by omega]
   omega
 | .cap k u,p,d,a,h,i,hi=>by
  simp only [Re.len] at hi
  exact around1 A u p d a _ h.1 h.2.1 h.2.2 rfl (lies_count A u (p+1) d _ h.2.1) ⟨6,k,0,[]⟩ ⟨7,k,0,[]⟩ rfl rfl rfl rfl i hi
 | .sub s u,p,d,a,h,i,hi=>by
  simp only [Re.len] at hi
  exact around1 A u p d a _ h.1 h.2.1 h.2.2 rfl (lies_count A u (p+1) d _ h.2.1) ⟨11,s,p+u.len+2,[]⟩ ⟨12,0,0,[]⟩ rfl rfl rfl rfl i hi
 | .opt late u,p,d,a,h,i,hi=>by
  simp only [Re.len] at hi
  rw [Re.code,take_cons',take_cons']
  have e1:isMark (spl (p+1) (p+u.len+1) late)=false:=by cases late <;> rfl
  have e2:isAgain (spl (p+1) (p+u.len+1) late)=false:=by cases late <;> rfl
  rw [e1,e2]
  by_cases h0:i=0
  ·subst h0;simp [h.1]
  ·have:=lies_count A u (p+1) d a h.2 (i-1) (by omega)
   rw [show p+1+((i-1:Nat):Int)=p+i by omega] at this
   simpa using this
 | .loop late u,p,d,a,h,i,hi=>by
  simp only [Re.len] at hi
  rw [Re.code,take_cons',take_cons',take_cons',take_cons',take_app',take_app',take_cons',take_cons',Re.code_len]
  have e1:isMark (spl (p+1) (p+u.len+3) late)=false:=by cases late <;> rfl
  have e2:isAgain (spl (p+1) (p+u.len+3) late)=false:=by cases late <;> rfl
  rw [e1,e2]
  have h1:=lies_count A u (p+2) (d+1) _ h.2.2.1 u.len (Nat.le_refl _)
  rw [h.2.2.1.last,List.take_of_length_le (by rw [Re.code_len];omega)] at h1
  have f1:isMark ⟨4,d,0,[]⟩=true:=rfl
  have f2:isAgain ⟨4,d,0,[]⟩=false:=rfl
  have f3:isMark ⟨5,p,d,[]⟩=false:=rfl
  have f4:isAgain ⟨5,p,d,[]⟩=true:=rfl
  rw [f1,f2,f3,f4]
  by_cases h0:i=0
  ·subst h0;simp [h.1]
  by_cases h00:i=1
  ·subst h00;have:=h.2.1;simp [this]
  by_cases hl:i≤u.len+2
  ·have:=lies_count A u (p+2) (d+1) _ h.2.2.1 (i-2) (by omega)
   rw [show p+2+((i-2:Nat):Int)=p+i by omega] at this
   dsimp only at this
   rw [show i-1-1-u.len-1=0 by omega,show i-1-1=i-2 by omega,show i-2-u.len=0 by omega]
   simp only [Bool.false_eq_true,and_false,if_false,Nat.lt_irrefl,and_true,List.take_zero,List.countP_nil]
   rw [if_pos (by omega)]
   omega
  ·have e:i=u.len+3:=by omega
   subst e
   have:=h.2.2.2
   rw [show p+((u.len+3:Nat):Int)=p+u.len+3 by omega,this]
   rw [List.take_of_length_le (l:=u.code (p+2) (d+1)) (by rw [Re.code_len];omega)]
   simp only [Bool.false_eq_true,and_false,if_false,and_true,List.take_nil,List.countP_nil]
   rw [if_pos (by omega),if_pos (by omega)]
   dsimp only at h1
   omega
where
 flat1 (A:Int→Att) (p:Int) (a:Att) (h1:A p=a) (h2:A (p+1)=a) (x:Ins) (e1:isMark x=false) (e2:isAgain x=false) (i:Nat) (hi:i≤1):(A (p+i)).d+([x].take i).countP isAgain=a.d+([x].take i).countP isMark:=by
  rw [take_cons',take_cons',e1,e2]
  by_cases h0:i=0
  ·subst h0;simp [h1]
  ·have:i=1:=by omega
   subst this;simp [h2]
 around1 (A:Int→Att) (u:Re) (p d:Int) (a b:Att) (h1:A p=a) (h2:Lies A u (p+1) b) (h3:A (p+u.len+2)=a) (hb:b.d=a.d) (ih:∀ i:Nat,i≤u.len→(A (p+1+i)).d+((u.code (p+1) d).take i).countP isAgain=b.d+((u.code (p+1) d).take i).countP isMark) (x y:Ins) (e1:isMark x=false) (e2:isAgain x=false) (e3:isMark y=false) (e4:isAgain y=false) (i:Nat) (hi:i≤u.len+2) :
   (A (p+i)).d+((x::(u.code (p+1) d++[y])).take i).countP isAgain=a.d+((x::(u.code (p+1) d++[y])).take i).countP isMark:=by
  rw [take_cons',take_cons',take_app',take_app',take_cons',take_cons',Re.code_len,e1,e2,e3,e4]
  have l1:=ih u.len (Nat.le_refl _)
  rw [h2.last,List.take_of_length_le (by rw [Re.code_len];omega)] at l1
  by_cases h0:i=0
  ·subst h0;simp [h1]
  by_cases hl:i≤u.len+1
  ·have:=ih (i-1) (by omega)
   rw [show p+1+((i-1:Nat):Int)=p+i by omega,hb] at this
   simpa using this
  ·have e:i=u.len+2:=by omega
   subst e
   rw [show p+((u.len+2:Nat):Int)=p+u.len+2 by omega,h3,List.take_of_length_le (by rw [Re.code_len];omega)]
   simp
   omega
structure Known (c:List Ins) (A:Int→Att):Prop where
 ok:codeOk c
 rule:∀ q,q+1<c.length→Rule A q (c.getD q ins0)
 last:(c.getD (c.length-1) ins0).op=13
 pos:0<c.length
 start:A 0=⟨[],0,0,[]⟩
 stop:A ((c.length-1:Nat):Int)=⟨[],0,0,[]⟩
 loops:∀ q:Nat,q<c.length→(A q).d=loopsAt c q
 len:c.length≤300
theorem pattern_lies (p:ByteArray) (h:(checkR p).1=0):∃ A f,Known (codeR p).1 A∧Lies A f 0 ⟨[],0,0,[]⟩∧(codeR p).1=f.code 0 0++[⟨13,0,0,[]⟩]:=by
 have ht:(tokens p).2.1=0:=by
  unfold checkR at h
  by_cases h0:(tokens p).2.1=0
  ·exact h0
  ·rw [if_pos h0] at h;exact h
 have hv:=tokens_valid p ht
 obtain ⟨f,hw,e,hfi,hde,hle,hc,_⟩:=pattern_tree p h
 have hN:Nums (tokens p).1:=fun j hj=>(hv.1 j hj).2.2
 have hnd:=nums_numd (tokens p).1 [] (by simpa using hN)
 rw [e] at hnd
 have hinc:f.re.inc 0:=joinRe_inc (both_inc f 0 hw (by simpa [captures] using hnd))
 obtain ⟨A,hA⟩:=lies_some f.re 0 ⟨[],0,0,[]⟩
 have hlen:(codeR p).1.length=f.re.len+1:=by rw [hc,List.length_append,Re.code_len];rfl
 refine ⟨A,f.re,⟨by rw [hc];exact code_codeOk f.re hfi hde,fun q hq=>?_,?_,by omega,hA.first,?_,fun q hq=>?_,by omega⟩,hA,hc⟩
 ·have:=lies_rule A f.re 0 ⟨[],0,0,[]⟩ 0 hA hinc hfi (fun k hk=>by simp at hk) (fun k hk=>by simp at hk) (fun k hk=>hk) (by dsimp only;omega) (by dsimp only;omega) (by omega) q ((codeR p).1.getD q ins0) (by
   rw [hc,List.getD_eq_getElem?_getD,List.getElem?_append_left (by rw [Re.code_len];omega)]
   dsimp only
   rw [List.getElem?_eq_getElem (by rw [Re.code_len];omega)];rfl)
  rw [Int.zero_add] at this;exact this
 ·rw [hlen,hc,List.getD_eq_getElem?_getD,List.getElem?_append_right (by rw [Re.code_len];omega),Re.code_len]
  simp
 ·have:=hA.last
  rw [hlen,show ((f.re.len+1-1:Nat):Int)=0+f.re.len by omega];exact this
 ·have h1:=lies_count A f.re 0 0 _ hA q (by omega)
  have h2:=code_loops f.re _ hc q
  rw [hc] at h2
  rw [take_app',take_app'] at h2
  rw [Re.code_len,show q-f.re.len=0 by omega] at h2
  rw [Int.zero_add] at h1
  rw [hc]
  dsimp only at h1
  simp only [List.take_zero,List.countP_nil] at h2
  omega
theorem pattern_known (p:ByteArray) (h:(checkR p).1=0):∃ A,Known (codeR p).1 A:=by
 obtain ⟨A,f,hK,_⟩:=pattern_lies p h
 exact ⟨A,hK⟩
structure SimAt (a:Att) (s q:Sta):Prop where
 ls:s.length=44
 lq:q.length=43
 low:∀ i,i<22→gt q i=gt s i
 notes:∀ k∈a.G,gt q (22+k.toNat)=gt s (22+k.toNat)
 marks:∀ j:Nat,(j:Int)<a.d→gt q (32+j)=gt s (32+j)
def Sim (A:Int→Att) (s q:Sta):Prop:=SimAt (A (gt s 0)) s q
theorem SimAt.low_set {a:Att} {s q:Sta} (h:SimAt a s q) (i:Nat) (hi:i<22) (v:Int):SimAt a (s.set i v) (q.set i v):=by
 refine ⟨by rw [List.length_set];exact h.ls,by rw [List.length_set];exact h.lq,fun j hj=>?_,fun k hk=>?_,fun j hj=>?_⟩
 ·have h1:=h.ls;have h2:=h.lq
  rw [gt_set,gt_set]
  by_cases e:i=j
  ·rw [if_pos ⟨e,by omega⟩,if_pos ⟨e,by omega⟩]
  ·rw [if_neg (by omega),if_neg (by omega)];exact h.low j hj
 ·rw [gt_set_ne _ _ _ _ (by omega),gt_set_ne _ _ _ _ (by omega)];exact h.notes k hk
 ·rw [gt_set_ne _ _ _ _ (by omega),gt_set_ne _ _ _ _ (by omega)];exact h.marks j hj
theorem SimAt.note {a:Att} {s q:Sta} (h:SimAt a s q) (k:Int) (hk:k.toNat<10) (hG:∀ z∈a.G,0≤z∧z<10) (v:Int):SimAt ⟨k::a.G,a.d,a.y,a.B⟩ (s.set (22+k.toNat) v) (q.set (22+k.toNat) v):=by
 have h1:=h.ls;have h2:=h.lq
 refine ⟨by rw [List.length_set];exact h.ls,by rw [List.length_set];exact h.lq,fun j hj=>?_,fun z hz=>?_,fun j hj=>?_⟩
 ·rw [gt_set_ne _ _ _ _ (by omega),gt_set_ne _ _ _ _ (by omega)];exact h.low j hj
 ·rw [gt_set,gt_set]
  by_cases e:k.toNat=z.toNat
  ·rw [if_pos ⟨by omega,by omega⟩,if_pos ⟨by omega,by omega⟩]
  ·rw [if_neg (by omega),if_neg (by omega)]
   rcases List.mem_cons.1 hz with rfl | hz
   ·exact absurd rfl e
   ·exact h.notes z hz
 ·rw [gt_set_ne _ _ _ _ (by omega),gt_set_ne _ _ _ _ (by omega)];exact h.marks j hj
theorem SimAt.mark {a:Att} {s q:Sta} (h:SimAt a s q) (x:Int) (hx:x=a.d) (h0:0≤x) (h11:x<11) (hG:∀ z∈a.G,0≤z∧z<10) (v:Int):SimAt ⟨a.G,a.d+1,a.y,a.B⟩ (s.set (32+x.toNat) v) (q.set (32+x.toNat) v):=by
 have h1:=h.ls;have h2:=h.lq
 refine ⟨by rw [List.length_set];exact h.ls,by rw [List.length_set];exact h.lq,fun j hj=>?_,fun z hz=>?_,fun j hj=>?_⟩
 ·rw [gt_set_ne _ _ _ _ (by omega),gt_set_ne _ _ _ _ (by omega)];exact h.low j hj
 ·have:=hG z hz
  rw [gt_set_ne _ _ _ _ (by omega),gt_set_ne _ _ _ _ (by omega)];exact h.notes z hz
 ·rw [gt_set,gt_set]
  by_cases e:x.toNat=j
  ·rw [if_pos ⟨by omega,by omega⟩,if_pos ⟨by omega,by omega⟩]
  ·rw [if_neg (by omega),if_neg (by omega)];exact h.marks j (by dsimp only at hj;omega)
theorem SimAt.less {a b:Att} {s q:Sta} (h:SimAt a s q) (hG:∀ k∈b.G,k∈a.G) (hd:b.d≤a.d):SimAt b s q :=
 ⟨h.ls,h.lq,h.low,fun k hk=>h.notes k (hG k hk),fun j hj=>h.marks j (by omega)⟩
theorem SimAt.to {A:Int→Att} {s q:Sta} {v:Int} (h:SimAt (A v) s q):Sim A (s.set 0 v) (q.set 0 v):=by
 have e:gt (s.set 0 v) 0=v:=gt_set_same _ _ _ (by have:=h.ls;omega)
 show SimAt (A (gt (s.set 0 v) 0)) _ _
 rw [e];exact h.low_set 0 (by omega) v
theorem Sim.jump {A:Int→Att} {s q:Sta} {v:Int} (h:Sim A s q) (e:A v=A (gt s 0)):Sim A (s.set 0 v) (q.set 0 v):=by
 refine SimAt.to ?_
 rw [e];exact h
theorem Sim.pcOf {A:Int→Att} {s q:Sta} (h:Sim A s q):pcOf q=pcOf s:=by unfold Mt.pcOf;rw [SimAt.low h 0 (by omega)]
theorem Sim.posOf {A:Int→Att} {s q:Sta} (h:Sim A s q):posOf q=posOf s:=by unfold Mt.posOf;rw [SimAt.low h 1 (by omega)]
theorem backP_sim {a:Att} (t:ByteArray) {s q:Sta} (h:SimAt a s q) (k:Int) (h0:0≤k) (h9:k<10):(backP t q k).2=(backP t s k).2∧((backP t s k).2=true→SimAt a (backP t s k).1 (backP t q k).1∧gt (backP t s k).1 0=gt s 0+1):=by
 have e1:=h.low (2+(2*k).toNat) (by omega)
 have e2:=h.low (2+(2*k+1).toNat) (by omega)
 have e3:=h.low 1 (by omega)
 have e4:=h.low 0 (by omega)
 unfold backP
 rw [e1,e2,e3,e4]
 split
 ·exact ⟨rfl,fun e=>by cases e⟩
 split
 ·exact ⟨rfl,fun e=>by cases e⟩
 ·refine ⟨rfl,fun _=>⟨(h.low_set 1 (by omega) _).low_set 0 (by omega) _,?_⟩⟩
  have:=h.ls
  exact gt_set_same _ _ _ (by rw [List.length_set];omega)
theorem known_att {c:List Ins} {A:Int→Att} (hK:Known c A) {q:Nat} (hq:q<c.length) (h13:(c.getD q ins0).op≠13):q+1<c.length∧Rule A q (c.getD q ins0):=by
 have h1:q+1<c.length:=by
  rcases Nat.lt_or_ge (q+1) c.length with h | h
  ·exact h
  ·exfalso
   have e:q=c.length-1:=by omega
   rw [e] at h13;exact h13 hK.last
 exact ⟨h1,hK.rule q h1⟩
theorem oneP_sim {c:List Ins} {A:Int→Att} {t:ByteArray} {s q:Sta} (hK:Known c A) (hg:Good c.length t.size s) (h:Sim A s q) (h2:(c.getD (pcOf s) ins0).op≠2) (h11:(c.getD (pcOf s) ins0).op≠11) (h12:(c.getD (pcOf s) ins0).op≠12) (h13:(c.getD (pcOf s) ins0).op≠13) :
  (oneP t q (c.getD (pcOf s) ins0)).2=(oneP t s (c.getD (pcOf s) ins0)).2∧((oneP t s (c.getD (pcOf s) ins0)).2=true→Sim A (oneP t s (c.getD (pcOf s) ins0)).1 (oneP t q (c.getD (pcOf s) ins0)).1):=by
 obtain ⟨hn,hr⟩:=known_att hK hg.pcOf_lt h13
 have hi:=hK.ok (pcOf s) hg.pcOf_lt
 have hpc:((pcOf s:Nat):Int)=gt s 0:=by have:=hg.pc0;unfold pcOf;omega
 rw [hpc] at hr
 generalize c.getD (pcOf s) ins0=x at *
 obtain ⟨r1,r2,r3,r4,r5,r6,r7,r11,r12,rB,rd,rG,ro⟩:=hr
 have e0:=SimAt.low h 0 (by omega)
 have e1:=SimAt.low h 1 (by omega)
 unfold oneP
 by_cases o1:x.op=1
 ·rw [if_pos o1,if_pos o1];dsimp only;rw [e0,e1]
  refine ⟨rfl,fun _=>Sim.jump (s:=s.set 1 _) ?_ ?_⟩
  ·have:Sim A (s.set 1 (gt s 1+1)) (q.set 1 (gt s 1+1)):=by
    show SimAt _ _ _
    rw [gt_set_ne _ _ _ _ (by omega)];exact SimAt.low_set h 1 (by omega) _
   exact this
  ·rw [gt_set_ne _ _ _ _ (by omega)];exact r1 (by omega)
 rw [if_neg o1,if_neg o1]
 by_cases o3:x.op=3
 ·rw [if_pos o3,if_pos o3];exact ⟨rfl,fun _=>Sim.jump h (r3 o3)⟩
 rw [if_neg o3,if_neg o3]
 by_cases o4:x.op=4
 ·rw [if_pos o4,if_pos o4];dsimp only;rw [e0,e1]
  obtain ⟨a1,a2,a3⟩:=r4 o4
  have i4:=hi.2.2.1 o4
  refine ⟨rfl,fun _=>SimAt.to ?_⟩
  rw [a2];exact SimAt.mark h x.x a1 (by omega) a3 rG _
 rw [if_neg o4,if_neg o4]
 by_cases o5:x.op=5
 ·rw [if_pos o5,if_pos o5];dsimp only
  obtain ⟨a1,a2,a3,a4⟩:=r5 o5
  rw [e1,SimAt.marks h x.y.toNat (by omega)]
  refine ⟨rfl,fun _=>SimAt.to ?_⟩
  rw [a1];exact SimAt.less h (fun k hk=>hk) (by dsimp only;omega)
 rw [if_neg o5,if_neg o5]
 by_cases o6:x.op=6
 ·rw [if_pos o6,if_pos o6];dsimp only;rw [e0,e1]
  obtain ⟨a1,a2⟩:=r6 o6
  have i6:=hi.2.2.2.2.1 (.inl o6)
  refine ⟨rfl,fun _=>SimAt.to ?_⟩
  rw [a1];exact SimAt.note h x.x (by omega) rG _
 rw [if_neg o6,if_neg o6]
 by_cases o7:x.op=7
 ·rw [if_pos o7,if_pos o7];dsimp only;rw [e0,e1]
  obtain ⟨g,a1,a2⟩:=r7 o7
  have i6:=hi.2.2.2.2.1 (.inr (.inl o7))
  have en:=SimAt.notes h x.x (by rw [a1];exact List.mem_cons_self ..)
  rw [en]
  refine ⟨rfl,fun _=>SimAt.to ?_⟩
  rw [a2]
  exact SimAt.less ((SimAt.low_set h (2+(2*x.x).toNat) (by omega) _).low_set (2+(2*x.x+1).toNat) (by omega) _) (fun k hk=>by rw [a1];exact List.mem_cons_of_mem _ hk) (by dsimp only;omega)
 rw [if_neg o7,if_neg o7]
 by_cases o8:x.op=8
 ·rw [if_pos o8,if_pos o8]
  have i6:=hi.2.2.2.2.1 (.inr (.inr o8))
  have hb:=backP_sim t (show SimAt (A (gt s 0)) s q from h) x.x (by omega) (by omega)
  refine ⟨hb.1,fun hk=>?_⟩
  obtain ⟨b1,b2⟩:=hb.2 hk
  show SimAt (A (gt _ 0)) _ _
  rw [b2,r1 (by omega)];exact b1
 rw [if_neg o8,if_neg o8]
 by_cases o9:x.op=9
 ·rw [if_pos o9,if_pos o9];dsimp only;rw [e0,e1];exact ⟨rfl,fun _=>Sim.jump h (r1 (by omega))⟩
 rw [if_neg o9,if_neg o9]
 by_cases o10:x.op=10
 ·rw [if_pos o10,if_pos o10];dsimp only;rw [e0,e1];exact ⟨rfl,fun _=>Sim.jump h (r1 (by omega))⟩
 ·exfalso;omega
theorem key_sim {E:Env} {A:Int→Att} {s q:Sta} (hK:Known E.c A) (har:∀ p,p<E.c.length→E.ar.getD p 0=loopsAt E.c p) (hg:Good E.c.length E.t.size s) (h:Sim A s q):E.key q=E.key s∧E.isIn q=E.isIn s:=by
 unfold Env.key Env.isIn
 rw [h.pcOf,h.posOf]
 refine ⟨?_,rfl⟩
 unfold keyOf
 congr 1
 unfold lev levelTo
 refine List.countP_congr (fun j hj=>?_)
 rw [List.mem_range] at hj
 have hpc:((pcOf s:Nat):Int)=gt s 0:=by have:=hg.pc0;unfold pcOf;omega
 have hd:=hK.loops (pcOf s) hg.pcOf_lt
 rw [hpc] at hd
 rw [har _ hg.pcOf_lt] at hj
 rw [SimAt.low h 1 (by omega),SimAt.marks h j (by omega)]
def lookS (E:Env):Nat→List Sta→List Bool→Int→Res
 | n,[],kn,room=>⟨[],false,n,kn,room,false⟩
 | n,s::st,kn,room=>if (look E n s kn room).ok||(look E n s kn room).over then look E n s kn room else lookS E (look E n s kn room).n st (look E n s kn room).kn (look E n s kn room).room
theorem lookS_zero (E:Env) (s:Sta) (st:List Sta) (kn:List Bool) (room:Int):lookS E 0 (s::st) kn room=⟨s,false,0,kn,room,true⟩:=rfl
theorem lookS_dead (E:Env) (n:Nat) (s:Sta) (st:List Sta) (kn:List Bool) (room:Int) (h:E.dead s kn=true):lookS E (n+1) (s::st) kn room=lookS E n st (E.kn' s kn room) (E.room' s kn room):=by
 have hl:=look_step E n s kn room
 rw [if_pos h] at hl
 rw [lookS,hl];rfl
theorem lookS_end (E:Env) (n:Nat) (s:Sta) (st:List Sta) (kn:List Bool) (room:Int) (h:E.dead s kn=false) (ho:(E.ins s).op=13∨(E.ins s).op=12):lookS E (n+1) (s::st) kn room=⟨s,true,n,E.kn' s kn room,E.room' s kn room,false⟩:=by
 have hl:=look_step E n s kn room
 rw [if_neg (by rw [h];exact Bool.false_ne_true),if_pos ho] at hl
 rw [lookS,hl];rfl
theorem lookS_split (E:Env) (n:Nat) (s:Sta) (st:List Sta) (kn:List Bool) (room:Int) (h:E.dead s kn=false) (ho:(E.ins s).op=2):lookS E (n+1) (s::st) kn room=lookS E n (s.set 0 (E.ins s).x::s.set 0 (E.ins s).y::st) (E.kn' s kn room) (E.room' s kn room):=by
 have hl:=look_step E n s kn room
 rw [if_neg (by rw [h];exact Bool.false_ne_true),if_neg (by omega),if_pos ho] at hl
 rw [lookS,hl,lookS]
 dsimp only
 generalize look E n (s.set 0 (E.ins s).x) (E.kn' s kn room) (E.room' s kn room)=r
 by_cases hr:(r.ok||r.over)=true
 ·rw [if_pos hr,if_pos hr,if_pos hr]
 ·rw [if_neg hr,if_neg hr,lookS]
theorem lookS_go (E:Env) (n:Nat) (s:Sta) (st:List Sta) (kn:List Bool) (room:Int) (h:E.dead s kn=false) (h2:(E.ins s).op≠2) (h11:(E.ins s).op≠11) (h12:(E.ins s).op≠12) (h13:(E.ins s).op≠13) :
  lookS E (n+1) (s::st) kn room=lookS E n ((if (oneP E.t s (E.ins s)).2 then [(oneP E.t s (E.ins s)).1] else [])++st) (E.kn' s kn room) (E.room' s kn room):=by
 have hl:=look_step E n s kn room
 rw [if_neg (by rw [h];exact Bool.false_ne_true),if_neg (by omega),if_neg h2,if_neg h11] at hl
 rw [lookS,hl]
 by_cases hr:(oneP E.t s (E.ins s)).2=true
 ·rw [if_pos hr,if_pos hr];rfl
 ·rw [if_neg hr,if_neg hr];rfl
theorem lookS_sub (E:Env) (n:Nat) (s:Sta) (st:List Sta) (kn:List Bool) (room:Int) (h:E.dead s kn=false) (ho:(E.ins s).op=11):lookS E (n+1) (s::st) kn room =
  if (look E n (s.set 0 (gt s 0+1)) (E.kn' s kn room) (E.room' s kn room)).over then ⟨s,false,(look E n (s.set 0 (gt s 0+1)) (E.kn' s kn room) (E.room' s kn room)).n,(look E n (s.set 0 (gt s 0+1)) (E.kn' s kn room) (E.room' s kn room)).kn,(look E n (s.set 0 (gt s 0+1)) (E.kn' s kn room) (E.room' s kn room)).room,true⟩
  else lookS E (look E n (s.set 0 (gt s 0+1)) (E.kn' s kn room) (E.room' s kn room)).n ((if (apartP s (E.ins s) (look E n (s.set 0 (gt s 0+1)) (E.kn' s kn room) (E.room' s kn room)).st (look E n (s.set 0 (gt s 0+1)) (E.kn' s kn room) (E.room' s kn room)).ok).2 then [(apartP s (E.ins s) (look E n (s.set 0 (gt s 0+1)) (E.kn' s kn room) (E.room' s kn room)).st (look E n (s.set 0 (gt s 0+1)) (E.kn' s kn room) (E.room' s kn room)).ok).1] else [])++st)
   (look E n (s.set 0 (gt s 0+1)) (E.kn' s kn room) (E.room' s kn room)).kn (look E n (s.set 0 (gt s 0+1)) (E.kn' s kn room) (E.room' s kn room)).room:=by
 have hl:=look_step E n s kn room
 rw [if_neg (by rw [h];exact Bool.false_ne_true),if_neg (by omega),if_neg (by omega),if_pos ho] at hl
 rw [lookS,hl]
 clear hl
 dsimp only
 generalize look E n (s.set 0 (gt s 0+1)) (E.kn' s kn room) (E.room' s kn room)=r
 by_cases hr:r.over=true
 ·rw [if_pos hr,if_pos hr];rfl
 ·rw [if_neg hr,if_neg hr]
  by_cases hk:(apartP s (E.ins s) r.st r.ok).2=true
  ·rw [if_pos hk,if_pos hk];rfl
  ·rw [if_neg hk,if_neg hk];rfl
theorem lookS_one (E:Env) (n:Nat) (s:Sta) (kn:List Bool) (room:Int):(lookS E n [s] kn room).ok=(look E n s kn room).ok∧(lookS E n [s] kn room).over=(look E n s kn room).over∧(lookS E n [s] kn room).n=(look E n s kn room).n∧(lookS E n [s] kn room).kn=(look E n s kn room).kn∧(lookS E n [s] kn room).room=(look E n s kn room).room∧((look E n s kn room).ok=true→(lookS E n [s] kn room).st=(look E n s kn room).st):=by
 rw [lookS]
 generalize look E n s kn room=r
 split
 ·exact ⟨rfl,rfl,rfl,rfl,rfl,fun _=>rfl⟩
 ·rename_i hr
  simp only [Bool.or_eq_true,not_or,Bool.not_eq_true] at hr
  refine ⟨hr.1.symm,hr.2.symm,rfl,rfl,rfl,fun e=>?_⟩
  rw [hr.1] at e;cases e
theorem look_keeps (E:Env) (A:Int→Att) (hK:Known E.c A):∀ (N n:Nat) (s:Sta) (kn:List Bool) (room:Int),n≤N→Good E.c.length E.t.size s→0≤room∧room≤5000→(look E n s kn room).ok=true →
  (A (gt (look E n s kn room).st 0)).y=(A (gt s 0)).y∧(∀ k∈(A (gt s 0)).B,gt (look E n s kn room).st (22+k.toNat)=gt s (22+k.toNat))∧((E.ins (look E n s kn room).st).op=12∨(E.ins (look E n s kn room).st).op=13)
 | N,0,s,kn,room,_,h,hr,ho=>by rw [look_zero] at ho;cases ho
 | 0,n+1,s,kn,room,hn,_,_,_=>by omega
 | N+1,n+1,s,kn,room,hn,h,hrm,ho=>by
  have ih:∀ (n:Nat) (s:Sta) (kn:List Bool) (room:Int),n≤N→Good E.c.length E.t.size s→0≤room∧room≤5000→(look E n s kn room).ok=true →
   (A (gt (look E n s kn room).st 0)).y=(A (gt s 0)).y∧(∀ k∈(A (gt s 0)).B,gt (look E n s kn room).st (22+k.toNat)=gt s (22+k.toNat))∧((E.ins (look E n s kn room).st).op=12∨(E.ins (look E n s kn room).st).op=13):=look_keeps E A hK N
  have on:∀ (n:Nat) (u:Sta) (kn:List Bool) (room:Int),n≤N→Good E.c.length E.t.size u→0≤room∧room≤5000→(look E n u kn room).ok=true→(A (gt u 0)).y=(A (gt s 0)).y→(A (gt u 0)).B=(A (gt s 0)).B→(∀ k∈(A (gt s 0)).B,gt u (22+k.toNat)=gt s (22+k.toNat)) →
   (A (gt (look E n u kn room).st 0)).y=(A (gt s 0)).y∧(∀ k∈(A (gt s 0)).B,gt (look E n u kn room).st (22+k.toNat)=gt s (22+k.toNat))∧((E.ins (look E n u kn room).st).op=12∨(E.ins (look E n u kn room).st).op=13):=fun n u kn room h1 h2 h3 h4 h5 h6 h7=>by
   obtain ⟨a,b,c⟩:=ih n u kn room h1 h2 h3 h4
   exact ⟨a.trans h5,fun k hk=>(b k (by rw [h6];exact hk)).trans (h7 k hk),c⟩
  rw [look_step] at ho ⊢
  have hR:=E.room'_in s kn room hrm
  have hl:=h.len
  have hpc:((pcOf s:Nat):Int)=gt s 0:=by have:=h.pc0;unfold pcOf;omega
  by_cases hd:E.dead s kn=true
  ·rw [if_pos hd] at ho;cases ho
  rw [if_neg hd] at ho ⊢
  by_cases h13:(E.ins s).op=13∨(E.ins s).op=12
  ·rw [if_pos h13];exact ⟨rfl,fun _ _=>rfl,h13.symm⟩
  rw [if_neg h13] at ho ⊢
  have hx13:(E.c.getD (pcOf s) ins0).op≠13:=fun e=>h13 (.inl e)
  obtain ⟨hn1,hru⟩:=known_att hK h.pcOf_lt hx13
  have hi:=hK.ok (pcOf s) h.pcOf_lt
  rw [hpc] at hru
  have hp0:=h.pc0
  have p0:∀ v,gt (s.set 0 v) 0=v:=fun v=>gt_set_same _ _ _ (by omega)
  have pk:∀ (v:Int) (k:Int),gt (s.set 0 v) (22+k.toNat)=gt s (22+k.toNat):=fun v k=>gt_set_ne _ _ _ _ (by omega)
  by_cases o2:(E.ins s).op=2
  ·rw [if_pos o2] at ho ⊢
   have i2:=hi.1 o2
   obtain ⟨a1,a2⟩:=hru.2.1 o2
   have g1:=look_good E hK.ok N n (s.set 0 (E.ins s).x) (E.kn' s kn room) (E.room' s kn room) (by omega) (h.at_pc _ i2.1 i2.2.1) hR
   have n1:=look_n E n (s.set 0 (E.ins s).x) (E.kn' s kn room) (E.room' s kn room)
   have k1:=on n (s.set 0 (E.ins s).x) (E.kn' s kn room) (E.room' s kn room) (by omega) (h.at_pc _ i2.1 i2.2.1) hR
   dsimp only at ho ⊢
   generalize look E n (s.set 0 (E.ins s).x) (E.kn' s kn room) (E.room' s kn room)=r at *
   by_cases hro:(r.ok||r.over)=true
   ·rw [if_pos hro] at ho ⊢
    exact k1 ho (by rw [p0];exact congrArg Att.y a1) (by rw [p0];exact congrArg Att.B a1) (fun k hk=>pk _ k)
   ·rw [if_neg hro] at ho ⊢
    exact on r.n (s.set 0 (E.ins s).y) r.kn r.room (by omega) (h.at_pc _ i2.2.2.1 i2.2.2.2) g1.2.2.1 ho (by rw [p0];exact congrArg Att.y a2) (by rw [p0];exact congrArg Att.B a2) (fun k hk=>pk _ k)
  rw [if_neg o2] at ho ⊢
  by_cases o11:(E.ins s).op=11
  ·rw [if_pos o11] at ho ⊢
   have i11:=hi.2.2.2.2.2.1 o11
   obtain ⟨a1,a2,a3,a4⟩:=hru.2.2.2.2.2.2.2.1 o11
   have gs:=h.at_pc (gt s 0+1) (by omega) (by omega)
   have g1:=look_good E hK.ok N n (s.set 0 (gt s 0+1)) (E.kn' s kn room) (E.room' s kn room) (by omega) gs hR
   have n1:=look_n E n (s.set 0 (gt s 0+1)) (E.kn' s kn room) (E.room' s kn room)
   have k1:=ih n (s.set 0 (gt s 0+1)) (E.kn' s kn room) (E.room' s kn room) (by omega) gs hR
   rw [p0,a1] at k1
   dsimp only at ho k1 ⊢
   generalize look E n (s.set 0 (gt s 0+1)) (E.kn' s kn room) (E.room' s kn room)=r at *
   by_cases hov:r.over=true
   ·rw [if_pos hov] at ho;cases ho
   rw [if_neg hov] at ho ⊢
   by_cases hk:(apartP s (E.ins s) r.st r.ok).2=true
   ·rw [if_pos hk] at ho ⊢
    have ga:=apartP_good h g1.1 (E.ins s) i11.1 i11.2.1 hk
    have pa:gt (apartP s (E.ins s) r.st r.ok).1 0=(E.ins s).y∧∀ k∈(A (gt s 0)).G,gt (apartP s (E.ins s) r.st r.ok).1 (22+k.toNat)=gt s (22+k.toNat):=by
     unfold apartP at hk ⊢
     by_cases x0:(E.ins s).x=0
     ·rw [if_pos x0] at hk ⊢
      refine ⟨gt_set_same _ _ _ (by rw [g1.2.2.2.1];omega),fun k hkk=>?_⟩
      dsimp only
      rw [gt_set_ne _ _ _ _ (by omega),(k1 hk).2.1 k hkk,pk]
     rw [if_neg x0] at hk ⊢
     by_cases x1:(E.ins s).x=1
     ·rw [if_pos x1] at hk ⊢
      refine ⟨gt_set_same _ _ _ (by rw [withAt_len s r.st h.len g1.2.2.2.1];omega),fun k hkk=>?_⟩
      dsimp only
      rw [gt_set_ne _ _ _ _ (by omega),gt_withAt s r.st h.len g1.2.2.2.1,if_neg (by omega)]
     ·rw [if_neg x1];exact ⟨p0 _,fun k hkk=>pk _ k⟩
    exact on r.n _ r.kn r.room (by omega) ga g1.2.2.1 ho (by rw [pa.1];exact congrArg Att.y a2) (by rw [pa.1];exact congrArg Att.B a2) (fun k hkk=>pa.2 k (hru.2.2.2.2.2.2.2.2.2.1 k hkk))
   ·rw [if_neg hk] at ho;cases ho
  rw [if_neg o11] at ho ⊢
  by_cases hk:(oneP E.t s (E.ins s)).2=true
  ·rw [if_pos hk] at ho ⊢
   have gg:=oneP_good hK.ok h (t:=E.t) o2 o11 hx13 hk
   have pa:(A (gt (oneP E.t s (E.ins s)).1 0)).y=(A (gt s 0)).y∧(A (gt (oneP E.t s (E.ins s)).1 0)).B=(A (gt s 0)).B∧∀ k∈(A (gt s 0)).B,gt (oneP E.t s (E.ins s)).1 (22+k.toNat)=gt s (22+k.toNat):=by
    have hxe:E.ins s=E.c.getD (pcOf s) ins0:=rfl
    rw [← hxe] at hru hi
    generalize E.ins s=x at *
    obtain ⟨r1,r2,r3,r4,r5,r6,r7,r11,r12,rB,rd,rG,ro⟩:=hru
    have q0:∀ (i:Nat) (u v:Int),gt ((s.set i u).set 0 v) 0=v:=fun i u v=>gt_set_same _ _ _ (by rw [List.length_set];omega)
    unfold oneP at hk ⊢
    by_cases o1:x.op=1
    ·rw [if_pos o1];dsimp only
     rw [q0,r1 (by omega)]
     exact ⟨rfl,rfl,fun k hkk=>by rw [gt_set_ne _ _ _ _ (by omega),gt_set_ne _ _ _ _ (by omega)]⟩
    rw [if_neg o1] at hk ⊢
    by_cases o3:x.op=3
    ·rw [if_pos o3];dsimp only
     rw [p0,r3 o3];exact ⟨rfl,rfl,fun k hkk=>pk _ k⟩
    rw [if_neg o3] at hk ⊢
    by_cases o4:x.op=4
    ·rw [if_pos o4];dsimp only
     rw [q0,(r4 o4).2.1]
     exact ⟨rfl,rfl,fun k hkk=>by have:=rG k (rB k hkk);rw [gt_set_ne _ _ _ _ (by omega),gt_set_ne _ _ _ _ (by omega)]⟩
    rw [if_neg o4] at hk ⊢
    by_cases o5:x.op=5
    ·rw [if_pos o5];dsimp only
     rw [p0,(r5 o5).1];exact ⟨rfl,rfl,fun k hkk=>pk _ k⟩
    rw [if_neg o5] at hk ⊢
    by_cases o6:x.op=6
    ·rw [if_pos o6];dsimp only
     have i6:=hi.2.2.2.2.1 (.inl o6)
     rw [q0,(r6 o6).1]
     refine ⟨rfl,rfl,fun k hkk=>?_⟩
     have g1:=rG k (rB k hkk)
     have g2:x.x≠k:=fun e=>(r6 o6).2 (by rw [e];exact rB k hkk)
     rw [gt_set_ne _ _ _ _ (by omega),gt_set_ne _ _ _ _ (by omega)]
    rw [if_neg o6] at hk ⊢
    by_cases o7:x.op=7
    ·rw [if_pos o7];dsimp only
     have i6:=hi.2.2.2.2.1 (.inr (.inl o7))
     obtain ⟨g,b1,b2⟩:=r7 o7
     have:gt (((s.set (2+(2*x.x).toNat) (gt s (22+x.x.toNat))).set (2+(2*x.x+1).toNat) (gt s 1)).set 0 (gt s 0+1)) 0=gt s 0+1:=gt_set_same _ _ _ (by rw [List.length_set,List.length_set];omega)
     rw [this,b2]
     exact ⟨rfl,rfl,fun k hkk=>by rw [gt_set_ne _ _ _ _ (by omega),gt_set_ne _ _ _ _ (by omega),gt_set_ne _ _ _ _ (by omega)]⟩
    rw [if_neg o7] at hk ⊢
    by_cases o8:x.op=8
    ·rw [if_pos o8] at hk ⊢
     unfold backP at hk ⊢
     split at hk
     ·cases hk
     split at hk
     ·cases hk
     rename_i u1 u2
     rw [if_neg u1,if_neg u2];dsimp only
     rw [q0,r1 (by omega)]
     exact ⟨rfl,rfl,fun k hkk=>by rw [gt_set_ne _ _ _ _ (by omega),gt_set_ne _ _ _ _ (by omega)]⟩
    rw [if_neg o8] at hk ⊢
    by_cases o9:x.op=9
    ·rw [if_pos o9];dsimp only
     rw [p0,r1 (by omega)];exact ⟨rfl,rfl,fun k hkk=>pk _ k⟩
    rw [if_neg o9] at hk ⊢
    by_cases o10:x.op=10
    ·rw [if_pos o10];dsimp only
     rw [p0,r1 (by omega)];exact ⟨rfl,rfl,fun k hkk=>pk _ k⟩
    ·exfalso;omega
   exact on n _ _ _ (by omega) gg hR ho pa.1 pa.2.1 pa.2.2
  ·rw [if_neg hk] at ho;cases ho
end Mt
