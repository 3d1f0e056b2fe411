import Derived.Test.YtebpgfodelggoabGreatC00
set_option linter.unusedVariables false
set_option linter.unusedSimpArgs false
namespace Mt
def zCh (L N:Int) (c:List Ins):Prop:=(c.length:Int)≤L∧∀ i∈c,zJc N i
theorem jC {L N L' N':Int} {c:List Ins} (h:zCh L N c) (hL:L≤L') (hN:N≤N'):zCh L' N' c:=⟨by have:=h.1;omega,fun i hi=>vO (h.2 i hi) hN⟩
theorem yG {L N M:Int} {c:List Ins} (h:zCh L N c) (hL:L≤M) (hN:N≤M):fit M c:=⟨by have:=h.1;omega,fun i hi=>vO (h.2 i hi) hN⟩
theorem vW {L N:Int} {i:Ins} (h:zJc N i) (h1:1≤L):zCh L N [i]:=⟨by simpa using h1,fun j hj=>by simp at hj;rw [hj];exact h⟩
theorem zBa {L N:Int} (h:0≤L):zCh L N []:=⟨by simpa using h,fun j hj=>by simp at hj⟩
theorem zDX {L N:Int} (x y:Int) (late:Bool) (hx:-N≤x∧x≤N) (hy:-N≤y∧y≤N) (h1:1≤L):zCh L N (jM x y late):=by
 unfold jM
 cases late
 ·exact vW ⟨hx.1,hx.2,hy.1,hy.2⟩ h1
 ·exact vW ⟨hy.1,hy.2,hx.1,hx.2⟩ h1
theorem zCq {L N:Int} {a b:List Ins} (ha:zCh (L+300) (N+300) a) (hb:zCh L N b):zCh (L+300) (N+300) (behind a b):=by
 unfold behind
 by_cases h:300<a.length
 ·rw [if_pos h];exact ha
 ·rw [if_neg h]
  refine ⟨?_,fun i hi=>?_⟩
  ·rw [List.length_append,jY];have:=hb.1;omega
  ·rcases List.mem_append.1 hi with hi | hi
   ·exact ha.2 i hi
   ·unfold moved at hi
    obtain ⟨j,hj,rfl⟩:=List.mem_map.1 hi
    exact zDU (hb.2 j hj) (by omega) (by omega)
theorem qB {L N:Int} {a b:List Ins} (ha:zCh L N a) (hb:zCh L N b):zCh (L+300) (N+300) (behind a b) :=
 zCq (jC ha (by omega) (by omega)) hb
theorem zGk {L N:Int} (s:Int) {c:List Ins} (hc:zCh L N c) (hs:0≤s∧s≤10) (hN:L+2≤N) (h1:10≤L):zCh (L+600) (N+600) (alone s c):=by
 have hl:=hc.1
 have h0:(0:Int)≤c.length:=by omega
 have g:=qB (vW (L:=L) (N:=N) (i:=⟨11,s,(c.length:Int)+2,[]⟩) ⟨by simp only;omega,by simp only;omega,by simp only;omega,by simp only;omega⟩ (by omega)) hc
 have g2:=qB g (vW (L:=L+300) (N:=N+300) (i:=⟨12,0,0,[]⟩) ⟨by simp only;omega,by simp only;omega,by simp only;omega,by simp only;omega⟩ (by omega))
 exact jC g2 (by omega) (by omega)
theorem zCr {L N:Int} (d:Int) (late:Bool) {y:List Ins} (hy:zCh L N y) (hd:0≤d∧d≤N) (hN:L+3≤N) (h1:10≤L):zCh (L+900) (N+900) (vI y d late):=by
 have hl:=hy.1
 have h0:(0:Int)≤y.length:=by omega
 have g1:=qB (zDX (L:=L) (N:=N) 1 ((y.length:Int)+3) late (by omega) (by omega) (by omega)) (vW (L:=L) (N:=N) (i:=⟨4,d,0,[]⟩) ⟨by simp only;omega,by simp only;omega,by simp only;omega,by simp only;omega⟩ (by omega))
 have g2:=qB g1 (jC hy (show L≤L+300 by omega) (show N≤N+300 by omega))
 have g3:=qB g2 (vW (L:=L+300+300) (N:=N+300+300) (i:=⟨5,-(y.length:Int)-2,d,[]⟩) ⟨by simp only;omega,by simp only;omega,by simp only;omega,by simp only;omega⟩ (by omega))
 exact jC g3 (by omega) (by omega)
theorem zGl {L N:Int} {x:List Ins} (hx:zCh L N x):∀ (n:Nat) (c:List Ins),zCh (L+300) (N+300) c→zCh (L+300) (N+300) (zC x n c)
 | 0,c,h=>h
 | n+1,c,h=>zGl hx n _ (zCq h hx)
theorem zMq (n:Nat) (k:Int) (hn:n<20) (hk:0≤k):0≤((n:Int)+1)*(k+1)∧((n:Int)+1)*(k+1)≤20*(k+1):=by
 refine ⟨Int.mul_nonneg (by omega) (by omega),?_⟩
 exact Int.mul_le_mul_of_nonneg_right (by omega) (by omega)
theorem zBC {L N:Int} {x:List Ins} (late:Bool) (hx:zCh L N x) (hN:20*(L+1)≤N) (h1:10≤L):∀ (n:Nat) (c:List Ins),n≤20→zCh (L+600) (N+600) c→zCh (L+600) (N+600) (vJ x late n c)
 | 0,c,_,h=>h
 | n+1,c,hn,h=>by
  have hl:=hx.1
  have m:=zMq n (x.length:Int) (by omega) (by omega)
  have g:=qB (zDX (L:=L) (N:=N) 1 (((n:Int)+1)*((x.length:Int)+1)) late (by omega) (by omega) (by omega)) hx
  exact zBC late hx hN h1 n _ (by omega) (jC (zCq (L:=L+300) (N:=N+300) (jC h (by omega) (by omega)) g) (by omega) (by omega))
theorem zGT {L N:Int} (at' rp:Nat→Nat→List Ins) (l:List Tok) (b:Nat) (h1:∀ i j,zCh L N (at' i j)) (h2:∀ i j,zCh L N (rp i j)):∀ (f i:Nat) (c:List Ins),zCh (L+300) (N+300) c→zCh (L+300) (N+300) (yH at' rp l b f i c)
 | 0,i,c,h=>h
 | f+1,i,c,h=>by
  simp only [yH]
  split
  ·exact h
  ·split
   ·exact zGT at' rp l b h1 h2 f _ _ (zCq h (h2 _ _))
   ·exact zGT at' rp l b h1 h2 f _ _ (zCq h (h1 _ _))
def xX (t:Tok):Prop:=0≤t.n∧t.n≤100∧-1≤t.m∧t.m≤20∧0≤t.how∧t.how≤4∧(t.kind=8→t.n≤20)
def zAv (l:List Tok):Prop:=∀ t∈l,xX t
theorem zEO {l:List Tok} (h:zAv l) (k:Nat):xX (l.getD k jA):=by
 rw [List.getD_eq_getElem?_getD]
 by_cases hk:k<l.length
 ·rw [List.getElem?_eq_getElem hk];exact h _ (List.getElem_mem hk)
 ·rw [List.getElem?_eq_none (by omega)];simp [xX,jA]
theorem zJj (l:List Tok) (hl:zAv l):∀ (f tag a b:Nat) (d:Int),0≤d→d+f≤1000→zCh (2000*((f:Int)+1)) (60000*((f:Int)+1)) (gen l f tag a b d):=by
 intro f
 induction f with
 | zero=>intro tag a b d h0 h1;simp only [gen];exact zBa (by omega)
 | succ f ih =>
  intro tag a b d h0 h1
  have I:=fun tag a b=>ih tag a b d h0 (by omega)
  have J:=fun tag a b=>ih tag a b (d+1) (by omega) (by omega)
  match tag with
  | 0 =>
   simp only [gen]
   split
   ·exact jC (I 1 a _) (by omega) (by omega)
   ·have hs:=I 1 a (bar l a b)
    have hr:=I 0 (bar l a b+1) b
    generalize gen l f 1 a (bar l a b) d=s at *
    generalize gen l f 0 (bar l a b+1) b d=r at *
    have ls:=hs.1
    have lr:=hr.1
    have g1:=qB (zDX (L:=2000*((f:Int)+1)) (N:=60000*((f:Int)+1)) 1 ((s.length:Int)+2) false (by omega) (by omega) (by omega)) hs
    have g2:=qB g1 (vW (L:=2000*((f:Int)+1)+300) (N:=60000*((f:Int)+1)+300) (i:=⟨3,1+(r.length:Int),0,[]⟩) ⟨by simp only;omega,by simp only;omega,by simp only;omega,by simp only;omega⟩ (by omega))
    have g3:=qB g2 (jC hr (show _≤2000*((f:Int)+1)+300+300 by omega) (show _≤60000*((f:Int)+1)+300+300 by omega))
    exact jC g3 (by omega) (by omega)
  | 1 =>
   simp only [gen]
   exact jC (zGT _ _ l b (fun i j=>I 2 i j) (fun i j=>I 3 i j) (b-a) a [] (zBa (by omega))) (by omega) (by omega)
  | 2 =>
   simp only [gen]
   have hi:=I 0 (a+1) (b-1)
   have ht:=zEO hl a
   generalize gen l f 0 (a+1) (b-1) d=s at *
   generalize l.getD a jA=t at *
   obtain ⟨t1,t2,t3,t4,t5,t6,t7⟩:=ht
   split
   ·exact vW ⟨by simp only;omega,by simp only;omega,by simp only;omega,by simp only;omega⟩ (by omega)
   split
   ·exact vW ⟨by simp only;omega,by simp only;omega,by simp only;omega,by simp only;omega⟩ (by omega)
   split
   ·exact vW ⟨by simp only;omega,by simp only;omega,by simp only;omega,by simp only;omega⟩ (by omega)
   split
   ·exact vW ⟨by simp only;omega,by simp only;omega,by simp only;omega,by simp only;omega⟩ (by omega)
   split
   ·exact jC hi (by omega) (by omega)
   split
   ·have g1:=qB (vW (L:=2000*((f:Int)+1)) (N:=60000*((f:Int)+1)) (i:=⟨6,t.n,0,[]⟩) ⟨by simp only;omega,by simp only;omega,by simp only;omega,by simp only;omega⟩ (by omega)) hi
    have g2:=qB g1 (vW (L:=2000*((f:Int)+1)+300) (N:=60000*((f:Int)+1)+300) (i:=⟨7,t.n,0,[]⟩) ⟨by simp only;omega,by simp only;omega,by simp only;omega,by simp only;omega⟩ (by omega))
    exact jC g2 (by omega) (by omega)
   ·exact jC (zGk t.how hi (by omega) (by omega) (by omega)) (by omega) (by omega)
  | n+3 =>
   simp only [gen]
   have hx:=I 2 a b
   have hy:=J 2 a b
   have ht:=zEO hl b
   generalize gen l f 2 a b d=x at *
   generalize gen l f 2 a b (d+1)=y at *
   generalize l.getD b jA=t at *
   obtain ⟨t1,t2,t3,t4,t5,t6,t7⟩:=ht
   have c1:zCh (2000*((f:Int)+1)+900) (60000*((f:Int)+1)+900) (if 0<t.n∨0<t.m then (if t.n<t.m then behind (zC x t.n.toNat []) (upTo x (t.m-t.n).toNat (decide (t.how=1))) else zC x t.n.toNat []) else []):=by
    have k1:=zGl hx t.n.toNat [] (zBa (by omega))
    split
    ·split
     ·have k2:=zBC (decide (t.how=1)) hx (by omega) (by omega) (t.m-t.n).toNat [] (by omega) (zBa (by omega))
      exact jC (qB (jC k1 (show _≤2000*((f:Int)+1)+600 by omega) (show _≤60000*((f:Int)+1)+600 by omega)) k2) (by omega) (by omega)
     ·exact jC k1 (by omega) (by omega)
    ·exact zBa (by omega)
   generalize (if 0<t.n∨0<t.m then (if t.n<t.m then behind (zC x t.n.toNat []) (upTo x (t.m-t.n).toNat (decide (t.how=1))) else zC x t.n.toNat []) else [])=c at *
   have c2:zCh (2000*((f:Int)+1)+1200) (60000*((f:Int)+1)+1200) (if t.m<0 then behind c (vI y d (decide (t.how=1))) else c):=by
    split
    ·exact jC (qB c1 (zCr d (decide (t.how=1)) hy (by omega) (by omega) (by omega))) (by omega) (by omega)
    ·exact jC c1 (by omega) (by omega)
   split
   ·exact jC (zGk 0 c2 (by omega) (by omega) (by omega)) (by omega) (by omega)
   ·exact jC c2 (by omega) (by omega)
end Mt
