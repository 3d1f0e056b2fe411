import Derived.Test.YtebpgfodelggoaaGreatC03
import Derived.Test.YtebpgfodelggoaaGreatC01
set_option linter.unusedVariables false
set_option linter.unusedSimpArgs false
set_option maxRecDepth 100000
set_option maxHeartbeats 2000000
namespace Go.Proofs.YtebpgfodelggoaaGreat
open Go.RowKit
theorem zE2 (l:List Mt.Tok) (i:Nat) (v:Value) (w:World) (h:toks w v l) (hl:l.length≤64) (hi:i<l.length) :
  Calls Tryz.prog 86 #[v,.int .i64 i] w fun e w'=>e=.returned (.int .i64 (Mt.after l i))∧w=w':=by
 have hcl:=Mt.zDJ l i (by omega)
 have HK:Hid (toks w v l):=h
 rcases vR h with ⟨rfl,ao,cap,rfl⟩ | ⟨hp,g,cap,rfl,hcap,hg,hc⟩
 ·simp at hi
 ·have hc0:w.cell? ⟨g,i*7,none⟩=some (.int .i64 (l.getD i Mt.kX).kind):=hc i 0 hi (by omega)
  clear hc h
  have e:Mt.after l i=if (l.getD i Mt.kX).kind=6 then Mt.closing l i+1 else i+1:=rfl
  rw [e];clear e
  generalize hT:(l.getD i Mt.kX).kind=T at *
  clear hT
  cases hk:(T==6)
  ·rw [if_neg (by simpa using hk)]
   go_enter Tryz.func86,Tryz.ntmps86
   go_wp2_with fail
   go_ret
   exact ⟨zBt (by omega),rfl⟩
  ·rw [if_pos (by simpa using hk)]
   go_enter Tryz.func86,Tryz.ntmps86
   go_wp2_with (first | (go_at_call 85;refine (zC7 l _ _ _ HK.out hl (by omega)).mono ?_;rintro e w' ⟨rfl,rfl⟩))
   go_ret
   exact ⟨zBt (by omega),rfl⟩
theorem zL7 (l:List Mt.Tok) (a b:Nat) (v:Value) (w:World) (h:toks w v l) (hl:l.length≤64) (ha:a≤100) (hb:b≤l.length) :
  Calls Tryz.prog 52 #[v,.int .i64 a,.int .i64 b] w fun e w'=>e=.returned (.int .i64 (Mt.bar l a b))∧w=w':=by
 have HK:Hid (toks w v l):=h
 rcases vR h with ⟨rfl,ao,cap,rfl⟩ | ⟨hp,g,cap,rfl,hcap,hg,hc⟩
 ·have hb0:b=0:=by simpa using hb
  subst hb0
  clear h
  have e:Mt.bar [] a 0=0:=by rw [Mt.xD,if_pos (by omega)]
  rw [e];clear e
  go_enter Tryz.func52,Tryz.ntmps52
  go_wp2_with fail
  refine wp_loop_rounds 1 ?_
  rw [rounds_succ]
  go_wp2_with fail
  go_ret
  exact ⟨rfl,rfl⟩
 ·have HC:Hid (∀ k j,k<l.length→j<7→w.cell? ⟨g,k*7+j,none⟩=(yG (l.getD k Mt.kX))[j]?):=hc
  clear hc h
  go_enter Tryz.func52,Tryz.ntmps52
  go_wp2_with fail
  go_loop [7] (fun i=>∃ k:Nat,k≤200∧i=.int .i64 k∧Mt.bar l a b=Mt.bar l k b) (fun i=>b-(intOf i).toNat)
  case atStart=>exact ⟨a,by omega,rfl,rfl⟩
  case round =>
   obtain ⟨k,hk,rfl,hr⟩:=hrel
   have H:Hid (Mt.bar l a b=Mt.bar l k b):=hr
   clear hr
   by_cases hlt:k<b
   ·have hc0:w.cell? ⟨g,k*7,none⟩=some (.int .i64 (l.getD k Mt.kX).kind):=HC.out k 0 (by omega) (by omega)
    have hcl:=Mt.zDJ l k (by omega)
    have hcg:=Mt.zA8 l k
    have hst:Mt.bar l a b=if (l.getD k Mt.kX).kind=5 then k else if (l.getD k Mt.kX).kind=6 then Mt.bar l (Mt.closing l k+1) b else Mt.bar l (k+1) b:=by
     rw [H.out,Mt.xD,if_neg (by omega)];rfl
    generalize hT:(l.getD k Mt.kX).kind=T at *
    clear hT H
    cases h5:(T==5)
    ·rw [if_neg (by simpa using h5)] at hst
     cases h6:(T==6)
     ·rw [if_neg (by simpa using h6)] at hst
      have R:Hid (Mt.bar l a b=Mt.bar l (k+1) b):=hst
      clear hst
      go_wp2_with fail
      go_round
      case rel=>exact ⟨k+1,by omega,by go_num,R.out⟩
      case measure=>simp [intOf];omega
     ·rw [if_pos (by simpa using h6)] at hst
      have R:Hid (Mt.bar l a b=Mt.bar l (Mt.closing l k+1) b):=hst
      clear hst
      go_wp2_with (first | (go_at_call 85;refine (zC7 l _ _ _ HK.out hl (by omega)).mono ?_;rintro e w' ⟨rfl,rfl⟩))
      go_round
      case rel=>exact ⟨Mt.closing l k+1,by omega,by go_num,R.out⟩
      case measure=>simp [intOf];omega
    ·rw [if_pos (by simpa using h5)] at hst
     have R:Hid (Mt.bar l a b=k):=hst
     clear hst
     go_wp2_with fail
     go_ret
     exact ⟨zBt (by rw [R.out]),rfl⟩
   ·have R:Hid (Mt.bar l a b=b):=by show _=_;rw [H.out,Mt.xD,if_pos (by omega)]
    clear H
    go_wp2_with fail
    go_ret
    exact ⟨zBt (by rw [R.out]),rfl⟩
end Go.Proofs.YtebpgfodelggoaaGreat
namespace Mt
def zCb (L N:Int) (c:List Ins):Prop:=(c.length:Int)≤L∧∀ i∈c,zIV N i
theorem jB {L N L' N':Int} {c:List Ins} (h:zCb L N c) (hL:L≤L') (hN:N≤N'):zCb L' N' c:=⟨by have:=h.1;omega,fun i hi=>vN (h.2 i hi) hN⟩
theorem yH {L N M:Int} {c:List Ins} (h:zCb L N c) (hL:L≤M) (hN:N≤M):fit M c:=⟨by have:=h.1;omega,fun i hi=>vN (h.2 i hi) hN⟩
theorem vT {L N:Int} {i:Ins} (h:zIV N i) (h1:1≤L):zCb L N [i]:=⟨by simpa using h1,fun j hj=>by simp at hj;rw [hj];exact h⟩
theorem zA5 {L N:Int} (h:0≤L):zCb L N []:=⟨by simpa using h,fun j hj=>by simp at hj⟩
theorem zDO {L N:Int} (x y:Int) (late:Bool) (hx:-N≤x∧x≤N) (hy:-N≤y∧y≤N) (h1:1≤L):zCb L N (jL x y late):=by
 unfold jL
 cases late
 ·exact vT ⟨hx.1,hx.2,hy.1,hy.2⟩ h1
 ·exact vT ⟨hy.1,hy.2,hx.1,hx.2⟩ h1
theorem zCj {L N:Int} {a b:List Ins} (ha:zCb (L+300) (N+300) a) (hb:zCb L N b):zCb (L+300) (N+300) (behind a b):=by
 unfold behind
 by_cases h:300<a.length
 ·rw [if_pos h];exact ha
 ·rw [if_neg h]
  refine ⟨?_,fun i hi=>?_⟩
  ·rw [List.length_append,jV];have:=hb.1;omega
  ·rcases List.mem_append.1 hi with hi | hi
   ·exact ha.2 i hi
   ·unfold moved at hi
    obtain ⟨j,hj,rfl⟩:=List.mem_map.1 hi
    exact zDK (hb.2 j hj) (by omega) (by omega)
theorem jZ {L N:Int} {a b:List Ins} (ha:zCb L N a) (hb:zCb L N b):zCb (L+300) (N+300) (behind a b) :=
 zCj (jB ha (by omega) (by omega)) hb
theorem zF9 {L N:Int} (s:Int) {c:List Ins} (hc:zCb L N c) (hs:0≤s∧s≤10) (hN:L+2≤N) (h1:10≤L):zCb (L+600) (N+600) (alone s c):=by
 have hl:=hc.1
 have h0:(0:Int)≤c.length:=by omega
 have g:=jZ (vT (L:=L) (N:=N) (i:=⟨11,s,(c.length:Int)+2,[]⟩) ⟨by simp only;omega,by simp only;omega,by simp only;omega,by simp only;omega⟩ (by omega)) hc
 have g2:=jZ g (vT (L:=L+300) (N:=N+300) (i:=⟨12,0,0,[]⟩) ⟨by simp only;omega,by simp only;omega,by simp only;omega,by simp only;omega⟩ (by omega))
 exact jB g2 (by omega) (by omega)
theorem zCk {L N:Int} (d:Int) (late:Bool) {y:List Ins} (hy:zCb L N y) (hd:0≤d∧d≤N) (hN:L+3≤N) (h1:10≤L):zCb (L+900) (N+900) (vG y d late):=by
 have hl:=hy.1
 have h0:(0:Int)≤y.length:=by omega
 have g1:=jZ (zDO (L:=L) (N:=N) 1 ((y.length:Int)+3) late (by omega) (by omega) (by omega)) (vT (L:=L) (N:=N) (i:=⟨4,d,0,[]⟩) ⟨by simp only;omega,by simp only;omega,by simp only;omega,by simp only;omega⟩ (by omega))
 have g2:=jZ g1 (jB hy (show L≤L+300 by omega) (show N≤N+300 by omega))
 have g3:=jZ g2 (vT (L:=L+300+300) (N:=N+300+300) (i:=⟨5,-(y.length:Int)-2,d,[]⟩) ⟨by simp only;omega,by simp only;omega,by simp only;omega,by simp only;omega⟩ (by omega))
 exact jB g3 (by omega) (by omega)
theorem zGa {L N:Int} {x:List Ins} (hx:zCb L N x):∀ (n:Nat) (c:List Ins),zCb (L+300) (N+300) c→zCb (L+300) (N+300) (zC x n c)
 | 0,c,h=>h
 | n+1,c,h=>zGa hx n _ (zCj h hx)
theorem zL8 (n:Nat) (k:Int) (hn:n<20) (hk:0≤k):0≤((n:Int)+1)*(k+1)∧((n:Int)+1)*(k+1)≤20*(k+1):=by
 refine ⟨Int.mul_nonneg (by omega) (by omega),?_⟩
 exact Int.mul_le_mul_of_nonneg_right (by omega) (by omega)
theorem zBy {L N:Int} {x:List Ins} (late:Bool) (hx:zCb L N x) (hN:20*(L+1)≤N) (h1:10≤L):∀ (n:Nat) (c:List Ins),n≤20→zCb (L+600) (N+600) c→zCb (L+600) (N+600) (vH x late n c)
 | 0,c,_,h=>h
 | n+1,c,hn,h=>by
  have hl:=hx.1
  have m:=zL8 n (x.length:Int) (by omega) (by omega)
  have g:=jZ (zDO (L:=L) (N:=N) 1 (((n:Int)+1)*((x.length:Int)+1)) late (by omega) (by omega) (by omega)) hx
  exact zBy late hx hN h1 n _ (by omega) (jB (zCj (L:=L+300) (N:=N+300) (jB h (by omega) (by omega)) g) (by omega) (by omega))
theorem zGG {L N:Int} (at' rp:Nat→Nat→List Ins) (l:List Tok) (b:Nat) (h1:∀ i j,zCb L N (at' i j)) (h2:∀ i j,zCb L N (rp i j)):∀ (f i:Nat) (c:List Ins),zCb (L+300) (N+300) c→zCb (L+300) (N+300) (yI at' rp l b f i c)
 | 0,i,c,h=>h
 | f+1,i,c,h=>by
  simp only [yI]
  split
  ·exact h
  ·split
   ·exact zGG at' rp l b h1 h2 f _ _ (zCj h (h2 _ _))
   ·exact zGG at' rp l b h1 h2 f _ _ (zCj h (h1 _ _))
def xS (t:Tok):Prop:=0≤t.n∧t.n≤100∧-1≤t.m∧t.m≤20∧0≤t.how∧t.how≤4∧(t.kind=8→t.n≤20)
def zAs (l:List Tok):Prop:=∀ t∈l,xS t
theorem zEE {l:List Tok} (h:zAs l) (k:Nat):xS (l.getD k kX):=by
 rw [List.getD_eq_getElem?_getD]
 by_cases hk:k<l.length
 ·rw [List.getElem?_eq_getElem hk];exact h _ (List.getElem_mem hk)
 ·rw [List.getElem?_eq_none (by omega)];simp [xS,kX]
theorem zI2 (l:List Tok) (hl:zAs l):∀ (f tag a b:Nat) (d:Int),0≤d→d+f≤1000→zCb (2000*((f:Int)+1)) (60000*((f:Int)+1)) (gen l f tag a b d):=by
 intro f
 induction f with
 | zero=>intro tag a b d h0 h1;simp only [gen];exact zA5 (by omega)
 | succ f ih =>
  intro tag a b d h0 h1
  have I:=fun tag a b=>ih tag a b d h0 (by omega)
  have J:=fun tag a b=>ih tag a b (d+1) (by omega) (by omega)
  match tag with
  | 0 =>
   simp only [gen]
   split
   ·exact jB (I 1 a _) (by omega) (by omega)
   ·have hs:=I 1 a (bar l a b)
    have hr:=I 0 (bar l a b+1) b
    generalize gen l f 1 a (bar l a b) d=s at *
    generalize gen l f 0 (bar l a b+1) b d=r at *
    have ls:=hs.1
    have lr:=hr.1
    have g1:=jZ (zDO (L:=2000*((f:Int)+1)) (N:=60000*((f:Int)+1)) 1 ((s.length:Int)+2) false (by omega) (by omega) (by omega)) hs
    have g2:=jZ g1 (vT (L:=2000*((f:Int)+1)+300) (N:=60000*((f:Int)+1)+300) (i:=⟨3,1+(r.length:Int),0,[]⟩) ⟨by simp only;omega,by simp only;omega,by simp only;omega,by simp only;omega⟩ (by omega))
    have g3:=jZ g2 (jB hr (show _≤2000*((f:Int)+1)+300+300 by omega) (show _≤60000*((f:Int)+1)+300+300 by omega))
    exact jB g3 (by omega) (by omega)
  | 1 =>
   simp only [gen]
   exact jB (zGG _ _ l b (fun i j=>I 2 i j) (fun i j=>I 3 i j) (b-a) a [] (zA5 (by omega))) (by omega) (by omega)
  | 2 =>
   simp only [gen]
   have hi:=I 0 (a+1) (b-1)
   have ht:=zEE hl a
   generalize gen l f 0 (a+1) (b-1) d=s at *
   generalize l.getD a kX=t at *
   obtain ⟨t1,t2,t3,t4,t5,t6,t7⟩:=ht
   split
   ·exact vT ⟨by simp only;omega,by simp only;omega,by simp only;omega,by simp only;omega⟩ (by omega)
   split
   ·exact vT ⟨by simp only;omega,by simp only;omega,by simp only;omega,by simp only;omega⟩ (by omega)
   split
   ·exact vT ⟨by simp only;omega,by simp only;omega,by simp only;omega,by simp only;omega⟩ (by omega)
   split
   ·exact vT ⟨by simp only;omega,by simp only;omega,by simp only;omega,by simp only;omega⟩ (by omega)
   split
   ·exact jB hi (by omega) (by omega)
   split
   ·have g1:=jZ (vT (L:=2000*((f:Int)+1)) (N:=60000*((f:Int)+1)) (i:=⟨6,t.n,0,[]⟩) ⟨by simp only;omega,by simp only;omega,by simp only;omega,by simp only;omega⟩ (by omega)) hi
    have g2:=jZ g1 (vT (L:=2000*((f:Int)+1)+300) (N:=60000*((f:Int)+1)+300) (i:=⟨7,t.n,0,[]⟩) ⟨by simp only;omega,by simp only;omega,by simp only;omega,by simp only;omega⟩ (by omega))
    exact jB g2 (by omega) (by omega)
   ·exact jB (zF9 t.how hi (by omega) (by omega) (by omega)) (by omega) (by omega)
  | n+3 =>
   simp only [gen]
   have hx:=I 2 a b
   have hy:=J 2 a b
   have ht:=zEE hl b
   generalize gen l f 2 a b d=x at *
   generalize gen l f 2 a b (d+1)=y at *
   generalize l.getD b kX=t at *
   obtain ⟨t1,t2,t3,t4,t5,t6,t7⟩:=ht
   have c1:zCb (2000*((f:Int)+1)+900) (60000*((f:Int)+1)+900) (if 0<t.n∨0<t.m then (if t.n<t.m then behind (zC x t.n.toNat []) (upTo x (t.m-t.n).toNat (decide (t.how=1))) else zC x t.n.toNat []) else []):=by
    have k1:=zGa hx t.n.toNat [] (zA5 (by omega))
    split
    ·split
     ·have k2:=zBy (decide (t.how=1)) hx (by omega) (by omega) (t.m-t.n).toNat [] (by omega) (zA5 (by omega))
      exact jB (jZ (jB k1 (show _≤2000*((f:Int)+1)+600 by omega) (show _≤60000*((f:Int)+1)+600 by omega)) k2) (by omega) (by omega)
     ·exact jB k1 (by omega) (by omega)
    ·exact zA5 (by omega)
   generalize (if 0<t.n∨0<t.m then (if t.n<t.m then behind (zC x t.n.toNat []) (upTo x (t.m-t.n).toNat (decide (t.how=1))) else zC x t.n.toNat []) else [])=c at *
   have c2:zCb (2000*((f:Int)+1)+1200) (60000*((f:Int)+1)+1200) (if t.m<0 then behind c (vG y d (decide (t.how=1))) else c):=by
    split
    ·exact jB (jZ c1 (zCk d (decide (t.how=1)) hy (by omega) (by omega) (by omega))) (by omega) (by omega)
    ·exact jB c1 (by omega) (by omega)
   split
   ·exact jB (zF9 0 c2 (by omega) (by omega) (by omega)) (by omega) (by omega)
   ·exact jB c2 (by omega) (by omega)
end Mt
namespace Go.Proofs.YtebpgfodelggoaaGreat
open Go.RowKit
def S0 (l:List Mt.Tok) (f:Nat):Prop:=∀ (a b:Nat) (ai bi d:Int) (v:Value) (w:World),ai=a→bi=b→toks w v l→a≤66→b≤l.length→4*(70-a)+3≤f→0≤d→d+f≤1000 →
 Calls Tryz.prog 71 #[v,.int .i64 ai,.int .i64 bi,.int .i64 d] w fun e w'=>∃ v',e=.returned v'∧zB w' 0 v' (Mt.gen l f 0 a b d)∧Below w.heap.size w w'
def S1 (l:List Mt.Tok) (f:Nat):Prop:=∀ (a b:Nat) (ai bi d:Int) (v:Value) (w:World),ai=a→bi=b→toks w v l→a≤66→b≤l.length→4*(70-a)+2≤f→0≤d→d+f≤1000 →
 Calls Tryz.prog 101 #[v,.int .i64 ai,.int .i64 bi,.int .i64 d] w fun e w'=>∃ v',e=.returned v'∧zB w' 0 v' (Mt.gen l f 1 a b d)∧Below w.heap.size w w'
def S2 (l:List Mt.Tok) (f:Nat):Prop:=∀ (a b:Nat) (ai bi d:Int) (v:Value) (w:World),ai=a→bi=b→toks w v l→a<l.length→a<b→b≤l.length+1→4*(70-a)≤f→0≤d→d+f≤1000 →
 Calls Tryz.prog 126 #[v,.int .i64 ai,.int .i64 bi,.int .i64 d] w fun e w'=>∃ v',e=.returned v'∧zB w' 0 v' (Mt.gen l f 2 a b d)∧Below w.heap.size w w'
def S3 (l:List Mt.Tok) (f:Nat):Prop:=∀ (a b:Nat) (ai bi d:Int) (v:Value) (w:World),ai=a→bi=b→toks w v l→a<l.length→a<b→b<l.length→Mt.jW l b=8→4*(70-a)+1≤f→0≤d→d+f≤1000 →
 Calls Tryz.prog 125 #[v,.int .i64 ai,.int .i64 bi,.int .i64 d] w fun e w'=>∃ v',e=.returned v'∧zB w' 0 v' (Mt.gen l f 3 a b d)∧Below w.heap.size w w'
theorem zDm {l:List Mt.Tok} (hl:Mt.zAs l) (f tag a b:Nat) (d:Int) (h0:0≤d) (h1:d+f≤1000):Mt.fit 70000000 (Mt.gen l f tag a b d) :=
 Mt.yH (Mt.zI2 l hl f tag a b d h0 h1) (by omega) (by omega)
theorem zDP (l:List Mt.Tok) (hl:l.length≤64) (ho:Mt.zAs l) (f:Nat) (h0:S0 l f) (h1:S1 l f):S0 l (f+1):=by
 intro a b ai bi d v w hai hbi ht ha hb hf hd0 hd1
 subst hai hbi
 have HT:Hid (toks w v l):=ht
 clear ht
 have hbl:=Mt.zRd l b (b-a) a (Nat.le_refl _)
 have hbg:=Mt.zRe l b (b-a) a (Nat.le_refl _)
 have os:=zDm ho f 1 a (Mt.bar l a b) d hd0 (by omega)
 have or:=zDm ho f 0 (Mt.bar l a b+1) b d hd0 (by omega)
 cases hk:((Mt.bar l a b:Int)==(b:Int))
 ·have hne:¬ Mt.bar l a b=b:=by simp at hk;omega
  have e:Mt.gen l (f+1) 0 a b d=Mt.behind (Mt.behind (Mt.behind (Mt.jL 1 (((Mt.gen l f 1 a (Mt.bar l a b) d).length:Int)+2) false) (Mt.gen l f 1 a (Mt.bar l a b) d)) (Mt.zEt (1+((Mt.gen l f 0 (Mt.bar l a b+1) b d).length:Int)))) (Mt.gen l f 0 (Mt.bar l a b+1) b d):=by
   simp only [Mt.gen];rw [if_neg hne]
  rw [e];clear e
  have H1:=fun x:World=>h1 a (Mt.bar l a b) a (Mt.bar l a b) d v x rfl rfl
  have H0:=fun x:World=>h0 (Mt.bar l a b+1) b ((Mt.bar l a b:Int)+1) b d v x (by omega) rfl
  generalize hS:Mt.gen l f 1 a (Mt.bar l a b) d=s at *
  generalize hR:Mt.gen l f 0 (Mt.bar l a b+1) b d=r at *
  clear hS hR h0 h1
  have ls:=os.1
  have lr:=or.1
  have g1:Mt.fit 70000010 (Mt.jL 1 ((s.length:Int)+2) false):=zE0 _ _ _ (by omega) (by omega) (by omega)
  have g2:=Mt.yJ g1 (Mt.zJ os (show (70000000:Int)≤70000010 by omega))
  have g3:Mt.fit 70000310 (Mt.zEt (1+(r.length:Int))):=Mt.zAU (yK _ _ _ _ (by omega) (by omega)) (by omega)
  have g4:=Mt.yJ g2 (Mt.zJ g3 (by omega))
  have F0:Hid (Mt.fit 900000000 s):=Mt.zJ os (by omega)
  have F1:Hid (Mt.fit 900000000 r):=Mt.zJ or (by omega)
  have F2:Hid (Mt.fit 900000000 (Mt.jL 1 ((s.length:Int)+2) false)):=Mt.zJ g1 (by omega)
  have F3:Hid (Mt.fit 900000000 (Mt.behind (Mt.jL 1 ((s.length:Int)+2) false) s)):=Mt.zJ g2 (by omega)
  have F4:Hid (Mt.fit 900000000 (Mt.zEt (1+(r.length:Int)))):=Mt.zJ g3 (by omega)
  have F5:Hid (Mt.fit 900000000 (Mt.behind (Mt.behind (Mt.jL 1 ((s.length:Int)+2) false) s) (Mt.zEt (1+(r.length:Int))))):=Mt.zJ g4 (by omega)
  have K1:Hid (∀ x:World,toks x v l→Calls Tryz.prog 101 #[v,.int .i64 a,.int .i64 (Mt.bar l a b),.int .i64 d] x fun e w'=>∃ v',e=.returned v'∧zB w' 0 v' s∧Below x.heap.size x w'):=fun x hx=>H1 x hx (by omega) (by omega) (by omega) hd0 (by omega)
  have K0:Hid (∀ x:World,toks x v l→Calls Tryz.prog 71 #[v,.int .i64 ((Mt.bar l a b:Int)+1),.int .i64 b,.int .i64 d] x fun e w'=>∃ v',e=.returned v'∧zB w' 0 v' r∧Below x.heap.size x w'):=fun x hx=>H0 x hx (by omega) (by omega) (by omega) hd0 (by omega)
  clear g1 g2 g3 g4 os or H1 H0 hbg hne
  go_enter Tryz.func71,Tryz.ntmps71
  go_wp2_with (first | (go_at_call 52;refine (zL7 l _ _ _ _ HT.out hl (by omega) hb).mono ?_;rintro e w' ⟨rfl,rfl⟩) | fail)
  refine (K1.out _ HT.out).mono ?_
  rintro e w1 ⟨v1,rfl,q1,hb1⟩
  have hs1:=hb1.size
  obtain ⟨ao,cap,rfl⟩:=zCi q1
  have Q1:Hid (zB w1 0 (.slice ao s.length cap) s):=q1
  have HT1:Hid (toks w1 v l):=jR HT.out hb1
  clear q1
  go_wp2_with fail
  refine (K0.out _ HT1.out).mono ?_
  rintro e w2 ⟨v2,rfl,q2,hb2⟩
  have hB2:Below w.heap.size w w2:=hb1.trans (hb2.mono hs1)
  have hs2:=hB2.size
  obtain ⟨ao2,cap2,rfl⟩:=zCi q2
  have Q2:Hid (zB w2 0 (.slice ao2 r.length cap2) r):=q2
  have Q1':Hid (zB w2 0 (.slice ao s.length cap) s):=Q1.out.below hb2
  clear q2 hb1 hb2 Q1 HT HT1
  go_wp2_with fail
  refine (zEZ _ _ _ _).mono ?_
  rintro e w3 ⟨v3,rfl,q3,hb3⟩
  have hB3:Below w.heap.size w w3:=hB2.trans (hb3.mono hs2)
  have hs3:=hB3.size
  have Q3:Hid (zB w3 0 v3 (Mt.jL 1 ((s.length:Int)+2) false)):=q3
  have zSK:Hid (zB w3 0 (.slice ao s.length cap) s):=Q1'.out.below hb3
  have Q2':Hid (zB w3 0 (.slice ao2 r.length cap2) r):=Q2.out.below hb3
  clear q3 hb3 Q1' Q2 hB2
  go_wp2_with fail
  refine (kD _ s _ _ _ Q3.out zSK.out F2.out F0.out).mono ?_
  rintro e w4 ⟨v4,rfl,q4,hb4⟩
  have hB4:Below w.heap.size w w4:=hB3.trans (hb4.mono hs3)
  have hs4:=hB4.size
  have Q4:Hid (zB w4 0 v4 (Mt.behind (Mt.jL 1 ((s.length:Int)+2) false) s)):=q4
  have zSL:Hid (zB w4 0 (.slice ao2 r.length cap2) r):=Q2'.out.below hb4
  clear q4 hb4 zSK Q2' hB3 Q3
  go_wp2_with fail
  refine (kD _ (Mt.zEt (1+(r.length:Int))) _ _ _ (Q4.out.below (by go_grown)) (zAr w4 _ rfl ⟨3,1+(r.length:Int),0,[]⟩) F3.out F4.out).mono ?_
  rintro e w5 ⟨v5,rfl,q5,hb5⟩
  have zSc:Below w4.heap.size w4 w5:=((Below.refl _ _).alloc (Nat.le_refl _) _).trans (hb5.mono (by simp))
  have hB5:Below w.heap.size w w5:=hB4.trans (zSc.mono hs4)
  have hs5:=hB5.size
  have Q5:Hid (zB w5 0 v5 (Mt.behind (Mt.behind (Mt.jL 1 ((s.length:Int)+2) false) s) (Mt.zEt (1+(r.length:Int))))):=q5
  have Q2e:Hid (zB w5 0 (.slice ao2 r.length cap2) r):=zSL.out.below zSc
  clear q5 hb5 zSc zSL Q4 hB4
  go_wp2_with fail
  refine (kD _ r _ _ _ Q5.out Q2e.out F5.out F1.out).mono ?_
  rintro e w6 ⟨v6,rfl,q6,hb6⟩
  have hB6:Below w.heap.size w w6:=hB5.trans (hb6.mono hs5)
  clear hb6 hB5
  go_wp2_with fail
  go_ret
  exact ⟨_,rfl,q6,hB6⟩
 ·have he:Mt.bar l a b=b:=by simp at hk;omega
  have e:Mt.gen l (f+1) 0 a b d=Mt.gen l f 1 a (Mt.bar l a b) d:=by simp only [Mt.gen];rw [if_pos he]
  rw [e];clear e
  have H1:=fun x:World=>h1 a (Mt.bar l a b) a (Mt.bar l a b) d v x rfl rfl
  generalize hS:Mt.gen l f 1 a (Mt.bar l a b) d=s at *
  clear hS h0 h1
  have K1:Hid (∀ x:World,toks x v l→Calls Tryz.prog 101 #[v,.int .i64 a,.int .i64 (Mt.bar l a b),.int .i64 d] x fun e w'=>∃ v',e=.returned v'∧zB w' 0 v' s∧Below x.heap.size x w'):=fun x hx=>H1 x hx (by omega) (by omega) (by omega) hd0 (by omega)
  clear os or H1 hbg he
  go_enter Tryz.func71,Tryz.ntmps71
  go_wp2_with (first | (go_at_call 52;refine (zL7 l _ _ _ _ HT.out hl (by omega) hb).mono ?_;rintro e w' ⟨rfl,rfl⟩) | fail)
  refine (K1.out _ HT.out).mono ?_
  rintro e w1 ⟨v1,rfl,q1,hb1⟩
  go_wp2_with fail
  go_ret
  exact ⟨_,rfl,q1,hb1⟩
theorem zOb (A R:Nat→Nat→List Mt.Ins) (l:List Mt.Tok) (b fu k:Nat) (c:List Mt.Ins) (h:k<b):Mt.yI A R l b (fu+1) k c =
  if Mt.after l k<b∧Mt.jW l (Mt.after l k)=8 then Mt.yI A R l b fu (Mt.after l k+1) (Mt.behind c (R k (Mt.after l k))) else Mt.yI A R l b fu (Mt.after l k) (Mt.behind c (A k (Mt.after l k))):=by
 simp only [Mt.yI];rw [if_neg (by omega)]
theorem zPY (A R:Nat→Nat→List Mt.Ins) (l:List Mt.Tok) (b fu k:Nat) (c:List Mt.Ins) (h:b≤k):Mt.yI A R l b fu k c=c:=by
 cases fu with
 | zero=>rfl
 | succ fu=>simp only [Mt.yI];rw [if_pos h]
theorem zGH (l:List Mt.Tok) (hl:l.length≤64) (ho:Mt.zAs l) (f:Nat) (h2:S2 l f) (h3:S3 l f):S1 l (f+1):=by
 intro a b ai bi d v w hai hbi ht ha hb hf hd0 hd1
 subst hai hbi
 have HT:Hid (toks w v l):=ht
 clear ht
 have oA:=fun i j=>zDm ho f 2 i j d hd0 (by omega)
 have oR:=fun i j=>zDm ho f 3 i j d hd0 (by omega)
 have e:Mt.gen l (f+1) 1 a b d=Mt.yI (fun i j=>Mt.gen l f 2 i j d) (fun i j=>Mt.gen l f 3 i j d) l b (b-a) a []:=by simp only [Mt.gen]
 rw [e];clear e
 have H2:=fun (i j:Nat) (x:World)=>h2 i j i j d v x rfl rfl
 have H3:=fun (i j:Nat) (x:World)=>h3 i j i j d v x rfl rfl
 generalize hA:(fun i j=>Mt.gen l f 2 i j d)=A at *
 generalize hR:(fun i j=>Mt.gen l f 3 i j d)=R at *
 have eA:∀ i j,Mt.gen l f 2 i j d=A i j:=fun i j=>by rw [← hA]
 have eR:∀ i j,Mt.gen l f 3 i j d=R i j:=fun i j=>by rw [← hR]
 clear hA hR h2 h3
 have K2:Hid (∀ (i j:Nat) (x:World),toks x v l→a≤i→i<l.length→i<j→j≤l.length+1→Calls Tryz.prog 126 #[v,.int .i64 i,.int .i64 j,.int .i64 d] x fun e w'=>∃ v',e=.returned v'∧zB w' 0 v' (A i j)∧Below x.heap.size x w'):=fun i j x hx q1 q2 q3 q4=>by
  have:=H2 i j x hx q2 q3 q4 (by omega) hd0 (by omega)
  rw [eA] at this;exact this
 have K3:Hid (∀ (i j:Nat) (x:World),toks x v l→a≤i→i<l.length→i<j→j<l.length→Mt.jW l j=8→Calls Tryz.prog 125 #[v,.int .i64 i,.int .i64 j,.int .i64 d] x fun e w'=>∃ v',e=.returned v'∧zB w' 0 v' (R i j)∧Below x.heap.size x w'):=fun i j x hx q1 q2 q3 q4 q5=>by
  have:=H3 i j x hx q2 q3 q4 q5 (by omega) hd0 (by omega)
  rw [eR] at this;exact this
 have FA:Hid (∀ i j,Mt.fit 70000000 (A i j)):=fun i j=>by rw [← eA];exact oA i j
 have FR:Hid (∀ i j,Mt.fit 70000000 (R i j)):=fun i j=>by rw [← eR];exact oR i j
 clear oA oR H2 H3 eA eR
 go_enter Tryz.func101,Tryz.ntmps101
 go_wp2_with fail
 go_loopw [9,10] (fun u i wr=>∃ (k fu:Nat) (c:List Mt.Ins),a≤k∧k≤67∧b-k≤fu∧i=.int .i64 k∧zB wr 0 u c∧Mt.fit 70000300 c∧Below w.heap.size w wr∧Mt.yI A R l b (b-a) a []=Mt.yI A R l b fu k c) (fun _ i _=>100-(intOf i).toNat)
 case atStart=>exact ⟨a,b-a,[],Nat.le_refl _,by omega,Nat.le_refl _,rfl,zB.nil _ _,Mt.xZ (by omega),Below.refl _ _,rfl⟩
 case round =>
  obtain ⟨k,fu,c,hak,hk,hfu,rfl,hown,hfc,hbel,hr⟩:=hrel
  have HO:Hid (zB wr 0 u9 c):=hown
  have FC:Hid (Mt.fit 70000300 c):=hfc
  have HTr:Hid (toks wr v l):=jR HT.out hbel
  have hs0:=hbel.size
  clear hown hfc
  by_cases hlt:k<b
  ·obtain ⟨fu',rfl⟩:∃ fu',fu=fu'+1:=⟨fu-1,by omega⟩
   rw [zOb A R l b fu' k c hlt] at hr
   have hag:=Mt.zN7 l k
   have hal:=Mt.zN8 l k (by omega)
   by_cases hrep:Mt.after l k<b∧Mt.jW l (Mt.after l k)=8
   ·rw [if_pos hrep] at hr
    have HR:Hid (Mt.yI A R l b (b-a) a []=Mt.yI A R l b fu' (Mt.after l k+1) (Mt.behind c (R k (Mt.after l k)))):=hr
    have hj:=hrep.1
    have h8:Hid (Mt.jW l (Mt.after l k)=8):=hrep.2
    have G1:Hid (Mt.fit 70000300 (Mt.behind c (R k (Mt.after l k)))):=jJ (M:=70000000) FC.out (FR.out _ _)
    have hcell:Hid (∀ g cap,v=.slice (some ⟨g,0,none⟩) l.length cap→True):=fun _ _ _=>trivial
    rcases vR HTr.out with ⟨hn,_⟩ | ⟨hp,g,cap,rfl,hcap,hg,hc⟩
    ·rw [hn] at hb;simp at hb;omega
    ·have hc0:wr.cell? ⟨g,Mt.after l k*7,none⟩=some (.int .i64 8):=by
      have:=hc (Mt.after l k) 0 (by omega) (by omega)
      rw [Nat.add_zero] at this
      rw [this]
      have e8:(l.getD (Mt.after l k) Mt.kX).kind=8:=h8.out
      show some (Value.int .i64 (l.getD (Mt.after l k) Mt.kX).kind)=_
      rw [e8]
     clear hc hr hrep hcell
     go_wp2_with (first | (go_at_call 86;refine (zE2 l _ _ _ HTr.out hl (by omega)).mono ?_;rintro e w' ⟨rfl,rfl⟩) | fail)
     refine (K3.out k (Mt.after l k) _ HTr.out hak (by omega) hag (by omega) h8.out).mono ?_
     rintro e w1 ⟨v1,rfl,q1,hb1⟩
     have hB1:Below w.heap.size w w1:=hbel.trans (hb1.mono hs0)
     have hs1:=hB1.size
     have Q1:Hid (zB w1 0 v1 (R k (Mt.after l k))):=q1
     have HO1:Hid (zB w1 0 u9 c):=HO.out.below hb1
     clear q1 hb1 HO hbel hc0
     go_wp2_with fail
     refine (kD c _ _ _ _ HO1.out Q1.out (Mt.zJ FC.out (by omega)) (Mt.zJ (FR.out _ _) (by omega))).mono ?_
     rintro e w2 ⟨v2,rfl,q2,hb2⟩
     have hB2:Below w.heap.size w w2:=hB1.trans (hb2.mono hs1)
     have Q2:Hid (zB w2 0 v2 (Mt.behind c (R k (Mt.after l k)))):=q2
     clear q2 hb2 HO1 hB1
     go_wp2_with fail
     go_roundw
     case rel=>exact ⟨Mt.after l k+1,fu',_,by omega,by omega,by omega,by go_num,Q2.out,G1.out,hB2,HR.out⟩
     case measure=>simp [intOf];omega
   ·rw [if_neg hrep] at hr
    have HR:Hid (Mt.yI A R l b (b-a) a []=Mt.yI A R l b fu' (Mt.after l k) (Mt.behind c (A k (Mt.after l k)))):=hr
    have G1:Hid (Mt.fit 70000300 (Mt.behind c (A k (Mt.after l k)))):=jJ (M:=70000000) FC.out (FA.out _ _)
    by_cases hj:Mt.after l k<b
    ·have h8:¬ Mt.jW l (Mt.after l k)=8:=fun x=>hrep ⟨hj,x⟩
     rcases vR HTr.out with ⟨hn,_⟩ | ⟨hp,g,cap,rfl,hcap,hg,hc⟩
     ·rw [hn] at hb;simp at hb;omega
     have hc0:wr.cell? ⟨g,Mt.after l k*7,none⟩=some (.int .i64 (Mt.jW l (Mt.after l k))):=hc (Mt.after l k) 0 (by omega) (by omega)
     have h8':(Mt.jW l (Mt.after l k)==8)=false:=by simpa using h8
     clear hc hr hrep h8
     go_wp2_with (first | (go_at_call 86;refine (zE2 l _ _ _ HTr.out hl (by omega)).mono ?_;rintro e w' ⟨rfl,rfl⟩) | fail)
     refine (K2.out k (Mt.after l k) _ HTr.out hak (by omega) hag (by omega)).mono ?_
     rintro e w1 ⟨v1,rfl,q1,hb1⟩
     have hB1:Below w.heap.size w w1:=hbel.trans (hb1.mono hs0)
     have hs1:=hB1.size
     have Q1:Hid (zB w1 0 v1 (A k (Mt.after l k))):=q1
     have HO1:Hid (zB w1 0 u9 c):=HO.out.below hb1
     clear q1 hb1 HO hbel
     go_wp2_with fail
     refine (kD c _ _ _ _ HO1.out Q1.out (Mt.zJ FC.out (by omega)) (Mt.zJ (FA.out _ _) (by omega))).mono ?_
     rintro e w2 ⟨v2,rfl,q2,hb2⟩
     have hB2:Below w.heap.size w w2:=hB1.trans (hb2.mono hs1)
     have Q2:Hid (zB w2 0 v2 (Mt.behind c (A k (Mt.after l k)))):=q2
     clear q2 hb2 HO1 hB1
     go_wp2_with fail
     go_roundw
     case rel=>exact ⟨Mt.after l k,fu',_,by omega,by omega,by omega,by go_num,Q2.out,G1.out,hB2,HR.out⟩
     case measure=>simp [intOf];omega
    ·clear hr hrep
     go_wp2_with (first | (go_at_call 86;refine (zE2 l _ _ _ HTr.out hl (by omega)).mono ?_;rintro e w' ⟨rfl,rfl⟩) | fail)
     refine (K2.out k (Mt.after l k) _ HTr.out hak (by omega) hag (by omega)).mono ?_
     rintro e w1 ⟨v1,rfl,q1,hb1⟩
     have hB1:Below w.heap.size w w1:=hbel.trans (hb1.mono hs0)
     have hs1:=hB1.size
     have Q1:Hid (zB w1 0 v1 (A k (Mt.after l k))):=q1
     have HO1:Hid (zB w1 0 u9 c):=HO.out.below hb1
     clear q1 hb1 HO hbel
     go_wp2_with fail
     refine (kD c _ _ _ _ HO1.out Q1.out (Mt.zJ FC.out (by omega)) (Mt.zJ (FA.out _ _) (by omega))).mono ?_
     rintro e w2 ⟨v2,rfl,q2,hb2⟩
     have hB2:Below w.heap.size w w2:=hB1.trans (hb2.mono hs1)
     have Q2:Hid (zB w2 0 v2 (Mt.behind c (A k (Mt.after l k)))):=q2
     clear q2 hb2 HO1 hB1
     go_wp2_with fail
     go_roundw
     case rel=>exact ⟨Mt.after l k,fu',_,by omega,by omega,by omega,by go_num,Q2.out,G1.out,hB2,HR.out⟩
     case measure=>simp [intOf];omega
  ·have HR:Hid (Mt.yI A R l b (b-a) a []=c):=hr.trans (zPY A R l b fu k c (by omega))
   clear hr
   go_wp2_with fail
   go_ret
   exact ⟨_,rfl,by rw [HR.out];exact HO.out,hbel⟩
theorem zPE {w:World} {v:Value} {l:List Mt.Tok} (h:toks w v l) {i:Nat} (hi:i<l.length):∃ g cap,v=.slice (some ⟨g,0,none⟩) l.length cap∧l.length≤cap∧g<w.heap.size ∧
  w.cell? ⟨g,i*7,none⟩=some (.int .i64 (l.getD i Mt.kX).kind)∧w.cell? ⟨g,i*7+1,none⟩=some (.int .i64 (l.getD i Mt.kX).frm)∧w.cell? ⟨g,i*7+2,none⟩=some (.int .i64 (l.getD i Mt.kX).to) ∧
  w.cell? ⟨g,i*7+3,none⟩=some (.int .i64 (l.getD i Mt.kX).n)∧w.cell? ⟨g,i*7+4,none⟩=some (.int .i64 (l.getD i Mt.kX).m)∧w.cell? ⟨g,i*7+5,none⟩=some (.int .i64 (l.getD i Mt.kX).how) ∧
  w.cell? ⟨g,i*7+6,none⟩=some (.string ⟨(l.getD i Mt.kX).set.toArray⟩):=by
 rcases vR h with ⟨rfl,_⟩ | ⟨hp,g,cap,rfl,hcap,hg,hc⟩
 ·simp at hi
 ·exact ⟨g,cap,rfl,hcap,hg,hc i 0 hi (by omega),hc i 1 hi (by omega),hc i 2 hi (by omega),hc i 3 hi (by omega),hc i 4 hi (by omega),hc i 5 hi (by omega),hc i 6 hi (by omega)⟩
def zRj (t:Mt.Tok) (s:List Mt.Ins):List Mt.Ins :=
 if t.kind=1 then [⟨1,0,0,t.set⟩]
 else if t.kind=2 then [⟨8,t.n,0,[]⟩]
 else if t.kind=3 then [⟨9,0,0,[]⟩]
 else if t.kind=4 then [⟨10,0,0,[]⟩]
 else if t.how=3 then s
 else if t.how=4 then Mt.behind (Mt.behind [⟨6,t.n,0,[]⟩] s) [⟨7,t.n,0,[]⟩]
 else Mt.alone t.how s
theorem zOc (l:List Mt.Tok) (f a b:Nat) (d:Int):Mt.gen l (f+1) 2 a b d=zRj (l.getD a Mt.kX) (Mt.gen l f 0 (a+1) (b-1) d):=by
 simp only [Mt.gen];rfl
theorem zKM (l:List Mt.Tok) (f a b:Nat) (d:Int) :
  (((l.getD a Mt.kX).kind==1)=true∧Mt.gen l (f+1) 2 a b d=[⟨1,0,0,(l.getD a Mt.kX).set⟩]) ∨
  (((l.getD a Mt.kX).kind==1)=false∧((l.getD a Mt.kX).kind==2)=true∧Mt.gen l (f+1) 2 a b d=[⟨8,(l.getD a Mt.kX).n,0,[]⟩]) ∨
  (((l.getD a Mt.kX).kind==1)=false∧((l.getD a Mt.kX).kind==2)=false∧((l.getD a Mt.kX).kind==3)=true∧Mt.gen l (f+1) 2 a b d=[⟨9,0,0,[]⟩]) ∨
  (((l.getD a Mt.kX).kind==1)=false∧((l.getD a Mt.kX).kind==2)=false∧((l.getD a Mt.kX).kind==3)=false∧((l.getD a Mt.kX).kind==4)=true∧Mt.gen l (f+1) 2 a b d=[⟨10,0,0,[]⟩]) ∨
  ((
   (l.getD a Mt.kX).kind==1)=false∧((l.getD a Mt.kX).kind==2)=false∧((l.getD a Mt.kX).kind==3)=false∧((l.getD a Mt.kX).kind==4)=false ∧
   (
   (((l.getD a Mt.kX).how==3)=true∧Mt.gen l (f+1) 2 a b d=Mt.gen l f 0 (a+1) (b-1) d) ∨
   (((l.getD a Mt.kX).how==3)=false∧((l.getD a Mt.kX).how==4)=true∧Mt.gen l (f+1) 2 a b d=Mt.behind (Mt.behind [⟨6,(l.getD a Mt.kX).n,0,[]⟩] (Mt.gen l f 0 (a+1) (b-1) d)) [⟨7,(l.getD a Mt.kX).n,0,[]⟩]) ∨
   (((l.getD a Mt.kX).how==3)=false∧((l.getD a Mt.kX).how==4)=false∧Mt.gen l (f+1) 2 a b d=Mt.alone (l.getD a Mt.kX).how (Mt.gen l f 0 (a+1) (b-1) d)))):=by
 rw [zOc]
 generalize l.getD a Mt.kX=t
 generalize Mt.gen l f 0 (a+1) (b-1) d=s
 unfold zRj
 simp only [beq_iff_eq,beq_eq_false_iff_ne]
 by_cases h1:t.kind=1
 ·rw [if_pos h1];simp [h1]
 rw [if_neg h1]
 by_cases h2:t.kind=2
 ·rw [if_pos h2];simp [h2]
 rw [if_neg h2]
 by_cases h3:t.kind=3
 ·rw [if_pos h3];simp [h3]
 rw [if_neg h3]
 by_cases h4:t.kind=4
 ·rw [if_pos h4];simp [h4]
 rw [if_neg h4]
 by_cases h5:t.how=3
 ·rw [if_pos h5];simp [h1,h2,h3,h4,h5]
 rw [if_neg h5]
 by_cases h6:t.how=4
 ·rw [if_pos h6];simp [h1,h2,h3,h4,h6]
 rw [if_neg h6];simp [h1,h2,h3,h4,h5,h6]
theorem zL9 (l:List Mt.Tok) (hl:l.length≤64) (ho:Mt.zAs l) (f:Nat) (h0:S0 l f):S2 l (f+1):=by
 intro a b ai bi d v w hai hbi ht ha hab hb hf hd0 hd1
 subst hai hbi
 have HT:Hid (toks w v l):=ht
 have os:=zDm ho f 0 (a+1) (b-1) d hd0 (by omega)
 have tk:=Mt.zEE ho a
 have H0:=fun x:World=>h0 (a+1) (b-1) ((a:Int)+1) ((b:Int)-1) d v x (by omega) (by omega)
 have hcs:=zKM l f a b d
 obtain ⟨g,cap,rfl,hcap,hg,c0,c1,c2,c3,c4,c5,c6⟩:=zPE ht ha
 generalize hS:Mt.gen l f 0 (a+1) (b-1) d=s at *
 generalize hT:l.getD a Mt.kX=t at *
 generalize Mt.gen l (f+1) 2 a b d=G at *
 obtain ⟨t1,t2,t3,t4,t5,t6,t7⟩:=tk
 have ls:=os.1
 have K0:Hid (∀ x:World,toks x (.slice (some ⟨g,0,none⟩) l.length cap) l→Calls Tryz.prog 71 #[.slice (some ⟨g,0,none⟩) l.length cap,.int .i64 ((a:Int)+1),.int .i64 ((b:Int)-1),.int .i64 d] x fun e w'=>∃ v',e=.returned v'∧zB w' 0 v' s∧Below x.heap.size x w'):=fun x hx=>H0 x hx (by omega) (by omega) (by omega) hd0 (by omega)
 have FS:Hid (Mt.fit 70000000 s):=os
 clear hS hT H0 h0 ht os t7
 rcases hcs with ⟨a1,e⟩ | ⟨a1,a2,e⟩ | ⟨a1,a2,a3,e⟩ | ⟨a1,a2,a3,a4,e⟩ | ⟨a1,a2,a3,a4,⟨a5,e⟩ | ⟨a5,a6,e⟩ | ⟨a5,a6,e⟩⟩
 ·rw [e];clear e
  go_enter Tryz.func126,Tryz.ntmps126
  go_wp2_with fail
  go_ret
  exact ⟨_,rfl,zAr _ _ (by simp) ⟨1,0,0,t.set⟩,by go_grown⟩
 ·rw [e];clear e
  go_enter Tryz.func126,Tryz.ntmps126
  go_wp2_with fail
  go_ret
  exact ⟨_,rfl,zAr _ _ (by simp) ⟨8,t.n,0,[]⟩,by go_grown⟩
 ·rw [e];clear e
  go_enter Tryz.func126,Tryz.ntmps126
  go_wp2_with fail
  go_ret
  exact ⟨_,rfl,zAr _ _ (by simp) ⟨9,0,0,[]⟩,by go_grown⟩
 ·rw [e];clear e
  go_enter Tryz.func126,Tryz.ntmps126
  go_wp2_with fail
  go_ret
  exact ⟨_,rfl,zAr _ _ (by simp) ⟨10,0,0,[]⟩,by go_grown⟩
 ·rw [e];clear e
  go_enter Tryz.func126,Tryz.ntmps126
  go_wp2_with fail
  refine (K0.out _ (HT.out.alloc _)).mono ?_
  rintro e w1 ⟨v1,rfl,q1,hb1⟩
  obtain ⟨r0,r1,r2,r3⟩:=xO hb1
  clear hb1 c0 c1 c2 c3 c4 c5 c6
  go_wp2_with fail
  go_ret
  exact ⟨_,rfl,q1,r3⟩
 ·rw [e];clear e
  have g1:Mt.fit 70000010 [(⟨6,t.n,0,[]⟩:Mt.Ins)]:=Mt.zAU (yK _ _ _ _ (by omega) (by omega)) (by omega)
  have g2:=Mt.yJ g1 (Mt.zJ FS.out (show (70000000:Int)≤70000010 by omega))
  have F1:Hid (Mt.fit 900000000 [(⟨6,t.n,0,[]⟩:Mt.Ins)]):=Mt.zJ g1 (by omega)
  have F2:Hid (Mt.fit 900000000 (Mt.behind [(⟨6,t.n,0,[]⟩:Mt.Ins)] s)):=Mt.zJ g2 (by omega)
  have F3:Hid (Mt.fit 900000000 [(⟨7,t.n,0,[]⟩:Mt.Ins)]):=Mt.zAU (yK _ _ _ _ (by omega) (by omega)) (by omega)
  clear g1 g2
  go_enter Tryz.func126,Tryz.ntmps126
  go_wp2_with fail
  refine (K0.out _ (HT.out.alloc _)).mono ?_
  rintro e w1 ⟨v1,rfl,q1,hb1⟩
  obtain ⟨r0,r1,r2,r3⟩:=xO hb1
  have hs1:=r3.size
  have Q1:Hid (zB w1 0 v1 s):=q1
  clear hb1 c0 c1 c2 c3 c4 c5 c6 q1
  go_wp2_with fail
  refine (kD [⟨6,t.n,0,[]⟩] s _ _ _ (zAr w1 _ rfl _) (Q1.out.below (by go_grown)) F1.out (Mt.zJ FS.out (by omega))).mono ?_
  rintro e w2 ⟨v2,rfl,q2,hb2⟩
  have zNY:Below w1.heap.size w1 w2:=((Below.refl _ _).alloc (Nat.le_refl _) _).trans (hb2.mono (by simp))
  have hB2:Below w.heap.size w w2:=r3.trans (zNY.mono hs1)
  have hs2:=hB2.size
  have Q2:Hid (zB w2 0 v2 (Mt.behind [(⟨6,t.n,0,[]⟩:Mt.Ins)] s)):=q2
  have s0:=fun o=>(zNY.cell (p:=⟨w.heap.size,o,none⟩) r2).trans (r0 o)
  clear q2 hb2 zNY Q1 r3 r0 r1
  go_wp2_with fail
  refine (kD _ [⟨7,t.n,0,[]⟩] _ _ _ (Q2.out.below (by go_grown)) (zAr w2 _ rfl _) F2.out F3.out).mono ?_
  rintro e w3 ⟨v3,rfl,q3,hb3⟩
  have hB3:Below w.heap.size w w3:=(hB2.alloc hs2 _).trans (hb3.mono (by simp;omega))
  clear hb3 s0 hB2
  go_wp2_with fail
  go_ret
  exact ⟨_,rfl,q3,hB3⟩
 ·rw [e];clear e
  go_enter Tryz.func126,Tryz.ntmps126
  go_wp2_with fail
  refine (K0.out _ (HT.out.alloc _)).mono ?_
  rintro e w1 ⟨v1,rfl,q1,hb1⟩
  obtain ⟨r0,r1,r2,r3⟩:=xO hb1
  have hs1:=r3.size
  have Q1:Hid (zB w1 0 v1 s):=q1
  clear hb1 c0 c1 c2 c3 c4 c5 c6 q1
  go_wp2_with fail
  refine (zA9 t.how s _ _ Q1.out (Mt.zJ FS.out (by omega)) (by omega) (by omega)).mono ?_
  rintro e w2 ⟨v2,rfl,q2,hb2⟩
  have hB2:Below w.heap.size w w2:=r3.trans (hb2.mono hs1)
  clear hb2 r0 r1 r3
  go_wp2_with fail
  go_ret
  exact ⟨_,rfl,q2,hB2⟩
end Go.Proofs.YtebpgfodelggoaaGreat
