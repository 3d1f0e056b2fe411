import Derived.Test.YtebpgfodelggoaaDoorC02
set_option linter.unusedVariables false
set_option linter.unusedSimpArgs false
namespace Mt
def fit2 (L N:Int) (c:List Ins):Prop:=(c.length:Int)≤L∧∀ i∈c,fitI N i
theorem fit2_mono {L N L' N':Int} {c:List Ins} (h:fit2 L N c) (hL:L≤L') (hN:N≤N'):fit2 L' N' c:=⟨by have:=h.1;omega,fun i hi=>fitI_mono (h.2 i hi) hN⟩
theorem fit2_fit {L N M:Int} {c:List Ins} (h:fit2 L N c) (hL:L≤M) (hN:N≤M):fit M c:=⟨by have:=h.1;omega,fun i hi=>fitI_mono (h.2 i hi) hN⟩
theorem fit2_one {L N:Int} {i:Ins} (h:fitI N i) (h1:1≤L):fit2 L N [i]:=⟨by simpa using h1,fun j hj=>by simp at hj;rw [hj];exact h⟩
theorem fit2_nil {L N:Int} (h:0≤L):fit2 L N []:=⟨by simpa using h,fun j hj=>by simp at hj⟩
theorem fit2_split {L N:Int} (x y:Int) (late:Bool) (hx:-N≤x∧x≤N) (hy:-N≤y∧y≤N) (h1:1≤L):fit2 L N (splitC x y late):=by
 unfold splitC
 cases late
 ·exact fit2_one ⟨hx.1,hx.2,hy.1,hy.2⟩ h1
 ·exact fit2_one ⟨hy.1,hy.2,hx.1,hx.2⟩ h1
theorem fit2_same {L N:Int} {a b:List Ins} (ha:fit2 (L+300) (N+300) a) (hb:fit2 L N b):fit2 (L+300) (N+300) (behind a b):=by
 unfold behind
 by_cases h:300<a.length
 ·rw [if_pos h];exact ha
 ·rw [if_neg h]
  refine ⟨?_,fun i hi=>?_⟩
  ·rw [List.length_append,moved_len];have:=hb.1;omega
  ·rcases List.mem_append.1 hi with hi | hi
   ·exact ha.2 i hi
   ·unfold moved at hi
    obtain ⟨j,hj,rfl⟩:=List.mem_map.1 hi
    exact fitI_moved (hb.2 j hj) (by omega) (by omega)
theorem fit2_behind {L N:Int} {a b:List Ins} (ha:fit2 L N a) (hb:fit2 L N b):fit2 (L+300) (N+300) (behind a b) :=
 fit2_same (fit2_mono ha (by omega) (by omega)) hb
theorem fit2_alone {L N:Int} (s:Int) {c:List Ins} (hc:fit2 L N c) (hs:0≤s∧s≤10) (hN:L+2≤N) (h1:10≤L):fit2 (L+600) (N+600) (alone s c):=by
 have hl:=hc.1
 have h0:(0:Int)≤c.length:=by omega
 have g:=fit2_behind (fit2_one (L:=L) (N:=N) (i:=⟨11,s,(c.length:Int)+2,[]⟩) ⟨by simp only;omega,by simp only;omega,by simp only;omega,by simp only;omega⟩ (by omega)) hc
 have g2:=fit2_behind g (fit2_one (L:=L+300) (N:=N+300) (i:=⟨12,0,0,[]⟩) ⟨by simp only;omega,by simp only;omega,by simp only;omega,by simp only;omega⟩ (by omega))
 exact fit2_mono g2 (by omega) (by omega)
theorem fit2_loop {L N:Int} (d:Int) (late:Bool) {y:List Ins} (hy:fit2 L N y) (hd:0≤d∧d≤N) (hN:L+3≤N) (h1:10≤L):fit2 (L+900) (N+900) (loopC y d late):=by
 have hl:=hy.1
 have h0:(0:Int)≤y.length:=by omega
 have g1:=fit2_behind (fit2_split (L:=L) (N:=N) 1 ((y.length:Int)+3) late (by omega) (by omega) (by omega)) (fit2_one (L:=L) (N:=N) (i:=⟨4,d,0,[]⟩) ⟨by simp only;omega,by simp only;omega,by simp only;omega,by simp only;omega⟩ (by omega))
 have g2:=fit2_behind g1 (fit2_mono hy (show L≤L+300 by omega) (show N≤N+300 by omega))
 have g3:=fit2_behind g2 (fit2_one (L:=L+300+300) (N:=N+300+300) (i:=⟨5,-(y.length:Int)-2,d,[]⟩) ⟨by simp only;omega,by simp only;omega,by simp only;omega,by simp only;omega⟩ (by omega))
 exact fit2_mono g3 (by omega) (by omega)
theorem fit2_times {L N:Int} {x:List Ins} (hx:fit2 L N x):∀ (n:Nat) (c:List Ins),fit2 (L+300) (N+300) c→fit2 (L+300) (N+300) (timesFrom x n c)
 | 0,c,h=>h
 | n+1,c,h=>fit2_times hx n _ (fit2_same h hx)
theorem mul_bound (n:Nat) (k:Int) (hn:n<20) (hk:0≤k):0≤((n:Int)+1)*(k+1)∧((n:Int)+1)*(k+1)≤20*(k+1):=by
 refine ⟨Int.mul_nonneg (by omega) (by omega),?_⟩
 exact Int.mul_le_mul_of_nonneg_right (by omega) (by omega)
theorem fit2_upTo {L N:Int} {x:List Ins} (late:Bool) (hx:fit2 L N x) (hN:20*(L+1)≤N) (h1:10≤L):∀ (n:Nat) (c:List Ins),n≤20→fit2 (L+600) (N+600) c→fit2 (L+600) (N+600) (upToFrom x late n c)
 | 0,c,_,h=>h
 | n+1,c,hn,h=>by
  have hl:=hx.1
  have m:=mul_bound n (x.length:Int) (by omega) (by omega)
  have g:=fit2_behind (fit2_split (L:=L) (N:=N) 1 (((n:Int)+1)*((x.length:Int)+1)) late (by omega) (by omega) (by omega)) hx
  exact fit2_upTo late hx hN h1 n _ (by omega) (fit2_mono (fit2_same (L:=L+300) (N:=N+300) (fit2_mono h (by omega) (by omega)) g) (by omega) (by omega))
theorem fit2_seq {L N:Int} (at' rp:Nat→Nat→List Ins) (l:List Tok) (b:Nat) (h1:∀ i j,fit2 L N (at' i j)) (h2:∀ i j,fit2 L N (rp i j)):∀ (f i:Nat) (c:List Ins),fit2 (L+300) (N+300) c→fit2 (L+300) (N+300) (seqWith at' rp l b f i c)
 | 0,i,c,h=>h
 | f+1,i,c,h=>by
  simp only [seqWith]
  split
  ·exact h
  ·split
   ·exact fit2_seq at' rp l b h1 h2 f _ _ (fit2_same h (h2 _ _))
   ·exact fit2_seq at' rp l b h1 h2 f _ _ (fit2_same h (h1 _ _))
def tokOk (t:Tok):Prop:=0≤t.n∧t.n≤100∧-1≤t.m∧t.m≤20∧0≤t.how∧t.how≤4∧(t.kind=8→t.n≤20)
def toksOk (l:List Tok):Prop:=∀ t∈l,tokOk t
theorem tokOk_at {l:List Tok} (h:toksOk l) (k:Nat):tokOk (l.getD k tok0):=by
 rw [List.getD_eq_getElem?_getD]
 by_cases hk:k<l.length
 ·rw [List.getElem?_eq_getElem hk];exact h _ (List.getElem_mem hk)
 ·rw [List.getElem?_eq_none (by omega)];simp [tokOk,tok0]
theorem gen_fit (l:List Tok) (hl:toksOk l):∀ (f tag a b:Nat) (d:Int),0≤d→d+f≤1000→fit2 (2000*((f:Int)+1)) (60000*((f:Int)+1)) (gen l f tag a b d):=by
 intro f
 induction f with
 | zero=>intro tag a b d h0 h1;simp only [gen];exact fit2_nil (by omega)
 | succ f ih =>
  intro tag a b d h0 h1
  have I:=fun tag a b=>ih tag a b d h0 (by omega)
  have J:=fun tag a b=>ih tag a b (d+1) (by omega) (by omega)
  match tag with
  | 0 =>
   simp only [gen]
   split
   ·exact fit2_mono (I 1 a _) (by omega) (by omega)
   ·have hs:=I 1 a (bar l a b)
    have hr:=I 0 (bar l a b+1) b
    generalize gen l f 1 a (bar l a b) d=s at *
    generalize gen l f 0 (bar l a b+1) b d=r at *
    have ls:=hs.1
    have lr:=hr.1
    have g1:=fit2_behind (fit2_split (L:=2000*((f:Int)+1)) (N:=60000*((f:Int)+1)) 1 ((s.length:Int)+2) false (by omega) (by omega) (by omega)) hs
    have g2:=fit2_behind g1 (fit2_one (L:=2000*((f:Int)+1)+300) (N:=60000*((f:Int)+1)+300) (i:=⟨3,1+(r.length:Int),0,[]⟩) ⟨by simp only;omega,by simp only;omega,by simp only;omega,by simp only;omega⟩ (by omega))
    have g3:=fit2_behind g2 (fit2_mono hr (show _≤2000*((f:Int)+1)+300+300 by omega) (show _≤60000*((f:Int)+1)+300+300 by omega))
    exact fit2_mono g3 (by omega) (by omega)
  | 1 =>
   simp only [gen]
   exact fit2_mono (fit2_seq _ _ l b (fun i j=>I 2 i j) (fun i j=>I 3 i j) (b-a) a [] (fit2_nil (by omega))) (by omega) (by omega)
  | 2 =>
   simp only [gen]
   have hi:=I 0 (a+1) (b-1)
   have ht:=tokOk_at hl a
   generalize gen l f 0 (a+1) (b-1) d=s at *
   generalize l.getD a tok0=t at *
   obtain ⟨t1,t2,t3,t4,t5,t6,t7⟩:=ht
   split
   ·exact fit2_one ⟨by simp only;omega,by simp only;omega,by simp only;omega,by simp only;omega⟩ (by omega)
   split
   ·exact fit2_one ⟨by simp only;omega,by simp only;omega,by simp only;omega,by simp only;omega⟩ (by omega)
   split
   ·exact fit2_one ⟨by simp only;omega,by simp only;omega,by simp only;omega,by simp only;omega⟩ (by omega)
   split
   ·exact fit2_one ⟨by simp only;omega,by simp only;omega,by simp only;omega,by simp only;omega⟩ (by omega)
   split
   ·exact fit2_mono hi (by omega) (by omega)
   split
   ·have g1:=fit2_behind (fit2_one (L:=2000*((f:Int)+1)) (N:=60000*((f:Int)+1)) (i:=⟨6,t.n,0,[]⟩) ⟨by simp only;omega,by simp only;omega,by simp only;omega,by simp only;omega⟩ (by omega)) hi
    have g2:=fit2_behind g1 (fit2_one (L:=2000*((f:Int)+1)+300) (N:=60000*((f:Int)+1)+300) (i:=⟨7,t.n,0,[]⟩) ⟨by simp only;omega,by simp only;omega,by simp only;omega,by simp only;omega⟩ (by omega))
    exact fit2_mono g2 (by omega) (by omega)
   ·exact fit2_mono (fit2_alone t.how hi (by omega) (by omega) (by omega)) (by omega) (by omega)
  | n+3 =>
   simp only [gen]
   have hx:=I 2 a b
   have hy:=J 2 a b
   have ht:=tokOk_at hl b
   generalize gen l f 2 a b d=x at *
   generalize gen l f 2 a b (d+1)=y at *
   generalize l.getD b tok0=t at *
   obtain ⟨t1,t2,t3,t4,t5,t6,t7⟩:=ht
   have c1:fit2 (2000*((f:Int)+1)+900) (60000*((f:Int)+1)+900) (if 0<t.n∨0<t.m then (if t.n<t.m then behind (timesFrom x t.n.toNat []) (upTo x (t.m-t.n).toNat (decide (t.how=1))) else timesFrom x t.n.toNat []) else []):=by
    have k1:=fit2_times hx t.n.toNat [] (fit2_nil (by omega))
    split
    ·split
     ·have k2:=fit2_upTo (decide (t.how=1)) hx (by omega) (by omega) (t.m-t.n).toNat [] (by omega) (fit2_nil (by omega))
      exact fit2_mono (fit2_behind (fit2_mono k1 (show _≤2000*((f:Int)+1)+600 by omega) (show _≤60000*((f:Int)+1)+600 by omega)) k2) (by omega) (by omega)
     ·exact fit2_mono k1 (by omega) (by omega)
    ·exact fit2_nil (by omega)
   generalize (if 0<t.n∨0<t.m then (if t.n<t.m then behind (timesFrom x t.n.toNat []) (upTo x (t.m-t.n).toNat (decide (t.how=1))) else timesFrom x t.n.toNat []) else [])=c at *
   have c2:fit2 (2000*((f:Int)+1)+1200) (60000*((f:Int)+1)+1200) (if t.m<0 then behind c (loopC y d (decide (t.how=1))) else c):=by
    split
    ·exact fit2_mono (fit2_behind c1 (fit2_loop d (decide (t.how=1)) hy (by omega) (by omega) (by omega))) (by omega) (by omega)
    ·exact fit2_mono c1 (by omega) (by omega)
   split
   ·exact fit2_mono (fit2_alone 0 c2 (by omega) (by omega) (by omega)) (by omega) (by omega)
   ·exact fit2_mono c2 (by omega) (by omega)
theorem mood_how (p:ByteArray) (t:Int):0≤(mood p t).1∧(mood p t).1≤2:=by
 unfold mood
 split
 ·simp
 ·split <;> simp
theorem count_nm (p:ByteArray) (i:Int):0≤(count p i).1∧(count p i).1≤20∧-1≤(count p i).2.1∧(count p i).2.1≤20:=by
 have b1:=number_bd p (i+1)
 have b2:=number_bd p (i+1+(number p (i+1)).2+1)
 unfold count
 split
 ·simp
 ·split
  ·simp only;omega
  ·split
   ·simp
   ·split
    ·simp only;omega
    ·split
     ·simp
     ·simp only;omega
theorem repeat_ok (p:ByteArray) (i:Int):tokOk (repeatT p i).1:=by
 have m1:=mood_how p (i+1)
 have m2:=mood_how p (count p i).2.2.1
 have c:=count_nm p i
 unfold repeatT
 split
 ·simp only [tokOk];omega
 ·split
  ·simp only [tokOk];omega
  ·split
   ·split
    ·simp only [tokOk];omega
    ·simp [tokOk]
   ·simp only [tokOk];omega
theorem escape_ok (p:ByteArray) (i:Int):tokOk (escape p i).1:=by
 unfold escape
 split
 ·simp [tokOk]
 ·split
  ·simp [tokOk]
  ·split
   ·simp only [tokOk];omega
   ·simp [tokOk]
theorem opening_ok (p:ByteArray) (i:Int):tokOk (opening p i).1:=by
 unfold opening
 split
 ·simp [tokOk]
 ·split
  ·simp [tokOk]
  ·split
   ·simp [tokOk]
   ·split
    ·simp [tokOk]
    ·split <;> simp [tokOk]
theorem class_ok (p:ByteArray) (i:Int):tokOk (classT p i).1:=by
 unfold classT
 split <;> simp [tokOk]
theorem next_ok (p:ByteArray) (i:Int):tokOk (nextT p i).1:=by
 unfold nextT
 split
 ·simp [tokOk]
 split
 ·simp [tokOk]
 split
 ·simp [tokOk]
 split
 ·simp [tokOk]
 split
 ·exact escape_ok p i
 split
 ·exact class_ok p i
 split
 ·exact opening_ok p i
 split
 ·exact repeat_ok p i
 split
 ·simp [tokOk]
 ·simp [tokOk]
theorem joined_ok {l:List Tok} {t:Tok} (h:tokOk t) (hl:l.length≤64):tokOk (joined l t):=by
 unfold joined
 split
 ·rename_i hc
  have hk:t.kind=6:=by simp [isCap] at hc;exact hc.1
  have:=captures_bd l
  simp only [tokOk] at *
  omega
 ·exact h
theorem readOn_ok (p:ByteArray) (hp:p.size≤64):∀ (f:Nat) (l:List Tok) (i:Int),0≤i→i≤p.size→(p.size:Int)-i<f→toksOk l→(l.length:Int)≤i→toksOk (readOn p l i).1∧((readOn p l i).1.length:Int)≤p.size:=by
 intro f
 induction f with
 | zero=>intro l i h0 h1 h2;omega
 | succ f ih =>
  intro l i h0 h1 h2 hl hn
  rw [readOn_step p l i h0 h1]
  split
  ·exact ⟨hl,by simp only;omega⟩
  ·split
   ·exact ⟨by simp [toksOk],by simp⟩
   ·split
    ·exact ⟨by simp [toksOk],by simp⟩
    ·rename_i a b c
     have ht:=nextT_to p i h0 (by omega) (by omega)
     refine ih _ _ (by omega) (by omega) (by omega) ?_ ?_
     ·intro t hm
      rcases List.mem_append.1 hm with hm | hm
      ·exact hl t hm
      ·simp at hm;rw [hm];exact joined_ok (next_ok p i) (by omega)
     ·rw [List.length_append];simp;omega
theorem tokens_small (p:ByteArray):toksOk (tokens p).1∧(tokens p).1.length≤64:=by
 unfold tokens
 split
 ·exact ⟨by simp [toksOk],by simp⟩
 ·rename_i hp
  have h:=readOn_ok p (by omega) ((p.size:Int)+1).toNat [] 0 (by omega) (by omega) (by omega) (by simp [toksOk]) (by simp)
  rw [readOn_start p (by omega)]
  split
  ·exact ⟨h.1,by have:=h.2;omega⟩
  ·split
   ·exact ⟨by simp [toksOk],by simp⟩
   ·exact ⟨h.1,by have:=h.2;simp only;omega⟩
def checkR (p:ByteArray):Int × Int :=
 if (tokens p).2.1≠0 then (tokens p).2
 else if 300<(coded (tokens p).1).length then (12,0)
 else (0,0)
theorem tokens_place (p:ByteArray):0≤(tokens p).2.2∧True:=by
 refine ⟨?_,trivial⟩
 unfold tokens
 split
 ·simp
 ·rename_i hp
  rw [readOn_start p (by omega)]
  have key:∀ (f:Nat) (l:List Tok) (i:Int),0≤i→i≤p.size→(p.size:Int)-i<f→0≤(readOn p l i).2.2:=by
   intro f
   induction f with
   | zero=>intro l i h0 h1 h2;omega
   | succ f ih =>
    intro l i h0 h1 h2
    rw [readOn_step p l i h0 h1]
    split
    ·exact h0
    ·split
     ·exact h0
     ·split
      ·exact h0
      ·have ht:=nextT_to p i h0 (by omega) (by omega)
       exact ih _ _ (by omega) (by omega) (by omega)
  split
  ·exact key ((p.size:Int)+1).toNat [] 0 (by omega) (by omega) (by omega)
  ·split <;> simp
def codeR (p:ByteArray):List Ins × Int:=if (checkR p).1≠0 then ([],(checkR p).1) else (coded (tokens p).1,0)
def isLoop (p:Int) (i:Ins):Bool:=decide (i.op=5∧i.x+1<p)
def loopsTo (c:List Ins) (p k:Nat):Nat:=((c.drop p).take (k-p)).countP (isLoop p)
def loopsAt (c:List Ins) (p:Nat):Nat:=loopsTo c p c.length
theorem loopsTo_next (c:List Ins) (p k:Nat) (hp:p≤k) (hk:k<c.length):loopsTo c p (k+1)=loopsTo c p k+if isLoop p (c.getD k ins0) then 1 else 0:=by
 unfold loopsTo
 rw [show k+1-p=(k-p)+1 by omega,List.take_succ_eq_append_getElem (by rw [List.length_drop];omega),List.countP_append]
 have e:(c.drop p)[k-p]'(by rw [List.length_drop];omega)=c.getD k ins0:=by
  rw [List.getElem_drop,List.getD_eq_getElem?_getD,List.getElem?_eq_getElem hk]
  simp only [Option.getD_some]
  congr 1;omega
 rw [e]
 simp [List.countP_cons]
theorem loopsTo_start (c:List Ins) (p:Nat):loopsTo c p p=0:=by unfold loopsTo;simp
theorem loopsTo_le (c:List Ins) (p k:Nat):loopsTo c p k≤k:=by
 unfold loopsTo
 refine Nat.le_trans List.countP_le_length ?_
 rw [List.length_take];omega
theorem loopsAt_le (c:List Ins) (p:Nat):loopsAt c p≤c.length:=loopsTo_le _ _ _
theorem loopsAt_out (c:List Ins) (p:Nat) (h:c.length≤p):loopsAt c p=0:=by
 unfold loopsAt loopsTo;rw [List.drop_eq_nil_of_le h];simp
def weightTo (c:List Ins) (k:Nat):Nat:=((List.range k).map fun i=>1+loopsAt c i).sum
def weightC (c:List Ins):Nat:=weightTo c c.length
theorem weightTo_next (c:List Ins) (k:Nat):weightTo c (k+1)=weightTo c k+1+loopsAt c k:=by
 unfold weightTo
 rw [List.range_succ,List.map_append,List.sum_append]
 simp;omega
theorem weightTo_le (c:List Ins):∀ k,weightTo c k≤k*(c.length+1)
 | 0=>by simp [weightTo]
 | k+1=>by
  rw [weightTo_next]
  have:=weightTo_le c k
  have h2:=loopsAt_le c k
  rw [Nat.add_mul];omega
def weightR (p:ByteArray):Int × Int:=if (codeR p).2≠0 then (0,(codeR p).2) else ((weightC (codeR p).1:Int),0)
theorem coded_fit (p:ByteArray):fit 100000000 (coded (tokens p).1):=by
 have g:=gen_fit (tokens p).1 (tokens_small p).1 283 0 0 (tokens p).1.length 0 (by omega) (by omega)
 have g1:fit2 (2000*((283:Nat)+1:Int)) (60000*((283:Nat)+1:Int)) [(⟨13,0,0,[]⟩:Ins)]:=fit2_one ⟨by simp only;omega,by simp only;omega,by simp only;omega,by simp only;omega⟩ (by omega)
 exact fit2_fit (fit2_behind g g1) (by omega) (by omega)
theorem checkR_len (p:ByteArray) (h:(checkR p).1=0):(coded (tokens p).1).length≤300:=by
 unfold checkR at h
 split at h
 ·rename_i g;exact absurd h g
 ·split at h
  ·simp at h
  ·omega
theorem codeR_fit (p:ByteArray):fit 100000000 (codeR p).1∧(codeR p).1.length≤300:=by
 unfold codeR
 split
 ·exact ⟨fit_nil (by omega),by simp⟩
 ·rename_i h
  exact ⟨coded_fit p,checkR_len p (by simpa using h)⟩
def isOver (p:Int) (i:Ins):Bool:=decide (i.op=11∧p<i.y)
def inSub (c:List Ins) (p:Nat):Bool:=(c.take p).any (isOver p)
def leadsI (x:Ins) (q p:Int):Bool :=
 if x.op=2 then (x.x==p||x.y==p)
 else if x.op=3∨x.op=5 then x.x==p
 else if x.op=11 then x.y==p
 else if x.op=12∨x.op=13 then false
 else q+1==p
def leads (c:List Ins) (q:Nat) (p:Int):Bool:=leadsI (c.getD q ins0) q p
def isHead (p:Int) (i:Ins):Bool:=decide (i.op=5∧i.x=p)
def leadsTo (c:List Ins) (p:Int) (k:Nat):Nat:=(List.range k).countP fun q=>leads c q p
theorem leadsTo_next (c:List Ins) (p:Int) (k:Nat):leadsTo c p (k+1)=leadsTo c p k+if leads c k p then 1 else 0:=by
 unfold leadsTo;rw [List.range_succ,List.countP_append];simp [List.countP_cons]
theorem leadsTo_le (c:List Ins) (p:Int) (k:Nat):leadsTo c p k≤k:=by
 unfold leadsTo;refine Nat.le_trans List.countP_le_length ?_;simp
def bitOf (mask:Int) (k:Nat):Bool:=((mask/(2:Int) ^ k).tmod 2==1)
def picked (c:List Ins) (p:Nat) (policy mask:Int):Bool :=
 if policy=2∧c.any (isHead p)=true then true
 else if policy=1 then true
 else if policy=3 then decide (1<leadsTo c p c.length)
 else if policy=4 then bitOf mask (p % 32)
 else false
def hasBack (c:List Ins):Bool:=c.any fun i=>decide (i.op=8)
def chosenAt (c:List Ins) (policy mask:Int) (p:Nat):Bool:=if inSub c p then false else picked c p policy mask
def chosen (c:List Ins) (policy mask:Int):List Bool:=if hasBack c then List.replicate c.length false else (List.range c.length).map (chosenAt c policy mask)
def maySelect (policy mask:Int):Bool:=decide (0≤policy∧policy≤4∧0≤mask∧mask≤4294967295)
def numsTo (b:List Bool) (k:Nat):List Int:=((List.range k).filter fun i=>b.getD i false).map fun i:Nat=>(i:Int)
theorem numsTo_next (b:List Bool) (k:Nat):numsTo b (k+1)=numsTo b k++if b.getD k false then [(k:Int)] else []:=by
 unfold numsTo
 rw [List.range_succ,List.filter_append,List.map_append]
 congr 1
 rw [List.filter_cons]
 cases h:b.getD k false <;> simp
theorem numsTo_len (b:List Bool) (k:Nat):(numsTo b k).length≤k:=by
 unfold numsTo;rw [List.length_map];exact Nat.le_trans (List.length_filter_le _ _) (by simp)
def chosenR (p:ByteArray) (policy mask:Int):List Int × Int :=
 if (codeR p).2≠0 then ([],(codeR p).2)
 else if maySelect policy mask=false then ([],13)
 else (numsTo (chosen (codeR p).1 policy mask) (codeR p).1.length,0)
theorem any_take (c:List Ins) (f:Ins→Bool) (k:Nat) (h:k<c.length):(c.take (k+1)).any f=((c.take k).any f||f (c.getD k ins0)):=by
 rw [List.take_succ_eq_append_getElem h,List.any_append,List.getD_eq_getElem?_getD,List.getElem?_eq_getElem h];simp
theorem any_of_take (c:List Ins) (f:Ins→Bool) (k n:Nat) (h:k<n) (hn:n≤c.length) (hf:f (c.getD k ins0)=true):(c.take n).any f=true:=by
 rw [List.any_eq_true]
 refine ⟨c.getD k ins0,?_,hf⟩
 rw [List.getD_eq_getElem?_getD,List.getElem?_eq_getElem (by omega)]
 simp only [Option.getD_some]
 rw [List.mem_take_iff_getElem]
 exact ⟨k,by omega,rfl⟩
theorem chosen_len (c:List Ins) (policy mask:Int):(chosen c policy mask).length=c.length:=by
 unfold chosen;split <;> simp
abbrev Sta:=List Int
def gt (s:Sta) (i:Nat):Int:=s.getD i 0
def hasTo (p:ByteArray) (c:Int) (k:Nat):Bool:=(p.data.toList.take k).any fun b=>(b.toNat:Int)==c
def hasB (p:ByteArray) (c:Int):Bool:=p.data.toList.any fun b=>(b.toNat:Int)==c
theorem hasTo_next (p:ByteArray) (c:Int) (k:Nat) (h:k<p.size):hasTo p c (k+1)=(hasTo p c k||((p[k]'h).toNat:Int)==c):=by
 unfold hasTo
 have h':k<p.data.toList.length:=by simpa using h
 rw [List.take_succ_eq_append_getElem h',List.any_append]
 simp only [List.any_cons,List.any_nil,Bool.or_false]
 rfl
theorem hasTo_all (p:ByteArray) (c:Int):hasTo p c p.size=hasB p c:=by
 unfold hasTo hasB
 rw [List.take_of_length_le (by simp)]
theorem hasB_hit (p:ByteArray) (c:Int) (k:Nat) (h:k<p.size) (hc:(((p[k]'h).toNat:Int)==c)=true):hasB p c=true:=by
 unfold hasB
 rw [List.any_eq_true]
 refine ⟨p[k]'h,?_,hc⟩
 have h':k<p.data.toList.length:=by simpa using h
 exact List.getElem_mem h'
def levelTo (s:Sta) (k:Nat):Nat:=(List.range k).countP fun j=>gt s (32+j)==gt s 1
theorem levelTo_next (s:Sta) (k:Nat):levelTo s (k+1)=levelTo s k+if gt s (32+k)==gt s 1 then 1 else 0:=by
 unfold levelTo;rw [List.range_succ,List.countP_append];simp [List.countP_cons]
theorem levelTo_le (s:Sta) (k:Nat):levelTo s k≤k:=by
 unfold levelTo;refine Nat.le_trans List.countP_le_length ?_;simp
def lev (s:Sta) (a:Nat):Nat:=levelTo s (min a 12)
theorem lev_le (s:Sta) (a:Nat):lev s a≤12∧lev s a≤a:=by
 have:=levelTo_le s (min a 12)
 unfold lev;omega
def keyOf (s:Sta) (pc pos T a:Nat):Nat:=(pc*(T+1)+pos)*12+lev s a
def deadKn (kn:List Bool) (room:Int) (i:Nat):List Bool:=if kn.getD i false=true then kn else if 0<room then kn.set i true else kn
def deadRoom (kn:List Bool) (room:Int) (i:Nat):Int:=if kn.getD i false=true then room else if 0<room then room-1 else room
end Mt
