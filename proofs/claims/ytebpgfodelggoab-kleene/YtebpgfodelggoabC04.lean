import Derived.Test.YtebpgfodelggoabC00
set_option linter.unusedVariables false
set_option linter.unusedSimpArgs false
namespace Mt
def fit2 (L N:Int) (c:List Ins):Prop:=(c.length:Int)≤L∧∀ i∈c,fitI N i
theorem fit2_mono {L N L' N':Int} {c:List Ins} (h:fit2 L N c) (hL:L≤L') (hN:N≤N'):fit2 L' N' c:=⟨by have:=h.1;omega,fun i hi=>fitI_mono (h.2 i hi) hN⟩
theorem fit2_fit {L N M:Int} {c:List Ins} (h:fit2 L N c) (hL:L≤M) (hN:N≤M):fit M c:=⟨by have:=h.1;omega,fun i hi=>fitI_mono (h.2 i hi) hN⟩
theorem fit2_one {L N:Int} {i:Ins} (h:fitI N i) (h1:1≤L):fit2 L N [i]:=⟨by simpa using h1,fun j hj=>by simp at hj;rw [hj];exact h⟩
theorem fit2_nil {L N:Int} (h:0≤L):fit2 L N []:=⟨by simpa using h,fun j hj=>by simp at hj⟩
theorem fit2_split {L N:Int} (x y:Int) (late:Bool) (hx:-N≤x∧x≤N) (hy:-N≤y∧y≤N) (h1:1≤L):fit2 L N (splitC x y late):=by
 unfold splitC
 cases late
 ·exact fit2_one ⟨hx.1,hx.2,hy.1,hy.2⟩ h1
 ·exact fit2_one ⟨hy.1,hy.2,hx.1,hx.2⟩ h1
theorem fit2_same {L N:Int} {a b:List Ins} (ha:fit2 (L+300) (N+300) a) (hb:fit2 L N b):fit2 (L+300) (N+300) (behind a b):=by
 unfold behind
 by_cases h:300<a.length
 ·rw [if_pos h];exact ha
 ·rw [if_neg h]
  refine ⟨?_,fun i hi=>?_⟩
  ·rw [List.length_append,moved_len];have:=hb.1;omega
  ·rcases List.mem_append.1 hi with hi | hi
   ·exact ha.2 i hi
   ·unfold moved at hi
    obtain ⟨j,hj,rfl⟩:=List.mem_map.1 hi
    exact fitI_moved (hb.2 j hj) (by omega) (by omega)
theorem fit2_behind {L N:Int} {a b:List Ins} (ha:fit2 L N a) (hb:fit2 L N b):fit2 (L+300) (N+300) (behind a b) :=
 fit2_same (fit2_mono ha (by omega) (by omega)) hb
theorem fit2_alone {L N:Int} (s:Int) {c:List Ins} (hc:fit2 L N c) (hs:0≤s∧s≤10) (hN:L+2≤N) (h1:10≤L):fit2 (L+600) (N+600) (alone s c):=by
 have hl:=hc.1
 have h0:(0:Int)≤c.length:=by omega
 have g:=fit2_behind (fit2_one (L:=L) (N:=N) (i:=⟨11,s,(c.length:Int)+2,[]⟩) ⟨by simp only;omega,by simp only;omega,by simp only;omega,by simp only;omega⟩ (by omega)) hc
 have g2:=fit2_behind g (fit2_one (L:=L+300) (N:=N+300) (i:=⟨12,0,0,[]⟩) ⟨by simp only;omega,by simp only;omega,by simp only;omega,by simp only;omega⟩ (by omega))
 exact fit2_mono g2 (by omega) (by omega)
theorem fit2_loop {L N:Int} (d:Int) (late:Bool) {y:List Ins} (hy:fit2 L N y) (hd:0≤d∧d≤N) (hN:L+3≤N) (h1:10≤L):fit2 (L+900) (N+900) (loopC y d late):=by
 have hl:=hy.1
 have h0:(0:Int)≤y.length:=by omega
 have g1:=fit2_behind (fit2_split (L:=L) (N:=N) 1 ((y.length:Int)+3) late (by omega) (by omega) (by omega)) (fit2_one (L:=L) (N:=N) (i:=⟨4,d,0,[]⟩) ⟨by simp only;omega,by simp only;omega,by simp only;omega,by simp only;omega⟩ (by omega))
 have g2:=fit2_behind g1 (fit2_mono hy (show L≤L+300 by omega) (show N≤N+300 by omega))
 have g3:=fit2_behind g2 (fit2_one (L:=L+300+300) (N:=N+300+300) (i:=⟨5,-(y.length:Int)-2,d,[]⟩) ⟨by simp only;omega,by simp only;omega,by simp only;omega,by simp only;omega⟩ (by omega))
 exact fit2_mono g3 (by omega) (by omega)
theorem fit2_times {L N:Int} {x:List Ins} (hx:fit2 L N x):∀ (n:Nat) (c:List Ins),fit2 (L+300) (N+300) c→fit2 (L+300) (N+300) (timesFrom x n c)
 | 0,c,h=>h
 | n+1,c,h=>fit2_times hx n _ (fit2_same h hx)
theorem mul_bound (n:Nat) (k:Int) (hn:n<20) (hk:0≤k):0≤((n:Int)+1)*(k+1)∧((n:Int)+1)*(k+1)≤20*(k+1):=by
 refine ⟨Int.mul_nonneg (by omega) (by omega),?_⟩
 exact Int.mul_le_mul_of_nonneg_right (by omega) (by omega)
theorem fit2_upTo {L N:Int} {x:List Ins} (late:Bool) (hx:fit2 L N x) (hN:20*(L+1)≤N) (h1:10≤L):∀ (n:Nat) (c:List Ins),n≤20→fit2 (L+600) (N+600) c→fit2 (L+600) (N+600) (upToFrom x late n c)
 | 0,c,_,h=>h
 | n+1,c,hn,h=>by
  have hl:=hx.1
  have m:=mul_bound n (x.length:Int) (by omega) (by omega)
  have g:=fit2_behind (fit2_split (L:=L) (N:=N) 1 (((n:Int)+1)*((x.length:Int)+1)) late (by omega) (by omega) (by omega)) hx
  exact fit2_upTo late hx hN h1 n _ (by omega) (fit2_mono (fit2_same (L:=L+300) (N:=N+300) (fit2_mono h (by omega) (by omega)) g) (by omega) (by omega))
theorem fit2_seq {L N:Int} (at' rp:Nat→Nat→List Ins) (l:List Tok) (b:Nat) (h1:∀ i j,fit2 L N (at' i j)) (h2:∀ i j,fit2 L N (rp i j)):∀ (f i:Nat) (c:List Ins),fit2 (L+300) (N+300) c→fit2 (L+300) (N+300) (seqWith at' rp l b f i c)
 | 0,i,c,h=>h
 | f+1,i,c,h=>by
  simp only [seqWith]
  split
  ·exact h
  ·split
   ·exact fit2_seq at' rp l b h1 h2 f _ _ (fit2_same h (h2 _ _))
   ·exact fit2_seq at' rp l b h1 h2 f _ _ (fit2_same h (h1 _ _))
def tokOk (t:Tok):Prop:=0≤t.n∧t.n≤100∧-1≤t.m∧t.m≤20∧0≤t.how∧t.how≤4∧(t.kind=8→t.n≤20)
def toksOk (l:List Tok):Prop:=∀ t∈l,tokOk t
theorem tokOk_at {l:List Tok} (h:toksOk l) (k:Nat):tokOk (l.getD k tok0):=by
 rw [List.getD_eq_getElem?_getD]
 by_cases hk:k<l.length
 ·rw [List.getElem?_eq_getElem hk];exact h _ (List.getElem_mem hk)
 ·rw [List.getElem?_eq_none (by omega)];simp [tokOk,tok0]
theorem gen_fit (l:List Tok) (hl:toksOk l):∀ (f tag a b:Nat) (d:Int),0≤d→d+f≤1000→fit2 (2000*((f:Int)+1)) (60000*((f:Int)+1)) (gen l f tag a b d):=by
 intro f
 induction f with
 | zero=>intro tag a b d h0 h1;simp only [gen];exact fit2_nil (by omega)
 | succ f ih =>
  intro tag a b d h0 h1
  have I:=fun tag a b=>ih tag a b d h0 (by omega)
  have J:=fun tag a b=>ih tag a b (d+1) (by omega) (by omega)
  match tag with
  | 0 =>
   simp only [gen]
   split
   ·exact fit2_mono (I 1 a _) (by omega) (by omega)
   ·have hs:=I 1 a (bar l a b)
    have hr:=I 0 (bar l a b+1) b
    generalize gen l f 1 a (bar l a b) d=s at *
    generalize gen l f 0 (bar l a b+1) b d=r at *
    have ls:=hs.1
    have lr:=hr.1
    have g1:=fit2_behind (fit2_split (L:=2000*((f:Int)+1)) (N:=60000*((f:Int)+1)) 1 ((s.length:Int)+2) false (by omega) (by omega) (by omega)) hs
    have g2:=fit2_behind g1 (fit2_one (L:=2000*((f:Int)+1)+300) (N:=60000*((f:Int)+1)+300) (i:=⟨3,1+(r.length:Int),0,[]⟩) ⟨by simp only;omega,by simp only;omega,by simp only;omega,by simp only;omega⟩ (by omega))
    have g3:=fit2_behind g2 (fit2_mono hr (show _≤2000*((f:Int)+1)+300+300 by omega) (show _≤60000*((f:Int)+1)+300+300 by omega))
    exact fit2_mono g3 (by omega) (by omega)
  | 1 =>
   simp only [gen]
   exact fit2_mono (fit2_seq _ _ l b (fun i j=>I 2 i j) (fun i j=>I 3 i j) (b-a) a [] (fit2_nil (by omega))) (by omega) (by omega)
  | 2 =>
   simp only [gen]
   have hi:=I 0 (a+1) (b-1)
   have ht:=tokOk_at hl a
   generalize gen l f 0 (a+1) (b-1) d=s at *
   generalize l.getD a tok0=t at *
   obtain ⟨t1,t2,t3,t4,t5,t6,t7⟩:=ht
   split
   ·exact fit2_one ⟨by simp only;omega,by simp only;omega,by simp only;omega,by simp only;omega⟩ (by omega)
   split
   ·exact fit2_one ⟨by simp only;omega,by simp only;omega,by simp only;omega,by simp only;omega⟩ (by omega)
   split
   ·exact fit2_one ⟨by simp only;omega,by simp only;omega,by simp only;omega,by simp only;omega⟩ (by omega)
   split
   ·exact fit2_one ⟨by simp only;omega,by simp only;omega,by simp only;omega,by simp only;omega⟩ (by omega)
   split
   ·exact fit2_mono hi (by omega) (by omega)
   split
   ·have g1:=fit2_behind (fit2_one (L:=2000*((f:Int)+1)) (N:=60000*((f:Int)+1)) (i:=⟨6,t.n,0,[]⟩) ⟨by simp only;omega,by simp only;omega,by simp only;omega,by simp only;omega⟩ (by omega)) hi
    have g2:=fit2_behind g1 (fit2_one (L:=2000*((f:Int)+1)+300) (N:=60000*((f:Int)+1)+300) (i:=⟨7,t.n,0,[]⟩) ⟨by simp only;omega,by simp only;omega,by simp only;omega,by simp only;omega⟩ (by omega))
    exact fit2_mono g2 (by omega) (by omega)
   ·exact fit2_mono (fit2_alone t.how hi (by omega) (by omega) (by omega)) (by omega) (by omega)
  | n+3 =>
   simp only [gen]
   have hx:=I 2 a b
   have hy:=J 2 a b
   have ht:=tokOk_at hl b
   generalize gen l f 2 a b d=x at *
   generalize gen l f 2 a b (d+1)=y at *
   generalize l.getD b tok0=t at *
   obtain ⟨t1,t2,t3,t4,t5,t6,t7⟩:=ht
   have c1:fit2 (2000*((f:Int)+1)+900) (60000*((f:Int)+1)+900) (if 0<t.n∨0<t.m then (if t.n<t.m then behind (timesFrom x t.n.toNat []) (upTo x (t.m-t.n).toNat (decide (t.how=1))) else timesFrom x t.n.toNat []) else []):=by
    have k1:=fit2_times hx t.n.toNat [] (fit2_nil (by omega))
    split
    ·split
     ·have k2:=fit2_upTo (decide (t.how=1)) hx (by omega) (by omega) (t.m-t.n).toNat [] (by omega) (fit2_nil (by omega))
      exact fit2_mono (fit2_behind (fit2_mono k1 (show _≤2000*((f:Int)+1)+600 by omega) (show _≤60000*((f:Int)+1)+600 by omega)) k2) (by omega) (by omega)
     ·exact fit2_mono k1 (by omega) (by omega)
    ·exact fit2_nil (by omega)
   generalize (if 0<t.n∨0<t.m then (if t.n<t.m then behind (timesFrom x t.n.toNat []) (upTo x (t.m-t.n).toNat (decide (t.how=1))) else timesFrom x t.n.toNat []) else [])=c at *
   have c2:fit2 (2000*((f:Int)+1)+1200) (60000*((f:Int)+1)+1200) (if t.m<0 then behind c (loopC y d (decide (t.how=1))) else c):=by
    split
    ·exact fit2_mono (fit2_behind c1 (fit2_loop d (decide (t.how=1)) hy (by omega) (by omega) (by omega))) (by omega) (by omega)
    ·exact fit2_mono c1 (by omega) (by omega)
   split
   ·exact fit2_mono (fit2_alone 0 c2 (by omega) (by omega) (by omega)) (by omega) (by omega)
   ·exact fit2_mono c2 (by omega) (by omega)
theorem mood_how (p:ByteArray) (t:Int):0≤(mood p t).1∧(mood p t).1≤2:=by
 unfold mood
 split
 ·simp
 ·split <;> simp
theorem count_nm (p:ByteArray) (i:Int):0≤(count p i).1∧(count p i).1≤20∧-1≤(count p i).2.1∧(count p i).2.1≤20:=by
 have b1:=number_bd p (i+1)
 have b2:=number_bd p (i+1+(number p (i+1)).2+1)
 unfold count
 split
 ·simp
 ·split
  ·simp only;omega
  ·split
   ·simp
   ·split
    ·simp only;omega
    ·split
     ·simp
     ·simp only;omega
theorem repeat_ok (p:ByteArray) (i:Int):tokOk (repeatT p i).1:=by
 have m1:=mood_how p (i+1)
 have m2:=mood_how p (count p i).2.2.1
 have c:=count_nm p i
 unfold repeatT
 split
 ·simp only [tokOk];omega
 ·split
  ·simp only [tokOk];omega
  ·split
   ·split
    ·simp only [tokOk];omega
    ·simp [tokOk]
   ·simp only [tokOk];omega
theorem escape_ok (p:ByteArray) (i:Int):tokOk (escape p i).1:=by
 unfold escape
 split
 ·simp [tokOk]
 ·split
  ·simp [tokOk]
  ·split
   ·simp only [tokOk];omega
   ·simp [tokOk]
theorem opening_ok (p:ByteArray) (i:Int):tokOk (opening p i).1:=by
 unfold opening
 split
 ·simp [tokOk]
 ·split
  ·simp [tokOk]
  ·split
   ·simp [tokOk]
   ·split
    ·simp [tokOk]
    ·split <;> simp [tokOk]
theorem class_ok (p:ByteArray) (i:Int):tokOk (classT p i).1:=by
 unfold classT
 split <;> simp [tokOk]
theorem next_ok (p:ByteArray) (i:Int):tokOk (nextT p i).1:=by
 unfold nextT
 split
 ·simp [tokOk]
 split
 ·simp [tokOk]
 split
 ·simp [tokOk]
 split
 ·simp [tokOk]
 split
 ·exact escape_ok p i
 split
 ·exact class_ok p i
 split
 ·exact opening_ok p i
 split
 ·exact repeat_ok p i
 split
 ·simp [tokOk]
 ·simp [tokOk]
theorem joined_ok {l:List Tok} {t:Tok} (h:tokOk t) (hl:l.length≤64):tokOk (joined l t):=by
 unfold joined
 split
 ·rename_i hc
  have hk:t.kind=6:=by simp [isCap] at hc;exact hc.1
  have:=captures_bd l
  simp only [tokOk] at *
  omega
 ·exact h
theorem readOn_ok (p:ByteArray) (hp:p.size≤64):∀ (f:Nat) (l:List Tok) (i:Int),0≤i→i≤p.size→(p.size:Int)-i<f→toksOk l→(l.length:Int)≤i→toksOk (readOn p l i).1∧((readOn p l i).1.length:Int)≤p.size:=by
 intro f
 induction f with
 | zero=>intro l i h0 h1 h2;omega
 | succ f ih =>
  intro l i h0 h1 h2 hl hn
  rw [readOn_step p l i h0 h1]
  split
  ·exact ⟨hl,by simp only;omega⟩
  ·split
   ·exact ⟨by simp [toksOk],by simp⟩
   ·split
    ·exact ⟨by simp [toksOk],by simp⟩
    ·rename_i a b c
     have ht:=nextT_to p i h0 (by omega) (by omega)
     refine ih _ _ (by omega) (by omega) (by omega) ?_ ?_
     ·intro t hm
      rcases List.mem_append.1 hm with hm | hm
      ·exact hl t hm
      ·simp at hm;rw [hm];exact joined_ok (next_ok p i) (by omega)
     ·rw [List.length_append];simp;omega
theorem tokens_small (p:ByteArray):toksOk (tokens p).1∧(tokens p).1.length≤64:=by
 unfold tokens
 split
 ·exact ⟨by simp [toksOk],by simp⟩
 ·rename_i hp
  have h:=readOn_ok p (by omega) ((p.size:Int)+1).toNat [] 0 (by omega) (by omega) (by omega) (by simp [toksOk]) (by simp)
  rw [readOn_start p (by omega)]
  split
  ·exact ⟨h.1,by have:=h.2;omega⟩
  ·split
   ·exact ⟨by simp [toksOk],by simp⟩
   ·exact ⟨h.1,by have:=h.2;simp only;omega⟩
def checkR (p:ByteArray):Int × Int :=
 if (tokens p).2.1≠0 then (tokens p).2
 else if 300<(coded (tokens p).1).length then (12,0)
 else (0,0)
def codeR (p:ByteArray):List Ins × Int:=if (checkR p).1≠0 then ([],(checkR p).1) else (coded (tokens p).1,0)
def isLoop (p:Int) (i:Ins):Bool:=decide (i.op=5∧i.x+1<p)
def loopsTo (c:List Ins) (p k:Nat):Nat:=((c.drop p).take (k-p)).countP (isLoop p)
def loopsAt (c:List Ins) (p:Nat):Nat:=loopsTo c p c.length
theorem loopsTo_le (c:List Ins) (p k:Nat):loopsTo c p k≤k:=by
 unfold loopsTo
 refine Nat.le_trans List.countP_le_length ?_
 rw [List.length_take];omega
theorem loopsAt_le (c:List Ins) (p:Nat):loopsAt c p≤c.length:=loopsTo_le _ _ _
def weightTo (c:List Ins) (k:Nat):Nat:=((List.range k).map fun i=>1+loopsAt c i).sum
def weightC (c:List Ins):Nat:=weightTo c c.length
def weightR (p:ByteArray):Int × Int:=if (codeR p).2≠0 then (0,(codeR p).2) else ((weightC (codeR p).1:Int),0)
theorem coded_fit (p:ByteArray):fit 100000000 (coded (tokens p).1):=by
 have g:=gen_fit (tokens p).1 (tokens_small p).1 283 0 0 (tokens p).1.length 0 (by omega) (by omega)
 have g1:fit2 (2000*((283:Nat)+1:Int)) (60000*((283:Nat)+1:Int)) [(⟨13,0,0,[]⟩:Ins)]:=fit2_one ⟨by simp only;omega,by simp only;omega,by simp only;omega,by simp only;omega⟩ (by omega)
 exact fit2_fit (fit2_behind g g1) (by omega) (by omega)
theorem checkR_len (p:ByteArray) (h:(checkR p).1=0):(coded (tokens p).1).length≤300:=by
 unfold checkR at h
 split at h
 ·rename_i g;exact absurd h g
 ·split at h
  ·simp at h
  ·omega
theorem codeR_fit (p:ByteArray):fit 100000000 (codeR p).1∧(codeR p).1.length≤300:=by
 unfold codeR
 split
 ·exact ⟨fit_nil (by omega),by simp⟩
 ·rename_i h
  exact ⟨coded_fit p,checkR_len p (by simpa using h)⟩
def isOver (p:Int) (i:Ins):Bool:=decide (i.op=11∧p<i.y)
def inSub (c:List Ins) (p:Nat):Bool:=(c.take p).any (isOver p)
def leadsI (x:Ins) (q p:Int):Bool :=
 if x.op=2 then (x.x==p||x.y==p)
 else if x.op=3∨x.op=5 then x.x==p
 else if x.op=11 then x.y==p
 else if x.op=12∨x.op=13 then false
 else q+1==p
def leads (c:List Ins) (q:Nat) (p:Int):Bool:=leadsI (c.getD q ins0) q p
def isHead (p:Int) (i:Ins):Bool:=decide (i.op=5∧i.x=p)
def leadsTo (c:List Ins) (p:Int) (k:Nat):Nat:=(List.range k).countP fun q=>leads c q p
theorem leadsTo_next (c:List Ins) (p:Int) (k:Nat):leadsTo c p (k+1)=leadsTo c p k+if leads c k p then 1 else 0:=by
 unfold leadsTo;rw [List.range_succ,List.countP_append];simp [List.countP_cons]
theorem leadsTo_le (c:List Ins) (p:Int) (k:Nat):leadsTo c p k≤k:=by
 unfold leadsTo;refine Nat.le_trans List.countP_le_length ?_;simp
def bitOf (mask:Int) (k:Nat):Bool:=((mask/(2:Int) ^ k).tmod 2==1)
def picked (c:List Ins) (p:Nat) (policy mask:Int):Bool :=
 if policy=2∧c.any (isHead p)=true then true
 else if policy=1 then true
 else if policy=3 then decide (1<leadsTo c p c.length)
 else if policy=4 then bitOf mask (p % 32)
 else false
def hasBack (c:List Ins):Bool:=c.any fun i=>decide (i.op=8)
def chosenAt (c:List Ins) (policy mask:Int) (p:Nat):Bool:=if inSub c p then false else picked c p policy mask
def chosen (c:List Ins) (policy mask:Int):List Bool:=if hasBack c then List.replicate c.length false else (List.range c.length).map (chosenAt c policy mask)
def maySelect (policy mask:Int):Bool:=decide (0≤policy∧policy≤4∧0≤mask∧mask≤4294967295)
def numsTo (b:List Bool) (k:Nat):List Int:=((List.range k).filter fun i=>b.getD i false).map fun i:Nat=>(i:Int)
theorem numsTo_next (b:List Bool) (k:Nat):numsTo b (k+1)=numsTo b k++if b.getD k false then [(k:Int)] else []:=by
 unfold numsTo
 rw [List.range_succ,List.filter_append,List.map_append]
 congr 1
 rw [List.filter_cons]
 cases h:b.getD k false <;> simp
theorem numsTo_len (b:List Bool) (k:Nat):(numsTo b k).length≤k:=by
 unfold numsTo;rw [List.length_map];exact Nat.le_trans (List.length_filter_le _ _) (by simp)
def chosenR (p:ByteArray) (policy mask:Int):List Int × Int :=
 if (codeR p).2≠0 then ([],(codeR p).2)
 else if maySelect policy mask=false then ([],13)
 else (numsTo (chosen (codeR p).1 policy mask) (codeR p).1.length,0)
theorem any_take (c:List Ins) (f:Ins→Bool) (k:Nat) (h:k<c.length):(c.take (k+1)).any f=((c.take k).any f||f (c.getD k ins0)):=by
 rw [List.take_succ_eq_append_getElem h,List.any_append,List.getD_eq_getElem?_getD,List.getElem?_eq_getElem h];simp
theorem any_of_take (c:List Ins) (f:Ins→Bool) (k n:Nat) (h:k<n) (hn:n≤c.length) (hf:f (c.getD k ins0)=true):(c.take n).any f=true:=by
 rw [List.any_eq_true]
 refine ⟨c.getD k ins0,?_,hf⟩
 rw [List.getD_eq_getElem?_getD,List.getElem?_eq_getElem (by omega)]
 simp only [Option.getD_some]
 rw [List.mem_take_iff_getElem]
 exact ⟨k,by omega,rfl⟩
abbrev Sta:=List Int
def gt (s:Sta) (i:Nat):Int:=s.getD i 0
def hasTo (p:ByteArray) (c:Int) (k:Nat):Bool:=(p.data.toList.take k).any fun b=>(b.toNat:Int)==c
def hasB (p:ByteArray) (c:Int):Bool:=p.data.toList.any fun b=>(b.toNat:Int)==c
theorem hasTo_next (p:ByteArray) (c:Int) (k:Nat) (h:k<p.size):hasTo p c (k+1)=(hasTo p c k||((p[k]'h).toNat:Int)==c):=by
 unfold hasTo
 have h':k<p.data.toList.length:=by simpa using h
 rw [List.take_succ_eq_append_getElem h',List.any_append]
 simp only [List.any_cons,List.any_nil,Bool.or_false]
 rfl
theorem hasTo_all (p:ByteArray) (c:Int):hasTo p c p.size=hasB p c:=by
 unfold hasTo hasB
 rw [List.take_of_length_le (by simp)]
theorem hasB_hit (p:ByteArray) (c:Int) (k:Nat) (h:k<p.size) (hc:(((p[k]'h).toNat:Int)==c)=true):hasB p c=true:=by
 unfold hasB
 rw [List.any_eq_true]
 refine ⟨p[k]'h,?_,hc⟩
 have h':k<p.data.toList.length:=by simpa using h
 exact List.getElem_mem h'
def levelTo (s:Sta) (k:Nat):Nat:=(List.range k).countP fun j=>gt s (32+j)==gt s 1
theorem levelTo_next (s:Sta) (k:Nat):levelTo s (k+1)=levelTo s k+if gt s (32+k)==gt s 1 then 1 else 0:=by
 unfold levelTo;rw [List.range_succ,List.countP_append];simp [List.countP_cons]
theorem levelTo_le (s:Sta) (k:Nat):levelTo s k≤k:=by
 unfold levelTo;refine Nat.le_trans List.countP_le_length ?_;simp
def lev (s:Sta) (a:Nat):Nat:=levelTo s (min a 12)
theorem lev_le (s:Sta) (a:Nat):lev s a≤12∧lev s a≤a:=by
 have:=levelTo_le s (min a 12)
 unfold lev;omega
def keyOf (s:Sta) (pc pos T a:Nat):Nat:=(pc*(T+1)+pos)*12+lev s a
def deadKn (kn:List Bool) (room:Int) (i:Nat):List Bool:=if kn.getD i false=true then kn else if 0<room then kn.set i true else kn
def deadRoom (kn:List Bool) (room:Int) (i:Nat):Int:=if kn.getD i false=true then room else if 0<room then room-1 else room
def byI (t:ByteArray) (k:Nat):Int:=if h:k<t.size then ((t[k]'h).toNat:Int) else 0
def backP (t:ByteArray) (s:Sta) (k:Int):Sta × Bool :=
 if gt s (2+(2*k).toNat)<0 then (s,false)
 else if (t.size:Int)<gt s 1+(gt s (2+(2*k+1).toNat)-gt s (2+(2*k).toNat)) then (s,false)
 else ((s.set 1 (gt s 1+gt s (2+(2*k+1).toNat)-gt s (2+(2*k).toNat))).set 0 (gt s 0+1),
  (t.extract (gt s (2+(2*k).toNat)).toNat (gt s (2+(2*k+1).toNat)).toNat).toList==(t.extract (gt s 1).toNat ((gt s 1).toNat+(gt s (2+(2*k+1).toNat)).toNat-(gt s (2+(2*k).toNat)).toNat)).toList)
def oneP (t:ByteArray) (s:Sta) (x:Ins):Sta × Bool :=
 if x.op=1 then ((s.set 1 (gt s 1+1)).set 0 (gt s 0+1),if gt s 1<t.size then hasB ⟨x.set.toArray⟩ (byI t (gt s 1).toNat) else false)
 else if x.op=3 then (s.set 0 x.x,true)
 else if x.op=4 then ((s.set (32+x.x.toNat) (gt s 1)).set 0 (gt s 0+1),true)
 else if x.op=5 then (s.set 0 x.x,gt s (32+x.y.toNat) != gt s 1)
 else if x.op=6 then ((s.set (22+x.x.toNat) (gt s 1)).set 0 (gt s 0+1),true)
 else if x.op=7 then (((s.set (2+(2*x.x).toNat) (gt s (22+x.x.toNat))).set (2+(2*x.x+1).toNat) (gt s 1)).set 0 (gt s 0+1),true)
 else if x.op=8 then backP t s x.x
 else if x.op=9 then (s.set 0 (gt s 0+1),gt s 1==0)
 else if x.op=10 then (s.set 0 (gt s 0+1),gt s 1==(t.size:Int))
 else (s.set 0 (gt s 0+1),true)
def withAt (s r:Sta):Sta:=s.take 2++((r.drop 2).take 20++s.drop 22)
def apartP (s:Sta) (x:Ins) (r:Sta) (ok:Bool):Sta × Bool :=
 if x.x=0 then (r.set 0 x.y,ok) else if x.x=1 then ((withAt s r).set 0 x.y,ok) else (s.set 0 x.y,!ok)
structure Env where
 c:List Ins
 t:ByteArray
 inn:List Bool
 ar:List Int
structure Res where
 st:Sta
 ok:Bool
 n:Nat
 kn:List Bool
 room:Int
 over:Bool
def pcOf (s:Sta):Nat:=(gt s 0).toNat
def posOf (s:Sta):Nat:=(gt s 1).toNat
def Env.key (E:Env) (s:Sta):Nat:=keyOf s (pcOf s) (posOf s) E.t.size (E.ar.getD (pcOf s) 0).toNat
def Env.isIn (E:Env) (s:Sta):Bool:=E.inn.getD (pcOf s) false
def Env.dead (E:Env) (s:Sta) (kn:List Bool):Bool:=if E.isIn s then kn.getD (E.key s) false else false
def Env.kn' (E:Env) (s:Sta) (kn:List Bool) (room:Int):List Bool:=if E.isIn s then deadKn kn room (E.key s) else kn
def Env.room' (E:Env) (s:Sta) (kn:List Bool) (room:Int):Int:=if E.isIn s then deadRoom kn room (E.key s) else room
def Env.ins (E:Env) (s:Sta):Ins:=E.c.getD (pcOf s) ins0
def lookF (E:Env):Nat→Nat→Sta→List Bool→Int→Res
 | 0,_,s,kn,room=>⟨s,false,0,kn,room,true⟩
 | _+1,0,s,kn,room=>⟨s,false,0,kn,room,true⟩
 | F+1,n+1,s,kn,room =>
  if E.dead s kn then ⟨s,false,n,E.kn' s kn room,E.room' s kn room,false⟩
  else if (E.ins s).op=13∨(E.ins s).op=12 then ⟨s,true,n,E.kn' s kn room,E.room' s kn room,false⟩
  else if (E.ins s).op=2 then
   let r:=lookF E F n (s.set 0 (E.ins s).x) (E.kn' s kn room) (E.room' s kn room)
   if r.ok||r.over then r else lookF E F r.n (s.set 0 (E.ins s).y) r.kn r.room
  else if (E.ins s).op=11 then
   let r:=lookF E F n (s.set 0 (gt s 0+1)) (E.kn' s kn room) (E.room' s kn room)
   if r.over then ⟨s,false,r.n,r.kn,r.room,true⟩
   else if (apartP s (E.ins s) r.st r.ok).2 then lookF E F r.n (apartP s (E.ins s) r.st r.ok).1 r.kn r.room
   else ⟨(apartP s (E.ins s) r.st r.ok).1,false,r.n,r.kn,r.room,false⟩
  else if (oneP E.t s (E.ins s)).2 then lookF E F n (oneP E.t s (E.ins s)).1 (E.kn' s kn room) (E.room' s kn room)
  else ⟨(oneP E.t s (E.ins s)).1,false,n,E.kn' s kn room,E.room' s kn room,false⟩
theorem lookF_n (E:Env):∀ (F n:Nat) (s:Sta) (kn:List Bool) (room:Int),(lookF E F n s kn room).n≤n
 | 0,n,s,kn,room=>Nat.zero_le _
 | F+1,0,s,kn,room=>Nat.zero_le _
 | F+1,n+1,s,kn,room=>by
  have ih:=lookF_n E F
  unfold lookF
  split
  ·exact Nat.le_succ n
  split
  ·exact Nat.le_succ n
  split
  ·have h1:=ih n (s.set 0 (E.ins s).x) (E.kn' s kn room) (E.room' s kn room)
   dsimp only
   split
   ·omega
   ·have h2:=ih (lookF E F n (s.set 0 (E.ins s).x) (E.kn' s kn room) (E.room' s kn room)).n (s.set 0 (E.ins s).y) (lookF E F n (s.set 0 (E.ins s).x) (E.kn' s kn room) (E.room' s kn room)).kn (lookF E F n (s.set 0 (E.ins s).x) (E.kn' s kn room) (E.room' s kn room)).room
    omega
  split
  ·have h1:=ih n (s.set 0 (gt s 0+1)) (E.kn' s kn room) (E.room' s kn room)
   dsimp only
   split
   ·show Res.n _≤_;dsimp only;omega
   split
   ·have h2:=ih (lookF E F n (s.set 0 (gt s 0+1)) (E.kn' s kn room) (E.room' s kn room)).n
     (apartP s (E.ins s) (lookF E F n (s.set 0 (gt s 0+1)) (E.kn' s kn room) (E.room' s kn room)).st (lookF E F n (s.set 0 (gt s 0+1)) (E.kn' s kn room) (E.room' s kn room)).ok).1
     (lookF E F n (s.set 0 (gt s 0+1)) (E.kn' s kn room) (E.room' s kn room)).kn (lookF E F n (s.set 0 (gt s 0+1)) (E.kn' s kn room) (E.room' s kn room)).room
    omega
   ·dsimp only;omega
  split
  ·have:=ih n (oneP E.t s (E.ins s)).1 (E.kn' s kn room) (E.room' s kn room)
   omega
  ·exact Nat.le_succ n
theorem lookF_fuel (E:Env):∀ (F G n:Nat) (s:Sta) (kn:List Bool) (room:Int),n≤F→n≤G→lookF E F n s kn room=lookF E G n s kn room
 | 0,0,n,s,kn,room,_,_=>rfl
 | 0,G+1,n,s,kn,room,h,_=>by
                    obtain rfl:n=0:=by omega
                    rfl
 | F+1,0,n,s,kn,room,_,h=>by
                    obtain rfl:n=0:=by omega
                    rfl
 | F+1,G+1,0,s,kn,room,_,_=>rfl
 | F+1,G+1,n+1,s,kn,room,hF,hG=>by
  have ih:∀ (n:Nat) (s:Sta) (kn:List Bool) (room:Int),n≤F→n≤G→lookF E F n s kn room=lookF E G n s kn room:=lookF_fuel E F G
  unfold lookF
  have e1:=ih n (s.set 0 (E.ins s).x) (E.kn' s kn room) (E.room' s kn room) (by omega) (by omega)
  have e2:=ih n (s.set 0 (gt s 0+1)) (E.kn' s kn room) (E.room' s kn room) (by omega) (by omega)
  have e3:=ih n (oneP E.t s (E.ins s)).1 (E.kn' s kn room) (E.room' s kn room) (by omega) (by omega)
  have n1:=lookF_n E G n (s.set 0 (E.ins s).x) (E.kn' s kn room) (E.room' s kn room)
  have n2:=lookF_n E G n (s.set 0 (gt s 0+1)) (E.kn' s kn room) (E.room' s kn room)
  dsimp only
  rw [e1,e2,e3]
  generalize lookF E G n (s.set 0 (E.ins s).x) (E.kn' s kn room) (E.room' s kn room)=r1 at *
  generalize lookF E G n (s.set 0 (gt s 0+1)) (E.kn' s kn room) (E.room' s kn room)=r2 at *
  rw [ih r1.n _ _ _ (by omega) (by omega),ih r2.n _ _ _ (by omega) (by omega)]
def look (E:Env) (n:Nat) (s:Sta) (kn:List Bool) (room:Int):Res:=lookF E n n s kn room
theorem look_n (E:Env) (n:Nat) (s:Sta) (kn:List Bool) (room:Int):(look E n s kn room).n≤n:=lookF_n E n n s kn room
theorem look_zero (E:Env) (s:Sta) (kn:List Bool) (room:Int):look E 0 s kn room=⟨s,false,0,kn,room,true⟩:=rfl
theorem look_step (E:Env) (n:Nat) (s:Sta) (kn:List Bool) (room:Int):look E (n+1) s kn room =
  if E.dead s kn then ⟨s,false,n,E.kn' s kn room,E.room' s kn room,false⟩
  else if (E.ins s).op=13∨(E.ins s).op=12 then ⟨s,true,n,E.kn' s kn room,E.room' s kn room,false⟩
  else if (E.ins s).op=2 then
   let r:=look E n (s.set 0 (E.ins s).x) (E.kn' s kn room) (E.room' s kn room)
   if r.ok||r.over then r else look E r.n (s.set 0 (E.ins s).y) r.kn r.room
  else if (E.ins s).op=11 then
   let r:=look E n (s.set 0 (gt s 0+1)) (E.kn' s kn room) (E.room' s kn room)
   if r.over then ⟨s,false,r.n,r.kn,r.room,true⟩
   else if (apartP s (E.ins s) r.st r.ok).2 then look E r.n (apartP s (E.ins s) r.st r.ok).1 r.kn r.room
   else ⟨(apartP s (E.ins s) r.st r.ok).1,false,r.n,r.kn,r.room,false⟩
  else if (oneP E.t s (E.ins s)).2 then look E n (oneP E.t s (E.ins s)).1 (E.kn' s kn room) (E.room' s kn room)
  else ⟨(oneP E.t s (E.ins s)).1,false,n,E.kn' s kn room,E.room' s kn room,false⟩:=by
 show lookF E (n+1) (n+1) s kn room=_
 conv=>lhs;unfold lookF
 have n1:=lookF_n E n n (s.set 0 (E.ins s).x) (E.kn' s kn room) (E.room' s kn room)
 have n2:=lookF_n E n n (s.set 0 (gt s 0+1)) (E.kn' s kn room) (E.room' s kn room)
 unfold look
 dsimp only
 generalize lookF E n n (s.set 0 (E.ins s).x) (E.kn' s kn room) (E.room' s kn room)=r1 at *
 generalize lookF E n n (s.set 0 (gt s 0+1)) (E.kn' s kn room) (E.room' s kn room)=r2 at *
 rw [lookF_fuel E n r1.n r1.n _ _ _ n1 (Nat.le_refl _),lookF_fuel E n r2.n r2.n _ _ _ n2 (Nat.le_refl _)]
def insOk (c:List Ins) (p:Nat) (x:Ins):Prop :=
 (x.op=2→0≤x.x∧x.x<c.length∧0≤x.y∧x.y<c.length)
 ∧ (x.op=3→0≤x.x∧x.x<c.length)
 ∧ (x.op=4→0≤x.x∧x.x<12)
 ∧ (x.op=5→0≤x.x∧x.x<c.length∧0≤x.y∧x.y<12)
 ∧ (x.op=6∨x.op=7∨x.op=8→0≤x.x∧x.x<10)
 ∧ (x.op=11→0≤x.y∧x.y<c.length∧0≤x.x∧x.x≤2)
 ∧ (x.op≠13→p+1<c.length)
 ∧ x.set.length≤256
def codeOk (c:List Ins):Prop:=∀ p,p<c.length→insOk c p (c.getD p ins0)
structure Good (L T:Nat) (s:Sta):Prop where
 len:s.length=44
 pc0:0≤gt s 0
 pc1:gt s 0<L
 pos0:0≤gt s 1
 pos1:gt s 1≤T
 place:∀ k,k<10→gt s (2+2*k)<0∨(0≤gt s (2+2*k)∧gt s (2+2*k)≤gt s (2+(2*k+1))∧gt s (2+(2*k+1))≤T)
 noted:∀ k,k<10→0≤gt s (22+k)∧gt s (22+k)≤gt s 1
theorem gt_set (s:Sta) (i j:Nat) (v:Int):gt (s.set i v) j=if i=j∧i<s.length then v else gt s j:=by
 unfold gt
 simp only [List.getD_eq_getElem?_getD,List.getElem?_set]
 by_cases h:i=j
 ·subst h
  by_cases h2:i<s.length
  ·simp [h2]
  ·simp [h2]
 ·simp [h]
theorem gt_set_ne (s:Sta) (i j:Nat) (v:Int) (h:i≠j):gt (s.set i v) j=gt s j:=by rw [gt_set,if_neg (by omega)]
theorem gt_set_same (s:Sta) (i:Nat) (v:Int) (h:i<s.length):gt (s.set i v) i=v:=by rw [gt_set,if_pos ⟨rfl,h⟩]
theorem Good.at_pc {L T:Nat} {s:Sta} (h:Good L T s) (p:Int) (h0:0≤p) (h1:p<L):Good L T (s.set 0 p):=by
 have hl:=h.len
 have e:∀ j,0<j→gt (s.set 0 p) j=gt s j:=fun j hj=>gt_set_ne _ _ _ _ (by omega)
 have e0:gt (s.set 0 p) 0=p:=gt_set_same _ _ _ (by omega)
 refine ⟨by simp [hl],by omega,by omega,by rw [e 1 (by omega)];exact h.pos0,by rw [e 1 (by omega)];exact h.pos1,fun k hk=>?_,fun k hk=>?_⟩
 ·rw [e _ (by omega),e _ (by omega)];exact h.place k hk
 ·rw [e _ (by omega),e _ (by omega)];exact h.noted k hk
theorem Good.at_pos {L T:Nat} {s:Sta} (h:Good L T s) (p:Int) (h0:gt s 1≤p) (h1:p≤T):Good L T (s.set 1 p):=by
 have hl:=h.len
 have e:∀ j,j≠1→gt (s.set 1 p) j=gt s j:=fun j hj=>gt_set_ne _ _ _ _ (by omega)
 have e0:gt (s.set 1 p) 1=p:=gt_set_same _ _ _ (by omega)
 have hp0:=h.pos0
 refine ⟨by simp [hl],by rw [e 0 (by omega)];exact h.pc0,by rw [e 0 (by omega)];exact h.pc1,by omega,by omega,fun k hk=>?_,fun k hk=>?_⟩
 ·rw [e _ (by omega),e _ (by omega)];exact h.place k hk
 ·rw [e _ (by omega),e0];have:=h.noted k hk;omega
theorem Good.at_mark {L T:Nat} {s:Sta} (h:Good L T s) (k:Nat) (v:Int):Good L T (s.set (32+k) v):=by
 have hl:=h.len
 have e:∀ j,j<32→gt (s.set (32+k) v) j=gt s j:=fun j hj=>gt_set_ne _ _ _ _ (by omega)
 refine ⟨by simp [hl],by rw [e 0 (by omega)];exact h.pc0,by rw [e 0 (by omega)];exact h.pc1,by rw [e 1 (by omega)];exact h.pos0,by rw [e 1 (by omega)];exact h.pos1,fun k hk=>?_,fun k hk=>?_⟩
 ·rw [e _ (by omega),e _ (by omega)];exact h.place k hk
 ·rw [e _ (by omega),e _ (by omega)];exact h.noted k hk
theorem Good.at_noted {L T:Nat} {s:Sta} (h:Good L T s) (k:Nat) (hk:k<10):Good L T (s.set (22+k) (gt s 1)):=by
 have hl:=h.len
 have e:∀ j,j≠22+k→gt (s.set (22+k) (gt s 1)) j=gt s j:=fun j hj=>gt_set_ne _ _ _ _ (by omega)
 have e0:gt (s.set (22+k) (gt s 1)) (22+k)=gt s 1:=gt_set_same _ _ _ (by omega)
 refine ⟨by simp [hl],by rw [e 0 (by omega)];exact h.pc0,by rw [e 0 (by omega)];exact h.pc1,by rw [e 1 (by omega)];exact h.pos0,by rw [e 1 (by omega)];exact h.pos1,fun j hj=>?_,fun j hj=>?_⟩
 ·rw [e _ (by omega),e _ (by omega)];exact h.place j hj
 ·rw [e 1 (by omega)]
  by_cases hjk:j=k
  ·subst hjk;rw [e0];exact ⟨h.pos0,Int.le_refl _⟩
  ·rw [e _ (by omega)];exact h.noted j hj
theorem Good.at_place {L T:Nat} {s:Sta} (h:Good L T s) (k:Nat) (hk:k<10):Good L T ((s.set (2+2*k) (gt s (22+k))).set (2+(2*k+1)) (gt s 1)):=by
 have hl:=h.len
 generalize hu:(s.set (2+2*k) (gt s (22+k))).set (2+(2*k+1)) (gt s 1)=u
 have e:∀ j,j≠2+2*k→j≠2+(2*k+1)→gt u j=gt s j:=fun j h1 h2=>by rw [← hu,gt_set_ne _ _ _ _ (by omega),gt_set_ne _ _ _ _ (by omega)]
 have e1:gt u (2+2*k)=gt s (22+k):=by rw [← hu,gt_set_ne _ _ _ _ (by omega),gt_set_same _ _ _ (by omega)]
 have e2:gt u (2+(2*k+1))=gt s 1:=by rw [← hu,gt_set_same _ _ _ (by simp;omega)]
 refine ⟨by rw [← hu];simp [hl],by rw [e 0 (by omega) (by omega)];exact h.pc0,by rw [e 0 (by omega) (by omega)];exact h.pc1,by rw [e 1 (by omega) (by omega)];exact h.pos0,by rw [e 1 (by omega) (by omega)];exact h.pos1,fun j hj=>?_,fun j hj=>?_⟩
 ·by_cases hjk:j=k
  ·subst hjk
   rw [e1,e2]
   have:=h.noted j hj
   have:=h.pos1
   exact .inr ⟨by omega,by omega,by omega⟩
  ·rw [e _ (by omega) (by omega),e _ (by omega) (by omega)];exact h.place j hj
 ·rw [e _ (by omega) (by omega),e 1 (by omega) (by omega)];exact h.noted j hj
theorem gt_withAt (s r:Sta) (hs:s.length=44) (hr:r.length=44) (j:Nat):gt (withAt s r) j=if 2≤j∧j<22 then gt r j else gt s j:=by
 unfold withAt gt
 simp only [List.getD_eq_getElem?_getD]
 by_cases h1:j<2
 ·rw [if_neg (by omega),List.getElem?_append_left (by simp;omega),List.getElem?_take_of_lt h1]
 ·rw [List.getElem?_append_right (by simp;omega)]
  have l1:(s.take 2).length=2:=by simp [hs]
  have l2:((r.drop 2).take 20).length=20:=by simp [hr]
  by_cases h2:j<22
  ·rw [if_pos (by omega),List.getElem?_append_left (by omega),l1,List.getElem?_take_of_lt (by omega),List.getElem?_drop,show 2+(j-2)=j by omega]
  ·rw [if_neg (by omega),List.getElem?_append_right (by omega),l1,l2,List.getElem?_drop,show 22+(j-2-20)=j by omega]
theorem withAt_len (s r:Sta) (hs:s.length=44) (hr:r.length=44):(withAt s r).length=44:=by simp [withAt,hs,hr]
theorem Good.at_from {L T:Nat} {s r:Sta} (h:Good L T s) (hr:Good L T r):Good L T (withAt s r):=by
 have e:=gt_withAt s r h.len hr.len
 refine ⟨withAt_len s r h.len hr.len,by rw [e,if_neg (by omega)];exact h.pc0,by rw [e,if_neg (by omega)];exact h.pc1,by rw [e,if_neg (by omega)];exact h.pos0,by rw [e,if_neg (by omega)];exact h.pos1,fun k hk=>?_,fun k hk=>?_⟩
 ·rw [e,e,if_pos (by omega),if_pos (by omega)];exact hr.place k hk
 ·rw [e,e,if_neg (by omega),if_neg (by omega)];exact h.noted k hk
theorem Good.pcOf_lt {L T:Nat} {s:Sta} (h:Good L T s):pcOf s<L:=by have:=h.pc0;have:=h.pc1;unfold pcOf;omega
theorem backP_good {L:Nat} {t:ByteArray} {s:Sta} (h:Good L t.size s) (k:Int) (h0:0≤k) (h1:k<10) (hp:gt s 0+1<L) (ok:(backP t s k).2=true):Good L t.size (backP t s k).1:=by
 unfold backP at ok ⊢
 have hpl:=h.place k.toNat (by omega)
 rw [show 2*k.toNat=(2*k).toNat by omega] at hpl
 rw [show (2*k).toNat+1=(2*k+1).toNat by omega] at hpl
 split at ok
 ·cases ok
 split at ok
 ·cases ok
 rename_i g1 g2
 rw [if_neg g1,if_neg g2]
 have h0':=h.pc0
 exact (h.at_pos _ (by omega) (by omega)).at_pc _ (by omega) (by omega)
theorem oneP_good {c:List Ins} {t:ByteArray} {s:Sta} (hc:codeOk c) (h:Good c.length t.size s) (h2:(c.getD (pcOf s) ins0).op≠2) (h11:(c.getD (pcOf s) ins0).op≠11) (h13:(c.getD (pcOf s) ins0).op≠13) (ok:(oneP t s (c.getD (pcOf s) ins0)).2=true) :
  Good c.length t.size (oneP t s (c.getD (pcOf s) ins0)).1:=by
 have hi:=hc (pcOf s) h.pcOf_lt
 generalize c.getD (pcOf s) ins0=x at *
 obtain ⟨i2,i3,i4,i5,i6,i11,i13,iS⟩:=hi
 have hn:=i13 h13
 have hpc:((pcOf s:Nat):Int)=gt s 0:=by have:=h.pc0;unfold pcOf;omega
 have h0:=h.pc0
 unfold oneP at ok ⊢
 by_cases o1:x.op=1
 ·rw [if_pos o1] at ok ⊢
  dsimp only at ok ⊢
  split at ok
  ·exact (h.at_pos _ (by omega) (by omega)).at_pc _ (by omega) (by omega)
  ·cases ok
 rw [if_neg o1] at ok ⊢
 by_cases o3:x.op=3
 ·rw [if_pos o3];have:=i3 o3;exact h.at_pc _ (by omega) (by omega)
 rw [if_neg o3] at ok ⊢
 by_cases o4:x.op=4
 ·rw [if_pos o4];exact (h.at_mark _ _).at_pc _ (by omega) (by omega)
 rw [if_neg o4] at ok ⊢
 by_cases o5:x.op=5
 ·rw [if_pos o5];have:=i5 o5;exact h.at_pc _ (by omega) (by omega)
 rw [if_neg o5] at ok ⊢
 by_cases o6:x.op=6
 ·rw [if_pos o6];have:=i6 (.inl o6);exact (h.at_noted _ (by omega)).at_pc _ (by omega) (by omega)
 rw [if_neg o6] at ok ⊢
 by_cases o7:x.op=7
 ·rw [if_pos o7];have:=i6 (.inr (.inl o7))
  have hh:=(h.at_place x.x.toNat (by omega)).at_pc (gt s 0+1) (by omega) (by omega)
  rw [show 2*x.x.toNat=(2*x.x).toNat by omega,show (2*x.x).toNat+1=(2*x.x+1).toNat by omega] at hh
  exact hh
 rw [if_neg o7] at ok ⊢
 by_cases o8:x.op=8
 ·rw [if_pos o8] at ok ⊢;have:=i6 (.inr (.inr o8));exact backP_good h _ (by omega) (by omega) (by omega) ok
 rw [if_neg o8] at ok ⊢
 split
 ·exact h.at_pc _ (by omega) (by omega)
 split
 ·exact h.at_pc _ (by omega) (by omega)
 ·exact h.at_pc _ (by omega) (by omega)
theorem oneP_len (t:ByteArray) (s:Sta) (x:Ins):(oneP t s x).1.length=s.length:=by
 unfold oneP backP
 repeat' split
 all_goals simp
theorem deadKn_len (kn:List Bool) (room:Int) (i:Nat):(deadKn kn room i).length=kn.length:=by
 unfold deadKn
 split
 ·rfl
 split <;> simp
theorem deadRoom_in (kn:List Bool) (room:Int) (i:Nat) (h:0≤room∧room≤5000):0≤deadRoom kn room i∧deadRoom kn room i≤5000:=by
 unfold deadRoom
 split
 ·exact h
 split <;> omega
theorem Env.kn'_len (E:Env) (s:Sta) (kn:List Bool) (room:Int):(E.kn' s kn room).length=kn.length:=by
 unfold Env.kn'
 split
 ·exact deadKn_len _ _ _
 rfl
theorem Env.room'_in (E:Env) (s:Sta) (kn:List Bool) (room:Int) (h:0≤room∧room≤5000):0≤E.room' s kn room∧E.room' s kn room≤5000:=by
 unfold Env.room'
 split
 ·exact deadRoom_in _ _ _ h
 exact h
theorem apartP_good {c:List Ins} {T:Nat} {s r:Sta} {ok:Bool} (hs:Good c.length T s) (hr:ok=true→Good c.length T r) (x:Ins) (h0:0≤x.y) (h1:x.y<c.length) (hk:(apartP s x r ok).2=true):Good c.length T (apartP s x r ok).1:=by
 unfold apartP at hk ⊢
 by_cases o0:x.x=0
 ·rw [if_pos o0] at hk ⊢;exact (hr hk).at_pc _ h0 h1
 rw [if_neg o0] at hk ⊢
 by_cases o1:x.x=1
 ·rw [if_pos o1] at hk ⊢;exact (hs.at_from (hr hk)).at_pc _ h0 h1
 rw [if_neg o1]
 exact hs.at_pc _ h0 h1
theorem look_good (E:Env) (hc:codeOk E.c):∀ (N n:Nat) (s:Sta) (kn:List Bool) (room:Int),n≤N→Good E.c.length E.t.size s→0≤room∧room≤5000 →
  ((look E n s kn room).ok=true→Good E.c.length E.t.size (look E n s kn room).st)∧(look E n s kn room).kn.length=kn.length∧(0≤(look E n s kn room).room∧(look E n s kn room).room≤5000)∧(look E n s kn room).st.length=44∧((look E n s kn room).over=true→(look E n s kn room).ok=false∧(look E n s kn room).n=0)
 | N,0,s,kn,room,_,h,hr=>by rw [look_zero];exact ⟨fun e=>(by cases e),rfl,hr,h.len,fun _=>⟨rfl,rfl⟩⟩
 | 0,n+1,s,kn,room,hn,_,_=>by omega
 | N+1,n+1,s,kn,room,hn,h,hr=>by
  have ih:∀ (n:Nat) (s:Sta) (kn:List Bool) (room:Int),n≤N→Good E.c.length E.t.size s→0≤room∧room≤5000 →
   ((look E n s kn room).ok=true→Good E.c.length E.t.size (look E n s kn room).st)∧(look E n s kn room).kn.length=kn.length∧(0≤(look E n s kn room).room∧(look E n s kn room).room≤5000)∧(look E n s kn room).st.length=44∧((look E n s kn room).over=true→(look E n s kn room).ok=false∧(look E n s kn room).n=0):=look_good E hc N
  rw [look_step]
  have hK:=E.kn'_len s kn room
  have hR:=E.room'_in s kn room hr
  have hi:=hc (pcOf s) h.pcOf_lt
  have hpc:((pcOf s:Nat):Int)=gt s 0:=by have:=h.pc0;unfold pcOf;omega
  have hpc0:=h.pc0
  split
  ·exact ⟨fun e=>(by cases e),hK,hR,h.len,fun e=>(by cases e)⟩
  split
  ·exact ⟨fun _=>h,hK,hR,h.len,fun e=>(by cases e)⟩
  rename_i h13
  split
  ·rename_i o2
   have i2:=hi.1 o2
   have g1:=ih n (s.set 0 (E.ins s).x) (E.kn' s kn room) (E.room' s kn room) (by omega) (h.at_pc _ i2.1 i2.2.1) hR
   have n1:=look_n E n (s.set 0 (E.ins s).x) (E.kn' s kn room) (E.room' s kn room)
   dsimp only
   generalize look E n (s.set 0 (E.ins s).x) (E.kn' s kn room) (E.room' s kn room)=r at *
   split
   ·exact ⟨g1.1,g1.2.1.trans hK,g1.2.2⟩
   ·have g2:=ih r.n (s.set 0 (E.ins s).y) r.kn r.room (by omega) (h.at_pc _ i2.2.2.1 i2.2.2.2) g1.2.2.1
    exact ⟨g2.1,g2.2.1.trans (g1.2.1.trans hK),g2.2.2⟩
  rename_i o2
  split
  ·rename_i o11
   have i11:=hi.2.2.2.2.2.1 o11
   have hnx:pcOf s+1<E.c.length:=hi.2.2.2.2.2.2.1 (by show (E.ins s).op≠13;omega)
   have g1:=ih n (s.set 0 (gt s 0+1)) (E.kn' s kn room) (E.room' s kn room) (by omega) (h.at_pc _ (by omega) (by omega)) hR
   have n1:=look_n E n (s.set 0 (gt s 0+1)) (E.kn' s kn room) (E.room' s kn room)
   dsimp only
   generalize look E n (s.set 0 (gt s 0+1)) (E.kn' s kn room) (E.room' s kn room)=r at *
   split
   ·rename_i hov
    exact ⟨fun e=>(by cases e),g1.2.1.trans hK,g1.2.2.1,h.len,fun _=>⟨rfl,(g1.2.2.2.2 hov).2⟩⟩
   split
   ·rename_i hk
    have g2:=ih r.n _ r.kn r.room (by omega) (apartP_good h g1.1 (E.ins s) i11.1 i11.2.1 hk) g1.2.2.1
    exact ⟨g2.1,g2.2.1.trans (g1.2.1.trans hK),g2.2.2⟩
   ·refine ⟨fun e=>(by cases e),g1.2.1.trans hK,g1.2.2.1,?_,fun e=>(by cases e)⟩
    show (apartP s (E.ins s) r.st r.ok).1.length=44
    unfold apartP
    split
    ·simp [g1.2.2.2.1]
    split
    ·simp [withAt_len s r.st h.len g1.2.2.2.1]
    ·simp [h.len]
  rename_i o11
  split
  ·rename_i hk
   have hk':=hk
   have g2:=ih n _ (E.kn' s kn room) (E.room' s kn room) (by omega) (oneP_good hc h o2 o11 (by show (E.ins s).op≠13;omega) hk') hR
   exact ⟨g2.1,g2.2.1.trans hK,g2.2.2⟩
  ·exact ⟨fun e=>(by cases e),hK,hR,by show (oneP E.t s (E.ins s)).1.length=44;rw [oneP_len,h.len],fun e=>(by cases e)⟩
end Mt
