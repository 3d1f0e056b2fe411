import Derived.Test.YtebpgfodelggoabC04
set_option linter.unusedVariables false
set_option linter.unusedSimpArgs false
namespace Mt
inductive Re where
 | eps
 | one (s:List UInt8)
 | back (k:Int)
 | head
 | tail
 | cat (a b:Re)
 | alt (a b:Re)
 | cap (k:Int) (a:Re)
 | sub (s:Int) (a:Re)
 | opt (late:Bool) (a:Re)
 | loop (late:Bool) (a:Re)
def Re.len:Re→Nat
 | .eps=>0
 | .one _=>1
 | .back _=>1
 | .head=>1
 | .tail=>1
 | .cat a b=>a.len+b.len
 | .alt a b=>a.len+b.len+2
 | .cap _ a=>a.len+2
 | .sub _ a=>a.len+2
 | .opt _ a=>a.len+1
 | .loop _ a=>a.len+3
def spl (x y:Int) (late:Bool):Ins:=if late then ⟨2,y,x,[]⟩ else ⟨2,x,y,[]⟩
def Re.code:Re→Int→Int→List Ins
 | .eps,_,_=>[]
 | .one s,_,_=>[⟨1,0,0,s⟩]
 | .back k,_,_=>[⟨8,k,0,[]⟩]
 | .head,_,_=>[⟨9,0,0,[]⟩]
 | .tail,_,_=>[⟨10,0,0,[]⟩]
 | .cat a b,p,d=>a.code p d++b.code (p+a.len) d
 | .alt a b,p,d=>⟨2,p+1,p+a.len+2,[]⟩::(a.code (p+1) d++⟨3,p+a.len+2+b.len,0,[]⟩::b.code (p+a.len+2) d)
 | .cap k a,p,d=>⟨6,k,0,[]⟩::(a.code (p+1) d++[⟨7,k,0,[]⟩])
 | .sub s a,p,d=>⟨11,s,p+a.len+2,[]⟩::(a.code (p+1) d++[⟨12,0,0,[]⟩])
 | .opt late a,p,d=>spl (p+1) (p+a.len+1) late::a.code (p+1) d
 | .loop late a,p,d=>spl (p+1) (p+a.len+3) late::⟨4,d,0,[]⟩::(a.code (p+2) (d+1)++[⟨5,p,d,[]⟩])
theorem Re.code_len:∀ (r:Re) (p d:Int),(r.code p d).length=r.len
 | .eps,_,_=>rfl
 | .one _,_,_=>rfl
 | .back _,_,_=>rfl
 | .head,_,_=>rfl
 | .tail,_,_=>rfl
 | .cat a b,p,d=>by simp [Re.code,Re.len,Re.code_len a,Re.code_len b]
 | .alt a b,p,d=>by simp [Re.code,Re.len,Re.code_len a,Re.code_len b];omega
 | .cap _ a,p,d=>by simp [Re.code,Re.len,Re.code_len a]
 | .sub _ a,p,d=>by simp [Re.code,Re.len,Re.code_len a]
 | .opt _ a,p,d=>by simp [Re.code,Re.len,Re.code_len a]
 | .loop _ a,p,d=>by simp [Re.code,Re.len,Re.code_len a]
theorem moved_app (a b:List Ins) (n:Int):moved (a++b) n=moved a n++moved b n:=by simp [moved]
theorem moved_cons (i:Ins) (b:List Ins) (n:Int):moved (i::b) n=movedI i n::moved b n:=rfl
theorem moved_nil (n:Int):moved [] n=[]:=rfl
theorem movedI_spl (x y:Int) (late:Bool) (n:Int):movedI (spl x y late) n=spl (x+n) (y+n) late:=by cases late <;> rfl
theorem Re.code_moved:∀ (r:Re) (p d n:Int),moved (r.code p d) n=r.code (p+n) d
 | .eps,_,_,_=>rfl
 | .one _,_,_,_=>rfl
 | .back _,_,_,_=>rfl
 | .head,_,_,_=>rfl
 | .tail,_,_,_=>rfl
 | .cat a b,p,d,n=>by
  simp only [Re.code,moved_app,Re.code_moved a,Re.code_moved b]
  rw [show p+a.len+n=p+n+a.len by omega]
 | .alt a b,p,d,n=>by
  simp only [Re.code,moved_app,moved_cons,Re.code_moved a,Re.code_moved b]
  rw [show p+a.len+2+n=p+n+a.len+2 by omega,show p+1+n=p+n+1 by omega]
  simp only [movedI]
  simp
  omega
 | .cap _ a,p,d,n=>by
  simp only [Re.code,moved_app,moved_cons,moved_nil,Re.code_moved a]
  rw [show p+1+n=p+n+1 by omega];rfl
 | .sub _ a,p,d,n=>by
  simp only [Re.code,moved_app,moved_cons,moved_nil,Re.code_moved a]
  rw [show p+1+n=p+n+1 by omega]
  simp only [movedI]
  simp
  omega
 | .opt _ a,p,d,n=>by
  simp only [Re.code,moved_cons,Re.code_moved a,movedI_spl]
  rw [show p+1+n=p+n+1 by omega,show p+a.len+1+n=p+n+a.len+1 by omega]
 | .loop _ a,p,d,n=>by
  simp only [Re.code,moved_app,moved_cons,moved_nil,Re.code_moved a,movedI_spl]
  rw [show p+1+n=p+n+1 by omega,show p+2+n=p+n+2 by omega,show p+a.len+3+n=p+n+a.len+3 by omega]
  rfl
theorem behind_len (a b:List Ins):(behind a b).length=if 300<a.length then a.length else a.length+b.length:=by
 unfold behind;split
 ·rfl
 ·simp [moved_len]
theorem behind_app (a b:List Ins) (h:a.length≤300):behind a b=a++moved b a.length:=by unfold behind;rw [if_neg (by omega)]
def Rep (c L:List Ins):Prop:=(L.length≤300→c=L)∧(300<L.length→300<c.length)
theorem Rep.refl (c:List Ins):Rep c c:=⟨fun _=>rfl,id⟩
theorem Rep.len {c L:List Ins} (h:Rep c L):(L.length≤300→c.length=L.length)∧(300<L.length→300<c.length):=⟨fun hl=>by rw [h.1 hl],h.2⟩
theorem Rep.behind {a A b B:List Ins} (ha:Rep a A) (hb:Rep b B):Rep (behind a b) (A++moved B A.length):=by
 have la:=ha.len
 have lb:=hb.len
 refine ⟨fun h=>?_,fun h=>?_⟩
 ·rw [List.length_append,moved_len] at h
  rw [ha.1 (by omega),hb.1 (by omega),behind_app _ _ (by omega)]
 ·rw [List.length_append,moved_len] at h
  rw [behind_len]
  split <;> omega
theorem Rep.alone {c L:List Ins} (s:Int) (h:Rep c L):Rep (alone s c) (⟨11,s,L.length+2,[]⟩::(moved L 1++[⟨12,0,0,[]⟩])):=by
 have hl:=h.len
 refine ⟨fun hh=>?_,fun hh=>?_⟩
 ·simp only [List.length_cons,List.length_append,moved_len,List.length_nil] at hh
  rw [h.1 (by omega)]
  unfold Mt.alone
  rw [behind_app [_] L (by simp),behind_app _ _ (by simp [moved_len];omega)]
  rfl
 ·simp only [List.length_cons,List.length_append,moved_len,List.length_nil] at hh
  unfold Mt.alone
  rw [behind_len,behind_len]
  simp only [List.length_cons,List.length_nil]
  repeat' split
  all_goals omega
theorem Rep.loop {c L:List Ins} (d:Int) (late:Bool) (h:Rep c L):Rep (loopC c d late) (spl 1 (L.length+3) late::⟨4,d,0,[]⟩::(moved L 2++[⟨5,0,d,[]⟩])):=by
 have hl:=h.len
 refine ⟨fun hh=>?_,fun hh=>?_⟩
 ·simp only [List.length_cons,List.length_append,moved_len,List.length_nil] at hh
  rw [h.1 (by omega)]
  unfold Mt.loopC
  have e:∀ x y,splitC x y late=[spl x y late]:=fun x y=>by cases late <;> rfl
  rw [e,behind_app [_] [_] (by simp)]
  have e2:([spl 1 ((L.length:Int)+3) late]++moved [(⟨4,d,0,[]⟩:Ins)] ([spl 1 ((L.length:Int)+3) late].length:Int))=[spl 1 ((L.length:Int)+3) late,⟨4,d,0,[]⟩]:=rfl
  rw [e2,behind_app [_,_] L (by simp),behind_app _ _ (by simp [moved_len];omega)]
  simp only [List.length_append,List.length_cons,List.length_nil,moved_len,moved_cons,moved_nil]
  have e3:movedI ⟨5,-(L.length:Int)-2,d,[]⟩ ((0+1+1+L.length:Nat):Int)=⟨5,0,d,[]⟩:=by
   show (⟨5,(-(L.length:Int)-2)+((0+1+1+L.length:Nat):Int),d,[]⟩:Ins)=_
   congr 1;omega
  rw [e3];rfl
 ·simp only [List.length_cons,List.length_append,moved_len,List.length_nil] at hh
  unfold Mt.loopC
  rw [behind_len,behind_len,behind_len]
  have e:(splitC 1 ((c.length:Int)+3) late).length=1:=by unfold splitC;split <;> rfl
  rw [e]
  simp only [List.length_cons,List.length_nil]
  repeat' split
  all_goals omega
theorem Rep.alts {s S r R:List Ins} (hs:Rep s S) (hr:Rep r R):Rep (Mt.behind (Mt.behind (Mt.behind (splitC 1 ((s.length:Int)+2) false) s) (jumpC (1+(r.length:Int)))) r) (⟨2,1,S.length+2,[]⟩::(moved S 1++⟨3,S.length+2+R.length,0,[]⟩::moved R (S.length+2))):=by
 have ls:=hs.len
 have lr:=hr.len
 refine ⟨fun hh=>?_,fun hh=>?_⟩
 ·simp only [List.length_cons,List.length_append,moved_len] at hh
  rw [hs.1 (by omega),hr.1 (by omega)]
  rw [behind_app (splitC _ _ _) S (by simp [splitC]),behind_app _ (jumpC _) (by simp [splitC,moved_len];omega),behind_app _ R (by simp [splitC,jumpC,moved_len];omega)]
  have e1:splitC 1 ((S.length:Int)+2) false=[⟨2,1,(S.length:Int)+2,[]⟩]:=rfl
  simp only [e1,jumpC,List.length_append,List.length_cons,List.length_nil,moved_len,moved_cons,moved_nil]
  have e2:movedI ⟨3,1+(R.length:Int),0,[]⟩ ((0+1+S.length:Nat):Int)=⟨3,S.length+2+R.length,0,[]⟩:=by
   show (⟨3,(1+(R.length:Int))+((0+1+S.length:Nat):Int),0,[]⟩:Ins)=_
   congr 1;omega
  rw [e2,show ((0+1+S.length+(0+1):Nat):Int)=(S.length:Int)+2 by omega]
  simp
 ·simp only [List.length_cons,List.length_append,moved_len] at hh
  rw [behind_len,behind_len,behind_len]
  have e1:(splitC 1 ((s.length:Int)+2) false).length=1:=rfl
  have e2:(jumpC (1+(r.length:Int))).length=1:=rfl
  rw [e1,e2]
  repeat' split
  all_goals omega
def timesA (x:Re):Nat→Re
 | 0=>.eps
 | n+1=>.cat x (timesA x n)
def optA (x:Re) (late:Bool):Nat→Re
 | 0=>.eps
 | n+1=>.opt late (.cat x (optA x late n))
theorem optA_len (x:Re) (late:Bool):∀ n,(optA x late n).len=n*(x.len+1)
 | 0=>by simp [optA,Re.len]
 | n+1=>by rw [optA,Re.len,Re.len,optA_len x late n,Nat.add_mul];omega
theorem times_rep {x:List Ins} {X:Re} {d:Int} (hx:Rep x (X.code 0 d)):∀ (n:Nat) (c C:List Ins),Rep c C→Rep (timesFrom x n c) (C++(timesA X n).code C.length d)
 | 0,c,C,h=>by simpa [timesFrom,timesA,Re.code] using h
 | n+1,c,C,h=>by
  have:=times_rep hx n _ _ (h.behind hx)
  simp only [timesFrom,timesA,Re.code]
  rw [Re.code_moved,Int.zero_add,List.length_append,Re.code_len,List.append_assoc] at this
  simpa using this
theorem upTo_long (x:List Ins) (late:Bool):∀ (n:Nat) (c:List Ins),c.length≤(upToFrom x late n c).length
 | 0,c=>Nat.le_refl _
 | n+1,c=>by
  refine Nat.le_trans ?_ (upTo_long x late n _)
  rw [behind_len];split <;> omega
theorem upTo_exact {X:Re} {d:Int} (late:Bool):∀ (n:Nat) (c C:List Ins),Rep c C→Rep (upToFrom (X.code 0 d) late n c) (C++(optA X late n).code C.length d)
 | 0,c,C,h=>by simpa [upToFrom,optA,Re.code] using h
 | n+1,c,C,h=>by
  have e:∀ x y,splitC x y late=[spl x y late]:=fun x y=>by cases late <;> rfl
  have k:=upTo_exact (X:=X) (d:=d) late n _ _ (h.behind (Rep.behind (Rep.refl (splitC 1 (((n:Int)+1)*((X.code 0 d).length+1)) late)) (Rep.refl (X.code 0 d))))
  simp only [upToFrom,optA,Re.code]
  rw [e] at k
  simp only [List.length_cons,List.length_nil,moved_app,moved_cons,moved_nil,movedI_spl,Re.code_moved,List.length_append,Re.code_len,Re.len,optA_len] at k ⊢
  rw [e]
  have a1:(1:Int)+(C.length:Int)=C.length+1:=by omega
  have a2:(((n:Int)+1)*((X.len:Int)+1))+(C.length:Int)=(C.length:Int)+((X.len+n*(X.len+1):Nat):Int)+1:=by
   rw [Int.natCast_add,Int.natCast_mul,Int.add_mul];simp;omega
  have a3:(0:Int)+((0+1:Nat):Int)+(C.length:Int)=C.length+1:=by omega
  have a4:((C.length+(0+1+X.len):Nat):Int)=(C.length:Int)+1+(X.len:Int):=by omega
  rw [a1,a2,a3,a4] at k
  simpa using k
theorem upTo_rep {x:List Ins} {X:Re} {d:Int} (late:Bool) (hx:Rep x (X.code 0 d)) (n:Nat) (c C:List Ins) (h:Rep c C):Rep (upToFrom x late n c) (C++(optA X late n).code C.length d):=by
 have lx:=hx.len
 rw [Re.code_len] at lx
 by_cases hX:X.len≤300
 ·rw [hx.1 (by rw [Re.code_len];omega)];exact upTo_exact late n c C h
 ·match n with
  | 0=>simpa [upToFrom,optA,Re.code] using h
  | n+1 =>
   have hl:300<(C++(optA X late (n+1)).code C.length d).length:=by
    rw [List.length_append,Re.code_len,optA_len,Nat.add_mul];omega
   refine ⟨fun hh=>by omega,fun _=>?_⟩
   refine Nat.lt_of_lt_of_le ?_ (upTo_long x late n _)
   have e1:(splitC 1 (((n:Int)+1)*(x.length+1)) late).length=1:=by unfold splitC;split <;> rfl
   rw [behind_len,behind_len,e1]
   repeat' split
   all_goals omega
def seqA (at' rp:Nat→Nat→Re) (l:List Tok) (b:Nat):Nat→Nat→Re
 | 0,_=>.eps
 | f+1,i =>
  if b≤i then .eps
  else if after l i<b∧kindAt l (after l i)=8 then .cat (rp i (after l i)) (seqA at' rp l b f (after l i+1))
  else .cat (at' i (after l i)) (seqA at' rp l b f (after l i))
def repA (x:Re) (r:Tok):Re :=
 let c1:=if 0<r.n∨0<r.m then (if r.n<r.m then .cat (timesA x r.n.toNat) (optA x (decide (r.how=1)) (r.m-r.n).toNat) else timesA x r.n.toNat) else .eps
 let c2:=if r.m<0 then .cat c1 (.loop (decide (r.how=1)) x) else c1
 if r.how=2 then .sub 0 c2 else c2
def tree (l:List Tok):Nat→Nat→Nat→Nat→Re
 | 0,_,_,_=>.eps
 | f+1,0,a,b=>if bar l a b=b then tree l f 1 a (bar l a b) else .alt (tree l f 1 a (bar l a b)) (tree l f 0 (bar l a b+1) b)
 | f+1,1,a,b=>seqA (fun i j=>tree l f 2 i j) (fun i j=>tree l f 3 i j) l b (b-a) a
 | f+1,2,a,b =>
  if kindAt l a=1 then .one (l.getD a tok0).set
  else if kindAt l a=2 then .back (l.getD a tok0).n
  else if kindAt l a=3 then .head
  else if kindAt l a=4 then .tail
  else if (l.getD a tok0).how=3 then tree l f 0 (a+1) (b-1)
  else if (l.getD a tok0).how=4 then .cap (l.getD a tok0).n (tree l f 0 (a+1) (b-1))
  else .sub (l.getD a tok0).how (tree l f 0 (a+1) (b-1))
 | f+1,_+3,a,b=>repA (tree l f 2 a b) (l.getD b tok0)
theorem seq_rep {at' rp:Nat→Nat→List Ins} {At Rp:Nat→Nat→Re} {d:Int} (l:List Tok) (b:Nat) (h1:∀ i j,Rep (at' i j) ((At i j).code 0 d)) (h2:∀ i j,Rep (rp i j) ((Rp i j).code 0 d)) :
  ∀ (f i:Nat) (c C:List Ins),Rep c C→Rep (seqWith at' rp l b f i c) (C++(seqA At Rp l b f i).code C.length d)
 | 0,i,c,C,h=>by simpa [seqWith,seqA,Re.code] using h
 | f+1,i,c,C,h=>by
  simp only [seqWith,seqA]
  split
  ·simpa [Re.code] using h
  split
  ·have:=seq_rep l b h1 h2 f (after l i+1) _ _ (h.behind (h2 i (after l i)))
   rw [Re.code_moved,Int.zero_add,List.length_append,Re.code_len,List.append_assoc] at this
   simp only [Re.code]
   simpa using this
  ·have:=seq_rep l b h1 h2 f (after l i) _ _ (h.behind (h1 i (after l i)))
   rw [Re.code_moved,Int.zero_add,List.length_append,Re.code_len,List.append_assoc] at this
   simp only [Re.code]
   simpa using this
theorem repA_rep {x y:List Ins} {X:Re} {d:Int} (hx:Rep x (X.code 0 d)) (hy:Rep y (X.code 0 (d+1))) (r:Tok) :
  Rep (let c1:=if 0<r.n∨0<r.m then (if r.n<r.m then behind (timesFrom x r.n.toNat []) (upTo x (r.m-r.n).toNat (decide (r.how=1))) else timesFrom x r.n.toNat []) else []
   let c2:=if r.m<0 then behind c1 (loopC y d (decide (r.how=1))) else c1
   if r.how=2 then alone 0 c2 else c2) ((repA X r).code 0 d):=by
 unfold repA
 dsimp only
 have t0:Rep (timesFrom x r.n.toNat []) ((timesA X r.n.toNat).code 0 d):=times_rep hx r.n.toNat [] [] (Rep.refl _)
 have u0:Rep (upTo x (r.m-r.n).toNat (decide (r.how=1))) ((optA X (decide (r.how=1)) (r.m-r.n).toNat).code 0 d):=upTo_rep _ hx _ [] [] (Rep.refl _)
 have c1:Rep (if 0<r.n∨0<r.m then (if r.n<r.m then behind (timesFrom x r.n.toNat []) (upTo x (r.m-r.n).toNat (decide (r.how=1))) else timesFrom x r.n.toNat []) else [])
   ((if 0<r.n∨0<r.m then (if r.n<r.m then Re.cat (timesA X r.n.toNat) (optA X (decide (r.how=1)) (r.m-r.n).toNat) else timesA X r.n.toNat) else Re.eps).code 0 d):=by
  split
  ·split
   ·have:=t0.behind u0
    rw [Re.code_moved,Re.code_len] at this
    exact this
   ·exact t0
  ·exact Rep.refl _
 generalize (if 0<r.n∨0<r.m then (if r.n<r.m then behind (timesFrom x r.n.toNat []) (upTo x (r.m-r.n).toNat (decide (r.how=1))) else timesFrom x r.n.toNat []) else [])=z1 at *
 generalize (if 0<r.n∨0<r.m then (if r.n<r.m then Re.cat (timesA X r.n.toNat) (optA X (decide (r.how=1)) (r.m-r.n).toNat) else timesA X r.n.toNat) else Re.eps)=Z1 at *
 have c2:Rep (if r.m<0 then behind z1 (loopC y d (decide (r.how=1))) else z1) ((if r.m<0 then Re.cat Z1 (.loop (decide (r.how=1)) X) else Z1).code 0 d):=by
  split
  ·have:=c1.behind (hy.loop d (decide (r.how=1)))
   have e:(spl 1 (((X.code 0 (d+1)).length:Int)+3) (decide (r.how=1))::⟨4,d,0,[]⟩::(moved (X.code 0 (d+1)) 2++[⟨5,0,d,[]⟩]))=(Re.loop (decide (r.how=1)) X).code 0 d:=by
    simp only [Re.code,Re.code_moved,Re.code_len]
    rw [Int.zero_add,Int.zero_add,Int.zero_add]
   rw [e,Re.code_moved,Re.code_len] at this
   exact this
  ·exact c1
 generalize (if r.m<0 then behind z1 (loopC y d (decide (r.how=1))) else z1)=z2 at *
 generalize (if r.m<0 then Re.cat Z1 (.loop (decide (r.how=1)) X) else Z1)=Z2 at *
 split
 ·have:=c2.alone 0
  rw [Re.code_moved,Re.code_len] at this
  simp only [Re.code]
  rw [Int.zero_add] at this ⊢
  exact this
 ·exact c2
theorem gen_rep (l:List Tok):∀ (f tag a b:Nat) (d:Int),Rep (gen l f tag a b d) ((tree l f tag a b).code 0 d):=by
 intro f
 induction f with
 | zero=>intro tag a b d;simp only [gen,tree];exact Rep.refl _
 | succ f ih =>
  intro tag a b d
  match tag with
  | 0 =>
   simp only [gen,tree]
   split
   ·exact ih 1 a _ d
   ·have:=(ih 1 a (bar l a b) d).alts (ih 0 (bar l a b+1) b d)
    simp only [Re.code]
    rw [Re.code_moved,Re.code_moved,Re.code_len,Re.code_len] at this
    simp only [Int.zero_add] at this ⊢
    exact this
  | 1 =>
   simp only [gen,tree]
   exact seq_rep l b (fun i j=>ih 2 i j d) (fun i j=>ih 3 i j d) (b-a) a [] [] (Rep.refl _)
  | 2 =>
   simp only [gen,tree]
   split
   ·exact Rep.refl _
   split
   ·exact Rep.refl _
   split
   ·exact Rep.refl _
   split
   ·exact Rep.refl _
   split
   ·exact ih 0 (a+1) (b-1) d
   split
   ·have:=(Rep.behind (Rep.behind (Rep.refl [(⟨6,(l.getD a tok0).n,0,[]⟩:Ins)]) (ih 0 (a+1) (b-1) d)) (Rep.refl [(⟨7,(l.getD a tok0).n,0,[]⟩:Ins)]))
    rw [Re.code_moved] at this
    simp only [Re.code]
    simpa [moved,movedI] using this
   ·have:=(ih 0 (a+1) (b-1) d).alone (l.getD a tok0).how
    rw [Re.code_moved,Re.code_len] at this
    simp only [Re.code]
    simp only [Int.zero_add] at this ⊢
    exact this
  | tag+3 =>
   simp only [gen,tree]
   exact repA_rep (ih 2 a b d) (ih 2 a b (d+1)) (l.getD b tok0)
def treeOf (l:List Tok):Re:=tree l 283 0 0 l.length
theorem coded_rep (l:List Tok):Rep (coded l) ((treeOf l).code 0 0++[⟨13,0,0,[]⟩]):=by
 have:=(gen_rep l 283 0 0 l.length 0).behind (Rep.refl [(⟨13,0,0,[]⟩:Ins)])
 exact this
theorem coded_len (l:List Tok):((treeOf l).len+1≤300→(coded l).length=(treeOf l).len+1)∧(300<(treeOf l).len+1→300<(coded l).length):=by
 have:=(coded_rep l).len
 rw [List.length_append,Re.code_len] at this
 exact this
theorem coded_tree (l:List Tok) (h:(coded l).length≤300):coded l=(treeOf l).code 0 0++[⟨13,0,0,[]⟩]∧(treeOf l).len+1≤300:=by
 have h1:=coded_len l
 have h2:(treeOf l).len+1≤300:=by omega
 exact ⟨(coded_rep l).1 (by rw [List.length_append,Re.code_len];exact h2),h2⟩
inductive Fs where
 | nil
 | bar (t:Tok) (rest:Fs)
 | leaf (t:Tok) (r:Option Tok) (rest:Fs)
 | grp (t:Tok) (inner:Fs) (c:Tok) (r:Option Tok) (rest:Fs)
def Fs.flat:Fs→List Tok
 | .nil=>[]
 | .bar t rest=>t::rest.flat
 | .leaf t r rest=>t::(r.toList++rest.flat)
 | .grp t inner c r rest=>t::(inner.flat++c::(r.toList++rest.flat))
def leafK (t:Tok):Prop:=t.kind=1∨t.kind=2∨t.kind=3∨t.kind=4
def repK (r:Option Tok):Prop:=∀ q,r=some q→q.kind=8
def Fs.wf:Fs→Prop
 | .nil=>True
 | .bar t rest=>t.kind=5∧rest.wf
 | .leaf t r rest=>leafK t∧repK r∧rest.wf
 | .grp t inner c r rest=>t.kind=6∧c.kind=7∧inner.wf∧repK r∧rest.wf
def leafRe (t:Tok):Re:=if t.kind=1 then .one t.set else if t.kind=2 then .back t.n else if t.kind=3 then .head else .tail
def grpRe (t:Tok) (x:Re):Re:=if t.how=3 then x else if t.how=4 then .cap t.n x else .sub t.how x
def part (r:Option Tok) (x:Re):Re:=match r with
 | none=>x
 | some q=>repA x q
def joinRe:Re × Option Re→Re
 | (s,none)=>s
 | (s,some a)=>.alt s a
def Fs.both:Fs→Re × Option Re
 | .nil=>(.eps,none)
 | .bar _ rest=>(.eps,some (joinRe rest.both))
 | .leaf t r rest=>(.cat (part r (leafRe t)) rest.both.1,rest.both.2)
 | .grp t inner _ r rest=>(.cat (part r (grpRe t (joinRe inner.both))) rest.both.1,rest.both.2)
def Fs.re (f:Fs):Re:=joinRe f.both
def Fs.sq:Fs→Fs
 | .nil=>.nil
 | .bar _ _=>.nil
 | .leaf t r rest=>.leaf t r rest.sq
 | .grp t inner c r rest=>.grp t inner c r rest.sq
def Fs.rs:Fs→Option Fs
 | .nil=>none
 | .bar _ rest=>some rest
 | .leaf _ _ rest=>rest.rs
 | .grp _ _ _ _ rest=>rest.rs
theorem Fs.both2:∀ f:Fs,f.both.2=f.rs.map Fs.re
 | .nil=>rfl
 | .bar _ rest=>rfl
 | .leaf _ _ rest=>by simp only [Fs.both,Fs.rs];exact Fs.both2 rest
 | .grp _ _ _ _ rest=>by simp only [Fs.both,Fs.rs];exact Fs.both2 rest
theorem Fs.rs_none:∀ f:Fs,f.rs=none→f.sq=f
 | .nil,_=>rfl
 | .bar _ rest,h=>by simp [Fs.rs] at h
 | .leaf _ _ rest,h=>by simp only [Fs.sq];rw [Fs.rs_none rest h]
 | .grp _ _ _ _ rest,h=>by simp only [Fs.sq];rw [Fs.rs_none rest h]
theorem Fs.rs_some:∀ (f g:Fs),f.wf→f.rs=some g→g.wf∧∃ t:Tok,t.kind=5∧f.flat=f.sq.flat++t::g.flat
 | .nil,g,_,h=>by simp [Fs.rs] at h
 | .bar t rest,g,hw,h=>by simp [Fs.rs] at h;subst h;exact ⟨hw.2,t,hw.1,rfl⟩
 | .leaf t r rest,g,hw,h=>by
  obtain ⟨a,u,k,e⟩:=Fs.rs_some rest g hw.2.2 h
  exact ⟨a,u,k,by simp only [Fs.flat,Fs.sq,e];simp⟩
 | .grp t inner c r rest,g,hw,h=>by
  obtain ⟨a,u,k,e⟩:=Fs.rs_some rest g hw.2.2.2.2 h
  exact ⟨a,u,k,by simp only [Fs.flat,Fs.sq,e];simp⟩
theorem drop_cons {l:List Tok} {a:Nat} {t:Tok} {s:List Tok} (h:l.drop a=t::s):l.getD a tok0=t∧l.drop (a+1)=s∧a<l.length:=by
 have hl:a<l.length:=by
  rcases Nat.lt_or_ge a l.length with h1 | h1
  ·exact h1
  ·rw [List.drop_eq_nil_of_le h1] at h;cases h
 rw [drop_next l a hl] at h
 simp only [List.cons.injEq] at h
 exact ⟨h.1,h.2,hl⟩
theorem drop_app {l:List Tok} {a:Nat} {x s:List Tok} (h:l.drop a=x++s):l.drop (a+x.length)=s:=by
 rw [Nat.add_comm,← List.drop_drop]
 have:∀ n,List.drop n (l.drop a)=List.drop n (x++s):=fun n=>by rw [h]
 rw [List.drop_drop,Nat.add_comm,← List.drop_drop,h,List.drop_left]
theorem delta_rep {r:Option Tok} (h:repK r):∀ (n:Int) (rest:List Tok) (j:Nat),1≤n→closeFrom (r.toList++rest) n j=closeFrom rest n (j+r.toList.length):=by
 intro n rest j hn
 cases r with
 | none=>rfl
 | some q =>
  have:=h q rfl
  have hd:delta q=0:=by unfold delta;rw [if_neg (by omega),if_neg (by omega)]
  show closeFrom (q::rest) n j=_
  rw [closeFrom,hd,if_neg (by omega),Int.add_zero];rfl
theorem close_flat:∀ (f:Fs),f.wf→∀ (n:Int) (rest:List Tok) (j:Nat),1≤n→closeFrom (f.flat++rest) n j=closeFrom rest n (j+f.flat.length)
 | .nil,_,n,rest,j,hn=>rfl
 | .bar t r,hw,n,rest,j,hn=>by
  have hd:delta t=0:=by have:=hw.1;unfold delta;rw [if_neg (by omega),if_neg (by omega)]
  show closeFrom (t::(r.flat++rest)) n j=_
  rw [closeFrom,hd,if_neg (by omega),Int.add_zero,close_flat r hw.2 n rest (j+1) hn]
  simp only [Fs.flat,List.length_cons];rw [show j+1+r.flat.length=j+(r.flat.length+1) by omega]
 | .leaf t r s,hw,n,rest,j,hn=>by
  have hd:delta t=0:=by have:=hw.1;unfold leafK at this;unfold delta;rw [if_neg (by omega),if_neg (by omega)]
  show closeFrom (t::((r.toList++s.flat)++rest)) n j=_
  rw [closeFrom,hd,if_neg (by omega),Int.add_zero,List.append_assoc,delta_rep hw.2.1 _ _ _ hn,close_flat s hw.2.2 n rest _ hn]
  simp only [Fs.flat,List.length_cons,List.length_append];congr 1;omega
 | .grp t i c r s,hw,n,rest,j,hn=>by
  have hd:delta t=1:=by have:=hw.1;unfold delta;rw [if_pos (by omega)]
  have hc:delta c=-1:=by have:=hw.2.1;unfold delta;rw [if_neg (by omega),if_pos (by omega)]
  have e:(Fs.grp t i c r s).flat++rest=t::(i.flat++(c::(r.toList++(s.flat++rest)))):=by simp [Fs.flat]
  rw [e,closeFrom,hd,if_neg (by omega),close_flat i hw.2.2.1 (n+1) _ _ (by omega),closeFrom,hc,if_neg (by omega)]
  rw [show n+1+-1=n by omega,delta_rep hw.2.2.2.1 _ _ _ hn,close_flat s hw.2.2.2.2 n rest _ hn]
  simp only [Fs.flat,List.length_cons,List.length_append];congr 1;omega
theorem closing_grp {l:List Tok} {i:Nat} {t c:Tok} {inner:Fs} {tl:List Tok} (h:l.drop i=t::(inner.flat++c::tl)) (ht:t.kind=6) (hc:c.kind=7) (hw:inner.wf):closing l i=i+inner.flat.length+1:=by
 have hd:delta t=1:=by unfold delta;rw [if_pos (by omega)]
 have hd2:delta c=-1:=by unfold delta;rw [if_neg (by omega),if_pos (by omega)]
 unfold closing
 rw [h,closeFrom,hd,if_neg (by omega),close_flat inner hw _ _ _ (by omega),closeFrom,hd2,if_pos (by omega)]
 omega
theorem rep_len {r:Option Tok}:r.toList.length=0∧r=none∨∃ q,r=some q∧r.toList=[q]:=by
 cases r with
 | none=>exact .inl ⟨rfl,rfl⟩
 | some q=>exact .inr ⟨q,rfl,rfl⟩
theorem bar_flat:∀ (f:Fs),f.wf→∀ (l:List Tok) (i:Nat) (post:List Tok),l.drop i=f.flat++post→bar l i (i+f.flat.length)=i+f.sq.flat.length
 | .nil,_,l,i,post,h=>by rw [bar_step,if_pos (by simp [Fs.flat])];rfl
 | .bar t r,hw,l,i,post,h=>by
  have h1:=drop_cons (t:=t) (s:=r.flat++post) h
  rw [bar_step,if_neg (by simp [Fs.flat]),if_pos (by unfold kindAt;rw [h1.1];exact hw.1)];rfl
 | .leaf t r s,hw,l,i,post,h=>by
  have h1:=drop_cons (t:=t) (s:=(r.toList++s.flat)++post) h
  have hk:=hw.1
  unfold leafK at hk
  have hl:(Fs.leaf t r s).flat.length=1+r.toList.length+s.flat.length:=by simp [Fs.flat];omega
  have hq:(Fs.leaf t r s).sq.flat.length=1+r.toList.length+s.sq.flat.length:=by simp [Fs.flat,Fs.sq];omega
  rw [hl,hq]
  rw [bar_step,if_neg (by omega),if_neg (by unfold kindAt;rw [h1.1];omega),if_neg (by unfold kindAt;rw [h1.1];omega)]
  have h2:=h1.2.1
  rw [List.append_assoc] at h2
  rcases rep_len (r:=r) with ⟨e0,e⟩ | ⟨q,e,e1⟩
  ·subst e
   have:=bar_flat s hw.2.2 l (i+1) post h2
   simp only [Option.toList] at *
   simpa [Nat.add_assoc,Nat.add_comm,Nat.add_left_comm] using this
  ·subst e
   have h3:=drop_cons (t:=q) (s:=s.flat++post) h2
   have hq8:=hw.2.1 q rfl
   simp only [Option.toList,List.length_cons,List.length_nil]
   rw [bar_step,if_neg (by omega),if_neg (by unfold kindAt;rw [h3.1];omega),if_neg (by unfold kindAt;rw [h3.1];omega)]
   have:=bar_flat s hw.2.2 l (i+1+1) post h3.2.1
   simpa [Nat.add_assoc,Nat.add_comm,Nat.add_left_comm] using this
 | .grp t inner c r s,hw,l,i,post,h=>by
  have h0:l.drop i=t::(inner.flat++c::(r.toList++(s.flat++post))):=by rw [h];simp [Fs.flat]
  have h1:=drop_cons h0
  have hk:=hw.1
  have hl:(Fs.grp t inner c r s).flat.length=2+inner.flat.length+r.toList.length+s.flat.length:=by simp [Fs.flat];omega
  have hq:(Fs.grp t inner c r s).sq.flat.length=2+inner.flat.length+r.toList.length+s.sq.flat.length:=by simp [Fs.flat,Fs.sq];omega
  rw [hl,hq,bar_step,if_neg (by omega),if_neg (by unfold kindAt;rw [h1.1];omega),if_pos (by unfold kindAt;rw [h1.1];omega)]
  rw [closing_grp h0 hk hw.2.1 hw.2.2.1]
  have h2:=drop_app h1.2.1
  have h3:=(drop_cons h2).2.1
  rcases rep_len (r:=r) with ⟨e0,e⟩ | ⟨q,e,e1⟩
  ·subst e
   have:=bar_flat s hw.2.2.2.2 l (i+1+inner.flat.length+1) post h3
   simp only [Option.toList,List.length_nil]
   rw [show i+inner.flat.length+1+1=i+1+inner.flat.length+1 by omega,show i+(2+inner.flat.length+0+s.flat.length)=i+1+inner.flat.length+1+s.flat.length by omega,this]
   omega
  ·subst e
   have h4:=drop_cons (t:=q) (s:=s.flat++post) h3
   have hq8:=hw.2.2.2.1 q rfl
   simp only [Option.toList,List.length_cons,List.length_nil]
   rw [show i+inner.flat.length+1+1=i+1+inner.flat.length+1 by omega]
   rw [bar_step,if_neg (by omega),if_neg (by unfold kindAt;rw [h4.1];omega),if_neg (by unfold kindAt;rw [h4.1];omega)]
   have:=bar_flat s hw.2.2.2.2 l (i+1+inner.flat.length+1+1) post h4.2.1
   rw [show i+(2+inner.flat.length+(0+1)+s.flat.length)=i+1+inner.flat.length+1+1+s.flat.length by omega,this]
   omega
theorem sq_head:∀ (f:Fs),f.wf→∀ (t:Tok) (s:List Tok),f.sq.flat=t::s→t.kind≠8
 | .nil,_,t,s,h=>by simp [Fs.sq,Fs.flat] at h
 | .bar _ _,_,t,s,h=>by simp [Fs.sq,Fs.flat] at h
 | .leaf u r rest,hw,t,s,h=>by
  simp only [Fs.sq,Fs.flat,List.cons.injEq] at h
  have:=hw.1;unfold leafK at this;rw [← h.1];omega
 | .grp u i c r rest,hw,t,s,h=>by
  simp only [Fs.sq,Fs.flat,List.cons.injEq] at h
  have:=hw.1;rw [← h.1];omega
theorem flat_sq (f:Fs) (hw:f.wf):∃ s,f.flat=f.sq.flat++s:=by
 cases h:f.rs with
 | none=>exact ⟨[],by rw [Fs.rs_none f h];simp⟩
 | some g=>obtain ⟨_,t,_,e⟩:=Fs.rs_some f g hw h;exact ⟨_,e⟩
theorem kind_after {l:List Tok} {f:Fs} (hw:f.wf) {i:Nat} {post:List Tok} (h:l.drop i=f.flat++post) (hl:0<f.sq.flat.length):kindAt l i≠8:=by
 obtain ⟨s,e⟩:=flat_sq f hw
 cases hq:f.sq.flat with
 | nil=>rw [hq] at hl;simp at hl
 | cons t u =>
  rw [e,hq] at h
  have:=drop_cons (t:=t) (s:=(u++s)++post) (by rw [h];simp)
  unfold kindAt;rw [this.1];exact sq_head f hw t u hq
theorem tree_leaf {l:List Tok} {i j f:Nat} {t:Tok} (h:l.getD i tok0=t) (hk:leafK t):tree l (f+1) 2 i j=leafRe t:=by
 simp only [tree]
 unfold kindAt leafRe
 rw [h]
 unfold leafK at hk
 by_cases h1:t.kind=1
 ·rw [if_pos h1,if_pos h1]
 rw [if_neg h1,if_neg h1]
 by_cases h2:t.kind=2
 ·rw [if_pos h2,if_pos h2]
 rw [if_neg h2,if_neg h2]
 by_cases h3:t.kind=3
 ·rw [if_pos h3,if_pos h3]
 rw [if_neg h3,if_neg h3,if_pos (by omega)]
theorem tree_grp {l:List Tok} {i j f:Nat} {t:Tok} (h:l.getD i tok0=t) (hk:t.kind=6):tree l (f+1) 2 i j=grpRe t (tree l f 0 (i+1) (j-1)):=by
 simp only [tree]
 unfold kindAt grpRe
 rw [h]
 rw [if_neg (by omega),if_neg (by omega),if_neg (by omega),if_neg (by omega)]
theorem tree_rep {l:List Tok} {i j f:Nat}:tree l (f+1) 3 i j=repA (tree l f 2 i j) (l.getD j tok0):=by simp only [tree]
def AltOk (N:Nat):Prop:=∀ g:Fs,g.wf→g.flat.length<N→∀ (l:List Tok) (a:Nat) (post:List Tok) (f:Nat),l.drop a=g.flat++post→2*g.flat.length+4≤f→tree l f 0 a (a+g.flat.length)=g.re
theorem seq_flat (N:Nat) (hA:AltOk N) (l:List Tok) (f':Nat) (hf:2*N+2≤f'):∀ (f:Fs),f.wf→f.flat.length≤N→∀ (i:Nat) (post:List Tok) (g:Nat),l.drop i=f.flat++post→f.sq.flat.length≤g →
  seqA (fun i j=>tree l f' 2 i j) (fun i j=>tree l f' 3 i j) l (i+f.sq.flat.length) g i=f.both.1
 | .nil,_,_,i,post,g,h,hg=>by
  cases g with
  | zero=>rfl
  | succ g=>simp only [seqA];rw [if_pos (by simp [Fs.sq,Fs.flat])];rfl
 | .bar _ _,_,_,i,post,g,h,hg=>by
  cases g with
  | zero=>rfl
  | succ g=>simp only [seqA];rw [if_pos (by simp [Fs.sq,Fs.flat])];rfl
 | .leaf t r s,hw,hN,i,post,g,h,hg=>by
  have h1:=drop_cons (t:=t) (s:=(r.toList++s.flat)++post) h
  have h2:=h1.2.1
  rw [List.append_assoc] at h2
  have hk:=hw.1
  have hk':=hk
  unfold leafK at hk'
  have hq:(Fs.leaf t r s).sq.flat.length=1+r.toList.length+s.sq.flat.length:=by simp [Fs.flat,Fs.sq];omega
  have hNs:s.flat.length≤N:=by simp [Fs.flat] at hN;omega
  have haf:after l i=i+1:=by unfold after kindAt;rw [h1.1,if_neg (by omega)]
  rw [hq] at hg ⊢
  obtain ⟨g,rfl⟩:∃ g',g=g'+1:=⟨g-1,by omega⟩
  obtain ⟨f1,rfl⟩:∃ f1,f'=f1+1+1:=⟨f'-2,by omega⟩
  simp only [seqA]
  rw [if_neg (by omega),haf]
  rcases rep_len (r:=r) with ⟨e0,e⟩ | ⟨q,e,e1⟩
  ·subst e
   have h3:l.drop (i+1)=s.flat++post:=h2
   rw [if_neg (by
    rintro ⟨hlt,h8⟩
    exact kind_after hw.2.2 h3 (by simp at hlt;omega) h8)]
   have:=seq_flat N hA l (f1+1+1) hf s hw.2.2 hNs (i+1) post g h3 (by simp at hg;omega)
   rw [show i+(1+(Option.none:Option Tok).toList.length+s.sq.flat.length)=i+1+s.sq.flat.length by simp;omega,this,tree_leaf h1.1 hk]
   rfl
  ·subst e
   have h3:=drop_cons (t:=q) (s:=s.flat++post) h2
   have hq8:=hw.2.1 q rfl
   simp only [Option.toList,List.length_cons,List.length_nil] at hg
   rw [if_pos ⟨by simp;omega,by unfold kindAt;rw [h3.1];exact hq8⟩]
   have:=seq_flat N hA l (f1+1+1) hf s hw.2.2 hNs (i+1+1) post g h3.2.1 (by omega)
   rw [show i+(1+(some q).toList.length+s.sq.flat.length)=i+1+1+s.sq.flat.length by simp;omega,this,tree_rep,tree_leaf h1.1 hk,h3.1]
   rfl
 | .grp t inner c r s,hw,hN,i,post,g,h,hg=>by
  have h0:l.drop i=t::(inner.flat++c::(r.toList++(s.flat++post))):=by rw [h];simp [Fs.flat]
  have h1:=drop_cons h0
  have hk:=hw.1
  have hcl:=closing_grp h0 hk hw.2.1 hw.2.2.1
  have hq:(Fs.grp t inner c r s).sq.flat.length=2+inner.flat.length+r.toList.length+s.sq.flat.length:=by simp [Fs.flat,Fs.sq];omega
  have hl:(Fs.grp t inner c r s).flat.length=2+inner.flat.length+r.toList.length+s.flat.length:=by simp [Fs.flat];omega
  have haf:after l i=i+1+inner.flat.length+1:=by unfold after kindAt;rw [h1.1,if_pos hk,hcl];omega
  rw [hq] at hg ⊢
  rw [hl] at hN
  obtain ⟨g,rfl⟩:∃ g',g=g'+1:=⟨g-1,by omega⟩
  obtain ⟨f1,rfl⟩:∃ f1,f'=f1+1+1:=⟨f'-2,by omega⟩
  have h2:=drop_app h1.2.1
  have h3:=(drop_cons h2).2.1
  simp only [seqA]
  rw [if_neg (by omega),haf]
  rcases rep_len (r:=r) with ⟨e0,e⟩ | ⟨q,e,e1⟩
  ·subst e
   have h4:l.drop (i+1+inner.flat.length+1)=s.flat++post:=h3
   rw [if_neg (by
    rintro ⟨hlt,h8⟩
    exact kind_after hw.2.2.2.2 h4 (by simp at hlt;omega) h8)]
   have:=seq_flat N hA l (f1+1+1) hf s hw.2.2.2.2 (by omega) (i+1+inner.flat.length+1) post g h4 (by simp at hg;omega)
   rw [show i+(2+inner.flat.length+(Option.none:Option Tok).toList.length+s.sq.flat.length)=i+1+inner.flat.length+1+s.sq.flat.length by simp;omega,this,tree_grp h1.1 hk,
    show i+1+inner.flat.length+1-1=i+1+inner.flat.length by omega,hA inner hw.2.2.1 (by omega) l (i+1) _ (f1+1) h1.2.1 (by omega)]
   rfl
  ·subst e
   have h4:=drop_cons (t:=q) (s:=s.flat++post) h3
   have hq8:=hw.2.2.2.1 q rfl
   simp only [Option.toList,List.length_cons,List.length_nil] at hg hN
   rw [if_pos ⟨by simp;omega,by unfold kindAt;rw [h4.1];exact hq8⟩]
   have:=seq_flat N hA l (f1+1+1) hf s hw.2.2.2.2 (by omega) (i+1+inner.flat.length+1+1) post g h4.2.1 (by omega)
   rw [show i+(2+inner.flat.length+(some q).toList.length+s.sq.flat.length)=i+1+inner.flat.length+1+1+s.sq.flat.length by simp;omega,this,tree_rep,tree_grp h1.1 hk,h4.1,
    show i+1+inner.flat.length+1-1=i+1+inner.flat.length by omega,hA inner hw.2.2.1 (by omega) l (i+1) _ f1 h1.2.1 (by omega)]
   rfl
theorem tree_alts (l:List Tok) (f a b:Nat):tree l (f+1) 0 a b=if bar l a b=b then tree l f 1 a (bar l a b) else .alt (tree l f 1 a (bar l a b)) (tree l f 0 (bar l a b+1) b):=by simp only [tree]
theorem tree_seq (l:List Tok) (f a b:Nat):tree l (f+1) 1 a b=seqA (fun i j=>tree l f 2 i j) (fun i j=>tree l f 3 i j) l b (b-a) a:=by simp only [tree]
theorem alt_flat:∀ N,AltOk N
 | 0=>fun g _ h=>by omega
 | N+1=>by
  intro f hw hN l a post fu h hf
  have ih:=alt_flat N
  obtain ⟨f',rfl⟩:∃ f',fu=f'+1+1:=⟨fu-2,by omega⟩
  have hb:=bar_flat f hw l a post h
  rw [tree_alts,hb,tree_seq]
  have hlen:f.flat.length=f.sq.flat.length+match f.rs with | none=>0 | some g=>g.flat.length+1:=by
   cases hr:f.rs with
   | none=>rw [Fs.rs_none f hr];rfl
   | some g=>obtain ⟨_,t,_,e⟩:=Fs.rs_some f g hw hr;rw [e];simp
  have hs:=seq_flat f.flat.length (fun g gw gl=>ih g gw (by omega)) l f' (by omega) f hw (Nat.le_refl _) a post (a+f.sq.flat.length-a) h (by omega)
  have e2:=f.both2
  unfold Fs.re
  cases hr:f.rs with
  | none =>
   rw [hr] at hlen e2
   rw [if_pos (by simp at hlen;omega),hs]
   generalize hB:f.both=B at *
   obtain ⟨b1,b2⟩:=B
   simp at e2;subst e2;rfl
  | some g =>
   rw [hr] at hlen e2
   obtain ⟨gw,t,_,e⟩:=Fs.rs_some f g hw hr
   simp only at hlen
   rw [if_neg (by omega),hs]
   have h5:l.drop (a+f.sq.flat.length+1)=g.flat++post:=by
    rw [e,List.append_assoc] at h
    exact (drop_cons (drop_app h)).2.1
   have hr2:=ih g gw (by omega) l (a+f.sq.flat.length+1) post (f'+1) h5 (by omega)
   rw [show a+f.sq.flat.length+1+g.flat.length=a+f.flat.length by omega] at hr2
   rw [hr2]
   generalize hB:f.both=B at *
   obtain ⟨b1,b2⟩:=B
   simp at e2;subst e2;rfl
theorem treeOf_flat (f:Fs) (hw:f.wf) (h:f.flat.length≤64):treeOf f.flat=f.re:=by
 have:=alt_flat (f.flat.length+1) f hw (by omega) f.flat 0 [] 283 (by simp) (by omega)
 rw [Nat.zero_add] at this
 exact this
end Mt
