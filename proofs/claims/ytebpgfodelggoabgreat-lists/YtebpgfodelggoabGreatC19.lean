import Derived.Test.YtebpgfodelggoabGreatC03
import Derived.Test.YtebpgfodelggoabGreatC07
set_option linter.unusedVariables false
set_option linter.unusedSimpArgs false
namespace Mt
inductive Re where
 | eps
 | one (s:List UInt8)
 | back (k:Int)
 | head
 | tail
 | cat (a b:Re)
 | alt (a b:Re)
 | cap (k:Int) (a:Re)
 | sub (s:Int) (a:Re)
 | opt (late:Bool) (a:Re)
 | loop (late:Bool) (a:Re)
def Re.len:Re→Nat
 | .eps=>0
 | .one _=>1
 | .back _=>1
 | .head=>1
 | .tail=>1
 | .cat a b=>a.len+b.len
 | .alt a b=>a.len+b.len+2
 | .cap _ a=>a.len+2
 | .sub _ a=>a.len+2
 | .opt _ a=>a.len+1
 | .loop _ a=>a.len+3
def spl (x y:Int) (late:Bool):Ins:=if late then ⟨2,y,x,[]⟩ else ⟨2,x,y,[]⟩
def Re.code:Re→Int→Int→List Ins
 | .eps,_,_=>[]
 | .one s,_,_=>[⟨1,0,0,s⟩]
 | .back k,_,_=>[⟨8,k,0,[]⟩]
 | .head,_,_=>[⟨9,0,0,[]⟩]
 | .tail,_,_=>[⟨10,0,0,[]⟩]
 | .cat a b,p,d=>a.code p d++b.code (p+a.len) d
 | .alt a b,p,d=>⟨2,p+1,p+a.len+2,[]⟩::(a.code (p+1) d++⟨3,p+a.len+2+b.len,0,[]⟩::b.code (p+a.len+2) d)
 | .cap k a,p,d=>⟨6,k,0,[]⟩::(a.code (p+1) d++[⟨7,k,0,[]⟩])
 | .sub s a,p,d=>⟨11,s,p+a.len+2,[]⟩::(a.code (p+1) d++[⟨12,0,0,[]⟩])
 | .opt late a,p,d=>spl (p+1) (p+a.len+1) late::a.code (p+1) d
 | .loop late a,p,d=>spl (p+1) (p+a.len+3) late::⟨4,d,0,[]⟩::(a.code (p+2) (d+1)++[⟨5,p,d,[]⟩])
theorem Re.zH:∀ (r:Re) (p d:Int),(r.code p d).length=r.len
 | .eps,_,_=>rfl
 | .one _,_,_=>rfl
 | .back _,_,_=>rfl
 | .head,_,_=>rfl
 | .tail,_,_=>rfl
 | .cat a b,p,d=>by simp [Re.code,Re.len,Re.zH a,Re.zH b]
 | .alt a b,p,d=>by simp [Re.code,Re.len,Re.zH a,Re.zH b];omega
 | .cap _ a,p,d=>by simp [Re.code,Re.len,Re.zH a]
 | .sub _ a,p,d=>by simp [Re.code,Re.len,Re.zH a]
 | .opt _ a,p,d=>by simp [Re.code,Re.len,Re.zH a]
 | .loop _ a,p,d=>by simp [Re.code,Re.len,Re.zH a]
theorem zBH (a b:List Ins) (n:Int):moved (a++b) n=moved a n++moved b n:=by simp [moved]
theorem zAl (i:Ins) (b:List Ins) (n:Int):moved (i::b) n=zAh i n::moved b n:=rfl
theorem zBI (n:Int):moved [] n=[]:=rfl
theorem zD3 (x y:Int) (late:Bool) (n:Int):zAh (spl x y late) n=spl (x+n) (y+n) late:=by cases late <;> rfl
theorem Re.jG:∀ (r:Re) (p d n:Int),moved (r.code p d) n=r.code (p+n) d
 | .eps,_,_,_=>rfl
 | .one _,_,_,_=>rfl
 | .back _,_,_,_=>rfl
 | .head,_,_,_=>rfl
 | .tail,_,_,_=>rfl
 | .cat a b,p,d,n=>by
  simp only [Re.code,zBH,Re.jG a,Re.jG b]
  rw [show p+a.len+n=p+n+a.len by omega]
 | .alt a b,p,d,n=>by
  simp only [Re.code,zBH,zAl,Re.jG a,Re.jG b]
  rw [show p+a.len+2+n=p+n+a.len+2 by omega,show p+1+n=p+n+1 by omega]
  simp only [zAh]
  simp
  omega
 | .cap _ a,p,d,n=>by
  simp only [Re.code,zBH,zAl,zBI,Re.jG a]
  rw [show p+1+n=p+n+1 by omega];rfl
 | .sub _ a,p,d,n=>by
  simp only [Re.code,zBH,zAl,zBI,Re.jG a]
  rw [show p+1+n=p+n+1 by omega]
  simp only [zAh]
  simp
  omega
 | .opt _ a,p,d,n=>by
  simp only [Re.code,zAl,Re.jG a,zD3]
  rw [show p+1+n=p+n+1 by omega,show p+a.len+1+n=p+n+a.len+1 by omega]
 | .loop _ a,p,d,n=>by
  simp only [Re.code,zBH,zAl,zBI,Re.jG a,zD3]
  rw [show p+1+n=p+n+1 by omega,show p+2+n=p+n+2 by omega,show p+a.len+3+n=p+n+a.len+3 by omega]
  rfl
theorem yK (a b:List Ins):(behind a b).length=if 300<a.length then a.length else a.length+b.length:=by
 unfold behind;split
 ·rfl
 ·simp [jY]
theorem xJ (a b:List Ins) (h:a.length≤300):behind a b=a++moved b a.length:=by unfold behind;rw [if_neg (by omega)]
def Rep (c L:List Ins):Prop:=(L.length≤300→c=L)∧(300<L.length→300<c.length)
theorem Rep.refl (c:List Ins):Rep c c:=⟨fun _=>rfl,id⟩
theorem Rep.len {c L:List Ins} (h:Rep c L):(L.length≤300→c.length=L.length)∧(300<L.length→300<c.length):=⟨fun hl=>by rw [h.1 hl],h.2⟩
theorem Rep.behind {a A b B:List Ins} (ha:Rep a A) (hb:Rep b B):Rep (behind a b) (A++moved B A.length):=by
 have la:=ha.len
 have lb:=hb.len
 refine ⟨fun h=>?_,fun h=>?_⟩
 ·rw [List.length_append,jY] at h
  rw [ha.1 (by omega),hb.1 (by omega),xJ _ _ (by omega)]
 ·rw [List.length_append,jY] at h
  rw [yK]
  split <;> omega
theorem Rep.alone {c L:List Ins} (s:Int) (h:Rep c L):Rep (alone s c) (⟨11,s,L.length+2,[]⟩::(moved L 1++[⟨12,0,0,[]⟩])):=by
 have hl:=h.len
 refine ⟨fun hh=>?_,fun hh=>?_⟩
 ·simp only [List.length_cons,List.length_append,jY,List.length_nil] at hh
  rw [h.1 (by omega)]
  unfold Mt.alone
  rw [xJ [_] L (by simp),xJ _ _ (by simp [jY];omega)]
  rfl
 ·simp only [List.length_cons,List.length_append,jY,List.length_nil] at hh
  unfold Mt.alone
  rw [yK,yK]
  simp only [List.length_cons,List.length_nil]
  repeat' split
  all_goals omega
theorem Rep.loop {c L:List Ins} (d:Int) (late:Bool) (h:Rep c L):Rep (vI c d late) (spl 1 (L.length+3) late::⟨4,d,0,[]⟩::(moved L 2++[⟨5,0,d,[]⟩])):=by
 have hl:=h.len
 refine ⟨fun hh=>?_,fun hh=>?_⟩
 ·simp only [List.length_cons,List.length_append,jY,List.length_nil] at hh
  rw [h.1 (by omega)]
  unfold Mt.vI
  have e:∀ x y,jM x y late=[spl x y late]:=fun x y=>by cases late <;> rfl
  rw [e,xJ [_] [_] (by simp)]
  have e2:([spl 1 ((L.length:Int)+3) late]++moved [(⟨4,d,0,[]⟩:Ins)] ([spl 1 ((L.length:Int)+3) late].length:Int))=[spl 1 ((L.length:Int)+3) late,⟨4,d,0,[]⟩]:=rfl
  rw [e2,xJ [_,_] L (by simp),xJ _ _ (by simp [jY];omega)]
  simp only [List.length_append,List.length_cons,List.length_nil,jY,zAl,zBI]
  have e3:zAh ⟨5,-(L.length:Int)-2,d,[]⟩ ((0+1+1+L.length:Nat):Int)=⟨5,0,d,[]⟩:=by
   show (⟨5,(-(L.length:Int)-2)+((0+1+1+L.length:Nat):Int),d,[]⟩:Ins)=_
   congr 1;omega
  rw [e3];rfl
 ·simp only [List.length_cons,List.length_append,jY,List.length_nil] at hh
  unfold Mt.vI
  rw [yK,yK,yK]
  have e:(jM 1 ((c.length:Int)+3) late).length=1:=by unfold jM;split <;> rfl
  rw [e]
  simp only [List.length_cons,List.length_nil]
  repeat' split
  all_goals omega
theorem Rep.alts {s S r R:List Ins} (hs:Rep s S) (hr:Rep r R):Rep (Mt.behind (Mt.behind (Mt.behind (jM 1 ((s.length:Int)+2) false) s) (zED (1+(r.length:Int)))) r) (⟨2,1,S.length+2,[]⟩::(moved S 1++⟨3,S.length+2+R.length,0,[]⟩::moved R (S.length+2))):=by
 have ls:=hs.len
 have lr:=hr.len
 refine ⟨fun hh=>?_,fun hh=>?_⟩
 ·simp only [List.length_cons,List.length_append,jY] at hh
  rw [hs.1 (by omega),hr.1 (by omega)]
  rw [xJ (jM _ _ _) S (by simp [jM]),xJ _ (zED _) (by simp [jM,jY];omega),xJ _ R (by simp [jM,zED,jY];omega)]
  have e1:jM 1 ((S.length:Int)+2) false=[⟨2,1,(S.length:Int)+2,[]⟩]:=rfl
  simp only [e1,zED,List.length_append,List.length_cons,List.length_nil,jY,zAl,zBI]
  have e2:zAh ⟨3,1+(R.length:Int),0,[]⟩ ((0+1+S.length:Nat):Int)=⟨3,S.length+2+R.length,0,[]⟩:=by
   show (⟨3,(1+(R.length:Int))+((0+1+S.length:Nat):Int),0,[]⟩:Ins)=_
   congr 1;omega
  rw [e2,show ((0+1+S.length+(0+1):Nat):Int)=(S.length:Int)+2 by omega]
  simp
 ·simp only [List.length_cons,List.length_append,jY] at hh
  rw [yK,yK,yK]
  have e1:(jM 1 ((s.length:Int)+2) false).length=1:=rfl
  have e2:(zED (1+(r.length:Int))).length=1:=rfl
  rw [e1,e2]
  repeat' split
  all_goals omega
def kI (x:Re):Nat→Re
 | 0=>.eps
 | n+1=>.cat x (kI x n)
def zBJ (x:Re) (late:Bool):Nat→Re
 | 0=>.eps
 | n+1=>.opt late (.cat x (zBJ x late n))
theorem zCN (x:Re) (late:Bool):∀ n,(zBJ x late n).len=n*(x.len+1)
 | 0=>by simp [zBJ,Re.len]
 | n+1=>by rw [zBJ,Re.len,Re.len,zCN x late n,Nat.add_mul];omega
theorem zIg {x:List Ins} {X:Re} {d:Int} (hx:Rep x (X.code 0 d)):∀ (n:Nat) (c C:List Ins),Rep c C→Rep (zC x n c) (C++(kI X n).code C.length d)
 | 0,c,C,h=>by simpa [zC,kI,Re.code] using h
 | n+1,c,C,h=>by
  have:=zIg hx n _ _ (h.behind hx)
  simp only [zC,kI,Re.code]
  rw [Re.jG,Int.zero_add,List.length_append,Re.zH,List.append_assoc] at this
  simpa using this
theorem zIh (x:List Ins) (late:Bool):∀ (n:Nat) (c:List Ins),c.length≤(vJ x late n c).length
 | 0,c=>Nat.le_refl _
 | n+1,c=>by
  refine Nat.le_trans ?_ (zIh x late n _)
  rw [yK];split <;> omega
theorem zGt {X:Re} {d:Int} (late:Bool):∀ (n:Nat) (c C:List Ins),Rep c C→Rep (vJ (X.code 0 d) late n c) (C++(zBJ X late n).code C.length d)
 | 0,c,C,h=>by simpa [vJ,zBJ,Re.code] using h
 | n+1,c,C,h=>by
  have e:∀ x y,jM x y late=[spl x y late]:=fun x y=>by cases late <;> rfl
  have k:=zGt (X:=X) (d:=d) late n _ _ (h.behind (Rep.behind (Rep.refl (jM 1 (((n:Int)+1)*((X.code 0 d).length+1)) late)) (Rep.refl (X.code 0 d))))
  simp only [vJ,zBJ,Re.code]
  rw [e] at k
  simp only [List.length_cons,List.length_nil,zBH,zAl,zBI,zD3,Re.jG,List.length_append,Re.zH,Re.len,zCN] at k ⊢
  rw [e]
  have a1:(1:Int)+(C.length:Int)=C.length+1:=by omega
  have a2:(((n:Int)+1)*((X.len:Int)+1))+(C.length:Int)=(C.length:Int)+((X.len+n*(X.len+1):Nat):Int)+1:=by
   rw [Int.natCast_add,Int.natCast_mul,Int.add_mul];simp;omega
  have a3:(0:Int)+((0+1:Nat):Int)+(C.length:Int)=C.length+1:=by omega
  have a4:((C.length+(0+1+X.len):Nat):Int)=(C.length:Int)+1+(X.len:Int):=by omega
  rw [a1,a2,a3,a4] at k
  simpa using k
theorem zOY {x:List Ins} {X:Re} {d:Int} (late:Bool) (hx:Rep x (X.code 0 d)) (n:Nat) (c C:List Ins) (h:Rep c C):Rep (vJ x late n c) (C++(zBJ X late n).code C.length d):=by
 have lx:=hx.len
 rw [Re.zH] at lx
 by_cases hX:X.len≤300
 ·rw [hx.1 (by rw [Re.zH];omega)];exact zGt late n c C h
 ·match n with
  | 0=>simpa [vJ,zBJ,Re.code] using h
  | n+1 =>
   have hl:300<(C++(zBJ X late (n+1)).code C.length d).length:=by
    rw [List.length_append,Re.zH,zCN,Nat.add_mul];omega
   refine ⟨fun hh=>by omega,fun _=>?_⟩
   refine Nat.lt_of_lt_of_le ?_ (zIh x late n _)
   have e1:(jM 1 (((n:Int)+1)*(x.length+1)) late).length=1:=by unfold jM;split <;> rfl
   rw [yK,yK,e1]
   repeat' split
   all_goals omega
def zMc (at' rp:Nat→Nat→Re) (l:List Tok) (b:Nat):Nat→Nat→Re
 | 0,_=>.eps
 | f+1,i =>
  if b≤i then .eps
  else if after l i<b∧jZ l (after l i)=8 then .cat (rp i (after l i)) (zMc at' rp l b f (after l i+1))
  else .cat (at' i (after l i)) (zMc at' rp l b f (after l i))
def zHK (x:Re) (r:Tok):Re :=
 let c1:=if 0<r.n∨0<r.m then (if r.n<r.m then .cat (kI x r.n.toNat) (zBJ x (decide (r.how=1)) (r.m-r.n).toNat) else kI x r.n.toNat) else .eps
 let c2:=if r.m<0 then .cat c1 (.loop (decide (r.how=1)) x) else c1
 if r.how=2 then .sub 0 c2 else c2
def tree (l:List Tok):Nat→Nat→Nat→Nat→Re
 | 0,_,_,_=>.eps
 | f+1,0,a,b=>if bar l a b=b then tree l f 1 a (bar l a b) else .alt (tree l f 1 a (bar l a b)) (tree l f 0 (bar l a b+1) b)
 | f+1,1,a,b=>zMc (fun i j=>tree l f 2 i j) (fun i j=>tree l f 3 i j) l b (b-a) a
 | f+1,2,a,b =>
  if jZ l a=1 then .one (l.getD a jA).set
  else if jZ l a=2 then .back (l.getD a jA).n
  else if jZ l a=3 then .head
  else if jZ l a=4 then .tail
  else if (l.getD a jA).how=3 then tree l f 0 (a+1) (b-1)
  else if (l.getD a jA).how=4 then .cap (l.getD a jA).n (tree l f 0 (a+1) (b-1))
  else .sub (l.getD a jA).how (tree l f 0 (a+1) (b-1))
 | f+1,_+3,a,b=>zHK (tree l f 2 a b) (l.getD b jA)
theorem zJw {at' rp:Nat→Nat→List Ins} {At Rp:Nat→Nat→Re} {d:Int} (l:List Tok) (b:Nat) (h1:∀ i j,Rep (at' i j) ((At i j).code 0 d)) (h2:∀ i j,Rep (rp i j) ((Rp i j).code 0 d)) :
  ∀ (f i:Nat) (c C:List Ins),Rep c C→Rep (yH at' rp l b f i c) (C++(zMc At Rp l b f i).code C.length d)
 | 0,i,c,C,h=>by simpa [yH,zMc,Re.code] using h
 | f+1,i,c,C,h=>by
  simp only [yH,zMc]
  split
  ·simpa [Re.code] using h
  split
  ·have:=zJw l b h1 h2 f (after l i+1) _ _ (h.behind (h2 i (after l i)))
   rw [Re.jG,Int.zero_add,List.length_append,Re.zH,List.append_assoc] at this
   simp only [Re.code]
   simpa using this
  ·have:=zJw l b h1 h2 f (after l i) _ _ (h.behind (h1 i (after l i)))
   rw [Re.jG,Int.zero_add,List.length_append,Re.zH,List.append_assoc] at this
   simp only [Re.code]
   simpa using this
theorem zOZ {x y:List Ins} {X:Re} {d:Int} (hx:Rep x (X.code 0 d)) (hy:Rep y (X.code 0 (d+1))) (r:Tok) :
  Rep (let c1:=if 0<r.n∨0<r.m then (if r.n<r.m then behind (zC x r.n.toNat []) (upTo x (r.m-r.n).toNat (decide (r.how=1))) else zC x r.n.toNat []) else []
   let c2:=if r.m<0 then behind c1 (vI y d (decide (r.how=1))) else c1
   if r.how=2 then alone 0 c2 else c2) ((zHK X r).code 0 d):=by
 unfold zHK
 dsimp only
 have t0:Rep (zC x r.n.toNat []) ((kI X r.n.toNat).code 0 d):=zIg hx r.n.toNat [] [] (Rep.refl _)
 have u0:Rep (upTo x (r.m-r.n).toNat (decide (r.how=1))) ((zBJ X (decide (r.how=1)) (r.m-r.n).toNat).code 0 d):=zOY _ hx _ [] [] (Rep.refl _)
 have c1:Rep (if 0<r.n∨0<r.m then (if r.n<r.m then behind (zC x r.n.toNat []) (upTo x (r.m-r.n).toNat (decide (r.how=1))) else zC x r.n.toNat []) else [])
   ((if 0<r.n∨0<r.m then (if r.n<r.m then Re.cat (kI X r.n.toNat) (zBJ X (decide (r.how=1)) (r.m-r.n).toNat) else kI X r.n.toNat) else Re.eps).code 0 d):=by
  split
  ·split
   ·have:=t0.behind u0
    rw [Re.jG,Re.zH] at this
    exact this
   ·exact t0
  ·exact Rep.refl _
 generalize (if 0<r.n∨0<r.m then (if r.n<r.m then behind (zC x r.n.toNat []) (upTo x (r.m-r.n).toNat (decide (r.how=1))) else zC x r.n.toNat []) else [])=z1 at *
 generalize (if 0<r.n∨0<r.m then (if r.n<r.m then Re.cat (kI X r.n.toNat) (zBJ X (decide (r.how=1)) (r.m-r.n).toNat) else kI X r.n.toNat) else Re.eps)=Z1 at *
 have c2:Rep (if r.m<0 then behind z1 (vI y d (decide (r.how=1))) else z1) ((if r.m<0 then Re.cat Z1 (.loop (decide (r.how=1)) X) else Z1).code 0 d):=by
  split
  ·have:=c1.behind (hy.loop d (decide (r.how=1)))
   have e:(spl 1 (((X.code 0 (d+1)).length:Int)+3) (decide (r.how=1))::⟨4,d,0,[]⟩::(moved (X.code 0 (d+1)) 2++[⟨5,0,d,[]⟩]))=(Re.loop (decide (r.how=1)) X).code 0 d:=by
    simp only [Re.code,Re.jG,Re.zH]
    rw [Int.zero_add,Int.zero_add,Int.zero_add]
   rw [e,Re.jG,Re.zH] at this
   exact this
  ·exact c1
 generalize (if r.m<0 then behind z1 (vI y d (decide (r.how=1))) else z1)=z2 at *
 generalize (if r.m<0 then Re.cat Z1 (.loop (decide (r.how=1)) X) else Z1)=Z2 at *
 split
 ·have:=c2.alone 0
  rw [Re.jG,Re.zH] at this
  simp only [Re.code]
  rw [Int.zero_add] at this ⊢
  exact this
 ·exact c2
theorem zJk (l:List Tok):∀ (f tag a b:Nat) (d:Int),Rep (gen l f tag a b d) ((tree l f tag a b).code 0 d):=by
 intro f
 induction f with
 | zero=>intro tag a b d;simp only [gen,tree];exact Rep.refl _
 | succ f ih =>
  intro tag a b d
  match tag with
  | 0 =>
   simp only [gen,tree]
   split
   ·exact ih 1 a _ d
   ·have:=(ih 1 a (bar l a b) d).alts (ih 0 (bar l a b+1) b d)
    simp only [Re.code]
    rw [Re.jG,Re.jG,Re.zH,Re.zH] at this
    simp only [Int.zero_add] at this ⊢
    exact this
  | 1 =>
   simp only [gen,tree]
   exact zJw l b (fun i j=>ih 2 i j d) (fun i j=>ih 3 i j d) (b-a) a [] [] (Rep.refl _)
  | 2 =>
   simp only [gen,tree]
   split
   ·exact Rep.refl _
   split
   ·exact Rep.refl _
   split
   ·exact Rep.refl _
   split
   ·exact Rep.refl _
   split
   ·exact ih 0 (a+1) (b-1) d
   split
   ·have:=(Rep.behind (Rep.behind (Rep.refl [(⟨6,(l.getD a jA).n,0,[]⟩:Ins)]) (ih 0 (a+1) (b-1) d)) (Rep.refl [(⟨7,(l.getD a jA).n,0,[]⟩:Ins)]))
    rw [Re.jG] at this
    simp only [Re.code]
    simpa [moved,zAh] using this
   ·have:=(ih 0 (a+1) (b-1) d).alone (l.getD a jA).how
    rw [Re.jG,Re.zH] at this
    simp only [Re.code]
    simp only [Int.zero_add] at this ⊢
    exact this
  | tag+3 =>
   simp only [gen,tree]
   exact zOZ (ih 2 a b d) (ih 2 a b (d+1)) (l.getD b jA)
def zEr (l:List Tok):Re:=tree l 283 0 0 l.length
theorem zIi (l:List Tok):Rep (coded l) ((zEr l).code 0 0++[⟨13,0,0,[]⟩]):=by
 have:=(zJk l 283 0 0 l.length 0).behind (Rep.refl [(⟨13,0,0,[]⟩:Ins)])
 exact this
theorem zIj (l:List Tok):((zEr l).len+1≤300→(coded l).length=(zEr l).len+1)∧(300<(zEr l).len+1→300<(coded l).length):=by
 have:=(zIi l).len
 rw [List.length_append,Re.zH] at this
 exact this
theorem zGu (l:List Tok) (h:(coded l).length≤300):coded l=(zEr l).code 0 0++[⟨13,0,0,[]⟩]∧(zEr l).len+1≤300:=by
 have h1:=zIj l
 have h2:(zEr l).len+1≤300:=by omega
 exact ⟨(zIi l).1 (by rw [List.length_append,Re.zH];exact h2),h2⟩
inductive Fs where
 | nil
 | bar (t:Tok) (rest:Fs)
 | leaf (t:Tok) (r:Option Tok) (rest:Fs)
 | grp (t:Tok) (inner:Fs) (c:Tok) (r:Option Tok) (rest:Fs)
def Fs.flat:Fs→List Tok
 | .nil=>[]
 | .bar t rest=>t::rest.flat
 | .leaf t r rest=>t::(r.toList++rest.flat)
 | .grp t inner c r rest=>t::(inner.flat++c::(r.toList++rest.flat))
def zB0 (t:Tok):Prop:=t.kind=1∨t.kind=2∨t.kind=3∨t.kind=4
def zLp (r:Option Tok):Prop:=∀ q,r=some q→q.kind=8
def Fs.wf:Fs→Prop
 | .nil=>True
 | .bar t rest=>t.kind=5∧rest.wf
 | .leaf t r rest=>zB0 t∧zLp r∧rest.wf
 | .grp t inner c r rest=>t.kind=6∧c.kind=7∧inner.wf∧zLp r∧rest.wf
def xQ (t:Tok):Re:=if t.kind=1 then .one t.set else if t.kind=2 then .back t.n else if t.kind=3 then .head else .tail
def zBK (t:Tok) (x:Re):Re:=if t.how=3 then x else if t.how=4 then .cap t.n x else .sub t.how x
def part (r:Option Tok) (x:Re):Re:=match r with
 | none=>x
 | some q=>zHK x q
def zDz:Re × Option Re→Re
 | (s,none)=>s
 | (s,some a)=>.alt s a
def Fs.both:Fs→Re × Option Re
 | .nil=>(.eps,none)
 | .bar _ rest=>(.eps,some (zDz rest.both))
 | .leaf t r rest=>(.cat (part r (xQ t)) rest.both.1,rest.both.2)
 | .grp t inner _ r rest=>(.cat (part r (zBK t (zDz inner.both))) rest.both.1,rest.both.2)
def Fs.re (f:Fs):Re:=zDz f.both
def Fs.sq:Fs→Fs
 | .nil=>.nil
 | .bar _ _=>.nil
 | .leaf t r rest=>.leaf t r rest.sq
 | .grp t inner c r rest=>.grp t inner c r rest.sq
def Fs.rs:Fs→Option Fs
 | .nil=>none
 | .bar _ rest=>some rest
 | .leaf _ _ rest=>rest.rs
 | .grp _ _ _ _ rest=>rest.rs
theorem Fs.zLq:∀ f:Fs,f.both.2=f.rs.map Fs.re
 | .nil=>rfl
 | .bar _ rest=>rfl
 | .leaf _ _ rest=>by simp only [Fs.both,Fs.rs];exact Fs.zLq rest
 | .grp _ _ _ _ rest=>by simp only [Fs.both,Fs.rs];exact Fs.zLq rest
theorem Fs.zG5:∀ f:Fs,f.rs=none→f.sq=f
 | .nil,_=>rfl
 | .bar _ rest,h=>by simp [Fs.rs] at h
 | .leaf _ _ rest,h=>by simp only [Fs.sq];rw [Fs.zG5 rest h]
 | .grp _ _ _ _ rest,h=>by simp only [Fs.sq];rw [Fs.zG5 rest h]
theorem Fs.zFl:∀ (f g:Fs),f.wf→f.rs=some g→g.wf∧∃ t:Tok,t.kind=5∧f.flat=f.sq.flat++t::g.flat
 | .nil,g,_,h=>by simp [Fs.rs] at h
 | .bar t rest,g,hw,h=>by simp [Fs.rs] at h;subst h;exact ⟨hw.2,t,hw.1,rfl⟩
 | .leaf t r rest,g,hw,h=>by
  obtain ⟨a,u,k,e⟩:=Fs.zFl rest g hw.2.2 h
  exact ⟨a,u,k,by simp only [Fs.flat,Fs.sq,e];simp⟩
 | .grp t inner c r rest,g,hw,h=>by
  obtain ⟨a,u,k,e⟩:=Fs.zFl rest g hw.2.2.2.2 h
  exact ⟨a,u,k,by simp only [Fs.flat,Fs.sq,e];simp⟩
theorem drop_cons {l:List Tok} {a:Nat} {t:Tok} {s:List Tok} (h:l.drop a=t::s):l.getD a jA=t∧l.drop (a+1)=s∧a<l.length:=by
 have hl:a<l.length:=by
  rcases Nat.lt_or_ge a l.length with h1 | h1
  ·exact h1
  ·rw [List.drop_eq_nil_of_le h1] at h;cases h
 rw [zDs l a hl] at h
 simp only [List.cons.injEq] at h
 exact ⟨h.1,h.2,hl⟩
theorem zG6 {l:List Tok} {a:Nat} {x s:List Tok} (h:l.drop a=x++s):l.drop (a+x.length)=s:=by
 rw [Nat.add_comm,← List.drop_drop]
 have:∀ n,List.drop n (l.drop a)=List.drop n (x++s):=fun n=>by rw [h]
 rw [List.drop_drop,Nat.add_comm,← List.drop_drop,h,List.drop_left]
theorem zIk {r:Option Tok} (h:zLp r):∀ (n:Int) (rest:List Tok) (j:Nat),1≤n→kE (r.toList++rest) n j=kE rest n (j+r.toList.length):=by
 intro n rest j hn
 cases r with
 | none=>rfl
 | some q =>
  have:=h q rfl
  have hd:delta q=0:=by unfold delta;rw [if_neg (by omega),if_neg (by omega)]
  show kE (q::rest) n j=_
  rw [kE,hd,if_neg (by omega),Int.add_zero];rfl
theorem zBL:∀ (f:Fs),f.wf→∀ (n:Int) (rest:List Tok) (j:Nat),1≤n→kE (f.flat++rest) n j=kE rest n (j+f.flat.length)
 | .nil,_,n,rest,j,hn=>rfl
 | .bar t r,hw,n,rest,j,hn=>by
  have hd:delta t=0:=by have:=hw.1;unfold delta;rw [if_neg (by omega),if_neg (by omega)]
  show kE (t::(r.flat++rest)) n j=_
  rw [kE,hd,if_neg (by omega),Int.add_zero,zBL r hw.2 n rest (j+1) hn]
  simp only [Fs.flat,List.length_cons];rw [show j+1+r.flat.length=j+(r.flat.length+1) by omega]
 | .leaf t r s,hw,n,rest,j,hn=>by
  have hd:delta t=0:=by have:=hw.1;unfold zB0 at this;unfold delta;rw [if_neg (by omega),if_neg (by omega)]
  show kE (t::((r.toList++s.flat)++rest)) n j=_
  rw [kE,hd,if_neg (by omega),Int.add_zero,List.append_assoc,zIk hw.2.1 _ _ _ hn,zBL s hw.2.2 n rest _ hn]
  simp only [Fs.flat,List.length_cons,List.length_append];congr 1;omega
 | .grp t i c r s,hw,n,rest,j,hn=>by
  have hd:delta t=1:=by have:=hw.1;unfold delta;rw [if_pos (by omega)]
  have hc:delta c=-1:=by have:=hw.2.1;unfold delta;rw [if_neg (by omega),if_pos (by omega)]
  have e:(Fs.grp t i c r s).flat++rest=t::(i.flat++(c::(r.toList++(s.flat++rest)))):=by simp [Fs.flat]
  rw [e,kE,hd,if_neg (by omega),zBL i hw.2.2.1 (n+1) _ _ (by omega),kE,hc,if_neg (by omega)]
  rw [show n+1+-1=n by omega,zIk hw.2.2.2.1 _ _ _ hn,zBL s hw.2.2.2.2 n rest _ hn]
  simp only [Fs.flat,List.length_cons,List.length_append];congr 1;omega
theorem zFm {l:List Tok} {i:Nat} {t c:Tok} {inner:Fs} {tl:List Tok} (h:l.drop i=t::(inner.flat++c::tl)) (ht:t.kind=6) (hc:c.kind=7) (hw:inner.wf):closing l i=i+inner.flat.length+1:=by
 have hd:delta t=1:=by unfold delta;rw [if_pos (by omega)]
 have hd2:delta c=-1:=by unfold delta;rw [if_neg (by omega),if_pos (by omega)]
 unfold closing
 rw [h,kE,hd,if_neg (by omega),zBL inner hw _ _ _ (by omega),kE,hd2,if_pos (by omega)]
 omega
theorem zG7 {r:Option Tok}:r.toList.length=0∧r=none∨∃ q,r=some q∧r.toList=[q]:=by
 cases r with
 | none=>exact .inl ⟨rfl,rfl⟩
 | some q=>exact .inr ⟨q,rfl,rfl⟩
theorem zDA:∀ (f:Fs),f.wf→∀ (l:List Tok) (i:Nat) (post:List Tok),l.drop i=f.flat++post→bar l i (i+f.flat.length)=i+f.sq.flat.length
 | .nil,_,l,i,post,h=>by rw [xH,if_pos (by simp [Fs.flat])];rfl
 | .bar t r,hw,l,i,post,h=>by
  have h1:=drop_cons (t:=t) (s:=r.flat++post) h
  rw [xH,if_neg (by simp [Fs.flat]),if_pos (by unfold jZ;rw [h1.1];exact hw.1)];rfl
 | .leaf t r s,hw,l,i,post,h=>by
  have h1:=drop_cons (t:=t) (s:=(r.toList++s.flat)++post) h
  have hk:=hw.1
  unfold zB0 at hk
  have hl:(Fs.leaf t r s).flat.length=1+r.toList.length+s.flat.length:=by simp [Fs.flat];omega
  have hq:(Fs.leaf t r s).sq.flat.length=1+r.toList.length+s.sq.flat.length:=by simp [Fs.flat,Fs.sq];omega
  rw [hl,hq]
  rw [xH,if_neg (by omega),if_neg (by unfold jZ;rw [h1.1];omega),if_neg (by unfold jZ;rw [h1.1];omega)]
  have h2:=h1.2.1
  rw [List.append_assoc] at h2
  rcases zG7 (r:=r) with ⟨e0,e⟩ | ⟨q,e,e1⟩
  ·subst e
   have:=zDA s hw.2.2 l (i+1) post h2
   simp only [Option.toList] at *
   simpa [Nat.add_assoc,Nat.add_comm,Nat.add_left_comm] using this
  ·subst e
   have h3:=drop_cons (t:=q) (s:=s.flat++post) h2
   have hq8:=hw.2.1 q rfl
   simp only [Option.toList,List.length_cons,List.length_nil]
   rw [xH,if_neg (by omega),if_neg (by unfold jZ;rw [h3.1];omega),if_neg (by unfold jZ;rw [h3.1];omega)]
   have:=zDA s hw.2.2 l (i+1+1) post h3.2.1
   simpa [Nat.add_assoc,Nat.add_comm,Nat.add_left_comm] using this
 | .grp t inner c r s,hw,l,i,post,h=>by
  have h0:l.drop i=t::(inner.flat++c::(r.toList++(s.flat++post))):=by rw [h];simp [Fs.flat]
  have h1:=drop_cons h0
  have hk:=hw.1
  have hl:(Fs.grp t inner c r s).flat.length=2+inner.flat.length+r.toList.length+s.flat.length:=by simp [Fs.flat];omega
  have hq:(Fs.grp t inner c r s).sq.flat.length=2+inner.flat.length+r.toList.length+s.sq.flat.length:=by simp [Fs.flat,Fs.sq];omega
  rw [hl,hq,xH,if_neg (by omega),if_neg (by unfold jZ;rw [h1.1];omega),if_pos (by unfold jZ;rw [h1.1];omega)]
  rw [zFm h0 hk hw.2.1 hw.2.2.1]
  have h2:=zG6 h1.2.1
  have h3:=(drop_cons h2).2.1
  rcases zG7 (r:=r) with ⟨e0,e⟩ | ⟨q,e,e1⟩
  ·subst e
   have:=zDA s hw.2.2.2.2 l (i+1+inner.flat.length+1) post h3
   simp only [Option.toList,List.length_nil]
   rw [show i+inner.flat.length+1+1=i+1+inner.flat.length+1 by omega,show i+(2+inner.flat.length+0+s.flat.length)=i+1+inner.flat.length+1+s.flat.length by omega,this]
   omega
  ·subst e
   have h4:=drop_cons (t:=q) (s:=s.flat++post) h3
   have hq8:=hw.2.2.2.1 q rfl
   simp only [Option.toList,List.length_cons,List.length_nil]
   rw [show i+inner.flat.length+1+1=i+1+inner.flat.length+1 by omega]
   rw [xH,if_neg (by omega),if_neg (by unfold jZ;rw [h4.1];omega),if_neg (by unfold jZ;rw [h4.1];omega)]
   have:=zDA s hw.2.2.2.2 l (i+1+inner.flat.length+1+1) post h4.2.1
   rw [show i+(2+inner.flat.length+(0+1)+s.flat.length)=i+1+inner.flat.length+1+1+s.flat.length by omega,this]
   omega
theorem zQF:∀ (f:Fs),f.wf→∀ (t:Tok) (s:List Tok),f.sq.flat=t::s→t.kind≠8
 | .nil,_,t,s,h=>by simp [Fs.sq,Fs.flat] at h
 | .bar _ _,_,t,s,h=>by simp [Fs.sq,Fs.flat] at h
 | .leaf u r rest,hw,t,s,h=>by
  simp only [Fs.sq,Fs.flat,List.cons.injEq] at h
  have:=hw.1;unfold zB0 at this;rw [← h.1];omega
 | .grp u i c r rest,hw,t,s,h=>by
  simp only [Fs.sq,Fs.flat,List.cons.injEq] at h
  have:=hw.1;rw [← h.1];omega
theorem zQG (f:Fs) (hw:f.wf):∃ s,f.flat=f.sq.flat++s:=by
 cases h:f.rs with
 | none=>exact ⟨[],by rw [Fs.zG5 f h];simp⟩
 | some g=>obtain ⟨_,t,_,e⟩:=Fs.zFl f g hw h;exact ⟨_,e⟩
theorem zGv {l:List Tok} {f:Fs} (hw:f.wf) {i:Nat} {post:List Tok} (h:l.drop i=f.flat++post) (hl:0<f.sq.flat.length):jZ l i≠8:=by
 obtain ⟨s,e⟩:=zQG f hw
 cases hq:f.sq.flat with
 | nil=>rw [hq] at hl;simp at hl
 | cons t u =>
  rw [e,hq] at h
  have:=drop_cons (t:=t) (s:=(u++s)++post) (by rw [h];simp)
  unfold jZ;rw [this.1];exact zQF f hw t u hq
theorem zIl {l:List Tok} {i j f:Nat} {t:Tok} (h:l.getD i jA=t) (hk:zB0 t):tree l (f+1) 2 i j=xQ t:=by
 simp only [tree]
 unfold jZ xQ
 rw [h]
 unfold zB0 at hk
 by_cases h1:t.kind=1
 ·rw [if_pos h1,if_pos h1]
 rw [if_neg h1,if_neg h1]
 by_cases h2:t.kind=2
 ·rw [if_pos h2,if_pos h2]
 rw [if_neg h2,if_neg h2]
 by_cases h3:t.kind=3
 ·rw [if_pos h3,if_pos h3]
 rw [if_neg h3,if_neg h3,if_pos (by omega)]
theorem zKr {l:List Tok} {i j f:Nat} {t:Tok} (h:l.getD i jA=t) (hk:t.kind=6):tree l (f+1) 2 i j=zBK t (tree l f 0 (i+1) (j-1)):=by
 simp only [tree]
 unfold jZ zBK
 rw [h]
 rw [if_neg (by omega),if_neg (by omega),if_neg (by omega),if_neg (by omega)]
theorem zKs {l:List Tok} {i j f:Nat}:tree l (f+1) 3 i j=zHK (tree l f 2 i j) (l.getD j jA):=by simp only [tree]
def zRY (N:Nat):Prop:=∀ g:Fs,g.wf→g.flat.length<N→∀ (l:List Tok) (a:Nat) (post:List Tok) (f:Nat),l.drop a=g.flat++post→2*g.flat.length+4≤f→tree l f 0 a (a+g.flat.length)=g.re
theorem zDB (N:Nat) (hA:zRY N) (l:List Tok) (f':Nat) (hf:2*N+2≤f'):∀ (f:Fs),f.wf→f.flat.length≤N→∀ (i:Nat) (post:List Tok) (g:Nat),l.drop i=f.flat++post→f.sq.flat.length≤g →
  zMc (fun i j=>tree l f' 2 i j) (fun i j=>tree l f' 3 i j) l (i+f.sq.flat.length) g i=f.both.1
 | .nil,_,_,i,post,g,h,hg=>by
  cases g with
  | zero=>rfl
  | succ g=>simp only [zMc];rw [if_pos (by simp [Fs.sq,Fs.flat])];rfl
 | .bar _ _,_,_,i,post,g,h,hg=>by
  cases g with
  | zero=>rfl
  | succ g=>simp only [zMc];rw [if_pos (by simp [Fs.sq,Fs.flat])];rfl
 | .leaf t r s,hw,hN,i,post,g,h,hg=>by
  have h1:=drop_cons (t:=t) (s:=(r.toList++s.flat)++post) h
  have h2:=h1.2.1
  rw [List.append_assoc] at h2
  have hk:=hw.1
  have hk':=hk
  unfold zB0 at hk'
  have hq:(Fs.leaf t r s).sq.flat.length=1+r.toList.length+s.sq.flat.length:=by simp [Fs.flat,Fs.sq];omega
  have hNs:s.flat.length≤N:=by simp [Fs.flat] at hN;omega
  have haf:after l i=i+1:=by unfold after jZ;rw [h1.1,if_neg (by omega)]
  rw [hq] at hg ⊢
  obtain ⟨g,rfl⟩:∃ g',g=g'+1:=⟨g-1,by omega⟩
  obtain ⟨f1,rfl⟩:∃ f1,f'=f1+1+1:=⟨f'-2,by omega⟩
  simp only [zMc]
  rw [if_neg (by omega),haf]
  rcases zG7 (r:=r) with ⟨e0,e⟩ | ⟨q,e,e1⟩
  ·subst e
   have h3:l.drop (i+1)=s.flat++post:=h2
   rw [if_neg (by
    rintro ⟨hlt,h8⟩
    exact zGv hw.2.2 h3 (by simp at hlt;omega) h8)]
   have:=zDB N hA l (f1+1+1) hf s hw.2.2 hNs (i+1) post g h3 (by simp at hg;omega)
   rw [show i+(1+(Option.none:Option Tok).toList.length+s.sq.flat.length)=i+1+s.sq.flat.length by simp;omega,this,zIl h1.1 hk]
   rfl
  ·subst e
   have h3:=drop_cons (t:=q) (s:=s.flat++post) h2
   have hq8:=hw.2.1 q rfl
   simp only [Option.toList,List.length_cons,List.length_nil] at hg
   rw [if_pos ⟨by simp;omega,by unfold jZ;rw [h3.1];exact hq8⟩]
   have:=zDB N hA l (f1+1+1) hf s hw.2.2 hNs (i+1+1) post g h3.2.1 (by omega)
   rw [show i+(1+(some q).toList.length+s.sq.flat.length)=i+1+1+s.sq.flat.length by simp;omega,this,zKs,zIl h1.1 hk,h3.1]
   rfl
 | .grp t inner c r s,hw,hN,i,post,g,h,hg=>by
  have h0:l.drop i=t::(inner.flat++c::(r.toList++(s.flat++post))):=by rw [h];simp [Fs.flat]
  have h1:=drop_cons h0
  have hk:=hw.1
  have hcl:=zFm h0 hk hw.2.1 hw.2.2.1
  have hq:(Fs.grp t inner c r s).sq.flat.length=2+inner.flat.length+r.toList.length+s.sq.flat.length:=by simp [Fs.flat,Fs.sq];omega
  have hl:(Fs.grp t inner c r s).flat.length=2+inner.flat.length+r.toList.length+s.flat.length:=by simp [Fs.flat];omega
  have haf:after l i=i+1+inner.flat.length+1:=by unfold after jZ;rw [h1.1,if_pos hk,hcl];omega
  rw [hq] at hg ⊢
  rw [hl] at hN
  obtain ⟨g,rfl⟩:∃ g',g=g'+1:=⟨g-1,by omega⟩
  obtain ⟨f1,rfl⟩:∃ f1,f'=f1+1+1:=⟨f'-2,by omega⟩
  have h2:=zG6 h1.2.1
  have h3:=(drop_cons h2).2.1
  simp only [zMc]
  rw [if_neg (by omega),haf]
  rcases zG7 (r:=r) with ⟨e0,e⟩ | ⟨q,e,e1⟩
  ·subst e
   have h4:l.drop (i+1+inner.flat.length+1)=s.flat++post:=h3
   rw [if_neg (by
    rintro ⟨hlt,h8⟩
    exact zGv hw.2.2.2.2 h4 (by simp at hlt;omega) h8)]
   have:=zDB N hA l (f1+1+1) hf s hw.2.2.2.2 (by omega) (i+1+inner.flat.length+1) post g h4 (by simp at hg;omega)
   rw [show i+(2+inner.flat.length+(Option.none:Option Tok).toList.length+s.sq.flat.length)=i+1+inner.flat.length+1+s.sq.flat.length by simp;omega,this,zKr h1.1 hk,
    show i+1+inner.flat.length+1-1=i+1+inner.flat.length by omega,hA inner hw.2.2.1 (by omega) l (i+1) _ (f1+1) h1.2.1 (by omega)]
   rfl
  ·subst e
   have h4:=drop_cons (t:=q) (s:=s.flat++post) h3
   have hq8:=hw.2.2.2.1 q rfl
   simp only [Option.toList,List.length_cons,List.length_nil] at hg hN
   rw [if_pos ⟨by simp;omega,by unfold jZ;rw [h4.1];exact hq8⟩]
   have:=zDB N hA l (f1+1+1) hf s hw.2.2.2.2 (by omega) (i+1+inner.flat.length+1+1) post g h4.2.1 (by omega)
   rw [show i+(2+inner.flat.length+(some q).toList.length+s.sq.flat.length)=i+1+inner.flat.length+1+1+s.sq.flat.length by simp;omega,this,zKs,zKr h1.1 hk,h4.1,
    show i+1+inner.flat.length+1-1=i+1+inner.flat.length by omega,hA inner hw.2.2.1 (by omega) l (i+1) _ f1 h1.2.1 (by omega)]
   rfl
theorem zMT (l:List Tok) (f a b:Nat):tree l (f+1) 0 a b=if bar l a b=b then tree l f 1 a (bar l a b) else .alt (tree l f 1 a (bar l a b)) (tree l f 0 (bar l a b+1) b):=by simp only [tree]
theorem zO0 (l:List Tok) (f a b:Nat):tree l (f+1) 1 a b=zMc (fun i j=>tree l f 2 i j) (fun i j=>tree l f 3 i j) l b (b-a) a:=by simp only [tree]
theorem zKt:∀ N,zRY N
 | 0=>fun g _ h=>by omega
 | N+1=>by
  intro f hw hN l a post fu h hf
  have ih:=zKt N
  obtain ⟨f',rfl⟩:∃ f',fu=f'+1+1:=⟨fu-2,by omega⟩
  have hb:=zDA f hw l a post h
  rw [zMT,hb,zO0]
  have hlen:f.flat.length=f.sq.flat.length+match f.rs with | none=>0 | some g=>g.flat.length+1:=by
   cases hr:f.rs with
   | none=>rw [Fs.zG5 f hr];rfl
   | some g=>obtain ⟨_,t,_,e⟩:=Fs.zFl f g hw hr;rw [e];simp
  have hs:=zDB f.flat.length (fun g gw gl=>ih g gw (by omega)) l f' (by omega) f hw (Nat.le_refl _) a post (a+f.sq.flat.length-a) h (by omega)
  have e2:=f.zLq
  unfold Fs.re
  cases hr:f.rs with
  | none =>
   rw [hr] at hlen e2
   rw [if_pos (by simp at hlen;omega),hs]
   generalize hB:f.both=B at *
   obtain ⟨b1,b2⟩:=B
   simp at e2;subst e2;rfl
  | some g =>
   rw [hr] at hlen e2
   obtain ⟨gw,t,_,e⟩:=Fs.zFl f g hw hr
   simp only at hlen
   rw [if_neg (by omega),hs]
   have h5:l.drop (a+f.sq.flat.length+1)=g.flat++post:=by
    rw [e,List.append_assoc] at h
    exact (drop_cons (zG6 h)).2.1
   have hr2:=ih g gw (by omega) l (a+f.sq.flat.length+1) post (f'+1) h5 (by omega)
   rw [show a+f.sq.flat.length+1+g.flat.length=a+f.flat.length by omega] at hr2
   rw [hr2]
   generalize hB:f.both=B at *
   obtain ⟨b1,b2⟩:=B
   simp at e2;subst e2;rfl
theorem zFn (f:Fs) (hw:f.wf) (h:f.flat.length≤64):zEr f.flat=f.re:=by
 have:=zKt (f.flat.length+1) f hw (by omega) f.flat 0 [] 283 (by simp) (by omega)
 rw [Nat.zero_add] at this
 exact this
end Mt
