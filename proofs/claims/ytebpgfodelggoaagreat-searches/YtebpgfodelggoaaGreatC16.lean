import Derived.Test.YtebpgfodelggoaaGreatC04
import Derived.Test.YtebpgfodelggoaaGreatC07
set_option linter.unusedVariables false
set_option linter.unusedSimpArgs false
namespace Mt
inductive Re where
 | eps
 | one (s:List UInt8)
 | back (k:Int)
 | head
 | tail
 | cat (a b:Re)
 | alt (a b:Re)
 | cap (k:Int) (a:Re)
 | sub (s:Int) (a:Re)
 | opt (late:Bool) (a:Re)
 | loop (late:Bool) (a:Re)
def Re.len:Re→Nat
 | .eps=>0
 | .one _=>1
 | .back _=>1
 | .head=>1
 | .tail=>1
 | .cat a b=>a.len+b.len
 | .alt a b=>a.len+b.len+2
 | .cap _ a=>a.len+2
 | .sub _ a=>a.len+2
 | .opt _ a=>a.len+1
 | .loop _ a=>a.len+3
def spl (x y:Int) (late:Bool):Ins:=if late then ⟨2,y,x,[]⟩ else ⟨2,x,y,[]⟩
def Re.code:Re→Int→Int→List Ins
 | .eps,_,_=>[]
 | .one s,_,_=>[⟨1,0,0,s⟩]
 | .back k,_,_=>[⟨8,k,0,[]⟩]
 | .head,_,_=>[⟨9,0,0,[]⟩]
 | .tail,_,_=>[⟨10,0,0,[]⟩]
 | .cat a b,p,d=>a.code p d++b.code (p+a.len) d
 | .alt a b,p,d=>⟨2,p+1,p+a.len+2,[]⟩::(a.code (p+1) d++⟨3,p+a.len+2+b.len,0,[]⟩::b.code (p+a.len+2) d)
 | .cap k a,p,d=>⟨6,k,0,[]⟩::(a.code (p+1) d++[⟨7,k,0,[]⟩])
 | .sub s a,p,d=>⟨11,s,p+a.len+2,[]⟩::(a.code (p+1) d++[⟨12,0,0,[]⟩])
 | .opt late a,p,d=>spl (p+1) (p+a.len+1) late::a.code (p+1) d
 | .loop late a,p,d=>spl (p+1) (p+a.len+3) late::⟨4,d,0,[]⟩::(a.code (p+2) (d+1)++[⟨5,p,d,[]⟩])
theorem Re.zH:∀ (r:Re) (p d:Int),(r.code p d).length=r.len
 | .eps,_,_=>rfl
 | .one _,_,_=>rfl
 | .back _,_,_=>rfl
 | .head,_,_=>rfl
 | .tail,_,_=>rfl
 | .cat a b,p,d=>by simp [Re.code,Re.len,Re.zH a,Re.zH b]
 | .alt a b,p,d=>by simp [Re.code,Re.len,Re.zH a,Re.zH b];omega
 | .cap _ a,p,d=>by simp [Re.code,Re.len,Re.zH a]
 | .sub _ a,p,d=>by simp [Re.code,Re.len,Re.zH a]
 | .opt _ a,p,d=>by simp [Re.code,Re.len,Re.zH a]
 | .loop _ a,p,d=>by simp [Re.code,Re.len,Re.zH a]
theorem zBB (a b:List Ins) (n:Int):moved (a++b) n=moved a n++moved b n:=by simp [moved]
theorem zAh (i:Ins) (b:List Ins) (n:Int):moved (i::b) n=zAc i n::moved b n:=rfl
theorem zBC (n:Int):moved [] n=[]:=rfl
theorem zDU (x y:Int) (late:Bool) (n:Int):zAc (spl x y late) n=spl (x+n) (y+n) late:=by cases late <;> rfl
theorem Re.jG:∀ (r:Re) (p d n:Int),moved (r.code p d) n=r.code (p+n) d
 | .eps,_,_,_=>rfl
 | .one _,_,_,_=>rfl
 | .back _,_,_,_=>rfl
 | .head,_,_,_=>rfl
 | .tail,_,_,_=>rfl
 | .cat a b,p,d,n=>by
  simp only [Re.code,zBB,Re.jG a,Re.jG b]
  rw [show p+a.len+n=p+n+a.len by omega]
 | .alt a b,p,d,n=>by
  simp only [Re.code,zBB,zAh,Re.jG a,Re.jG b]
  rw [show p+a.len+2+n=p+n+a.len+2 by omega,show p+1+n=p+n+1 by omega]
  simp only [zAc]
  simp
  omega
 | .cap _ a,p,d,n=>by
  simp only [Re.code,zBB,zAh,zBC,Re.jG a]
  rw [show p+1+n=p+n+1 by omega];rfl
 | .sub _ a,p,d,n=>by
  simp only [Re.code,zBB,zAh,zBC,Re.jG a]
  rw [show p+1+n=p+n+1 by omega]
  simp only [zAc]
  simp
  omega
 | .opt _ a,p,d,n=>by
  simp only [Re.code,zAh,Re.jG a,zDU]
  rw [show p+1+n=p+n+1 by omega,show p+a.len+1+n=p+n+a.len+1 by omega]
 | .loop _ a,p,d,n=>by
  simp only [Re.code,zBB,zAh,zBC,Re.jG a,zDU]
  rw [show p+1+n=p+n+1 by omega,show p+2+n=p+n+2 by omega,show p+a.len+3+n=p+n+a.len+3 by omega]
  rfl
theorem yL (a b:List Ins):(behind a b).length=if 300<a.length then a.length else a.length+b.length:=by
 unfold behind;split
 ·rfl
 ·simp [jV]
theorem xG (a b:List Ins) (h:a.length≤300):behind a b=a++moved b a.length:=by unfold behind;rw [if_neg (by omega)]
def Rep (c L:List Ins):Prop:=(L.length≤300→c=L)∧(300<L.length→300<c.length)
theorem Rep.refl (c:List Ins):Rep c c:=⟨fun _=>rfl,id⟩
theorem Rep.len {c L:List Ins} (h:Rep c L):(L.length≤300→c.length=L.length)∧(300<L.length→300<c.length):=⟨fun hl=>by rw [h.1 hl],h.2⟩
theorem Rep.behind {a A b B:List Ins} (ha:Rep a A) (hb:Rep b B):Rep (behind a b) (A++moved B A.length):=by
 have la:=ha.len
 have lb:=hb.len
 refine ⟨fun h=>?_,fun h=>?_⟩
 ·rw [List.length_append,jV] at h
  rw [ha.1 (by omega),hb.1 (by omega),xG _ _ (by omega)]
 ·rw [List.length_append,jV] at h
  rw [yL]
  split <;> omega
theorem Rep.alone {c L:List Ins} (s:Int) (h:Rep c L):Rep (alone s c) (⟨11,s,L.length+2,[]⟩::(moved L 1++[⟨12,0,0,[]⟩])):=by
 have hl:=h.len
 refine ⟨fun hh=>?_,fun hh=>?_⟩
 ·simp only [List.length_cons,List.length_append,jV,List.length_nil] at hh
  rw [h.1 (by omega)]
  unfold Mt.alone
  rw [xG [_] L (by simp),xG _ _ (by simp [jV];omega)]
  rfl
 ·simp only [List.length_cons,List.length_append,jV,List.length_nil] at hh
  unfold Mt.alone
  rw [yL,yL]
  simp only [List.length_cons,List.length_nil]
  repeat' split
  all_goals omega
theorem Rep.loop {c L:List Ins} (d:Int) (late:Bool) (h:Rep c L):Rep (vG c d late) (spl 1 (L.length+3) late::⟨4,d,0,[]⟩::(moved L 2++[⟨5,0,d,[]⟩])):=by
 have hl:=h.len
 refine ⟨fun hh=>?_,fun hh=>?_⟩
 ·simp only [List.length_cons,List.length_append,jV,List.length_nil] at hh
  rw [h.1 (by omega)]
  unfold Mt.vG
  have e:∀ x y,jL x y late=[spl x y late]:=fun x y=>by cases late <;> rfl
  rw [e,xG [_] [_] (by simp)]
  have e2:([spl 1 ((L.length:Int)+3) late]++moved [(⟨4,d,0,[]⟩:Ins)] ([spl 1 ((L.length:Int)+3) late].length:Int))=[spl 1 ((L.length:Int)+3) late,⟨4,d,0,[]⟩]:=rfl
  rw [e2,xG [_,_] L (by simp),xG _ _ (by simp [jV];omega)]
  simp only [List.length_append,List.length_cons,List.length_nil,jV,zAh,zBC]
  have e3:zAc ⟨5,-(L.length:Int)-2,d,[]⟩ ((0+1+1+L.length:Nat):Int)=⟨5,0,d,[]⟩:=by
   show (⟨5,(-(L.length:Int)-2)+((0+1+1+L.length:Nat):Int),d,[]⟩:Ins)=_
   congr 1;omega
  rw [e3];rfl
 ·simp only [List.length_cons,List.length_append,jV,List.length_nil] at hh
  unfold Mt.vG
  rw [yL,yL,yL]
  have e:(jL 1 ((c.length:Int)+3) late).length=1:=by unfold jL;split <;> rfl
  rw [e]
  simp only [List.length_cons,List.length_nil]
  repeat' split
  all_goals omega
theorem Rep.alts {s S r R:List Ins} (hs:Rep s S) (hr:Rep r R):Rep (Mt.behind (Mt.behind (Mt.behind (jL 1 ((s.length:Int)+2) false) s) (zEt (1+(r.length:Int)))) r) (⟨2,1,S.length+2,[]⟩::(moved S 1++⟨3,S.length+2+R.length,0,[]⟩::moved R (S.length+2))):=by
 have ls:=hs.len
 have lr:=hr.len
 refine ⟨fun hh=>?_,fun hh=>?_⟩
 ·simp only [List.length_cons,List.length_append,jV] at hh
  rw [hs.1 (by omega),hr.1 (by omega)]
  rw [xG (jL _ _ _) S (by simp [jL]),xG _ (zEt _) (by simp [jL,jV];omega),xG _ R (by simp [jL,zEt,jV];omega)]
  have e1:jL 1 ((S.length:Int)+2) false=[⟨2,1,(S.length:Int)+2,[]⟩]:=rfl
  simp only [e1,zEt,List.length_append,List.length_cons,List.length_nil,jV,zAh,zBC]
  have e2:zAc ⟨3,1+(R.length:Int),0,[]⟩ ((0+1+S.length:Nat):Int)=⟨3,S.length+2+R.length,0,[]⟩:=by
   show (⟨3,(1+(R.length:Int))+((0+1+S.length:Nat):Int),0,[]⟩:Ins)=_
   congr 1;omega
  rw [e2,show ((0+1+S.length+(0+1):Nat):Int)=(S.length:Int)+2 by omega]
  simp
 ·simp only [List.length_cons,List.length_append,jV] at hh
  rw [yL,yL,yL]
  have e1:(jL 1 ((s.length:Int)+2) false).length=1:=rfl
  have e2:(zEt (1+(r.length:Int))).length=1:=rfl
  rw [e1,e2]
  repeat' split
  all_goals omega
def kH (x:Re):Nat→Re
 | 0=>.eps
 | n+1=>.cat x (kH x n)
def zBD (x:Re) (late:Bool):Nat→Re
 | 0=>.eps
 | n+1=>.opt late (.cat x (zBD x late n))
theorem zCI (x:Re) (late:Bool):∀ n,(zBD x late n).len=n*(x.len+1)
 | 0=>by simp [zBD,Re.len]
 | n+1=>by rw [zBD,Re.len,Re.len,zCI x late n,Nat.add_mul];omega
theorem zHZ {x:List Ins} {X:Re} {d:Int} (hx:Rep x (X.code 0 d)):∀ (n:Nat) (c C:List Ins),Rep c C→Rep (zC x n c) (C++(kH X n).code C.length d)
 | 0,c,C,h=>by simpa [zC,kH,Re.code] using h
 | n+1,c,C,h=>by
  have:=zHZ hx n _ _ (h.behind hx)
  simp only [zC,kH,Re.code]
  rw [Re.jG,Int.zero_add,List.length_append,Re.zH,List.append_assoc] at this
  simpa using this
theorem zH0 (x:List Ins) (late:Bool):∀ (n:Nat) (c:List Ins),c.length≤(vH x late n c).length
 | 0,c=>Nat.le_refl _
 | n+1,c=>by
  refine Nat.le_trans ?_ (zH0 x late n _)
  rw [yL];split <;> omega
theorem zGi {X:Re} {d:Int} (late:Bool):∀ (n:Nat) (c C:List Ins),Rep c C→Rep (vH (X.code 0 d) late n c) (C++(zBD X late n).code C.length d)
 | 0,c,C,h=>by simpa [vH,zBD,Re.code] using h
 | n+1,c,C,h=>by
  have e:∀ x y,jL x y late=[spl x y late]:=fun x y=>by cases late <;> rfl
  have k:=zGi (X:=X) (d:=d) late n _ _ (h.behind (Rep.behind (Rep.refl (jL 1 (((n:Int)+1)*((X.code 0 d).length+1)) late)) (Rep.refl (X.code 0 d))))
  simp only [vH,zBD,Re.code]
  rw [e] at k
  simp only [List.length_cons,List.length_nil,zBB,zAh,zBC,zDU,Re.jG,List.length_append,Re.zH,Re.len,zCI] at k ⊢
  rw [e]
  have a1:(1:Int)+(C.length:Int)=C.length+1:=by omega
  have a2:(((n:Int)+1)*((X.len:Int)+1))+(C.length:Int)=(C.length:Int)+((X.len+n*(X.len+1):Nat):Int)+1:=by
   rw [Int.natCast_add,Int.natCast_mul,Int.add_mul];simp;omega
  have a3:(0:Int)+((0+1:Nat):Int)+(C.length:Int)=C.length+1:=by omega
  have a4:((C.length+(0+1+X.len):Nat):Int)=(C.length:Int)+1+(X.len:Int):=by omega
  rw [a1,a2,a3,a4] at k
  simpa using k
theorem zOA {x:List Ins} {X:Re} {d:Int} (late:Bool) (hx:Rep x (X.code 0 d)) (n:Nat) (c C:List Ins) (h:Rep c C):Rep (vH x late n c) (C++(zBD X late n).code C.length d):=by
 have lx:=hx.len
 rw [Re.zH] at lx
 by_cases hX:X.len≤300
 ·rw [hx.1 (by rw [Re.zH];omega)];exact zGi late n c C h
 ·match n with
  | 0=>simpa [vH,zBD,Re.code] using h
  | n+1 =>
   have hl:300<(C++(zBD X late (n+1)).code C.length d).length:=by
    rw [List.length_append,Re.zH,zCI,Nat.add_mul];omega
   refine ⟨fun hh=>by omega,fun _=>?_⟩
   refine Nat.lt_of_lt_of_le ?_ (zH0 x late n _)
   have e1:(jL 1 (((n:Int)+1)*(x.length+1)) late).length=1:=by unfold jL;split <;> rfl
   rw [yL,yL,e1]
   repeat' split
   all_goals omega
def zLU (at' rp:Nat→Nat→Re) (l:List Tok) (b:Nat):Nat→Nat→Re
 | 0,_=>.eps
 | f+1,i =>
  if b≤i then .eps
  else if after l i<b∧jW l (after l i)=8 then .cat (rp i (after l i)) (zLU at' rp l b f (after l i+1))
  else .cat (at' i (after l i)) (zLU at' rp l b f (after l i))
def zHt (x:Re) (r:Tok):Re :=
 let c1:=if 0<r.n∨0<r.m then (if r.n<r.m then .cat (kH x r.n.toNat) (zBD x (decide (r.how=1)) (r.m-r.n).toNat) else kH x r.n.toNat) else .eps
 let c2:=if r.m<0 then .cat c1 (.loop (decide (r.how=1)) x) else c1
 if r.how=2 then .sub 0 c2 else c2
def tree (l:List Tok):Nat→Nat→Nat→Nat→Re
 | 0,_,_,_=>.eps
 | f+1,0,a,b=>if bar l a b=b then tree l f 1 a (bar l a b) else .alt (tree l f 1 a (bar l a b)) (tree l f 0 (bar l a b+1) b)
 | f+1,1,a,b=>zLU (fun i j=>tree l f 2 i j) (fun i j=>tree l f 3 i j) l b (b-a) a
 | f+1,2,a,b =>
  if jW l a=1 then .one (l.getD a kX).set
  else if jW l a=2 then .back (l.getD a kX).n
  else if jW l a=3 then .head
  else if jW l a=4 then .tail
  else if (l.getD a kX).how=3 then tree l f 0 (a+1) (b-1)
  else if (l.getD a kX).how=4 then .cap (l.getD a kX).n (tree l f 0 (a+1) (b-1))
  else .sub (l.getD a kX).how (tree l f 0 (a+1) (b-1))
 | f+1,_+3,a,b=>zHt (tree l f 2 a b) (l.getD b kX)
theorem zJe {at' rp:Nat→Nat→List Ins} {At Rp:Nat→Nat→Re} {d:Int} (l:List Tok) (b:Nat) (h1:∀ i j,Rep (at' i j) ((At i j).code 0 d)) (h2:∀ i j,Rep (rp i j) ((Rp i j).code 0 d)) :
  ∀ (f i:Nat) (c C:List Ins),Rep c C→Rep (yI at' rp l b f i c) (C++(zLU At Rp l b f i).code C.length d)
 | 0,i,c,C,h=>by simpa [yI,zLU,Re.code] using h
 | f+1,i,c,C,h=>by
  simp only [yI,zLU]
  split
  ·simpa [Re.code] using h
  split
  ·have:=zJe l b h1 h2 f (after l i+1) _ _ (h.behind (h2 i (after l i)))
   rw [Re.jG,Int.zero_add,List.length_append,Re.zH,List.append_assoc] at this
   simp only [Re.code]
   simpa using this
  ·have:=zJe l b h1 h2 f (after l i) _ _ (h.behind (h1 i (after l i)))
   rw [Re.jG,Int.zero_add,List.length_append,Re.zH,List.append_assoc] at this
   simp only [Re.code]
   simpa using this
theorem zOB {x y:List Ins} {X:Re} {d:Int} (hx:Rep x (X.code 0 d)) (hy:Rep y (X.code 0 (d+1))) (r:Tok) :
  Rep (let c1:=if 0<r.n∨0<r.m then (if r.n<r.m then behind (zC x r.n.toNat []) (upTo x (r.m-r.n).toNat (decide (r.how=1))) else zC x r.n.toNat []) else []
   let c2:=if r.m<0 then behind c1 (vG y d (decide (r.how=1))) else c1
   if r.how=2 then alone 0 c2 else c2) ((zHt X r).code 0 d):=by
 unfold zHt
 dsimp only
 have t0:Rep (zC x r.n.toNat []) ((kH X r.n.toNat).code 0 d):=zHZ hx r.n.toNat [] [] (Rep.refl _)
 have u0:Rep (upTo x (r.m-r.n).toNat (decide (r.how=1))) ((zBD X (decide (r.how=1)) (r.m-r.n).toNat).code 0 d):=zOA _ hx _ [] [] (Rep.refl _)
 have c1:Rep (if 0<r.n∨0<r.m then (if r.n<r.m then behind (zC x r.n.toNat []) (upTo x (r.m-r.n).toNat (decide (r.how=1))) else zC x r.n.toNat []) else [])
   ((if 0<r.n∨0<r.m then (if r.n<r.m then Re.cat (kH X r.n.toNat) (zBD X (decide (r.how=1)) (r.m-r.n).toNat) else kH X r.n.toNat) else Re.eps).code 0 d):=by
  split
  ·split
   ·have:=t0.behind u0
    rw [Re.jG,Re.zH] at this
    exact this
   ·exact t0
  ·exact Rep.refl _
 generalize (if 0<r.n∨0<r.m then (if r.n<r.m then behind (zC x r.n.toNat []) (upTo x (r.m-r.n).toNat (decide (r.how=1))) else zC x r.n.toNat []) else [])=z1 at *
 generalize (if 0<r.n∨0<r.m then (if r.n<r.m then Re.cat (kH X r.n.toNat) (zBD X (decide (r.how=1)) (r.m-r.n).toNat) else kH X r.n.toNat) else Re.eps)=Z1 at *
 have c2:Rep (if r.m<0 then behind z1 (vG y d (decide (r.how=1))) else z1) ((if r.m<0 then Re.cat Z1 (.loop (decide (r.how=1)) X) else Z1).code 0 d):=by
  split
  ·have:=c1.behind (hy.loop d (decide (r.how=1)))
   have e:(spl 1 (((X.code 0 (d+1)).length:Int)+3) (decide (r.how=1))::⟨4,d,0,[]⟩::(moved (X.code 0 (d+1)) 2++[⟨5,0,d,[]⟩]))=(Re.loop (decide (r.how=1)) X).code 0 d:=by
    simp only [Re.code,Re.jG,Re.zH]
    rw [Int.zero_add,Int.zero_add,Int.zero_add]
   rw [e,Re.jG,Re.zH] at this
   exact this
  ·exact c1
 generalize (if r.m<0 then behind z1 (vG y d (decide (r.how=1))) else z1)=z2 at *
 generalize (if r.m<0 then Re.cat Z1 (.loop (decide (r.how=1)) X) else Z1)=Z2 at *
 split
 ·have:=c2.alone 0
  rw [Re.jG,Re.zH] at this
  simp only [Re.code]
  rw [Int.zero_add] at this ⊢
  exact this
 ·exact c2
theorem zI3 (l:List Tok):∀ (f tag a b:Nat) (d:Int),Rep (gen l f tag a b d) ((tree l f tag a b).code 0 d):=by
 intro f
 induction f with
 | zero=>intro tag a b d;simp only [gen,tree];exact Rep.refl _
 | succ f ih =>
  intro tag a b d
  match tag with
  | 0 =>
   simp only [gen,tree]
   split
   ·exact ih 1 a _ d
   ·have:=(ih 1 a (bar l a b) d).alts (ih 0 (bar l a b+1) b d)
    simp only [Re.code]
    rw [Re.jG,Re.jG,Re.zH,Re.zH] at this
    simp only [Int.zero_add] at this ⊢
    exact this
  | 1 =>
   simp only [gen,tree]
   exact zJe l b (fun i j=>ih 2 i j d) (fun i j=>ih 3 i j d) (b-a) a [] [] (Rep.refl _)
  | 2 =>
   simp only [gen,tree]
   split
   ·exact Rep.refl _
   split
   ·exact Rep.refl _
   split
   ·exact Rep.refl _
   split
   ·exact Rep.refl _
   split
   ·exact ih 0 (a+1) (b-1) d
   split
   ·have:=(Rep.behind (Rep.behind (Rep.refl [(⟨6,(l.getD a kX).n,0,[]⟩:Ins)]) (ih 0 (a+1) (b-1) d)) (Rep.refl [(⟨7,(l.getD a kX).n,0,[]⟩:Ins)]))
    rw [Re.jG] at this
    simp only [Re.code]
    simpa [moved,zAc] using this
   ·have:=(ih 0 (a+1) (b-1) d).alone (l.getD a kX).how
    rw [Re.jG,Re.zH] at this
    simp only [Re.code]
    simp only [Int.zero_add] at this ⊢
    exact this
  | tag+3 =>
   simp only [gen,tree]
   exact zOB (ih 2 a b d) (ih 2 a b (d+1)) (l.getD b kX)
def zEj (l:List Tok):Re:=tree l 283 0 0 l.length
theorem zH1 (l:List Tok):Rep (coded l) ((zEj l).code 0 0++[⟨13,0,0,[]⟩]):=by
 have:=(zI3 l 283 0 0 l.length 0).behind (Rep.refl [(⟨13,0,0,[]⟩:Ins)])
 exact this
theorem zH2 (l:List Tok):((zEj l).len+1≤300→(coded l).length=(zEj l).len+1)∧(300<(zEj l).len+1→300<(coded l).length):=by
 have:=(zH1 l).len
 rw [List.length_append,Re.zH] at this
 exact this
theorem zGj (l:List Tok) (h:(coded l).length≤300):coded l=(zEj l).code 0 0++[⟨13,0,0,[]⟩]∧(zEj l).len+1≤300:=by
 have h1:=zH2 l
 have h2:(zEj l).len+1≤300:=by omega
 exact ⟨(zH1 l).1 (by rw [List.length_append,Re.zH];exact h2),h2⟩
inductive Fs where
 | nil
 | bar (t:Tok) (rest:Fs)
 | leaf (t:Tok) (r:Option Tok) (rest:Fs)
 | grp (t:Tok) (inner:Fs) (c:Tok) (r:Option Tok) (rest:Fs)
def Fs.flat:Fs→List Tok
 | .nil=>[]
 | .bar t rest=>t::rest.flat
 | .leaf t r rest=>t::(r.toList++rest.flat)
 | .grp t inner c r rest=>t::(inner.flat++c::(r.toList++rest.flat))
def zBV (t:Tok):Prop:=t.kind=1∨t.kind=2∨t.kind=3∨t.kind=4
def zK5 (r:Option Tok):Prop:=∀ q,r=some q→q.kind=8
def Fs.wf:Fs→Prop
 | .nil=>True
 | .bar t rest=>t.kind=5∧rest.wf
 | .leaf t r rest=>zBV t∧zK5 r∧rest.wf
 | .grp t inner c r rest=>t.kind=6∧c.kind=7∧inner.wf∧zK5 r∧rest.wf
def xM (t:Tok):Re:=if t.kind=1 then .one t.set else if t.kind=2 then .back t.n else if t.kind=3 then .head else .tail
def zBE (t:Tok) (x:Re):Re:=if t.how=3 then x else if t.how=4 then .cap t.n x else .sub t.how x
def part (r:Option Tok) (x:Re):Re:=match r with
 | none=>x
 | some q=>zHt x q
def zDq:Re × Option Re→Re
 | (s,none)=>s
 | (s,some a)=>.alt s a
def Fs.both:Fs→Re × Option Re
 | .nil=>(.eps,none)
 | .bar _ rest=>(.eps,some (zDq rest.both))
 | .leaf t r rest=>(.cat (part r (xM t)) rest.both.1,rest.both.2)
 | .grp t inner _ r rest=>(.cat (part r (zBE t (zDq inner.both))) rest.both.1,rest.both.2)
def Fs.re (f:Fs):Re:=zDq f.both
def Fs.sq:Fs→Fs
 | .nil=>.nil
 | .bar _ _=>.nil
 | .leaf t r rest=>.leaf t r rest.sq
 | .grp t inner c r rest=>.grp t inner c r rest.sq
def Fs.rs:Fs→Option Fs
 | .nil=>none
 | .bar _ rest=>some rest
 | .leaf _ _ rest=>rest.rs
 | .grp _ _ _ _ rest=>rest.rs
theorem Fs.zK6:∀ f:Fs,f.both.2=f.rs.map Fs.re
 | .nil=>rfl
 | .bar _ rest=>rfl
 | .leaf _ _ rest=>by simp only [Fs.both,Fs.rs];exact Fs.zK6 rest
 | .grp _ _ _ _ rest=>by simp only [Fs.both,Fs.rs];exact Fs.zK6 rest
theorem Fs.zGS:∀ f:Fs,f.rs=none→f.sq=f
 | .nil,_=>rfl
 | .bar _ rest,h=>by simp [Fs.rs] at h
 | .leaf _ _ rest,h=>by simp only [Fs.sq];rw [Fs.zGS rest h]
 | .grp _ _ _ _ rest,h=>by simp only [Fs.sq];rw [Fs.zGS rest h]
theorem Fs.zFa:∀ (f g:Fs),f.wf→f.rs=some g→g.wf∧∃ t:Tok,t.kind=5∧f.flat=f.sq.flat++t::g.flat
 | .nil,g,_,h=>by simp [Fs.rs] at h
 | .bar t rest,g,hw,h=>by simp [Fs.rs] at h;subst h;exact ⟨hw.2,t,hw.1,rfl⟩
 | .leaf t r rest,g,hw,h=>by
  obtain ⟨a,u,k,e⟩:=Fs.zFa rest g hw.2.2 h
  exact ⟨a,u,k,by simp only [Fs.flat,Fs.sq,e];simp⟩
 | .grp t inner c r rest,g,hw,h=>by
  obtain ⟨a,u,k,e⟩:=Fs.zFa rest g hw.2.2.2.2 h
  exact ⟨a,u,k,by simp only [Fs.flat,Fs.sq,e];simp⟩
theorem drop_cons {l:List Tok} {a:Nat} {t:Tok} {s:List Tok} (h:l.drop a=t::s):l.getD a kX=t∧l.drop (a+1)=s∧a<l.length:=by
 have hl:a<l.length:=by
  rcases Nat.lt_or_ge a l.length with h1 | h1
  ·exact h1
  ·rw [List.drop_eq_nil_of_le h1] at h;cases h
 rw [zDj l a hl] at h
 simp only [List.cons.injEq] at h
 exact ⟨h.1,h.2,hl⟩
theorem zGT {l:List Tok} {a:Nat} {x s:List Tok} (h:l.drop a=x++s):l.drop (a+x.length)=s:=by
 rw [Nat.add_comm,← List.drop_drop]
 have:∀ n,List.drop n (l.drop a)=List.drop n (x++s):=fun n=>by rw [h]
 rw [List.drop_drop,Nat.add_comm,← List.drop_drop,h,List.drop_left]
theorem zH3 {r:Option Tok} (h:zK5 r):∀ (n:Int) (rest:List Tok) (j:Nat),1≤n→kE (r.toList++rest) n j=kE rest n (j+r.toList.length):=by
 intro n rest j hn
 cases r with
 | none=>rfl
 | some q =>
  have:=h q rfl
  have hd:delta q=0:=by unfold delta;rw [if_neg (by omega),if_neg (by omega)]
  show kE (q::rest) n j=_
  rw [kE,hd,if_neg (by omega),Int.add_zero];rfl
theorem zBF:∀ (f:Fs),f.wf→∀ (n:Int) (rest:List Tok) (j:Nat),1≤n→kE (f.flat++rest) n j=kE rest n (j+f.flat.length)
 | .nil,_,n,rest,j,hn=>rfl
 | .bar t r,hw,n,rest,j,hn=>by
  have hd:delta t=0:=by have:=hw.1;unfold delta;rw [if_neg (by omega),if_neg (by omega)]
  show kE (t::(r.flat++rest)) n j=_
  rw [kE,hd,if_neg (by omega),Int.add_zero,zBF r hw.2 n rest (j+1) hn]
  simp only [Fs.flat,List.length_cons];rw [show j+1+r.flat.length=j+(r.flat.length+1) by omega]
 | .leaf t r s,hw,n,rest,j,hn=>by
  have hd:delta t=0:=by have:=hw.1;unfold zBV at this;unfold delta;rw [if_neg (by omega),if_neg (by omega)]
  show kE (t::((r.toList++s.flat)++rest)) n j=_
  rw [kE,hd,if_neg (by omega),Int.add_zero,List.append_assoc,zH3 hw.2.1 _ _ _ hn,zBF s hw.2.2 n rest _ hn]
  simp only [Fs.flat,List.length_cons,List.length_append];congr 1;omega
 | .grp t i c r s,hw,n,rest,j,hn=>by
  have hd:delta t=1:=by have:=hw.1;unfold delta;rw [if_pos (by omega)]
  have hc:delta c=-1:=by have:=hw.2.1;unfold delta;rw [if_neg (by omega),if_pos (by omega)]
  have e:(Fs.grp t i c r s).flat++rest=t::(i.flat++(c::(r.toList++(s.flat++rest)))):=by simp [Fs.flat]
  rw [e,kE,hd,if_neg (by omega),zBF i hw.2.2.1 (n+1) _ _ (by omega),kE,hc,if_neg (by omega)]
  rw [show n+1+-1=n by omega,zH3 hw.2.2.2.1 _ _ _ hn,zBF s hw.2.2.2.2 n rest _ hn]
  simp only [Fs.flat,List.length_cons,List.length_append];congr 1;omega
theorem zFb {l:List Tok} {i:Nat} {t c:Tok} {inner:Fs} {tl:List Tok} (h:l.drop i=t::(inner.flat++c::tl)) (ht:t.kind=6) (hc:c.kind=7) (hw:inner.wf):closing l i=i+inner.flat.length+1:=by
 have hd:delta t=1:=by unfold delta;rw [if_pos (by omega)]
 have hd2:delta c=-1:=by unfold delta;rw [if_neg (by omega),if_pos (by omega)]
 unfold closing
 rw [h,kE,hd,if_neg (by omega),zBF inner hw _ _ _ (by omega),kE,hd2,if_pos (by omega)]
 omega
theorem zGU {r:Option Tok}:r.toList.length=0∧r=none∨∃ q,r=some q∧r.toList=[q]:=by
 cases r with
 | none=>exact .inl ⟨rfl,rfl⟩
 | some q=>exact .inr ⟨q,rfl,rfl⟩
theorem zDr:∀ (f:Fs),f.wf→∀ (l:List Tok) (i:Nat) (post:List Tok),l.drop i=f.flat++post→bar l i (i+f.flat.length)=i+f.sq.flat.length
 | .nil,_,l,i,post,h=>by rw [xD,if_pos (by simp [Fs.flat])];rfl
 | .bar t r,hw,l,i,post,h=>by
  have h1:=drop_cons (t:=t) (s:=r.flat++post) h
  rw [xD,if_neg (by simp [Fs.flat]),if_pos (by unfold jW;rw [h1.1];exact hw.1)];rfl
 | .leaf t r s,hw,l,i,post,h=>by
  have h1:=drop_cons (t:=t) (s:=(r.toList++s.flat)++post) h
  have hk:=hw.1
  unfold zBV at hk
  have hl:(Fs.leaf t r s).flat.length=1+r.toList.length+s.flat.length:=by simp [Fs.flat];omega
  have hq:(Fs.leaf t r s).sq.flat.length=1+r.toList.length+s.sq.flat.length:=by simp [Fs.flat,Fs.sq];omega
  rw [hl,hq]
  rw [xD,if_neg (by omega),if_neg (by unfold jW;rw [h1.1];omega),if_neg (by unfold jW;rw [h1.1];omega)]
  have h2:=h1.2.1
  rw [List.append_assoc] at h2
  rcases zGU (r:=r) with ⟨e0,e⟩ | ⟨q,e,e1⟩
  ·subst e
   have:=zDr s hw.2.2 l (i+1) post h2
   simp only [Option.toList] at *
   simpa [Nat.add_assoc,Nat.add_comm,Nat.add_left_comm] using this
  ·subst e
   have h3:=drop_cons (t:=q) (s:=s.flat++post) h2
   have hq8:=hw.2.1 q rfl
   simp only [Option.toList,List.length_cons,List.length_nil]
   rw [xD,if_neg (by omega),if_neg (by unfold jW;rw [h3.1];omega),if_neg (by unfold jW;rw [h3.1];omega)]
   have:=zDr s hw.2.2 l (i+1+1) post h3.2.1
   simpa [Nat.add_assoc,Nat.add_comm,Nat.add_left_comm] using this
 | .grp t inner c r s,hw,l,i,post,h=>by
  have h0:l.drop i=t::(inner.flat++c::(r.toList++(s.flat++post))):=by rw [h];simp [Fs.flat]
  have h1:=drop_cons h0
  have hk:=hw.1
  have hl:(Fs.grp t inner c r s).flat.length=2+inner.flat.length+r.toList.length+s.flat.length:=by simp [Fs.flat];omega
  have hq:(Fs.grp t inner c r s).sq.flat.length=2+inner.flat.length+r.toList.length+s.sq.flat.length:=by simp [Fs.flat,Fs.sq];omega
  rw [hl,hq,xD,if_neg (by omega),if_neg (by unfold jW;rw [h1.1];omega),if_pos (by unfold jW;rw [h1.1];omega)]
  rw [zFb h0 hk hw.2.1 hw.2.2.1]
  have h2:=zGT h1.2.1
  have h3:=(drop_cons h2).2.1
  rcases zGU (r:=r) with ⟨e0,e⟩ | ⟨q,e,e1⟩
  ·subst e
   have:=zDr s hw.2.2.2.2 l (i+1+inner.flat.length+1) post h3
   simp only [Option.toList,List.length_nil]
   rw [show i+inner.flat.length+1+1=i+1+inner.flat.length+1 by omega,show i+(2+inner.flat.length+0+s.flat.length)=i+1+inner.flat.length+1+s.flat.length by omega,this]
   omega
  ·subst e
   have h4:=drop_cons (t:=q) (s:=s.flat++post) h3
   have hq8:=hw.2.2.2.1 q rfl
   simp only [Option.toList,List.length_cons,List.length_nil]
   rw [show i+inner.flat.length+1+1=i+1+inner.flat.length+1 by omega]
   rw [xD,if_neg (by omega),if_neg (by unfold jW;rw [h4.1];omega),if_neg (by unfold jW;rw [h4.1];omega)]
   have:=zDr s hw.2.2.2.2 l (i+1+inner.flat.length+1+1) post h4.2.1
   rw [show i+(2+inner.flat.length+(0+1)+s.flat.length)=i+1+inner.flat.length+1+1+s.flat.length by omega,this]
   omega
theorem zQi:∀ (f:Fs),f.wf→∀ (t:Tok) (s:List Tok),f.sq.flat=t::s→t.kind≠8
 | .nil,_,t,s,h=>by simp [Fs.sq,Fs.flat] at h
 | .bar _ _,_,t,s,h=>by simp [Fs.sq,Fs.flat] at h
 | .leaf u r rest,hw,t,s,h=>by
  simp only [Fs.sq,Fs.flat,List.cons.injEq] at h
  have:=hw.1;unfold zBV at this;rw [← h.1];omega
 | .grp u i c r rest,hw,t,s,h=>by
  simp only [Fs.sq,Fs.flat,List.cons.injEq] at h
  have:=hw.1;rw [← h.1];omega
theorem zQj (f:Fs) (hw:f.wf):∃ s,f.flat=f.sq.flat++s:=by
 cases h:f.rs with
 | none=>exact ⟨[],by rw [Fs.zGS f h];simp⟩
 | some g=>obtain ⟨_,t,_,e⟩:=Fs.zFa f g hw h;exact ⟨_,e⟩
theorem zGk {l:List Tok} {f:Fs} (hw:f.wf) {i:Nat} {post:List Tok} (h:l.drop i=f.flat++post) (hl:0<f.sq.flat.length):jW l i≠8:=by
 obtain ⟨s,e⟩:=zQj f hw
 cases hq:f.sq.flat with
 | nil=>rw [hq] at hl;simp at hl
 | cons t u =>
  rw [e,hq] at h
  have:=drop_cons (t:=t) (s:=(u++s)++post) (by rw [h];simp)
  unfold jW;rw [this.1];exact zQi f hw t u hq
theorem zH4 {l:List Tok} {i j f:Nat} {t:Tok} (h:l.getD i kX=t) (hk:zBV t):tree l (f+1) 2 i j=xM t:=by
 simp only [tree]
 unfold jW xM
 rw [h]
 unfold zBV at hk
 by_cases h1:t.kind=1
 ·rw [if_pos h1,if_pos h1]
 rw [if_neg h1,if_neg h1]
 by_cases h2:t.kind=2
 ·rw [if_pos h2,if_pos h2]
 rw [if_neg h2,if_neg h2]
 by_cases h3:t.kind=3
 ·rw [if_pos h3,if_pos h3]
 rw [if_neg h3,if_neg h3,if_pos (by omega)]
theorem zJ9 {l:List Tok} {i j f:Nat} {t:Tok} (h:l.getD i kX=t) (hk:t.kind=6):tree l (f+1) 2 i j=zBE t (tree l f 0 (i+1) (j-1)):=by
 simp only [tree]
 unfold jW zBE
 rw [h]
 rw [if_neg (by omega),if_neg (by omega),if_neg (by omega),if_neg (by omega)]
theorem zKa {l:List Tok} {i j f:Nat}:tree l (f+1) 3 i j=zHt (tree l f 2 i j) (l.getD j kX):=by simp only [tree]
def zRw (N:Nat):Prop:=∀ g:Fs,g.wf→g.flat.length<N→∀ (l:List Tok) (a:Nat) (post:List Tok) (f:Nat),l.drop a=g.flat++post→2*g.flat.length+4≤f→tree l f 0 a (a+g.flat.length)=g.re
theorem zDs (N:Nat) (hA:zRw N) (l:List Tok) (f':Nat) (hf:2*N+2≤f'):∀ (f:Fs),f.wf→f.flat.length≤N→∀ (i:Nat) (post:List Tok) (g:Nat),l.drop i=f.flat++post→f.sq.flat.length≤g →
  zLU (fun i j=>tree l f' 2 i j) (fun i j=>tree l f' 3 i j) l (i+f.sq.flat.length) g i=f.both.1
 | .nil,_,_,i,post,g,h,hg=>by
  cases g with
  | zero=>rfl
  | succ g=>simp only [zLU];rw [if_pos (by simp [Fs.sq,Fs.flat])];rfl
 | .bar _ _,_,_,i,post,g,h,hg=>by
  cases g with
  | zero=>rfl
  | succ g=>simp only [zLU];rw [if_pos (by simp [Fs.sq,Fs.flat])];rfl
 | .leaf t r s,hw,hN,i,post,g,h,hg=>by
  have h1:=drop_cons (t:=t) (s:=(r.toList++s.flat)++post) h
  have h2:=h1.2.1
  rw [List.append_assoc] at h2
  have hk:=hw.1
  have hk':=hk
  unfold zBV at hk'
  have hq:(Fs.leaf t r s).sq.flat.length=1+r.toList.length+s.sq.flat.length:=by simp [Fs.flat,Fs.sq];omega
  have hNs:s.flat.length≤N:=by simp [Fs.flat] at hN;omega
  have haf:after l i=i+1:=by unfold after jW;rw [h1.1,if_neg (by omega)]
  rw [hq] at hg ⊢
  obtain ⟨g,rfl⟩:∃ g',g=g'+1:=⟨g-1,by omega⟩
  obtain ⟨f1,rfl⟩:∃ f1,f'=f1+1+1:=⟨f'-2,by omega⟩
  simp only [zLU]
  rw [if_neg (by omega),haf]
  rcases zGU (r:=r) with ⟨e0,e⟩ | ⟨q,e,e1⟩
  ·subst e
   have h3:l.drop (i+1)=s.flat++post:=h2
   rw [if_neg (by
    rintro ⟨hlt,h8⟩
    exact zGk hw.2.2 h3 (by simp at hlt;omega) h8)]
   have:=zDs N hA l (f1+1+1) hf s hw.2.2 hNs (i+1) post g h3 (by simp at hg;omega)
   rw [show i+(1+(Option.none:Option Tok).toList.length+s.sq.flat.length)=i+1+s.sq.flat.length by simp;omega,this,zH4 h1.1 hk]
   rfl
  ·subst e
   have h3:=drop_cons (t:=q) (s:=s.flat++post) h2
   have hq8:=hw.2.1 q rfl
   simp only [Option.toList,List.length_cons,List.length_nil] at hg
   rw [if_pos ⟨by simp;omega,by unfold jW;rw [h3.1];exact hq8⟩]
   have:=zDs N hA l (f1+1+1) hf s hw.2.2 hNs (i+1+1) post g h3.2.1 (by omega)
   rw [show i+(1+(some q).toList.length+s.sq.flat.length)=i+1+1+s.sq.flat.length by simp;omega,this,zKa,zH4 h1.1 hk,h3.1]
   rfl
 | .grp t inner c r s,hw,hN,i,post,g,h,hg=>by
  have h0:l.drop i=t::(inner.flat++c::(r.toList++(s.flat++post))):=by rw [h];simp [Fs.flat]
  have h1:=drop_cons h0
  have hk:=hw.1
  have hcl:=zFb h0 hk hw.2.1 hw.2.2.1
  have hq:(Fs.grp t inner c r s).sq.flat.length=2+inner.flat.length+r.toList.length+s.sq.flat.length:=by simp [Fs.flat,Fs.sq];omega
  have hl:(Fs.grp t inner c r s).flat.length=2+inner.flat.length+r.toList.length+s.flat.length:=by simp [Fs.flat];omega
  have haf:after l i=i+1+inner.flat.length+1:=by unfold after jW;rw [h1.1,if_pos hk,hcl];omega
  rw [hq] at hg ⊢
  rw [hl] at hN
  obtain ⟨g,rfl⟩:∃ g',g=g'+1:=⟨g-1,by omega⟩
  obtain ⟨f1,rfl⟩:∃ f1,f'=f1+1+1:=⟨f'-2,by omega⟩
  have h2:=zGT h1.2.1
  have h3:=(drop_cons h2).2.1
  simp only [zLU]
  rw [if_neg (by omega),haf]
  rcases zGU (r:=r) with ⟨e0,e⟩ | ⟨q,e,e1⟩
  ·subst e
   have h4:l.drop (i+1+inner.flat.length+1)=s.flat++post:=h3
   rw [if_neg (by
    rintro ⟨hlt,h8⟩
    exact zGk hw.2.2.2.2 h4 (by simp at hlt;omega) h8)]
   have:=zDs N hA l (f1+1+1) hf s hw.2.2.2.2 (by omega) (i+1+inner.flat.length+1) post g h4 (by simp at hg;omega)
   rw [show i+(2+inner.flat.length+(Option.none:Option Tok).toList.length+s.sq.flat.length)=i+1+inner.flat.length+1+s.sq.flat.length by simp;omega,this,zJ9 h1.1 hk,
    show i+1+inner.flat.length+1-1=i+1+inner.flat.length by omega,hA inner hw.2.2.1 (by omega) l (i+1) _ (f1+1) h1.2.1 (by omega)]
   rfl
  ·subst e
   have h4:=drop_cons (t:=q) (s:=s.flat++post) h3
   have hq8:=hw.2.2.2.1 q rfl
   simp only [Option.toList,List.length_cons,List.length_nil] at hg hN
   rw [if_pos ⟨by simp;omega,by unfold jW;rw [h4.1];exact hq8⟩]
   have:=zDs N hA l (f1+1+1) hf s hw.2.2.2.2 (by omega) (i+1+inner.flat.length+1+1) post g h4.2.1 (by omega)
   rw [show i+(2+inner.flat.length+(some q).toList.length+s.sq.flat.length)=i+1+inner.flat.length+1+1+s.sq.flat.length by simp;omega,this,zKa,zJ9 h1.1 hk,h4.1,
    show i+1+inner.flat.length+1-1=i+1+inner.flat.length by omega,hA inner hw.2.2.1 (by omega) l (i+1) _ f1 h1.2.1 (by omega)]
   rfl
theorem zMB (l:List Tok) (f a b:Nat):tree l (f+1) 0 a b=if bar l a b=b then tree l f 1 a (bar l a b) else .alt (tree l f 1 a (bar l a b)) (tree l f 0 (bar l a b+1) b):=by simp only [tree]
theorem zOC (l:List Tok) (f a b:Nat):tree l (f+1) 1 a b=zLU (fun i j=>tree l f 2 i j) (fun i j=>tree l f 3 i j) l b (b-a) a:=by simp only [tree]
theorem zKb:∀ N,zRw N
 | 0=>fun g _ h=>by omega
 | N+1=>by
  intro f hw hN l a post fu h hf
  have ih:=zKb N
  obtain ⟨f',rfl⟩:∃ f',fu=f'+1+1:=⟨fu-2,by omega⟩
  have hb:=zDr f hw l a post h
  rw [zMB,hb,zOC]
  have hlen:f.flat.length=f.sq.flat.length+match f.rs with | none=>0 | some g=>g.flat.length+1:=by
   cases hr:f.rs with
   | none=>rw [Fs.zGS f hr];rfl
   | some g=>obtain ⟨_,t,_,e⟩:=Fs.zFa f g hw hr;rw [e];simp
  have hs:=zDs f.flat.length (fun g gw gl=>ih g gw (by omega)) l f' (by omega) f hw (Nat.le_refl _) a post (a+f.sq.flat.length-a) h (by omega)
  have e2:=f.zK6
  unfold Fs.re
  cases hr:f.rs with
  | none =>
   rw [hr] at hlen e2
   rw [if_pos (by simp at hlen;omega),hs]
   generalize hB:f.both=B at *
   obtain ⟨b1,b2⟩:=B
   simp at e2;subst e2;rfl
  | some g =>
   rw [hr] at hlen e2
   obtain ⟨gw,t,_,e⟩:=Fs.zFa f g hw hr
   simp only at hlen
   rw [if_neg (by omega),hs]
   have h5:l.drop (a+f.sq.flat.length+1)=g.flat++post:=by
    rw [e,List.append_assoc] at h
    exact (drop_cons (zGT h)).2.1
   have hr2:=ih g gw (by omega) l (a+f.sq.flat.length+1) post (f'+1) h5 (by omega)
   rw [show a+f.sq.flat.length+1+g.flat.length=a+f.flat.length by omega] at hr2
   rw [hr2]
   generalize hB:f.both=B at *
   obtain ⟨b1,b2⟩:=B
   simp at e2;subst e2;rfl
theorem zFc (f:Fs) (hw:f.wf) (h:f.flat.length≤64):zEj f.flat=f.re:=by
 have:=zKb (f.flat.length+1) f hw (by omega) f.flat 0 [] 283 (by simp) (by omega)
 rw [Nat.zero_add] at this
 exact this
end Mt
