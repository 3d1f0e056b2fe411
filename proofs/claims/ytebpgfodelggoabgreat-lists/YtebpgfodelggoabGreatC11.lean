import Derived.Test.YtebpgfodelggoabGreatC09
set_option linter.unusedVariables false
set_option linter.unusedSimpArgs false
namespace Mt
def zBp (p:Int) (i:Ins):Bool:=decide (i.op=11∧p<i.y)
def zEE (c:List Ins) (p:Nat):Bool:=(c.take p).any (zBp p)
def zAk (x:Ins) (q p:Int):Bool :=
 if x.op=2 then (x.x==p||x.y==p)
 else if x.op=3∨x.op=5 then x.x==p
 else if x.op=11 then x.y==p
 else if x.op=12∨x.op=13 then false
 else q+1==p
def leads (c:List Ins) (q:Nat) (p:Int):Bool:=zAk (c.getD q jB) q p
def yO (p:Int) (i:Ins):Bool:=decide (i.op=5∧i.x=p)
def leadsTo (c:List Ins) (p:Int) (k:Nat):Nat:=(List.range k).countP fun q=>leads c q p
theorem zEo (c:List Ins) (p:Int) (k:Nat):leadsTo c p (k+1)=leadsTo c p k+if leads c k p then 1 else 0:=by
 unfold leadsTo;rw [List.range_succ,List.countP_append];simp [List.countP_cons]
theorem zGp (c:List Ins) (p:Int) (k:Nat):leadsTo c p k≤k:=by
 unfold leadsTo;refine Nat.le_trans List.countP_le_length ?_;simp
def zCk (mask:Int) (k:Nat):Bool:=((mask/(2:Int) ^ k).tmod 2==1)
def picked (c:List Ins) (p:Nat) (policy mask:Int):Bool :=
 if policy=2∧c.any (yO p)=true then true
 else if policy=1 then true
 else if policy=3 then decide (1<leadsTo c p c.length)
 else if policy=4 then zCk mask (p % 32)
 else false
def zBf (c:List Ins):Bool:=c.any fun i=>decide (i.op=8)
def zBq (c:List Ins) (policy mask:Int) (p:Nat):Bool:=if zEE c p then false else picked c p policy mask
def chosen (c:List Ins) (policy mask:Int):List Bool:=if zBf c then List.replicate c.length false else (List.range c.length).map (zBq c policy mask)
def kF (policy mask:Int):Bool:=decide (0≤policy∧policy≤4∧0≤mask∧mask≤4294967295)
def kL (b:List Bool) (k:Nat):List Int:=((List.range k).filter fun i=>b.getD i false).map fun i:Nat=>(i:Int)
theorem vK (b:List Bool) (k:Nat):kL b (k+1)=kL b k++if b.getD k false then [(k:Int)] else []:=by
 unfold kL
 rw [List.range_succ,List.filter_append,List.map_append]
 congr 1
 rw [List.filter_cons]
 cases h:b.getD k false <;> simp
theorem zGq (b:List Bool) (k:Nat):(kL b k).length≤k:=by
 unfold kL;rw [List.length_map];exact Nat.le_trans (List.length_filter_le _ _) (by simp)
def zMJ (p:ByteArray) (policy mask:Int):List Int × Int :=
 if (kR p).2≠0 then ([],(kR p).2)
 else if kF policy mask=false then ([],13)
 else (kL (chosen (kR p).1 policy mask) (kR p).1.length,0)
theorem zCK (c:List Ins) (f:Ins→Bool) (k:Nat) (h:k<c.length):(c.take (k+1)).any f=((c.take k).any f||f (c.getD k jB)):=by
 rw [List.take_succ_eq_append_getElem h,List.any_append,List.getD_eq_getElem?_getD,List.getElem?_eq_getElem h];simp
theorem zBW (c:List Ins) (f:Ins→Bool) (k n:Nat) (h:k<n) (hn:n≤c.length) (hf:f (c.getD k jB)=true):(c.take n).any f=true:=by
 rw [List.any_eq_true]
 refine ⟨c.getD k jB,?_,hf⟩
 rw [List.getD_eq_getElem?_getD,List.getElem?_eq_getElem (by omega)]
 simp only [Option.getD_some]
 rw [List.mem_take_iff_getElem]
 exact ⟨k,by omega,rfl⟩
theorem zLh (c:List Ins) (policy mask:Int):(chosen c policy mask).length=c.length:=by
 unfold chosen;split <;> simp
end Mt
