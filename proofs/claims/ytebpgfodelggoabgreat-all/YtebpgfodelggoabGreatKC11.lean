import Derived.Test.YtebpgfodelggoabGreatKC09
set_option linter.unusedVariables false
set_option linter.unusedSimpArgs false
namespace Mt
def nZ(p:Int)(i:zTG):Bool:=decide (i.op=11/\p<i.y)
def zCQ(c:List zTG)(p:Nat):Bool:=(c.take p).any (nZ p)
def bB(x:zTG)(q p:Int):Bool :=
 if x.op=2 then(x.x==p||x.y==p)
 else if x.op=3\/x.op=5 then x.x==p
 else if x.op=11 then x.y==p
 else if x.op=12\/x.op=13 then false
 else q+1==p
def leads(c:List zTG)(q:Nat)(p:Int):Bool:=bB (c.getD q jY) q p
def xG(p:Int)(i:zTG):Bool:=decide (i.op=5/\i.x=p)
def kH(c:List zTG)(p:Int)(k:Nat):Nat:=(List.range k).countP λq=>leads c q p
theorem zCz(c:List zTG)(p:Int)(k:Nat):kH c p (k+1)=kH c p k+if leads c k p then 1 else 0:=by
 unfold kH;rw[List.range_succ,List.countP_append];simp[List.countP_cons]
theorem zEE(c:List zTG)(p:Int)(k:Nat):kH c p k<=k:=by
 unfold kH;refine Nat.le_trans List.countP_le_length ?_;simp
def zAr(zI:Int)(k:Nat):Bool:=((zI/(2:Int) ^ k).tmod 2==1)
def picked(c:List zTG)(p:Nat)(zB zI:Int):Bool :=
 if zB=2/\c.any (xG p)=true then true
 else if zB=1 then true
 else if zB=3 then decide (1<kH c p c.length)
 else if zB=4 then zAr zI (p % 32)
 else false
def nP(c:List zTG):Bool:=c.any λi=>decide (i.op=8)
def tC(c:List zTG)(zB zI:Int)(p:Nat):Bool:=if zCQ c p then false else picked c p zB zI
def jD(c:List zTG)(zB zI:Int):List Bool:=if nP c then List.replicate c.length false else(List.range c.length).map (tC c zB zI)
def kF(zB zI:Int):Bool:=decide (0<=zB/\zB<=4/\0<=zI/\zI<=4294967295)
def kY(b:List Bool)(k:Nat):List Int:=((List.range k).filter λi=>b.getD i false).map λi:Nat=>(i:Int)
theorem xK(b:List Bool)(k:Nat):kY b (k+1)=kY b k++if b.getD k false then[(k:Int)]else[]:=by
 unfold kY;rw[List.range_succ,List.filter_append,List.map_append];congr 1;rw[List.filter_cons];cases h:b.getD k false <;> simp
theorem zAP(b:List Bool)(k:Nat):(kY b k).length<=k:=by
 unfold kY;rw[List.length_map];exact Nat.le_trans (List.length_filter_le _ _) (by simp)
def xL(p:ByteArray)(zB zI:Int):List Int × Int :=
 if(kC p).2≠0 then([],(kC p).2)
 else if kF zB zI=false then([],13)
 else(kY (jD (kC p).1 zB zI) (kC p).1.length,0)
theorem zAQ(c:List zTG)(f:zTG->Bool)(k:Nat)(h:k<c.length):(c.take (k+1)).any f=((c.take k).any f||f (c.getD k jY)):=by
 rw[List.take_succ_eq_append_getElem h,List.any_append,lH,lK h];simp
theorem wW(c:List zTG)(f:zTG->Bool)(k n:Nat)(h:k<n)(hn:n<=c.length)(hf:f (c.getD k jY)=true):(c.take n).any f=true:=by
 rw[List.any_eq_true];refine⟨c.getD k jY,?_,hf⟩;rw[lH,lK (by omega)];simp only[Option.getD_some];rw[List.mem_take_iff_getElem];exact⟨k,by omega,rfl⟩
theorem zEF(c:List zTG)(zB zI:Int):(jD c zB zI).length=c.length:=by
 unfold jD;split <;> simp
