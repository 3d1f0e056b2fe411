import Derived.Test.YtebpgfodelggoabGreatKC11
set_option linter.unusedVariables false
set_option linter.unusedSimpArgs false
namespace Mt
abbrev Sta:=List Int
def gt(s:Sta)(i:Nat):Int:=s.getD i 0
def zDt(p:ByteArray)(c:Int)(k:Nat):Bool:=(p.data.toList.take k).any λb=>(b.toNat:Int)==c
def hasB(p:ByteArray)(c:Int):Bool:=p.data.toList.any λb=>(b.toNat:Int)==c
theorem zEH(p:ByteArray)(c:Int)(k:Nat)(h:k<p.size):zDt p c (k+1)=(zDt p c k||((p[k]'h).toNat:Int)==c):=by
 unfold zDt;have h':k<p.data.toList.length:=by simpa using h
 rw[List.take_succ_eq_append_getElem h',List.any_append];simp only[List.any_cons,List.any_nil,Bool.or_false];rfl
theorem zGD(p:ByteArray)(c:Int):zDt p c p.size=hasB p c:=by
 unfold zDt hasB;rw[List.take_of_length_le (by simp)]
theorem zIP(p:ByteArray)(c:Int)(k:Nat)(h:k<p.size)(hc:(((p[k]'h).toNat:Int)==c)=true):hasB p c=true:=by
 unfold hasB;rw[List.any_eq_true];refine⟨p[k]'h,?_,hc⟩;have h':k<p.data.toList.length:=by simpa using h
 exact List.getElem_mem h'
def kS(s:Sta)(k:Nat):Nat:=(List.range k).countP λj=>gt s (32+j)==gt s 1
theorem zCA(s:Sta)(k:Nat):kS s (k+1)=kS s k+if gt s (32+k)==gt s 1 then 1 else 0:=by
 unfold kS;rw[List.range_succ,List.countP_append];simp[List.countP_cons]
theorem zAS(s:Sta)(k:Nat):kS s k<=k:=by
 unfold kS;refine Nat.le_trans List.countP_le_length ?_;simp
def lev(s:Sta)(a:Nat):Nat:=kS s (min a 12)
theorem zOH(s:Sta)(a:Nat):lev s a<=12/\lev s a<=a:=by
 have:=zAS s (min a 12);unfold lev;omega
def keyOf(s:Sta)(pc pos T a:Nat):Nat:=(pc*(T+1)+pos)*12+lev s a
def vR(kn:List Bool)(zD:Int)(i:Nat):List Bool:=if kn.getD i false=true then kn else if 0<zD then kn.set i true else kn
def jT(kn:List Bool)(zD:Int)(i:Nat):Int:=if kn.getD i false=true then zD else if 0<zD then zD-1 else zD
