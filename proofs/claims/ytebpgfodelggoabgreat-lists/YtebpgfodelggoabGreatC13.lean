import Derived.Test.YtebpgfodelggoabGreatC11
set_option linter.unusedVariables false
set_option linter.unusedSimpArgs false
namespace Mt
abbrev Sta:=List Int
def gt (s:Sta) (i:Nat):Int:=s.getD i 0
def zFf (p:ByteArray) (c:Int) (k:Nat):Bool:=(p.data.toList.take k).any fun b=>(b.toNat:Int)==c
def hasB (p:ByteArray) (c:Int):Bool:=p.data.toList.any fun b=>(b.toNat:Int)==c
theorem zGr (p:ByteArray) (c:Int) (k:Nat) (h:k<p.size):zFf p c (k+1)=(zFf p c k||((p[k]'h).toNat:Int)==c):=by
 unfold zFf
 have h':k<p.data.toList.length:=by simpa using h
 rw [List.take_succ_eq_append_getElem h',List.any_append]
 simp only [List.any_cons,List.any_nil,Bool.or_false]
 rfl
theorem zIe (p:ByteArray) (c:Int):zFf p c p.size=hasB p c:=by
 unfold zFf hasB
 rw [List.take_of_length_le (by simp)]
theorem zKm (p:ByteArray) (c:Int) (k:Nat) (h:k<p.size) (hc:(((p[k]'h).toNat:Int)==c)=true):hasB p c=true:=by
 unfold hasB
 rw [List.any_eq_true]
 refine ⟨p[k]'h,?_,hc⟩
 have h':k<p.data.toList.length:=by simpa using h
 exact List.getElem_mem h'
def zV (s:Sta) (k:Nat):Nat:=(List.range k).countP fun j=>gt s (32+j)==gt s 1
theorem zEp (s:Sta) (k:Nat):zV s (k+1)=zV s k+if gt s (32+k)==gt s 1 then 1 else 0:=by
 unfold zV;rw [List.range_succ,List.countP_append];simp [List.countP_cons]
theorem zCL (s:Sta) (k:Nat):zV s k≤k:=by
 unfold zV;refine Nat.le_trans List.countP_le_length ?_;simp
def lev (s:Sta) (a:Nat):Nat:=zV s (min a 12)
theorem zP5 (s:Sta) (a:Nat):lev s a≤12∧lev s a≤a:=by
 have:=zCL s (min a 12)
 unfold lev;omega
def keyOf (s:Sta) (pc pos T a:Nat):Nat:=(pc*(T+1)+pos)*12+lev s a
def yA (kn:List Bool) (room:Int) (i:Nat):List Bool:=if kn.getD i false=true then kn else if 0<room then kn.set i true else kn
def kV (kn:List Bool) (room:Int) (i:Nat):Int:=if kn.getD i false=true then room else if 0<room then room-1 else room
end Mt
