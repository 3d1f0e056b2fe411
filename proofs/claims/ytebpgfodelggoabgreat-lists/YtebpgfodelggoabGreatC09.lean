import Derived.Test.YtebpgfodelggoabGreatC07
set_option linter.unusedVariables false
set_option linter.unusedSimpArgs false
namespace Mt
def kR (p:ByteArray):List Ins × Int:=if (jQ p).1≠0 then ([],(jQ p).1) else (coded (tokens p).1,0)
def yY (p:Int) (i:Ins):Bool:=decide (i.op=5∧i.x+1<p)
def zAI (c:List Ins) (p k:Nat):Nat:=((c.drop p).take (k-p)).countP (yY p)
def kS (c:List Ins) (p:Nat):Nat:=zAI c p c.length
theorem zH7 (c:List Ins) (p k:Nat) (hp:p≤k) (hk:k<c.length):zAI c p (k+1)=zAI c p k+if yY p (c.getD k jB) then 1 else 0:=by
 unfold zAI
 rw [show k+1-p=(k-p)+1 by omega,List.take_succ_eq_append_getElem (by rw [List.length_drop];omega),List.countP_append]
 have e:(c.drop p)[k-p]'(by rw [List.length_drop];omega)=c.getD k jB:=by
  rw [List.getElem_drop,List.getD_eq_getElem?_getD,List.getElem?_eq_getElem hk]
  simp only [Option.getD_some]
  congr 1;omega
 rw [e]
 simp [List.countP_cons]
theorem zGX (c:List Ins) (p:Nat):zAI c p p=0:=by unfold zAI;simp
theorem zGn (c:List Ins) (p k:Nat):zAI c p k≤k:=by
 unfold zAI
 refine Nat.le_trans List.countP_le_length ?_
 rw [List.length_take];omega
theorem zDZ (c:List Ins) (p:Nat):kS c p≤c.length:=zGn _ _ _
def zOG (c:List Ins) (k:Nat):Nat:=((List.range k).map fun i=>1+kS c i).sum
def zQt (c:List Ins):Nat:=zOG c c.length
def zMG (p:ByteArray):Int × Int:=if (kR p).2≠0 then (0,(kR p).2) else ((zQt (kR p).1:Int),0)
theorem zMH (p:ByteArray):fit 100000000 (coded (tokens p).1):=by
 have g:=zJj (tokens p).1 (zAj p).1 283 0 0 (tokens p).1.length 0 (by omega) (by omega)
 have g1:zCh (2000*((283:Nat)+1:Int)) (60000*((283:Nat)+1:Int)) [(⟨13,0,0,[]⟩:Ins)]:=vW ⟨by simp only;omega,by simp only;omega,by simp only;omega,by simp only;omega⟩ (by omega)
 exact yG (qB g g1) (by omega) (by omega)
theorem zGo (p:ByteArray) (h:(jQ p).1=0):(coded (tokens p).1).length≤300:=by
 unfold jQ at h
 split at h
 ·rename_i g;exact absurd h g
 ·split at h
  ·simp at h
  ·omega
theorem zH8 (p:ByteArray):fit 100000000 (kR p).1∧(kR p).1.length≤300:=by
 unfold kR
 split
 ·exact ⟨zAe (by omega),by simp⟩
 ·rename_i h
  exact ⟨zMH p,zGo p (by simpa using h)⟩
end Mt
