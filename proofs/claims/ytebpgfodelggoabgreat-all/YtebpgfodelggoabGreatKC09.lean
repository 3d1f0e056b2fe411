import Derived.Test.YtebpgfodelggoabGreatKC07
set_option linter.unusedVariables false
set_option linter.unusedSimpArgs false
namespace Mt
def kC(p:ByteArray):List zTG × Int:=if(jN p).1≠0 then([],(jN p).1)else(coded (zY p).1,0)
def xR(p:Int)(i:zTG):Bool:=decide (i.op=5/\i.x+1<p)
def bZ(c:List zTG)(p k:Nat):Nat:=((c.drop p).take (k-p)).countP (xR p)
def jI(c:List zTG)(p:Nat):Nat:=bZ c p c.length
theorem zGt(c:List zTG)(p k:Nat)(hp:p<=k)(hk:k<c.length):bZ c p (k+1)=bZ c p k+if xR p (c.getD k jY)then 1 else 0:=by
 unfold bZ;rw[show k+1-p=(k-p)+1 by omega,List.take_succ_eq_append_getElem (by rw[List.length_drop];omega),List.countP_append]
 have e:(c.drop p)[k-p]'(by rw[List.length_drop];omega)=c.getD k jY:=by
  rw[List.getElem_drop,lH,lK hk];simp only[Option.getD_some];congr 1;omega
 rw[e];simp[List.countP_cons]
theorem zFe(c:List zTG)(p:Nat):bZ c p p=0:=by unfold bZ;simp
theorem zEC(c:List zTG)(p k:Nat):bZ c p k<=k:=by
 unfold bZ;refine Nat.le_trans List.countP_le_length ?_;rw[List.length_take];omega
theorem nM(c:List zTG)(p:Nat):jI c p<=c.length:=zEC _ _ _
def dG(c:List zTG)(k:Nat):Nat:=((List.range k).map λi=>1+jI c i).sum
def zHT(c:List zTG):Nat:=dG c c.length
theorem wV(c:List zTG)(k:Nat):dG c (k+1)=dG c k+1+jI c k:=by
 unfold dG;rw[List.range_succ,List.map_append,List.sum_append];simp;omega
theorem zBm(c:List zTG):∀k,dG c k<=k*(c.length+1)
 | 0=>by simp[dG]
 | k+1=>by
  rw[wV];have:=zBm c k;have h2:=nM c k;rw[Nat.add_mul];omega
def cB(p:ByteArray):Int × Int:=if(kC p).2≠0 then(0,(kC p).2)else((zHT (kC p).1:Int),0)
theorem zLg(p:ByteArray):fit 100000000 (coded (zY p).1):=by
 have g:=zHL (zY p).1 (fZ p).1 283 0 0 (zY p).1.length 0 (by omega) (by omega);have g1:zAo (2000*((283:Nat)+1:Int)) (60000*((283:Nat)+1:Int)) [(⟨13,0,0,[]⟩:zTG)]:=dF ⟨by simp only;omega,by simp only;omega,by simp only;omega,by simp only;omega⟩ (by omega);exact vV (yH g g1) (by omega) (by omega)
theorem zED(p:ByteArray)(h:(jN p).1=0):(coded (zY p).1).length<=300:=by
 unfold jN at h;split at h
 ·rename_i g;exact absurd h g
 ·split at h
  ·simp at h
  ·omega
theorem bN(p:ByteArray):fit 100000000 (kC p).1/\(kC p).1.length<=300:=by
 unfold kC;split
 ·exact⟨fO (by omega),by simp⟩
 ·rename_i h
  exact⟨zLg p,zED p (by simpa using h)⟩
