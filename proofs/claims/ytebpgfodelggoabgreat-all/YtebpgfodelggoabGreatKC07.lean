import Derived.Test.YtebpgfodelggoabGreatKC03
set_option linter.unusedVariables false
set_option linter.unusedSimpArgs false
namespace Mt
theorem zC4(p:ByteArray)(t:Int):0<=(fF p t).1/\(fF p t).1<=2:=by
 unfold fF;split
 ·simp
 ·split <;> simp
theorem zIO(p:ByteArray)(i:Int):0<=(count p i).1/\(count p i).1<=20/\-1<=(count p i).2.1/\(count p i).2.1<=20:=by
 have b1:=dK p (i+1);have b2:=dK p (i+1+(number p (i+1)).2+1);unfold count;split
 ·simp
 ·split
  ·simp only;omega
  ·split
   ·simp
   ·split
    ·simp only;omega
    ·split
     ·simp
     ·simp only;omega
theorem zLa(p:ByteArray)(i:Int):fG (jF p i).1:=by
 have m1:=zC4 p (i+1);have m2:=zC4 p (count p i).2.2.1;have c:=zIO p i;unfold jF;split
 ·simp only[fG];omega
 ·split
  ·simp only[fG];omega
  ·split
   ·split
    ·simp only[fG];omega
    ·simp[fG]
   ·simp only[fG];omega
theorem zLb(p:ByteArray)(i:Int):fG (vD p i).1:=by
 unfold vD;split
 ·simp[fG]
 ·split
  ·simp[fG]
  ·split
   ·simp only[fG];omega
   ·simp[fG]
theorem zJJ(p:ByteArray)(i:Int):fG (kW p i).1:=by
 unfold kW;split
 ·simp[fG]
 ·split
  ·simp[fG]
  ·split
   ·simp[fG]
   ·split
    ·simp[fG]
    ·split <;> simp[fG]
theorem zNh(p:ByteArray)(i:Int):fG (qU p i).1:=by
 unfold qU;split <;> simp[fG]
theorem zO5(p:ByteArray)(i:Int):fG (jJ p i).1:=by
 unfold jJ;split
 ·simp[fG]
 split
 ·simp[fG]
 split
 ·simp[fG]
 split
 ·simp[fG]
 split
 ·exact zLb p i
 split
 ·exact zNh p i
 split
 ·exact zJJ p i
 split
 ·exact zLa p i
 split
 ·simp[fG]
 ·simp[fG]
theorem zLc{l:List zTD}{t:zTD}(h:fG t)(hl:l.length<=64):fG (yQ l t):=by
 unfold yQ;split
 ·rename_i hc
  have hk:t.kind=6:=by simp[jO]at hc;exact hc.1
  have:=fM l;simp only[fG]at *;omega
 ·exact h
theorem zLd(p:ByteArray)(hp:p.size<=64):∀(f:Nat) (l:List zTD) (i:Int),0<=i->i<=p.size->(p.size:Int)-i<f->bM l->(l.length:Int)<=i->bM (yL p l i).1/\((yL p l i).1.length:Int)<=p.size:=by
 intro f;induction f with
 | zero=>intro l i h0 h1 h2;omega
 | succ f ih =>
  intro l i h0 h1 h2 hl hn;rw[pF p l i h0 h1];split
  ·exact⟨hl,by simp only;omega⟩
  ·split
   ·exact⟨by simp[bM],by simp⟩
   ·split
    ·exact⟨by simp[bM],by simp⟩
    ·rename_i a b c
     have ht:=wP p i h0 (by omega) (by omega);refine ih _ _ (by omega) (by omega) (by omega) ?_ ?_
     ·intro t hm;rcases List.mem_append.1 hm with hm | hm
      ·exact hl t hm
      ·simp at hm;rw[hm];exact zLc (zO5 p i) (by omega)
     ·rw[lM];simp;omega
theorem fZ(p:ByteArray):bM (zY p).1/\(zY p).1.length<=64:=by
 unfold zY;split
 ·exact⟨by simp[bM],by simp⟩
 ·rename_i hp
  have h:=zLd p (by omega) ((p.size:Int)+1).toNat [] 0 (by omega) (by omega) (by omega) (by simp[bM]) (by simp);rw[xZ p (by omega)];split
  ·exact⟨h.1,by have:=h.2;omega⟩
  ·split
   ·exact⟨by simp[bM],by simp⟩
   ·exact⟨h.1,by have:=h.2;simp only;omega⟩
def jN(p:ByteArray):Int × Int :=
 if(zY p).2.1≠0 then(zY p).2
 else if 300<(coded (zY p).1).length then(12,0)
 else(0,0)
