import Derived.Test.YtebpgfodelggoabGreatKC24
import Derived.Test.YtebpgfodelggoabGreatKC11
set_option linter.unusedVariables false
set_option linter.unusedSimpArgs false
namespace Mt
theorem pQ:∀(r:Re) (p d:Int) (x:zTG),x∈r.code p d->x.op=11->x.y<=p+r.len
 | .eps,p,d,x,h,ho=>by simp[Re.code]at h
 | .one s,p,d,x,h,ho=>by simp[Re.code]at h;subst h;simp at ho
 | .back s,p,d,x,h,ho=>by simp[Re.code]at h;subst h;simp at ho
 | .head,p,d,x,h,ho=>by simp[Re.code]at h;subst h;simp at ho
 | .tail,p,d,x,h,ho=>by simp[Re.code]at h;subst h;simp at ho
 | .cat a b,p,d,x,h,ho=>by
  simp only[Re.code,List.mem_append,Re.len]at *;rcases h with h | h
  ·have:=pQ a _ _ x h ho;omega
  ·have:=pQ b _ _ x h ho;omega
 | .alt a b,p,d,x,h,ho=>by
  simp only[Re.code,List.mem_append,List.mem_cons,Re.len]at *;rcases h with rfl | h | rfl | h
  ·simp at ho
  ·have:=pQ a _ _ x h ho;omega
  ·simp at ho
  ·have:=pQ b _ _ x h ho;omega
 | .cap k a,p,d,x,h,ho=>by
  simp only[Re.code,List.mem_append,List.mem_cons,List.not_mem_nil,or_false,Re.len]at *;rcases h with rfl | h | rfl
  ·simp at ho
  ·have:=pQ a _ _ x h ho;omega
  ·simp at ho
 | .sub s a,p,d,x,h,ho=>by
  simp only[Re.code,List.mem_append,List.mem_cons,List.not_mem_nil,or_false,Re.len]at *;rcases h with rfl | h | rfl
  ·dsimp only;omega
  ·have:=pQ a _ _ x h ho;omega
  ·simp at ho
 | .opt late a,p,d,x,h,ho=>by
  simp only[Re.code,List.mem_cons,Re.len]at *;rcases h with rfl | h
  ·cases late <;> simp[spl]at ho
  ·have:=pQ a _ _ x h ho;omega
 | .loop late a,p,d,x,h,ho=>by
  simp only[Re.code,List.mem_append,List.mem_cons,List.not_mem_nil,or_false,Re.len]at *;rcases h with rfl | rfl | h | rfl
  ·cases late <;> simp[spl]at ho
  ·simp at ho
  ·have:=pQ a _ _ x h ho;omega
  ·simp at ho
def zKG(p:Int)(l:List zTG):Prop:=∀(i j:Nat) (x y:zTG),i<j->l[i]?=some x->l[j]?=some y->x.op=11->y.op=11->p+j<x.y->y.y<=x.y
theorem zA4{p:Int}{a b:List zTG}(ha:zKG p a)(hb:zKG (p+a.length) b)(he:∀x∈a,x.op=11->x.y<=p+a.length):zKG p (a++b):=by
 intro i j x y hij hx hy ox oy hl;rcases zAE hx with ⟨h1,h2⟩ | ⟨h1,h2⟩
 ·rcases zAE hy with ⟨g1,g2⟩ | ⟨g1,g2⟩
  ·exact ha i j x y hij h2 g2 ox oy hl
  ·have:=he x (List.mem_of_getElem? h2) ox;omega
 ·rcases zAE hy with ⟨g1,g2⟩ | ⟨g1,g2⟩
  ·omega
  ·exact hb _ _ x y (by omega) h2 g2 ox oy (by omega)
theorem mQ{p:Int}{c:zTG}{b:List zTG}(hb:zKG (p+1) b)(he:c.op=11->∀y∈b,y.op=11->y.y<=c.y):zKG p (c::b):=by
 intro i j x y hij hx hy ox oy hl;rcases xS hy with ⟨h1,h2⟩ | ⟨j',rfl,h2⟩
 ·omega
 rcases xS hx with ⟨g1,rfl⟩ | ⟨i',rfl,g2⟩
 ·exact he ox y (List.mem_of_getElem? h2) oy
 ·exact hb i' j' x y (by omega) g2 h2 ox oy (by omega)
theorem mR{p:Int}{c:zTG}(h:c.op≠11):zKG p [c]:=mQ (λi j x y _ hx=>by simp at hx) (λe=>absurd e h)
theorem bV:∀(r:Re) (p d:Int),zKG p (r.code p d)
 | .eps,p,d=>λi j x y _ hx=>by simp[Re.code]at hx
 | .one s,p,d=>mR (by simp)
 | .back s,p,d=>mR (by simp)
 | .head,p,d=>mR (by simp)
 | .tail,p,d=>mR (by simp)
 | .cat a b,p,d=>zA4 (bV a p d) (by rw[Re.zQ];exact bV b _ d) (by rw[Re.zQ];exact λx hx ho=>pQ a p d x hx ho)
 | .alt a b,p,d=>mQ (zA4 (bV a _ d) (mQ (by rw[Re.zQ,show p+1+(a.len:Int)+1=p+a.len+2 by omega];exact bV b _ d) (λe=>by simp at e)) (by rw[Re.zQ];exact λx hx ho=>pQ a _ d x hx ho)) (λe=>by simp at e)
 | .cap k a,p,d=>mQ (zA4 (bV a _ d) (mR (by simp)) (by rw[Re.zQ];exact λx hx ho=>pQ a _ d x hx ho)) (λe=>by simp at e)
 | .sub s a,p,d=>mQ (zA4 (bV a _ d) (mR (by simp)) (by rw[Re.zQ];exact λx hx ho=>pQ a _ d x hx ho)) (λ_ y hy oy=>by
   rcases List.mem_append.1 hy with hy | hy
   ·have:=pQ a _ d y hy oy;dsimp only;omega
   ·simp at hy;subst hy;simp at oy)
 | .opt late a,p,d=>mQ (bV a _ d) (λe=>by cases late <;> simp[spl]at e)
 | .loop late a,p,d=>mQ (mQ (by rw[show p+1+1=p+2 by omega];exact zA4 (bV a _ _) (mR (by simp)) (by rw[Re.zQ];exact λx hx ho=>pQ a _ _ x hx ho)) (λe=>by simp at e)) (λe=>by cases late <;> simp[spl]at e)
def bh(c:List zTG):Nat->Int
 | 0=>0
 | i+1=>if(i:Int)<bh c i then bh c i else if(c.getD i jY).op=11 then(c.getD i jY).y else bh c i
theorem zIE(c:List zTG):∀i,bh c i=0\/∃j,j<i/\(c.getD j jY).op=11/\bh c i=(c.getD j jY).y
 | 0=>.inl rfl
 | i+1=>by
  have ih:=zIE c i;unfold bh;split
  ·rcases ih with h | ⟨j,h1,h2⟩
   ·exact .inl h
   ·exact .inr ⟨j,by omega,h2⟩
  split
  ·rename_i h;exact .inr ⟨i,by omega,h,rfl⟩
  ·rcases ih with h | ⟨j,h1,h2⟩
   ·exact .inl h
   ·exact .inr ⟨j,by omega,h2⟩
theorem zQ1(c:List zTG)(hN:zKG 0 c):∀i,i<=c.length->∀j,j<i->(c.getD j jY).op=11->(i:Int)<(c.getD j jY).y->(c.getD j jY).y<=bh c i
 | 0,_,j,h,_,_=>by omega
 | i+1,hi,j,hj,ho,hy=>by
  by_cases hji:j<i
  ·have:=zQ1 c hN i (by omega) j hji ho (by omega);rw[bh,if_pos (by omega)];exact this
  ·have e:j=i:=by omega
   subst e;rw[bh];split
   ·rename_i hb
    rcases zIE c j with h | ⟨k,h1,h2,h3⟩
    ·omega
    ·rw[h3]at hb |-;refine hN k j _ _ h1 (by rw[lH,lK (show k<c.length by omega)];rfl) (by rw[lH,lK (show j<c.length by omega)];rfl) h2 ho (by omega)
   ·first | exact Int.le_refl _|(rw[if_pos ho];exact Int.le_refl _)
theorem zOw(c:List zTG)(hN:zKG 0 c)(i:Nat)(hi:i<c.length):decide ((i:Int)<bh c i)=zCQ c i:=by
 unfold zCQ;rw[Bool.eq_iff_iff];simp only[decide_eq_true_eq,List.any_eq_true,nZ];constructor
 ·intro h;rcases zIE c i with h0 | ⟨j,h1,h2,h3⟩
  ·omega
  ·refine⟨c.getD j jY,?_,h2,by omega⟩;rw[lH,lK (show j<c.length by omega)];simp only[Option.getD_some];rw[List.mem_take_iff_getElem];exact⟨j,by omega,rfl⟩
 ·rintro⟨x,hx,ho,hy⟩;rw[List.mem_take_iff_getElem]at hx;obtain⟨j,hj,rfl⟩:=hx;have e:c.getD j jY=c[j]:=by rw[lH,lK (show j<c.length by omega)];rfl
  have:=zQ1 c hN i (by omega) j (by omega) (by rw[e];exact ho) (by rw[e];exact hy);rw[e]at this;omega
theorem zCM(p:ByteArray)(h:(jN p).1=0):zKG 0 (kC p).1:=by
 obtain⟨f,_,_,_,_,_,hc,_⟩:=mM p h;rw[hc];refine zA4 (bV f.re 0 0) (mR (by simp)) ?_;rw[Re.zQ];exact λx hx ho=>pQ f.re 0 0 x hx ho
