import Derived.Test.YtebpgfodelggoabD0
import Derived.Test.YtebpgfodelggoabC27
import Derived.Deep.AppendLies
import Derived.Deep.RegionLaw
import Derived.Deep.RegionHeld3
import Derived.Deep.DeepCutAuto
import Derived.Great.BuildSlice
set_option linter.unusedVariables false
set_option linter.unusedSimpArgs false
namespace Go.Proofs.Ytebpgfodelggoab
open Go.RowKit
section
variable {L:Nat} {w:World} {g:Nat} {b:Mt.PB} {so ao oo:Option Addr} {sc ac oc:Nat}
end
end Go.Proofs.Ytebpgfodelggoab
namespace Mt
end Mt
namespace Go.Proofs.Ytebpgfodelggoab
open Go.RowKit
section
variable {L:Nat} {w:World} {g gs ga go:Nat} {b:Mt.PB} {so ao oo:Option Addr} {sc ac oc:Nat}
end
theorem flat_at:∀ (l:List Sh) (i j:Nat) (h:i<l.length),j<123→(l.flatMap Sh.L)[i*123+j]?=(l[i].L)[j]?
 | s::l,0,j,_,hj=>by
  rw [List.flatMap_cons,Nat.zero_mul,Nat.zero_add,List.getElem?_append_left (by rw [Sh.L_len];exact hj)];rfl
 | s::l,i+1,j,h,hj=>by
  rw [List.flatMap_cons,List.getElem?_append_right (by rw [Sh.L_len];omega),Sh.L_len,show (i+1)*123+j-123=i*123+j by omega]
  exact flat_at l i j (by simpa using h) hj
theorem own_form {w:World} {base:Nat} {v:Value} {l:List Sh} (h:ownSh w base v l) (hl:0<l.length) :
  ∃ g cap,v=.slice (some ⟨g,0,none⟩) l.length cap∧base≤g∧g<w.heap.size∧l.length≤cap∧cap≤maxLen∧(∀ (i:Nat) (hi:i<l.length),w.rangeAt g (i*123) (l[i].L))∧∀ r j u,((l.take r).flatMap Sh.L)[j]?=some u→w.cell? ((⟨g,0,none⟩:Addr).add j)=some u:=by
 have h':=h
 rcases h.2 with ⟨_,h0⟩ | ⟨g,cap,cur,rfl,hb,hg,h1,h2,h3,h4⟩
 ·omega
 ·have hc:∀ j u,(l.flatMap Sh.L)[j]?=some u→w.cell? ((⟨g,0,none⟩:Addr).add j)=some u:=World.ownsRow.cells h' rfl
  have hc2:∀ o u,(l.flatMap Sh.L)[o]?=some u→w.cell? ⟨g,o,none⟩=some u:=fun o u hu=>by
   have ho:o<l.length*123:=by
    have:=(List.getElem?_eq_some_iff.1 hu).1
    rw [flat_len] at this;exact this
   rw [← h4,List.getElem?_take_of_lt ho] at hu
   rw [(cell_block hg).1 o];simpa using hu
  refine ⟨g,cap,rfl,hb,(Array.getElem?_eq_some_iff.1 hg).1,h1,h2,fun i hi j u hu=>?_,fun r j u hu=>hc j u ?_⟩
  ·have hj:j<123:=by
    have:=(List.getElem?_eq_some_iff.1 hu).1
    rw [Sh.L_len] at this;exact this
   exact hc2 (i*123+j) u (by rw [flat_at l i j hi hj];exact hu)
  ·have e:l.flatMap Sh.L=(l.take r).flatMap Sh.L++(l.drop r).flatMap Sh.L:=by rw [← List.flatMap_append,List.take_append_drop]
   rw [e,List.getElem?_append_left ((List.getElem?_eq_some_iff.1 hu).1)]
   exact hu
end Go.Proofs.Ytebpgfodelggoab
