import Derived.Test.YtebpgfodelggoaaDoorC01
import Derived.Test.YtebpgfodelggoaaDoorC02
import Derived.Test.YtebpgfodelggoaaDoorRows
import Derived.WalkKit
import Derived.WalkSpells
import Derived.WalkLawsBesides
import Derived.Handy
import Derived.Laws.IdiomStrings
import Derived.Deep.MidRow
import Derived.Laws.ResultCell
import Derived.Deep.RegionHeld3
set_option linter.unusedVariables false
set_option linter.unusedSimpArgs false
namespace Go.Proofs.YtebpgfodelggoaaDoor
open Go.RowKit
theorem ret_bool {a b:Bool} (h:a=b):Ending.returned (.bool a)=.returned (.bool b):=by rw [h]
theorem atB_nat (p:ByteArray) (k:Nat) (h:k<p.size):wrap64 ((p[k]'h).toNat:Int)=Mt.atB p k:=by
 rw [Mt.atB_in p k (by omega) (by omega)]
 have e:p.data.toList.getD (Int.toNat (k:Int)) 0=p[k]'h:=by
  rw [Int.toNat_natCast,List.getD_eq_getElem?_getD,List.getElem?_eq_getElem (by simpa using h)]
  rfl
 rw [e]
 have:=(p[k]'h).toNat_lt
 exact IntWalk.wrap64_in _ ⟨by omega,by omega⟩
theorem digB_t {c:Int} (h:48≤c∧c≤57):Mt.digB c=true:=by simp [Mt.digB,h]
theorem digB_f {c:Int} (h:¬ (48≤c∧c≤57)):Mt.digB c=false:=by simp only [Mt.digB,decide_eq_false_iff_not];exact h
def bcells (l:List UInt8):List Value:=l.map fun b=>Value.int .u8 (b.toNat:Int)
theorem Tryd.info5:(Tryd.prog.info? 5).map (fun i=>(i.zero,i.size,i.bytes))=some (some (.int .u8 0),1,1):=by kernel_rfl
theorem conv_owned (w:World) (base:Nat) (v:Value) (l:List UInt8) (h:w.ownsRow base 5 1 v l.length (bcells l)) :
  (convert 85 9 v).run Tryd.prog w=.ok (.string ⟨l.toArray⟩) w:=by
 rcases h.2 with ⟨rfl,hn⟩ | ⟨g,cap,cur,rfl,hb,hg,h1,h2,h3,h4⟩
 ·have:l=[]:=List.length_eq_zero_iff.1 hn
  subst this
  rw [run_convert_bytes_string w _ _ _ none 0 0 Tryd.underlying85 Tryd.underlying5 Tryd.underlying9];simp [Conv.bytesToString];rfl
 ·refine run_convert_bytes_back w _ _ _ ⟨g,0,none⟩ cap l Tryd.underlying85 Tryd.underlying5 Tryd.underlying9 ?_
  intro j hj
  have:=h.cells (g:=g) rfl j (.int .u8 (l[j].toNat:Int)) (by simp [bcells,hj])
  exact this
theorem heap_old (w:World) (o:Obj) (k:Nat) (h:k<w.heap.size):(w.alloc o).heap[k]?=w.heap[k]?:=Below.heap_alloc w o k h
theorem cell_block {w:World} {b:Nat} {A:Array Value} {t:TypeId} (h:w.heap[b]?=some (.cells A t (0,0))):(∀ o,w.cell? ⟨b,o,none⟩=A[o]?)∧(∀ o,w.frozen? ⟨b,o,none⟩=false) :=
 ⟨fun o=>by simp [World.cell?,h],fun o=>by simp [World.frozen?,h]⟩
theorem owns_below {w w':World} {base:Nat} {e:TypeId} {s:Nat} {v:Value} {n:Nat} {xs:List Value} (h:w.ownsRow base e s v n xs) (hb:Below w.heap.size w w'):w'.ownsRow base e s v n xs:=by
 refine ⟨h.1,?_⟩
 rcases h.2 with h' | ⟨g,cap,cur,rfl,h0,hg,rest⟩
 ·exact .inl h'
 ·exact .inr ⟨g,cap,cur,rfl,h0,by rw [hb.block g (Array.getElem?_eq_some_iff.1 hg).1];exact hg,rest⟩
theorem owns_base {w:World} {base base':Nat} {e:TypeId} {s:Nat} {v:Value} {n:Nat} {xs:List Value} (h:w.ownsRow base e s v n xs) (hb:base'≤base):w.ownsRow base' e s v n xs:=by
 refine ⟨h.1,?_⟩
 rcases h.2 with h' | ⟨g,cap,cur,rfl,h0,rest⟩
 ·exact .inl h'
 ·exact .inr ⟨g,cap,cur,rfl,by omega,rest⟩
theorem news_cells (w:World) (xs:List Value) (e':TypeId):∀ j u,xs[j]?=some u→(w.alloc (.cells xs.toArray e')).cell? ((⟨w.heap.size,0,none⟩:Addr).add j)=some u:=by
 intro j u h
 have e:((⟨w.heap.size,0,none⟩:Addr).add j)=⟨w.heap.size,j,none⟩:=by
  simp only [Addr.add,Nat.zero_add]
  split
  ·rename_i h0;rw [h0]
  ·rfl
 rw [e]
 have hb:(w.alloc (.cells xs.toArray e')).heap[w.heap.size]?=some (.cells xs.toArray e' (0,0)):=heap_alloc_new w _
 rw [(cell_block hb).1 j]
 simpa using h
theorem below_setCells (b:Nat):∀ (vs:List Value) (o:Nat) (w:World) (B:Nat),B≤b→Below B w (w.setCells b o vs)∧(w.setCells b o vs).heap.size=w.heap.size
 | [],o,w,B,h=>⟨Below.refl _ _,rfl⟩
 | v::r,o,w,B,h=>by
  have ih:=below_setCells b r (o+1) (w.setCell ⟨b,o,none⟩ v) B h
  refine ⟨((Below.refl B w).setCell (p:=⟨b,o,none⟩) h v).trans ih.1,?_⟩
  show ((w.setCell ⟨b,o,none⟩ v).setCells b (o+1) r).heap.size=_
  rw [ih.2];simp [World.setCell]
theorem stored_block {w:World} {b:Nat} {B:Array Value} (q2:∀ o,w.cell? ⟨b,o,none⟩=B[o]?) (q3:∀ o,w.frozen? ⟨b,o,none⟩=false) (cs:Array Value) (hs:cs.size=B.size) :
  ∃ w2,w2=w.setCells b 0 cs.toList∧(∀ o,w2.cell? ⟨b,o,none⟩=cs[o]?)∧(∀ o,w2.frozen? ⟨b,o,none⟩=false) ∧
   (∀ c o,c≠b→w2.cell? ⟨c,o,none⟩=w.cell? ⟨c,o,none⟩)∧(∀ c o,w2.frozen? ⟨c,o,none⟩=w.frozen? ⟨c,o,none⟩)∧w2.heap.size=w.heap.size∧(∀ L,L≤b→Below L w w2):=by
 refine ⟨_,rfl,fun o=>?_,fun o=>?_,fun c o hc=>?_,fun c o=>?_,(below_setCells b _ 0 w 0 (Nat.zero_le _)).2,fun L hL=>(below_setCells b _ 0 w L hL).1⟩
 ·by_cases ho:o<cs.size
  ·have:=World.cell?_setCells_in b cs.toList 0 w (fun j hj=>by rw [Nat.zero_add,q2];rw [Array.getElem?_eq_getElem (by simp at hj;omega)];rfl) o (by simpa using ho)
   rw [Nat.zero_add] at this
   rw [this];simp [ho]
  ·rw [World.cell?_setCells_out b cs.toList 0 w ⟨b,o,none⟩ (fun _ _=>Or.inr (by simp;omega)),q2,Array.getElem?_eq_none (by omega),Array.getElem?_eq_none (by omega)]
 ·rw [World.frozen?_setCells];exact q3 o
 ·exact World.cell?_setCells_out b cs.toList 0 w ⟨c,o,none⟩ (fun h=>absurd h hc)
 ·rw [World.frozen?_setCells]
theorem there_block {w:World} {b:Nat} {B:Array Value} (q2:∀ o,w.cell? ⟨b,o,none⟩=B[o]?) (q3:∀ o,w.frozen? ⟨b,o,none⟩=false) (n:Nat) (hn:n≤B.size):w.there b 0 n:=by
 intro j hj
 rw [Nat.zero_add,q2,Array.getElem?_eq_getElem (by omega)]
 exact ⟨rfl,q3 j⟩
def insCells (i:Mt.Ins):List Value:=[.int .i64 i.op,.int .i64 i.x,.int .i64 i.y,.string ⟨i.set.toArray⟩]
def ownIns (w:World) (base:Nat) (v:Value) (c:List Mt.Ins):Prop:=w.ownsRow base 76 4 v c.length (c.flatMap insCells)
theorem ownIns.below {w w':World} {base:Nat} {v:Value} {l:List Mt.Ins} (h:ownIns w base v l) (hb:Below w.heap.size w w'):ownIns w' base v l:=owns_below h hb
theorem ownIns.base {w:World} {base base':Nat} {v:Value} {l:List Mt.Ins} (h:ownIns w base v l) (hb:base'≤base):ownIns w base' v l:=owns_base h hb
theorem ownIns.nil (w:World) (base:Nat):ownIns w base (.slice none 0 0) []:=World.ownsRow_nil _ _ _ _
theorem ins_flat_at:∀ (l:List Mt.Ins) (k j:Nat),k<l.length→j<4→(l.flatMap insCells)[k*4+j]?=(insCells (l.getD k Mt.ins0))[j]?:=by
 intro l
 induction l with
 | nil=>intro k j h;simp at h
 | cons t r ih =>
  intro k j h hj
  rw [List.flatMap_cons]
  have h7:(insCells t).length=4:=rfl
  cases k with
  | zero=>rw [List.getElem?_append_left (by omega)];simp
  | succ k =>
   rw [List.getElem?_append_right (by omega),h7,show (k+1)*4+j-4=k*4+j by omega,ih k j (by simpa using h) hj]
   simp
theorem setCells_blk (b:Nat) (t:TypeId):∀ (vs:List Value) (o:Nat) (w:World) (C:Array Value),w.heap[b]?=some (.cells C t (0,0))→∃ D:Array Value,(w.setCells b o vs).heap[b]?=some (.cells D t (0,0))∧D.size=C.size
 | [],o,w,C,h=>⟨C,h,rfl⟩
 | v::r,o,w,C,h=>by
  obtain ⟨D,h1,h2⟩:=setCells_blk b t r (o+1) (w.setCell ⟨b,o,none⟩ v) _ (Go.heap_setCell_same w b o C t v h)
  exact ⟨D,h1,by rw [h2];simp⟩
theorem setCells_oth (b:Nat):∀ (vs:List Value) (o:Nat) (w:World) (k:Nat),k≠b→(w.setCells b o vs).heap[k]?=w.heap[k]?
 | [],o,w,k,h=>rfl
 | v::r,o,w,k,h=>by
  show ((w.setCell ⟨b,o,none⟩ v).setCells b (o+1) r).heap[k]?=_
  rw [setCells_oth b r (o+1) _ k h,Below.heap_setCell _ _ _ _ h]
theorem stored_blk {w:World} {b:Nat} {t:TypeId} {B:Array Value} (h:w.heap[b]?=some (.cells B t (0,0))) (cs:Array Value) (hs:cs.size=B.size) :
  (w.setCells b 0 cs.toList).heap[b]?=some (.cells cs t (0,0)):=by
 obtain ⟨D,h1,h2⟩:=setCells_blk b t cs.toList 0 w B h
 have hb:=cell_block h
 obtain ⟨w2,e,q1,_⟩:=stored_block hb.1 hb.2 cs hs
 have hd:=cell_block h1
 have:D=cs:=by
  apply Array.ext (by omega)
  intro i hi1 hi2
  have a1:=hd.1 i
  have a2:=q1 i
  rw [e] at a2
  rw [a2,Array.getElem?_eq_getElem hi1,Array.getElem?_eq_getElem hi2] at a1
  simpa using a1.symm
 rw [h1,this]
theorem rangeAt_blk {w:World} {b:Nat} {t:TypeId} {A:Array Value} (h:w.heap[b]?=some (.cells A t (0,0))):w.rangeAt b 0 A.toList:=fun j v hv=>by
 rw [Nat.zero_add,(cell_block h).1 j];simpa using hv
section
variable {P:Program} {ops:Array Oper} {rest:List Oper} {op:Oper} {a:Act} {w:World} {Q:Exit→Act→World→Prop}
theorem load_blk (ty:TypeId) (n:Nat) {d:TypeDesc} (hu:P.underlying ty=some d) (hd:d.isRow=true) (hn:(P.info? ty).map (·.size)=some n) (hgd:op.guard=none) (x:Operand) (ho:op.op=.load ty x)
  (b:Nat) (hx:a.eval x=.pointer (some ⟨b,0,none⟩)) {t:TypeId} {A:Array Value} (hA:w.heap[b]?=some (.cells A t (0,0))) (hs:A.size=n)
  (h:wpList P ops Q rest (a.put op.dst (.agg A)) w):wpList P ops Q (op::rest) a w :=
 wpList_load_mid hgd _ x ho b 0 hx A.toList _ (rangeAt_blk hA) hu hd (by rw [hn];simp [hs]) h
theorem store_blk (ty:TypeId) (n:Nat) (hn:(P.info? ty).map (·.size)=some n) (hgd:op.guard=none) (x y:Operand) (ho:op.op=.store ty x y)
  (b:Nat) (cs:Array Value) (hx:a.eval x=.pointer (some ⟨b,0,none⟩)) (hy:a.eval y=.agg cs) {t:TypeId} {B:Array Value} (hB:w.heap[b]?=some (.cells B t (0,0))) (hs:B.size=n) (hc:cs.size=n) (h1:cs.all (·.oneCell')=true)
  (h:∀ w2:World,w2.heap[b]?=some (.cells cs t (0,0))→(∀ k,k≠b→w2.heap[k]?=w.heap[k]?)→w2.heap.size=w.heap.size→(∀ L,L≤b→Below L w w2)→wpList P ops Q rest (a.put op.dst undef) w2):wpList P ops Q (op::rest) a w:=by
 have hb:=cell_block hB
 refine wpList_store_mid hgd _ x y ho b 0 cs hx hy (there_block hb.1 hb.2 _ (by omega)) (by rw [hn,hc]) h1 ?_
 exact h _ (stored_blk hB cs (by omega)) (fun k hk=>setCells_oth b _ 0 w k hk) (below_setCells b _ 0 w 0 (Nat.zero_le _)).2 (fun L hL=>(below_setCells b _ 0 w L hL).1)
end
theorem ret_blk2 {P:Program} {fn:Func} {p u:Tmp} (ty:TypeId) (n:Nat) {d:TypeDesc} (hu:P.underlying ty=some d) (hd:d.isRow=true) (hn:(P.info? ty).map (·.size)=some n) (hr:fn.results=#[.cell p ty,.tmp u]) {tmps:Array Value} {w:World} {b:Nat} {t:TypeId} {A:Array Value}
  (hp:tmps.getD p undef=.pointer (some ⟨b,0,none⟩)) (hA:w.heap[b]?=some (.cells A t (0,0))) (hs:A.size=n) :
  (results fn tmps).run P w=.ok (.tuple #[.agg A,tmps.getD u undef]) w:=by
 rw [results_cell_tmp hr,hp]
 have:=run_loadVar_mid (P:=P) w b 0 ty A.toList _ (rangeAt_blk hA) hu hd (by rw [hn];simp [hs])
 simp [asAddr,Result.andThen,this]
theorem results_cell1 {fn:Func} {p:Tmp} {ty:TypeId} (h:fn.results=#[.cell p ty]) (tmps:Array Value) (P:Program) (w:World) :
  (results fn tmps).run P w=((asAddr (tmps.getD p undef)).run P w).andThen fun a w₁=>((loadVar ty a).run P w₁).andThen fun v w₂=>.ok v w₂:=by
 simp only [results,h]
 simp [Sem.run_bind,Result.andThen]
 cases Sem.run P (asAddr (tmps[p]?.getD undef)) w with
 | ok a w1=>dsimp only;cases Sem.run P (loadVar ty a) w1 <;> rfl
 | halt h w1=>rfl
theorem ret_blk1 {P:Program} {fn:Func} {p:Tmp} (ty:TypeId) (n:Nat) {d:TypeDesc} (hu:P.underlying ty=some d) (hd:d.isRow=true) (hn:(P.info? ty).map (·.size)=some n) (hr:fn.results=#[.cell p ty]) {tmps:Array Value} {w:World} {b:Nat} {t:TypeId} {A:Array Value}
  (hp:tmps.getD p undef=.pointer (some ⟨b,0,none⟩)) (hA:w.heap[b]?=some (.cells A t (0,0))) (hs:A.size=n) :
  (results fn tmps).run P w=.ok (.agg A) w:=by
 rw [results_cell1 hr,hp]
 have:=run_loadVar_mid (P:=P) w b 0 ty A.toList _ (rangeAt_blk hA) hu hd (by rw [hn];simp [hs])
 simp [asAddr,Result.andThen,this]
theorem heap_b1 (w:World) (A:Obj):(w.alloc A).heap[w.heap.size]?=some A:=heap_alloc_new _ _
theorem heap_b2 (w:World) (A B:Obj):((w.alloc A).alloc B).heap[w.heap.size]?=some A:=by rw [heap_old _ _ _ (by simp),heap_alloc_new]
theorem heap_b3 (w:World) (A B:Obj):((w.alloc A).alloc B).heap[w.heap.size+1]?=some B:=by
 have:(w.alloc A).heap.size=w.heap.size+1:=by simp
 rw [← this,heap_alloc_new]
def setMany {α:Type}:List α→Nat→List α→List α
 | xs,_,[]=>xs
 | xs,o,v::r=>setMany (xs.set o v) (o+1) r
theorem setMany_len {α:Type}:∀ (vs xs:List α) (o:Nat),(setMany xs o vs).length=xs.length
 | [],xs,o=>rfl
 | v::r,xs,o=>by rw [setMany,setMany_len r];simp
theorem row_setCells {e:TypeId} {s g n cap base:Nat}:∀ (vs:List Value) (o:Nat) (w:World) (xs:List Value),w.ownsRow base e s (.slice (some ⟨g,0,none⟩) n cap) n xs→(w.setCells g o vs).ownsRow base e s (.slice (some ⟨g,0,none⟩) n cap) n (setMany xs o vs)
 | [],o,w,xs,h=>h
 | v::r,o,w,xs,h=>row_setCells r (o+1) _ _ (World.ownsRow.stored h o v).1
theorem flat_set {α:Type} (f:α→List Value) (k:Nat) (hk:∀ a,(f a).length=k):∀ (l:List α) (i j:Nat) (v:Value) (a':α),i<l.length→j<k→(∀ a,l[i]?=some a→f a'=(f a).set j v)→(l.flatMap f).set (i*k+j) v=(l.set i a').flatMap f
 | [],i,j,v,a',h,_,_=>by simp at h
 | x::r,0,j,v,a',_,hj,h=>by
  simp only [List.flatMap_cons,List.set_cons_zero]
  rw [show 0*k+j=j by omega,List.set_append_left _ _ (by rw [hk];exact hj),h x rfl]
 | x::r,i+1,j,v,a',hi,hj,h=>by
  simp only [List.flatMap_cons,List.set_cons_succ]
  have e:(i+1)*k+j=k+(i*k+j):=by rw [Nat.add_mul];omega
  rw [e,List.set_append_right _ _ (by rw [hk];omega),hk,show k+(i*k+j)-k=i*k+j by omega,flat_set f k hk r i j v a' (by simpa using hi) hj (fun a ha=>h a (by simpa using ha))]
theorem flat_setMany {α:Type} (f:α→List Value) (k:Nat) (hk:∀ a,(f a).length=k):∀ (l:List α) (i j:Nat) (vs:List Value) (a':α),i<l.length→j+vs.length≤k→(∀ a,l[i]?=some a→f a'=setMany (f a) j vs)→setMany (l.flatMap f) (i*k+j) vs=(l.set i a').flatMap f:=by
 have key:∀ (vs:List Value) (L:List Value) (p:Nat) (X Y:List Value),X.length+Y.length≤L.length→L=X++Y++L.drop (X.length+Y.length)→∀ j,j+vs.length≤Y.length→setMany L (X.length+j) vs=X++setMany Y j vs++L.drop (X.length+Y.length):=by
  intro vs
  induction vs with
  | nil=>intro L p X Y h1 h2 j hj;simpa [setMany] using h2
  | cons v r ih =>
   intro L p X Y h1 h2 j hj
   simp only [List.length_cons] at hj
   simp only [setMany]
   have e:L.set (X.length+j) v=X++Y.set j v++L.drop (X.length+Y.length):=by
    conv=>lhs;rw [h2]
    rw [List.append_assoc,List.set_append_right _ _ (by omega),show X.length+j-X.length=j by omega,List.set_append_left _ _ (by omega),List.append_assoc]
   have d:(L.set (X.length+j) v).drop (X.length+Y.length)=L.drop (X.length+Y.length):=by rw [List.drop_set_of_lt (by omega)]
   have:=ih (L.set (X.length+j) v) p X (Y.set j v) (by simpa using h1) (by rw [List.length_set,d];exact e) (j+1) (by simp;omega)
   rw [List.length_set,d] at this
   rw [show X.length+j+1=X.length+(j+1) by omega,this]
 intro l
 induction l with
 | nil=>intro i j vs a' h;simp at h
 | cons x r ih =>
  intro i j vs a' hi hj h
  match i with
  | 0 =>
   have:=key vs ((x::r).flatMap f) 0 [] (f x) (by simp) (by simp) j (by rw [hk];exact hj)
   simp only [List.length_nil,Nat.zero_add,List.nil_append] at this
   rw [show 0*k+j=j by omega,this,← h x rfl]
   simp
  | i+1 =>
   have e:(i+1)*k+j=k+(i*k+j):=by rw [Nat.add_mul];omega
   have fl:∀ m:List α,(m.flatMap f).length=m.length*k:=by
    intro m;induction m with
    | nil=>simp
    | cons y s ihs=>rw [List.flatMap_cons,List.length_append,ihs,hk,List.length_cons,Nat.add_mul];omega
   have hir:i<r.length:=by simpa using hi
   have:=key vs ((x::r).flatMap f) 0 (f x) (r.flatMap f) (by simp) (by simp) (i*k+j) (by
    rw [fl]
    have:(i+1)*k≤r.length*k:=Nat.mul_le_mul_right _ (by omega)
    rw [Nat.add_mul] at this;omega)
   rw [hk] at this
   rw [e,this,ih i j vs a' hir hj (fun a ha=>h a (by simpa using ha))]
   simp [hk]
theorem buildRun {P:Program} {op:Oper} {r:Operand→Value} {t:TypeId} {parts:Array (Nat × Operand)} (hop:op.op=.build t parts) {z:World} {u:Value} (h:(Instr.build t (parts.map fun q=>(q.1,r q.2))).run P z=.ok u z):(execOp r op).run P z=.ok (.value u) z:=by
 unfold execOp
 simp only [hop]
 simp only [Sem.run_bind,h,Result.andThen_ok,Sem.run_pure]
theorem lastOp {P:Program} {md:Region.Mode} {ops:Array Oper} {Q:Exit→Act→World→Prop} {S:World→Prop} (i:Nat) (oi:Oper) {fuel:Nat} {listed:Array Bool} {a:Act} {w:World} (hi:ops[i]?=some oi) (hgd:oi.guard=none) (hr:Region.ready md ops listed=[i]) (hr2:Region.ready md ops (listed.setIfInBounds i true)=[])
  (h:Oper.wp P oi a w (fun a' w'=>S w'∧Q .normal a' w') Q):wpAnyH P md ops Q S (fuel+1) listed a w:=by
 refine ⟨fun h0=>(by rw [hr] at h0;cases h0),fun j hj=>?_⟩
 rw [hr] at hj
 simp only [List.mem_singleton] at hj
 subst hj
 refine wpOp_mono (K:=fun a' w'=>S w'∧Q .normal a' w') (fun a' w' (h':S w'∧Q .normal a' w')=>⟨h'.1,wpAnyH_done hr2 h'.2 _⟩) ?_
 have hw:Region.wanted oi (yielded ops a.tmps)=true:=by simp [Region.wanted,hgd]
 unfold wpOp
 simp only [hi,hw,if_true]
 exact .inl h
theorem lastStore {P:Program} {md:Region.Mode} {ops:Array Oper} {Q:Exit→Act→World→Prop} {S:World→Prop} (i:Nat) (oi:Oper) {fuel:Nat} {listed:Array Bool} {a:Act} {w:World} (hi:ops[i]?=some oi) (hgd:oi.guard=none) (hr:Region.ready md ops listed=[i]) (hr2:Region.ready md ops (listed.setIfInBounds i true)=[])
  (ty:TypeId) (x y:Operand) (ho:oi.op=.store ty x y) (b o:Nat) (cells:Array Value) (hx:a.eval x=.pointer (some ⟨b,o,none⟩)) (hy:a.eval y=.agg cells) (ht:w.there b o cells.size) (hz:(P.info? ty).map (·.size)=some cells.size) (h1:cells.all (·.oneCell')=true)
  (hdn:oi.dst=none) (h:S (w.setCells b o cells.toList)∧Q .normal a (w.setCells b o cells.toList)):wpAnyH P md ops Q S (fuel+1) listed a w :=
 lastOp i oi hi hgd hr hr2 (wp_store_mid ty x y ho b o cells hx hy ht hz h1 (by rw [hdn];exact h))
theorem takeAt {P:Program} {md:Region.Mode} {ops:Array Oper} {Q:Exit→Act→World→Prop} {S:World→Prop} (i d:Nat) (v:Value) {oi:Oper} {fuel:Nat} {listed:Array Bool} {a:Act} {w:World} (hi:ops[i]?=some oi) (hd:oi.dst=some d)
  (hs:Region.noSelect ops=true) (hf:Region.free md ops listed i=true) (hr:(Region.ready md ops listed).contains i=true)
  (hQ:∀ c a w,Q (.panic c) (a.put (some d) v) w→Q (.panic c) a w) (hy:YieldsIf P ops S oi v a) (hS:S w)
  (h:wpAnyH P md ops Q S fuel (listed.setIfInBounds i true) (a.put (some d) v) w):wpAnyH P md ops Q S (fuel+1) listed a w :=
 wpAnyH_take hi hs hf hr (by rw [hd];exact hQ) hy hS (by rw [hd];exact h)
end Go.Proofs.YtebpgfodelggoaaDoor
