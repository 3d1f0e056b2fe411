import Derived.Test.YtebpgfodelggoabC00
import Derived.Test.YtebpgfodelggoabRows
import Derived.WalkKit
import Derived.WalkSpells
import Derived.WalkLawsBesides
import Derived.Handy
import Derived.Laws.IdiomStrings
import Derived.Deep.MidRow
set_option linter.unusedVariables false
set_option linter.unusedSimpArgs false
namespace Go.Proofs.Ytebpgfodelggoab
open Go.RowKit
theorem ret_bool {a b:Bool} (h:a=b):Ending.returned (.bool a)=.returned (.bool b):=by rw [h]
theorem atB_nat (p:ByteArray) (k:Nat) (h:k<p.size):wrap64 ((p[k]'h).toNat:Int)=Mt.atB p k:=by
 rw [Mt.atB_in p k (by omega) (by omega)]
 have e:p.data.toList.getD (Int.toNat (k:Int)) 0=p[k]'h:=by
  rw [Int.toNat_natCast,List.getD_eq_getElem?_getD,List.getElem?_eq_getElem (by simpa using h)]
  rfl
 rw [e]
 have:=(p[k]'h).toNat_lt
 exact IntWalk.wrap64_in _ ⟨by omega,by omega⟩
theorem digB_t {c:Int} (h:48≤c∧c≤57):Mt.digB c=true:=by simp [Mt.digB,h]
theorem digB_f {c:Int} (h:¬ (48≤c∧c≤57)):Mt.digB c=false:=by simp only [Mt.digB,decide_eq_false_iff_not];exact h
def bcells (l:List UInt8):List Value:=l.map fun b=>Value.int .u8 (b.toNat:Int)
theorem Try.info5:(Try.prog.info? 5).map (fun i=>(i.zero,i.size,i.bytes))=some (some (.int .u8 0),1,1):=by kernel_rfl
theorem conv_owned (w:World) (base:Nat) (v:Value) (l:List UInt8) (h:w.ownsRow base 5 1 v l.length (bcells l)) :
  (convert 159 9 v).run Try.prog w=.ok (.string ⟨l.toArray⟩) w:=by
 rcases h.2 with ⟨rfl,hn⟩ | ⟨g,cap,cur,rfl,hb,hg,h1,h2,h3,h4⟩
 ·have:l=[]:=List.length_eq_zero_iff.1 hn
  subst this
  rw [run_convert_bytes_string w _ _ _ none 0 0 Try.underlying159 Try.underlying5 Try.underlying9];simp [Conv.bytesToString];rfl
 ·refine run_convert_bytes_back w _ _ _ ⟨g,0,none⟩ cap l Try.underlying159 Try.underlying5 Try.underlying9 ?_
  intro j hj
  have:=h.cells (g:=g) rfl j (.int .u8 (l[j].toNat:Int)) (by simp [bcells,hj])
  exact this
theorem heap_old (w:World) (o:Obj) (k:Nat) (h:k<w.heap.size):(w.alloc o).heap[k]?=w.heap[k]?:=Below.heap_alloc w o k h
theorem cell_block {w:World} {b:Nat} {A:Array Value} {t:TypeId} (h:w.heap[b]?=some (.cells A t (0,0))):(∀ o,w.cell? ⟨b,o,none⟩=A[o]?)∧(∀ o,w.frozen? ⟨b,o,none⟩=false) :=
 ⟨fun o=>by simp [World.cell?,h],fun o=>by simp [World.frozen?,h]⟩
theorem owns_below {w w':World} {base:Nat} {e:TypeId} {s:Nat} {v:Value} {n:Nat} {xs:List Value} (h:w.ownsRow base e s v n xs) (hb:Below w.heap.size w w'):w'.ownsRow base e s v n xs:=by
 refine ⟨h.1,?_⟩
 rcases h.2 with h' | ⟨g,cap,cur,rfl,h0,hg,rest⟩
 ·exact .inl h'
 ·exact .inr ⟨g,cap,cur,rfl,h0,by rw [hb.block g (Array.getElem?_eq_some_iff.1 hg).1];exact hg,rest⟩
theorem owns_base {w:World} {base base':Nat} {e:TypeId} {s:Nat} {v:Value} {n:Nat} {xs:List Value} (h:w.ownsRow base e s v n xs) (hb:base'≤base):w.ownsRow base' e s v n xs:=by
 refine ⟨h.1,?_⟩
 rcases h.2 with h' | ⟨g,cap,cur,rfl,h0,rest⟩
 ·exact .inl h'
 ·exact .inr ⟨g,cap,cur,rfl,by omega,rest⟩
theorem news_cells (w:World) (xs:List Value) (e':TypeId):∀ j u,xs[j]?=some u→(w.alloc (.cells xs.toArray e')).cell? ((⟨w.heap.size,0,none⟩:Addr).add j)=some u:=by
 intro j u h
 have e:((⟨w.heap.size,0,none⟩:Addr).add j)=⟨w.heap.size,j,none⟩:=by
  simp only [Addr.add,Nat.zero_add]
  split
  ·rename_i h0;rw [h0]
  ·rfl
 rw [e]
 have hb:(w.alloc (.cells xs.toArray e')).heap[w.heap.size]?=some (.cells xs.toArray e' (0,0)):=heap_alloc_new w _
 rw [(cell_block hb).1 j]
 simpa using h
theorem below_setCells (b:Nat):∀ (vs:List Value) (o:Nat) (w:World) (B:Nat),B≤b→Below B w (w.setCells b o vs)∧(w.setCells b o vs).heap.size=w.heap.size
 | [],o,w,B,h=>⟨Below.refl _ _,rfl⟩
 | v::r,o,w,B,h=>by
  have ih:=below_setCells b r (o+1) (w.setCell ⟨b,o,none⟩ v) B h
  refine ⟨((Below.refl B w).setCell (p:=⟨b,o,none⟩) h v).trans ih.1,?_⟩
  show ((w.setCell ⟨b,o,none⟩ v).setCells b (o+1) r).heap.size=_
  rw [ih.2];simp [World.setCell]
theorem stored_block {w:World} {b:Nat} {B:Array Value} (q2:∀ o,w.cell? ⟨b,o,none⟩=B[o]?) (q3:∀ o,w.frozen? ⟨b,o,none⟩=false) (cs:Array Value) (hs:cs.size=B.size) :
  ∃ w2,w2=w.setCells b 0 cs.toList∧(∀ o,w2.cell? ⟨b,o,none⟩=cs[o]?)∧(∀ o,w2.frozen? ⟨b,o,none⟩=false) ∧
   (∀ c o,c≠b→w2.cell? ⟨c,o,none⟩=w.cell? ⟨c,o,none⟩)∧(∀ c o,w2.frozen? ⟨c,o,none⟩=w.frozen? ⟨c,o,none⟩)∧w2.heap.size=w.heap.size∧(∀ L,L≤b→Below L w w2):=by
 refine ⟨_,rfl,fun o=>?_,fun o=>?_,fun c o hc=>?_,fun c o=>?_,(below_setCells b _ 0 w 0 (Nat.zero_le _)).2,fun L hL=>(below_setCells b _ 0 w L hL).1⟩
 ·by_cases ho:o<cs.size
  ·have:=World.cell?_setCells_in b cs.toList 0 w (fun j hj=>by rw [Nat.zero_add,q2];rw [Array.getElem?_eq_getElem (by simp at hj;omega)];rfl) o (by simpa using ho)
   rw [Nat.zero_add] at this
   rw [this];simp [ho]
  ·rw [World.cell?_setCells_out b cs.toList 0 w ⟨b,o,none⟩ (fun _ _=>Or.inr (by simp;omega)),q2,Array.getElem?_eq_none (by omega),Array.getElem?_eq_none (by omega)]
 ·rw [World.frozen?_setCells];exact q3 o
 ·exact World.cell?_setCells_out b cs.toList 0 w ⟨c,o,none⟩ (fun h=>absurd h hc)
 ·rw [World.frozen?_setCells]
theorem there_block {w:World} {b:Nat} {B:Array Value} (q2:∀ o,w.cell? ⟨b,o,none⟩=B[o]?) (q3:∀ o,w.frozen? ⟨b,o,none⟩=false) (n:Nat) (hn:n≤B.size):w.there b 0 n:=by
 intro j hj
 rw [Nat.zero_add,q2,Array.getElem?_eq_getElem (by omega)]
 exact ⟨rfl,q3 j⟩
def insCells (i:Mt.Ins):List Value:=[.int .i64 i.op,.int .i64 i.x,.int .i64 i.y,.string ⟨i.set.toArray⟩]
def ownIns (w:World) (base:Nat) (v:Value) (c:List Mt.Ins):Prop:=w.ownsRow base 70 4 v c.length (c.flatMap insCells)
theorem ownIns.below {w w':World} {base:Nat} {v:Value} {l:List Mt.Ins} (h:ownIns w base v l) (hb:Below w.heap.size w w'):ownIns w' base v l:=owns_below h hb
theorem ownIns.base {w:World} {base base':Nat} {v:Value} {l:List Mt.Ins} (h:ownIns w base v l) (hb:base'≤base):ownIns w base' v l:=owns_base h hb
theorem ownIns.nil (w:World) (base:Nat):ownIns w base (.slice none 0 0) []:=World.ownsRow_nil _ _ _ _
theorem ins_flat_at:∀ (l:List Mt.Ins) (k j:Nat),k<l.length→j<4→(l.flatMap insCells)[k*4+j]?=(insCells (l.getD k Mt.ins0))[j]?:=by
 intro l
 induction l with
 | nil=>intro k j h;simp at h
 | cons t r ih =>
  intro k j h hj
  rw [List.flatMap_cons]
  have h7:(insCells t).length=4:=rfl
  cases k with
  | zero=>rw [List.getElem?_append_left (by omega)];simp
  | succ k =>
   rw [List.getElem?_append_right (by omega),h7,show (k+1)*4+j-4=k*4+j by omega,ih k j (by simpa using h) hj]
   simp
end Go.Proofs.Ytebpgfodelggoab
