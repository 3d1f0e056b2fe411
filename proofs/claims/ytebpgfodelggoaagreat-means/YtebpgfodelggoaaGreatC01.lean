import Derived.Test.YtebpgfodelggoaaGreatRows
import Derived.Test.YtebpgfodelggoaaGreatC00
import Derived.WalkSpells
import Derived.WalkLawsBesides
import Derived.Handy
import Derived.Deep.MidRow
set_option linter.all false
set_option maxHeartbeats 400000
namespace Go.Proofs.YtebpgfodelggoaaGreat
open Go.RowKit _root_.Go.Proofs.Tryz Mt
def gF:=@Go.heap_alloc_new
def lK:=@Go.RowKit.Below.refl
def iV:=@Go.World.cell?_setCells_out
def oC:=@Go.World.ownsRow_nil
def lS:=@Go.RowKit.Below.heap_setCell
def lX:=@Go.heap_setCell_same
def sK:=@Go.info_parts
def rZ:=@Go.wpList_append_own
def lT:=@Go.bodyPost_ret
def aR:=@Go.results_cell_tmp
def aD:=@Go.Sem.run_bind
def uU:=@Go.World.ownsRow.stored
def rP:=@Go.wpAnyH_done
def oD:=@Go.Value.slice.injEq
def lY:=@Go.World.ownsRow.lt
def gU:=@Go.World.ownsRow.cellAt
def rA:=@Go.World.ownsRow.frozenAt
def gH:=@Go.World.cell?_of_block
def rC:=@Go.World.frozen?_of_block
def oM:=@Go.World.ownsRow.alloc
def wM:=@Go.wp_loop_rounds
def iM:=@Go.rounds_succ
def eU:=@Go.toList_madeCells_one
def uN:=@Go.wpList_make_full
def uO:=@Go.Addr.mk.injEq
def iP:=@Go.IntKind.wrap_i64
def iQ:=@Go.wpList_plain
def iN:=@Go.DataW.trod_int
abbrev CT:=Calls prog
abbrev _root_.Go.World.hz(w:World):Nat:=w.heap.size
theorem _root_.Go.RowKit.Hid.o{p:Prop}(h:Hid p):p:=h
theorem hid{p}(h:p):Hid p:=h
theorem hnd{a b}(x:a)(y:b):Hid (a/\b):=⟨x,y⟩
section
variable {P:Program} {md:Region.Mode} {ops:Array Oper} {Q:Exit->Act->World->Prop} {S:World->Prop} (i d:Nat) (v:Value) {oi:Oper} {fuel:Nat} {listed:Array Bool} {a:Act} {w:World}
theorem MN(J:ops[i]?=some oi)(h:(Region.noSelect ops&&Region.free md ops listed i&&(Region.ready md ops listed).contains i&&oi.dst==some d)=true)
  (G:∀c a w,Q (.panic c) (a.put (some d) v) w->Q (.panic c) a w) (O:YieldsIf P ops S oi v a) (I:S w)
  (j:wpAnyH P md ops Q S fuel (listed.setIfInBounds i true) (a.put (some d) v) w):wpAnyH P md ops Q S (fuel+1) listed a w:=by
 simp only[aM,oU]at h;exact wpAnyH_take J h.1.1.1 h.1.1.2 h.1.2 (by rw[h.2];exact G) O I (by rw[h.2];exact j)
theorem qJ(J:ops[i]?=some oi)(h:(Region.noSelect ops&&Region.free md ops listed i&&(Region.ready md ops listed).contains i&&oi.dst==some d&&oi.guard.isNone)=true)
  (G:∀c a w,Q (.panic c) (a.put (some d) v) w->Q (.panic c) a w) (O:∀z,S z->(execOp a.eval oi).run P z=.ok (.value v) z) (I:S w)
  (j:wpAnyH P md ops Q S fuel (listed.setIfInBounds i true) (a.put (some d) v) w):wpAnyH P md ops Q S (fuel+1) listed a w:=by
 rw[aM]at h;exact MN i d v J h.1 G (gG ⟨by simp[Region.wanted,Option.isNone_iff_eq_none.1 h.2],O⟩) I j
end
theorem jM{a b}(h:a=b):Ending.returned (.bool a)=.returned (.bool b):=by rw[h]
theorem PE p(k:Nat)(h:k<p.size):wrap64 ((p[k]'h).toNat:Int)=zI p k:=by
 rw[KC p k (by omega) (by omega)]
 have e:p.data.toList.getD (Int.toNat (k:Int)) 0=p[k]'h:=by
  rw[gW,lH,lN (by simpa using h)];rfl
 rw[e];have:=(p[k]'h).toNat_lt;exact IntWalk.wrap64_in _ ⟨by omega,by omega⟩
theorem zAK{c}(h:48<=c/\c<=57):bn c=true:=by simp[bn,h]
theorem PG{c}(h:¬(48<=c/\c<=57)):bn c=false:=by simp only[bn,lW];exact h
def mo(l:List UInt8):List Value:=l.map λb=>Value.int .u8 (b.toNat:Int)
theorem zAL:(prog.info? 5).map (λi=>(i.zero,i.size,i.bytes))=some (some (.int .u8 0),1,1):=by kernel_rfl
theorem Lv(w)(base)(v)(l)(h:w.ownsRow base 5 1 v l.length (mo l)):
  (convert 158 9 v).run prog w=.ok (.string ⟨l.toArray⟩) w:=by
 rcases h.2 with ⟨rfl,I⟩ | ⟨g,cap,J,rfl,Z,a0,O,U,W,Y⟩
 ·have:l=[]:=uI.1 I;subst this;rw[run_convert_bytes_string w _ _ _ none 0 0 underlying158 underlying5 underlying9];simp[Conv.bytesToString];rfl
 ·refine run_convert_bytes_back w _ _ _ ⟨g,0,none⟩ cap l underlying158 underlying5 underlying9 ?_;intro j G;have:=h.cells (g:=g) rfl j (.int .u8 (l[j].toNat:Int)) (by simp[mo,G]);exact this
theorem kQ(w:World) o k(h:k<w.heap.size):(w.alloc o).heap[k]?=w.heap[k]?:=Below.heap_alloc w o k h
theorem zB{w:World}{b}{A}{t}(h:w.heap[b]?=some (.cells A t (0,0))):(∀o,w.cell? ⟨b,o,none⟩=A[o]?)/\(∀o,w.frozen? ⟨b,o,none⟩=false):=
 ⟨λo=>by simp[World.cell?,h],λo=>by simp[World.frozen?,h]⟩
theorem vW{w w' base e s v n xs}(h:w.ownsRow base e s v n xs)(O:Below w.heap.size w w'):w'.ownsRow base e s v n xs:=by
 refine⟨h.1,?_⟩;rcases h.2 with I | ⟨g,cap,G,rfl,J,j,U⟩
 ·exact .inl I
 ·exact .inr ⟨g,cap,G,rfl,J,by rw[O.block g (lM.1 j).1];exact j,U⟩
theorem qP{w:World}{base h e s v n xs}(j:w.ownsRow base e s v n xs)(U:h<=base):w.ownsRow h e s v n xs:=by
 refine⟨j.1,?_⟩;rcases j.2 with I | ⟨g,cap,G,rfl,O,J⟩
 ·exact .inl I
 ·exact .inr ⟨g,cap,G,rfl,by omega,J⟩
theorem fJ(w:World)(xs:List Value) j:∀h u,xs[h]?=some u->(w.alloc (.cells xs.toArray j)).cell? ((⟨w.heap.size,0,none⟩:Addr).add h)=some u:=by
 intro h u G
 have e:((⟨w.heap.size,0,none⟩:Addr).add h)=⟨w.heap.size,h,none⟩:=by
  simp only[Addr.add,rO];split
  ·rename_i I;rw[I]
  ·rfl
 rw[e];have J:(w.alloc (.cells xs.toArray j)).heap[w.heap.size]?=some (.cells xs.toArray j (0,0)):=gF w _;rw[(zB J).1 h];simpa using G
theorem below_setCells b:∀G o w B,B<=b->Below B w (w.setCells b o G)/\(w.setCells b o G).heap.size=w.heap.size
 | [],o,w,B,h=>⟨lK _ _,rfl⟩
 | v::r,o,w,B,h=>by
  have j:=below_setCells b r (o+1) (w.setCell ⟨b,o,none⟩ v) B h;refine⟨((lK B w).setCell (p:=⟨b,o,none⟩) h v).trans j.1,?_⟩;show((w.setCell ⟨b,o,none⟩ v).setCells b (o+1) r).heap.size=_;rw[j.2];simp[World.setCell]
theorem Ci{w b}{B:Array Value}(j:∀o,w.cell? ⟨b,o,none⟩=B[o]?)(U:∀o,w.frozen? ⟨b,o,none⟩=false)(cs:Array Value)(W:cs.size=B.size):
  ∃w2,w2=w.setCells b 0 cs.toList/\(∀o,w2.cell? ⟨b,o,none⟩=cs[o]?)/\(∀o,w2.frozen? ⟨b,o,none⟩=false)/\
   (∀c o,c≠b->w2.cell? ⟨c,o,none⟩=w.cell? ⟨c,o,none⟩)/\(∀c o,w2.frozen? ⟨c,o,none⟩=w.frozen? ⟨c,o,none⟩)/\w2.heap.size=w.heap.size/\(∀L,L<=b->Below L w w2):=by
 refine⟨_,rfl,λo=>?_,λo=>?_,λc o J=>?_,λc o=>?_,(below_setCells b _ 0 w 0 (gD _)).2,λL I=>(below_setCells b _ 0 w L I).1⟩
 ·by_cases h:o<cs.size
  ·have:=World.cell?_setCells_in b cs.toList 0 w (λY O=>by rw[rO,j];rw[sD (by simp at O;omega)];rfl) o (by simpa using h);rw[rO]at this;rw[this];simp[h]
  ·rw[iV b cs.toList 0 w ⟨b,o,none⟩ (λ_ _=>lZ (by simp;omega)),j,Array.getElem?_eq_none (by omega),Array.getElem?_eq_none (by omega)]
 ·rw[World.frozen?_setCells];exact U o
 ·exact iV b cs.toList 0 w ⟨c,o,none⟩ (λG=>absurd G J)
 ·rw[World.frozen?_setCells]
theorem vC{w:World}{b}{B:Array Value}(j:∀o,w.cell? ⟨b,o,none⟩=B[o]?)(G:∀o,w.frozen? ⟨b,o,none⟩=false) n(J:n<=B.size):w.there b 0 n:=by
 intro h I;rw[rO,j,sD (by omega)];exact⟨rfl,G h⟩
def jE(i:zT):List Value:=[.int .i64 i.op,.int .i64 i.x,.int .i64 i.y,.string ⟨i.set.toArray⟩]
def zY(w:World)(base:Nat)(v:Value)(c:List zT):Prop:=w.ownsRow base 112 4 v c.length (c.flatMap jE)
theorem zY.below{w w' base v l}(h:zY w base v l)(j:Below w.heap.size w w'):zY w' base v l:=vW h j
theorem zY.base{w base h v l}(j:zY w base v l)(G:h<=base):zY w h v l:=qP j G
theorem zY.nil w base:zY w base (.slice none 0 0) []:=oC _ _ _ _
theorem jk:∀(l:List zT) k h,k<l.length->h<4->(l.flatMap jE)[k*4+h]?=(jE (l.getD k kC))[h]?:=by
 intro l;induction l with
 | nil=>intro k h j;simp at j
 | cons t r J =>
  intro k h j I;rw[gT];have G:(jE t).length=4:=rfl;cases k with
  | zero=>rw[gK (by omega)];simp
  | succ k =>
   rw[gL (by omega),G,show(k+1)*4+h-4=k*4+h by omega,J k h (by simpa using j) I];simp
theorem results_tmp3{j}{t u v:Tmp}(G:j.results=#[.tmp t,.tmp u,.tmp v]) h P w:
  (results j h).run P w=.ok (.tuple #[h.getD t undef,h.getD u undef,h.getD v undef]) w:=by
 simp[results,G]
theorem kJ(p:BA) i w(I:p.size<=64):
  Calls prog 132 #[.string p,.int .i64 i] w λe w'=>e=.returned (.int .i64 (zI p i))/\w=w':=by
 by_cases j:i<0
 ·rw[BJ p i (by omega)]
  go_in
  go_wp2
  go_ret;exact⟨rfl,rfl⟩
 ·by_cases G:(p.size:Int)<=i
  ·rw[BJ p i (by omega)]
   go_in
   go_wp2
   go_ret;exact⟨rfl,rfl⟩
  ·obtain⟨k,rfl⟩:=oQ (show 0<=i by omega);have h:k<p.size:=by omega
   rw[<-PE p k h]
   go_in
   go_wp2
   go_ret;exact⟨rfl,rfl⟩
theorem Js c w:
  Calls prog 164 #[.int .i64 c] w λe w'=>e=.returned (.bool (bn c))/\w=w':=by
 by_cases a:48<=c
 ·by_cases b:c<=57
  ·rw[zAK ⟨a,b⟩]
   go_in
   go_wp2
   go_ret;exact⟨rfl,rfl⟩
  ·rw[PG (by omega)]
   go_in
   go_wp2
   go_ret;exact⟨rfl,rfl⟩
 ·rw[PG (by omega)]
  go_in
  go_wp2
  go_ret;exact⟨rfl,rfl⟩
theorem PI c w:
  Calls prog 166 #[.int .i64 c] w λe w'=>e=.returned (.bool (aX c))/\w=w':=by
 rcases(show(c<65/\aX c=false)\/((65<=c/\c<=90)/\aX c=true)\/((90<c/\c<97)/\aX c=false)\/((97<=c/\c<=122)/\aX c=true)\/(122<c/\aX c=false) by
   simp only[aX,gM,lW];omega)with ⟨h,e⟩ | ⟨⟨h,h'⟩,e⟩ | ⟨⟨h,h'⟩,e⟩ | ⟨⟨h,h'⟩,e⟩ | ⟨h,e⟩
 all_goals
  rw[e];clear e
  go_in
  go_wp2
  go_ret;first | exact⟨rfl,rfl⟩ | exact⟨jM (by simp;omega),rfl⟩
theorem vV c w:
  Calls prog 156 #[.int .i64 c] w λe w'=>e=.returned (.bool (c==100||c==119))/\w=w':=by
 cases a:(c==100) <;> cases b:(c==119)
 all_goals
  go_in
  go_wp2
  go_ret;first | exact⟨rfl,rfl⟩ | exact⟨jM (by simp_all),rfl⟩
def FB(c:Int):Bool:=c != -1&&!aX c&&!bn c
theorem qj c w:
  Calls prog 158 #[.int .i64 c] w λe w'=>e=.returned (.bool (FB c))/\w=w':=by
 unfold FB;cases a:(c != -1) <;> cases b:aX c <;> cases d:bn c
 all_goals
  go_in
  go_wp2_with (first|(go_at_call 166;refine(PI _ _).mono ?_;rintro e w' ⟨rfl,rfl⟩)|(go_at_call 164;refine(Js _ _).mono ?_;rintro e w' ⟨rfl,rfl⟩))
  all_goals
   go_ret;first | exact⟨rfl,rfl⟩ | exact⟨jM (by simp_all),rfl⟩
