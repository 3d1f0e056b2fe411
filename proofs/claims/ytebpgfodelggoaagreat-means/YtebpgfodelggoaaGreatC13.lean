import Derived.Test.YtebpgfodelggoaaGreatC01
import Derived.Deep.RegionHeld3
set_option linter.all false
namespace Go.Proofs.YtebpgfodelggoaaGreat
open Go.RowKit
theorem Cj b t:∀I o(w:World) C,w.heap[b]?=some (.cells C t (0,0))->∃D,(w.setCells b o I).heap[b]?=some (.cells D t (0,0))/\D.size=C.size
 | [],o,w,C,h=>⟨C,h,rfl⟩
 | v::r,o,w,C,h=>by
  obtain⟨D,j,G⟩:=Cj b t r (o+1) (w.setCell ⟨b,o,none⟩ v) _ (lX w b o C t v h);exact⟨D,j,by rw[G];simp⟩
theorem vG b:∀j o(w:World) k,k≠b->(w.setCells b o j).heap[k]?=w.heap[k]?
 | [],o,w,k,h=>rfl
 | v::r,o,w,k,h=>by
  show((w.setCell ⟨b,o,none⟩ v).setCells b (o+1) r).heap[k]?=_;rw[vG b r (o+1) _ k h,lS _ _ _ _ h]
theorem Ck{w:World}{b}{t}{B}(G:w.heap[b]?=some (.cells B t (0,0)))(cs)(Y:cs.size=B.size):
  (w.setCells b 0 cs.toList).heap[b]?=some (.cells cs t (0,0)):=by
 obtain⟨D,I,a0⟩:=Cj b t cs.toList 0 w B G;have J:=zB G;obtain⟨a1,e,Z,_⟩:=Ci J.1 J.2 cs Y;have O:=zB I
 have:D=cs:=by
  apply aO (by omega);intro i U W;have h:=O.1 i;have j:=Z i;rw[e]at j;rw[j,sD U,sD W]at h;simpa using h.symm
 rw[I,this]
theorem yE{w:World}{b}{t}{A}(h:w.heap[b]?=some (.cells A t (0,0))):w.rangeAt b 0 A.toList:=λG v j=>by
 rw[rO,(zB h).1 G];simpa using j
section
variable {P:Program} {ops:Array Oper} {rest:List Oper} {op:Oper} {a:Act} {w:World} {Q:Exit->Act->World->Prop}
theorem kY(h)(n){d}(Y:P.underlying h=some d)(I:d.isRow=true)(O:(P.info? h).map (·.size)=some n)(J:op.guard=none)(x)(U:op.op=.load h x)
  (b) (Z:a.eval x=.pointer (some ⟨b,0,none⟩)) {t} {A} (G:w.heap[b]?=some (.cells A t (0,0))) (W:A.size=n)
  (j:wpList P ops Q rest (a.put op.dst (.agg A)) w):wpList P ops Q (op::rest) a w:=
 wpList_load_mid J _ x U b 0 Z A.toList _ (yE G) Y I (by rw[O];simp[W]) j
theorem zN(G)(n)(Z:(P.info? G).map (·.size)=some n)(W:op.guard=none)(x y)(a0:op.op=.store G x y)
  (b) (cs) (a1:a.eval x=.pointer (some ⟨b,0,none⟩)) (a2:a.eval y=.agg cs) {t} {B} (h:w.heap[b]?=some (.cells B t (0,0))) (a3:B.size=n) (U:cs.size=n) (J:cs.all (·.oneCell')=true)
  (I:∀w2,w2.heap[b]?=some (.cells cs t (0,0))->(∀k,k≠b->w2.heap[k]?=w.heap[k]?)->w2.heap.size=w.heap.size->(∀L,L<=b->Below L w w2)->wpList P ops Q rest (a.put op.dst undef) w2):wpList P ops Q (op::rest) a w:=by
 have j:=zB h;refine wpList_store_mid W _ x y a0 b 0 cs a1 a2 (vC j.1 j.2 _ (by omega)) (by rw[Z,U]) J ?_;exact I _ (Ck h cs (by omega)) (λk Y=>vG b _ 0 w k Y) (below_setCells b _ 0 w 0 (gD _)).2 (λL O=>(below_setCells b _ 0 w L O).1)
end
theorem qA{P}{G}{p u:Tmp}(h)(n){d}(Z:P.underlying h=some d)(J:d.isRow=true)(O:(P.info? h).map (·.size)=some n)(W:G.results=#[.cell p h,.tmp u]){j}{w}{b}{t}{A}
  (U:j.getD p undef=.pointer (some ⟨b,0,none⟩)) (I:w.heap[b]?=some (.cells A t (0,0))) (Y:A.size=n):
  (results G j).run P w=.ok (.tuple #[.agg A,j.getD u undef]) w:=by
 rw[aR W,U];have:=run_loadVar_mid (P:=P) w b 0 h A.toList _ (yE I) Z J (by rw[O];simp[Y]);simp[asAddr,Result.andThen,this]
theorem MR{G}{p:Tmp}{j}(I:G.results=#[.cell p j]) h P w:
  (results G h).run P w=((asAddr (h.getD p undef)).run P w).andThen λa w₁=>((loadVar j a).run P w₁).andThen λv w₂=>.ok v w₂:=by
 simp only[results,I];simp[aD,Result.andThen];cases Sem.run P (asAddr (h[p]?.getD undef)) w with
 | ok a w1=>dsimp only;cases Sem.run P (loadVar j a) w1 <;> rfl
 | halt I w1=>rfl
theorem Gn{P}{j}{p}(h)(n){d}(Z:P.underlying h=some d)(J:d.isRow=true)(O:(P.info? h).map (·.size)=some n)(W:j.results=#[.cell p h]){G}{w}{b}{t}{A}
  (U:G.getD p undef=.pointer (some ⟨b,0,none⟩)) (I:w.heap[b]?=some (.cells A t (0,0))) (Y:A.size=n):
  (results j G).run P w=.ok (.agg A) w:=by
 rw[MR W,U];have:=run_loadVar_mid (P:=P) w b 0 h A.toList _ (yE I) Z J (by rw[O];simp[Y]);simp[asAddr,Result.andThen,this]
theorem jP(w:World) A:(w.alloc A).heap[w.heap.size]?=some A:=gF _ _
theorem nN(w:World) A B:((w.alloc A).alloc B).heap[w.heap.size]?=some A:=by rw[kQ _ _ _ (by simp),gF]
theorem nA(w:World) A B:((w.alloc A).alloc B).heap[w.heap.size+1]?=some B:=by
 have:(w.alloc A).heap.size=w.heap.size+1:=by simp
 rw[<-this,gF]
def setMany{α:Type}:List α->Nat->List α->List α
 | xs,_,[]=>xs
 | xs,o,v::r=>setMany (xs.set o v) (o+1) r
theorem Cm{e s g n cap base}:∀j o(w:World) xs,w.ownsRow base e s (.slice (some ⟨g,0,none⟩) n cap) n xs->(w.setCells g o j).ownsRow base e s (.slice (some ⟨g,0,none⟩) n cap) n (setMany xs o j)
 | [],o,w,xs,h=>h
 | v::r,o,w,xs,h=>Cm r (o+1) _ _ (uU h o v).1
theorem RX{α:Type}(f)(k)(I:∀a,(f a).length=k):∀(l:List α) (i j) (v:Value) (G),i<l.length->j<k->(∀a,l[i]?=some a->f G=(f a).set j v)->(l.flatMap f).set (i*k+j) v=(l.set i G).flatMap f
 | [],i,j,v,G,h,_,_=>by simp at h
 | x::r,0,j,v,G,_,hj,h=>by
  simp only[gT,lJ];rw[show 0*k+j=j by omega,iL _ _ (by rw[I];exact hj),h x rfl]
 | x::r,i+1,j,v,G,hi,hj,h=>by
  simp only[gT,lI];have e:(i+1)*k+j=k+(i*k+j):=by rw[oV];omega
  rw[e,sU _ _ (by rw[I];omega),I,show k+(i*k+j)-k=i*k+j by omega,RX f k I r i j v G (by simpa using hi) hj (λa J=>h a (by simpa using J))]
theorem Gp{α:Type}(f)(k)(U:∀a,(f a).length=k):∀(l:List α) (i h) (j:List Value) (I),i<l.length->h+j.length<=k->(∀a,l[i]?=some a->f I=setMany (f a) h j)->setMany (l.flatMap f) (i*k+h) j=(l.set i I).flatMap f:=by
 have key:∀(j:List Value) (L:List Value) (p:Nat) (X G:List Value),X.length+G.length<=L.length->L=X++G++L.drop (X.length+G.length)->∀h,h+j.length<=G.length->setMany L (X.length+h) j=X++setMany G h j++L.drop (X.length+G.length):=by
  intro j;induction j with
  | nil=>intro L p X G Z W h J;simpa[setMany]using W
  | cons v r Y =>
   intro L p X G Z W h J;simp only[lU]at J;simp only[setMany]
   have e:L.set (X.length+h) v=X++G.set h v++L.drop (X.length+G.length):=by
    conv=>lhs;rw[W]
    rw[gZ,sU _ _ (by omega),show X.length+h-X.length=h by omega,iL _ _ (by omega),gZ]
   have d:(L.set (X.length+h) v).drop (X.length+G.length)=L.drop (X.length+G.length):=by rw[List.drop_set_of_lt (by omega)]
   have:=Y (L.set (X.length+h) v) p X (G.set h v) (by simpa using Z) (by rw[gY,d];exact e) (h+1) (by simp;omega);rw[gY,d]at this;rw[show X.length+h+1=X.length+(h+1) by omega,this]
 intro l;induction l with
 | nil=>intro i h j I O;simp at O
 | cons x r Y =>
  intro i h j I a2 J O
  match i with
  | 0 =>
   have:=key j ((x::r).flatMap f) 0 [] (f x) (by simp) (by simp) h (by rw[U];exact J);simp only[lV,rO,sN]at this;rw[show 0*k+h=h by omega,this,<-O x rfl];simp
  | i+1 =>
   have e:(i+1)*k+h=k+(i*k+h):=by rw[oV];omega
   have a0:∀m:List α,(m.flatMap f).length=m.length*k:=by
    intro m;induction m with
    | nil=>simp
    | cons y s a4=>rw[gT,lQ,a4,U,lU,oV];omega
   have a3:i<r.length:=by simpa using a2
   have:=key j ((x::r).flatMap f) 0 (f x) (r.flatMap f) (by simp) (by simp) (i*k+h) (by
    rw[a0];have:(i+1)*k<=r.length*k:=oO _ (by omega);rw[oV]at this;omega)
   rw[U]at this;rw[e,this,Y i h j I a3 J (λa a1=>O a (by simpa using a1))];simp[U]
theorem DJ{P}{op}{r}{t}{parts}(j:op.op=.build t parts){z}{u}(h:(Instr.build t (parts.map λq=>(q.1,r q.2))).run P z=.ok u z):(execOp r op).run P z=.ok (.value u) z:=by
 unfold execOp;simp only[j];simp only[aD,h,Result.andThen_ok,Sem.run_pure]
theorem zEq{P}{J}{ops}{Q}{S}(i)(j){Y}{I}{a}{w}(a1:ops[i]?=some j)(a0:j.guard=none)(W:Region.ready J ops I=[i])(a2:Region.ready J ops (I.setIfInBounds i true)=[])
  (Z:Oper.wp P j a w (λh w'=>S w'/\Q .normal h w') Q):wpAnyH P J ops Q S (Y+1) I a w:=by
 refine⟨λU=>(by rw[W]at U;cases U),λa4 G=>?_⟩;rw[W]at G;simp only[wL]at G;subst G;refine wpOp_mono (K:=λh w'=>S w'/\Q .normal h w') (λh w' (O:S w'/\Q .normal h w')=>⟨O.1,rP a2 O.2 _⟩) ?_;have a3:Region.wanted j (yielded ops a.tmps)=true:=by simp[Region.wanted,a0]
 unfold wpOp;simp only[a1,a3,wS];exact .inl Z
theorem Bu{P}{G}{ops}{Q}{S}(i)(h){J}{j}{a}{w}(Z:ops[i]?=some h)(Y:h.guard=none)(a1:Region.ready G ops j=[i])(a2:Region.ready G ops (j.setIfInBounds i true)=[])
  (I) (x y) (a0:h.op=.store I x y) (b o) (cells) (a4:a.eval x=.pointer (some ⟨b,o,none⟩)) (a5:a.eval y=.agg cells) (a3:w.there b o cells.size) (hz:(P.info? I).map (·.size)=some cells.size) (U:cells.all (·.oneCell')=true)
  (W:h.dst=none) (O:S (w.setCells b o cells.toList)/\Q .normal a (w.setCells b o cells.toList)):wpAnyH P G ops Q S (J+1) j a w:=
 zEq i h Z Y a1 a2 (wp_store_mid I x y a0 b o cells a4 a5 a3 hz U (by rw[W];exact O))
