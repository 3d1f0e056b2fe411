import Derived.Test.YtebpgfodelggoaaGreatC35
import Derived.Deep.Slices
set_option linter.all false
set_option maxRecDepth 100000
set_option maxHeartbeats 4000000
namespace Go.Proofs.YtebpgfodelggoaaGreat
open Go.RowKit _root_.Go.Proofs.Tryz Mt
theorem VF f(h:f.at'.length=20) k(j:k<20):(xZ f)[1+k]?=some (.int .i64 (f.at'.getD k 0)):=by
 unfold xZ;rw[oI,wD,gI,gK (by simp;omega),gN,lN (by omega),lH,lN (by omega)];rfl
theorem Ka f(J:f.at'.length=20) w:
  Calls prog 15 #[uw f,uw f] w λe w'=>e=.returned (.bool true)/\Below w.heap.size w w':=by
 unfold uw;have G:=hid (λk U=>VF f J k U);have O:=(WS f J).1;have I:=hid O;clear O;generalize xZ f=A at *
 go_in
 go_wp2_with fail
 go_loopw [5] (λi wr=>∃k d:Nat,k<=20/\i=.int .i64 k/\wr=((w.alloc (.cells A 29)).alloc (.cells A 29)).drewN d) (λi _=>20-(intOf i).toNat)
 case atStart=>exact⟨0,0,gD _,rfl,rfl⟩
 case round =>
  obtain⟨k,d,U,rfl,rfl⟩:=hrel;have h:((w.alloc (.cells A 29)).alloc (.cells A 29)).heap[w.heap.size]?=some (.cells A 29 (0,0)):=ny _ _ _;have j:((w.alloc (.cells A 29)).alloc (.cells A 29)).heap[w.heap.size+1]?=some (.cells A 29 (0,0)):=au _ _ _;have a0:Below w.heap.size w ((w.alloc (.cells A 29)).alloc (.cells A 29)):=((lK _ _).alloc (lF _) _).alloc (by simp) _;have s1:((w.alloc (.cells A 29)).alloc (.cells A 29)).heap.size=w.heap.size+1+1:=by simp
  generalize ((w.alloc (.cells A 29)).alloc (.cells A 29))=z at *;have a4:w.heap.size<z.heap.size:=by omega
  have a5:w.heap.size+1<z.heap.size:=by omega
  by_cases W:k<20
  ·have Y:z.cell? ⟨w.heap.size,1+k,none⟩=some (.int .i64 (f.at'.getD k 0)):=((zB h).1 _).trans (G.o k W);have Z:z.cell? ⟨w.heap.size+1,1+k,none⟩=some (.int .i64 (f.at'.getD k 0)):=((zB j).1 _).trans (G.o k W);generalize f.at'.getD k 0=a1 at *;have a2:(0:Int)<=(k:Int):=by omega
   have a3:(k:Int)<20:=by omega
   clear h j s1;go_wp2_with fail
   go_quiet (fail)
   go_wp2_with fail
   go_roundw
   case rel=>exact⟨k+1,_,by omega,by go_num,rfl⟩
   case measure=>simp[intOf];omega
  ·have Y:z.cell? ⟨w.heap.size,0,none⟩=some (.bool f.ok):=((zB h).1 _).trans I.o;have Z:z.cell? ⟨w.heap.size+1,0,none⟩=some (.bool f.ok):=((zB j).1 _).trans I.o;clear h j s1;go_wp2_with fail
   go_ret;exact⟨jM (by simp),below_drewN a0 _⟩
theorem Mg f(j:f.at'.length=20) w:
  Calls prog 13 #[uw f,uw f] w λe w'=>e=.returned (.bool true)/\Below w.heap.size w w':=by
 have W:=hid (λz=>Ka f j z);have J:=hid (kH f j);have I:=hid ((WS f j).2.2.2);unfold uw at *;generalize xZ f=A at *
 go_in
 go_wp2_with (first|(refine tK (by rfl) (.tmp 2) (by rfl) w.heap.size (by rfl) (by exact ny _ _ _) J.o ?_)|(refine tK (by rfl) (.tmp 3) (by rfl) (w.heap.size+1) (by rfl) (by exact au _ _ _) J.o ?_) | fail)
 refine(W.o _).mono ?_;rintro e w1 ⟨rfl,h⟩;have G:=h.size;have O:w1.heap[w.heap.size]?=some (.cells A 29 (0,0)):=(h.block _ (by simp;omega)).trans (ny _ _ _);have U:w1.heap[w.heap.size+1]?=some (.cells A 29 (0,0)):=(h.block _ (by simp)).trans (au _ _ _);have Z:w1.cell? ⟨w.heap.size,21,none⟩=some (.int .i64 f.steps):=((zB O).1 _).trans I.o;have a0:w1.cell? ⟨w.heap.size+1,21,none⟩=some (.int .i64 f.steps):=((zB U).1 _).trans I.o;have a1:w.heap.size<w1.heap.size:=by simp at G;omega
 have a2:w.heap.size+1<w1.heap.size:=by simp at G;omega
 have Y:Below w.heap.size w w1:=(((lK _ _).alloc (lF _) _).alloc (by simp) _).trans (h.mono (by simp;omega));clear O U h G;go_wp2_with fail
 go_ret;exact⟨jM (by simp),Y⟩
theorem Ta o w:
  Calls prog 11 #[opV o] w λe w'=>e=.returned (.agg #[.int .i64 o.kZ,.int .i64 o.vK,.int .i64 o.zA,.int .i64 o.zD])/\Below w.heap.size w w':=by
 unfold opV sw
 go_in
 go_wp2_with fail
 go_returns;refine⟨rfl,?_⟩
 go_grown
theorem WT:(prog.info? 26).map (·.size)=some 8:=by kernel_rfl
theorem ay{P}{J}{j}{Q}{S}(i)(h){U}{I}{a}{w}(a3:j[i]?=some h)(a2:h.guard=none)(Y:Region.ready J j I=[i])
  (O) (x y) (a4:h.op=.store O x y) (b o) (cells) (a7:a.eval x=.pointer (some ⟨b,o,none⟩)) (a8:a.eval y=.agg cells) (a5:w.there b o cells.size) (hz:(P.info? O).map (·.size)=some cells.size) (a0:cells.all (·.oneCell')=true)
  (a1:h.dst=none) (Z:S (w.setCells b o cells.toList)/\wpAnyH P J j Q S U (I.setIfInBounds i true) a (w.setCells b o cells.toList)):wpAnyH P J j Q S (U+1) I a w:=by
 refine⟨λW=>(by rw[Y]at W;cases W),λa9 G=>?_⟩;rw[Y]at G;simp only[wL]at G;subst G;have a6:Region.wanted h (yielded j a.tmps)=true:=by simp[Region.wanted,a2]
 unfold wpOp;simp only[a3,a6,wS];exact .inl (wp_store_mid O x y a4 b o cells a7 a8 a5 hz a0 (by rw[a1];exact Z))
def OD:Prop:=∀(p t:BA) (jK kZ vK zA zD:Int) (z:World),p.size<=maxLen->t.size<=maxLen->CT 10 #[.string p,.string t,.int .i64 jK,.agg #[.int .i64 kZ,.int .i64 vK,.int .i64 zA,.int .i64 zD]] z λe w'=>e=.returned (.tuple #[uw (pI p t jK kZ vK zA zD).1,.int .i64 (pI p t jK kZ vK zA zD).2])/\Below z.heap.size z w'
theorem OE p t jK I G zA h:(pI p t jK I G zA h).1.at'.length=20:=by
 unfold pI;split
 ·rfl
 split
 ·rfl
 rename_i W Y
 split
 ·rfl
 ·have j:mV t.size jK I G zA h=0:=by omega
  have O:(jA p).2=0:=by omega
  unfold mV at j;split at j
  ·omega
  split at j
  ·rename_i Z a0
   obtain⟨J,U⟩:=zBV p t O (by omega);exact FQ (uh (jA p).1 t I G) J.ok U h _ _ _ _ _ (by show _<=t.size+1;omega) (by omega)
  ·omega
open Go.ChangeShapes Go.WideShapes Go.ChangeAt Go.RowKit _root_.Go.Proofs.Tryz Mt
theorem zFf:ownKnob prog.godebug=none:=by kernel_rfl
theorem VI{H}{enc}{P}{f}{s:ChangeSpec}{a0 b0 b2 a9}{I W'}{W}{v}{J O}{j pa pv}
  (Y:DataW.Whole enc P f.params.toList s.vars a0 I W.toList J O j)
  (a6:∀(b) (G) (b3),DataW.TrodAll enc P W' b G b3 f.resultTypes.toList (v.resultList f.resultTypes.size) (s.fn H (J++O)).results [])
  (a1:∀G,(∀p∈j,G p.block=true)->DataW.TrodAll enc P W' 0 G true f.params.toList W.toList (s.fn H (J++O)).args pa)
  (a7:∀G,(∀p∈j,G p.block=true)->DataW.TrodVars enc P W' G s.vars (s.fn H (J++O)).vars pv)
  (U:j=pa++pv) (a2:Below I.heap.size I W')
  (b5:∀(a8:Nat) (t) (r),f.resultTypes[a8]?=some t->(v.resultList f.resultTypes.size)[a8]?=some r->Value.okWide P W' .any 0 t r):
  s.post enc P f a0 b0 b2 a9 I W v W':=by
 have a3:=Y.lt;have a5:∀p∈j,(λb=>decide (b<I.heap.size)) p.block=true:=λp h=>by simpa using a3 p h
 refine⟨J,O,j,[],pa,pv,Y,a6 _ _ _,a1 _ a5,a7 _ a5,World.keptBut_mono (λp h=>⟨h,?_⟩) (a2.frame (·∈j)),λ_=>?_⟩
 ·rw[U,gV]at h;exact lZ h
 ·obtain⟨_,_,_,_,_,hz,b4⟩:=Y;refine⟨b5,_,_,([]++pa)++pv,⟨[]++pa,pv,trodAll_append (a1 _ (λ_ _=>rfl)) (a6 _ _ _),a7 _ (λ_ _=>rfl),rfl,?_,?_⟩,?_⟩
  ·intro b Z h;have a4:MemPlace.cell b Z∈j:=by rw[U];simpa using h
   rw[a2.frozen (p:=⟨b,Z,none⟩) (a3 _ a4)];exact hz b Z a4
  ·intro b1;have:=b4 b1;rw[U]at this;simpa using this
  ·intro p h _;rw[U];simpa using h
