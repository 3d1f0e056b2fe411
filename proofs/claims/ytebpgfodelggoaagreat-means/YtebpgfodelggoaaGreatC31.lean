import Derived.Test.YtebpgfodelggoaaGreatC28
import Derived.Test.YtebpgfodelggoaaGreatC30
set_option linter.all false
set_option maxRecDepth 100000
set_option maxHeartbeats 4000000
namespace Go.Proofs.YtebpgfodelggoaaGreat
open Go.RowKit _root_.Go.Proofs.Tryz Mt
theorem Yp l t(d4:l.length<=64) f(b5:T0 l t f)(b6:T1 l t f):T0 l t (f+1):=by
 intro a b g9 h0 o n W i3 w f9 g0 O G h2 d1 h5 g2 U;subst f9 g0;have h9:=O.lt;have h3:=ZP l b (b-a) a (lF _);have d2:=ZQ l b (b-a) a (lF _);have g7:=hid G;have b0:=hid (dA o G.len);obtain⟨ao,cap,rfl⟩:=LQ O.tk;have a2:Below w.heap.size w (w.alloc (.cells (qG o) 66)):=(lK _ _).alloc (lF _) _;have d7:(w.alloc (.cells (qG o) 66)).heap[w.heap.size]?=some (.cells (qG o) 66 (0,0)):=jP _ _;have s0:(w.alloc (.cells (qG o) 66)).heap.size=w.heap.size+1:=by simp
 have g6:=hid O;have Y:=O.below a2;have b2:=hid (Two.start O (jF.below a2) Y (Aq _ _));have a9:=hid Y;have b1:=hid Y.tk;have a0:=hid d7;have f3:=Y.cells.1;have c9:=xY l t f 1 a (bar l a b) o n;have Z:=λ(x:World) (h:jU x W (.slice ao l.length cap) l t n)=>b6 a (bar l a b) a (bar l a b) o n W (.slice ao l.length cap) x rfl rfl h G (by omega) (by omega) (by omega) (by omega)
 have a7:=Ir l f 1 a (bar l a b) n G;have a4:=DL l t (f+1) 0 a b o n g2;clear O Y d7;cases d3:((bar l a b:Int)==(b:Int))
 ·have d5:¬bar l a b=b:=by simp at d3;omega
  have f6:=xY l t f 0 (bar l a b+1) b o (mM l t f 1 a (bar l a b) o n).2;have c3:=λ(x:World) (h:jU x W (.slice ao l.length cap) l t (mM l t f 1 a (bar l a b) o n).2)=>b5 (bar l a b+1) b ((bar l a b:Int)+1) b o (mM l t f 1 a (bar l a b) o n).2 W (.slice ao l.length cap) x (by omega) rfl h G (by omega) (by omega) (by omega) (by omega)
  have c2:=Ir l f 0 (bar l a b+1) b (mM l t f 1 a (bar l a b) o n).2 G;have i2:=DL l t f 0 (bar l a b+1) b o (mM l t f 1 a (bar l a b) o n).2 (by omega)
  have e:mM l t (f+1) 0 a b o n=kT (mM l t f 1 a (bar l a b) o n).1 (mM l t f 0 (bar l a b+1) b o (mM l t f 1 a (bar l a b) o n).2).1 (mM l t f 0 (bar l a b+1) b o (mM l t f 1 a (bar l a b) o n).2).2:=by
   rw[mM];rw[lC d5]
  rw[e]at U a4 |-;clear e b5 b6;generalize b7:mM l t f 1 a (bar l a b) o n=S at *;generalize f8:mM l t f 0 (bar l a b+1) b o S.2=R at *;have f7:=vB R.1 S.1 R.2;generalize d0:kT S.1 R.1 R.2=a8 at *;have e3:=hid d0;have e7:=hid U;have e2:=hid a4;have b3:=hid (λx h=>Z x h (by omega));have e9:=hid (λx h=>c3 x h (by omega));have d8:=hid a7;have c4:=hid c2;clear b7 f8 Z c3 d2 d5 a7 c2 c9 f6 f7 d0 U a4 G a2;go_enter func24,ntmps24
  go_upto_region 1 with fail
  generalize (w.alloc (.cells (qG o) 66))=f1 at *;go_wp2_with (first|(go_at_call 52;refine(Ku l _ _ _ _ b1.o d4 (by omega) d1).mono ?_;rintro e w' ⟨rfl,rfl⟩)|(refine bK (by rfl) (.tmp 7) (by rfl) w.heap.size (by rfl) (by exact a0.o) (by exact b0.o) ?_) | fail)
  refine(b3.o _ a9.o).mono ?_;rintro e w1 ⟨c1,rfl,J⟩;have c6:=hid ((J.2.2.block _ (by omega) (by omega)).trans a0.o);have a1:=hid ((b2.o.call J).pick (q:=(c1,S.1)) (by simp));have c5:=hid J.2.1;clear J b2 a0 b1 a9 f3;go_wp2_with (first|(refine bK (by rfl) (.tmp 7) (by rfl) w.heap.size (by rfl) (by exact c6.o) (by exact b0.o) ?_) | fail)
  refine(e9.o _ c5.o).mono ?_;rintro e i5 ⟨i4,rfl,b9⟩;have e5:=hid (a1.o.call b9);obtain⟨b4,a3,rfl⟩:=dU b9.1;clear b9 a1 c5 c6;go_wp2_with fail
  go_loopw [10,12] (λu i wr=>∃(k:Nat) (X:List Oc) (m:Nat),k<=R.1.length/\i=.int .i64 k/\Two w W (.slice ao l.length cap) l t X m u [(.slice b4 R.1.length a3,R.1)] wr/\qM (kV t) X/\kT X (R.1.drop k) m=a8) (λ_ i _=>R.1.length-(intOf i).toNat)
  case atStart=>exact⟨0,S.1,R.2,gD _,rfl,e5.o,d8.o,e3.o⟩
  case round =>
   obtain⟨k,X,m,h8,rfl,I,a5,j⟩:=hrel;have c7:=hid I;have e0:=hid a5;by_cases a6:k<R.1.length
   ·have c0:=DN j a6 e7.o;have g8:=hid c0;obtain⟨g,f2,e,h4,h6,h7,b8⟩:=I.at (q:=(.slice b4 R.1.length a3,R.1)) (by simp) (EI.of c4.o) a6;obtain⟨rfl,rfl⟩:b4=some ⟨g,0,none⟩/\a3=f2:=by injection e with f4 h1 f5;exact⟨f4,f5⟩
    have e1:Hid (kT (yQ X (R.1.getD k xI) m).1 (R.1.drop (k+1)) (yQ X (R.1.getD k xI) m).2=a8):=(jm a6).symm.trans j;have h:=c4.o _ (dB a6);have e8:=hid h;have e4:=hid b8;have g3:=xK _ h.len;have c8:=Cn (R.1.getD k xI) h.len I.me I.own I.kp.size (EI.of a5) I.hap (by have:=e2.o;omega) c0.1;dsimp only at b8;generalize R.1.getD k xI=x at *;have f0:=hid c8;have i0:(0:Int)<=(k:Int):=by omega
    have i1:(k:Int)<(R.1.length:Int):=by omega
    clear c8 b8 h c0 j I a5 e;go_wp2_with (first|(refine wpList_load_mid (by rfl) 66 (.tmp 45) (by rfl) g (k*21) (by rfl) (jw x) _ e4.o underlying66 rfl (by rw[xL];exact rJ some g3.symm) ?_) | fail)
    refine f0.o.mono ?_;rintro e g5 ⟨g4,rfl,d6⟩;have e6:Hid (Two w W (.slice ao l.length cap) l t (yQ X x m).1 (yQ X x m).2 g4 [(.slice (some ⟨g,0,none⟩) R.1.length a3,R.1)] g5):=c7.o.add d6;have d9:Hid (qM (kV t) (yQ X x m).1):=Ac m e0.o e8.o;clear d6;go_wp2_with fail
    go_roundw
    case rel=>exact⟨k+1,_,_,by omega,by go_num,e6.o,d9.o,e1.o⟩
    case measure=>simp[intOf];omega
   ·have g1:(X,m)=a8:=by rw[<-j,Ae (by omega)]
    clear j I a5;go_wp2_with fail
    go_ret;refine⟨_,rfl,?_⟩;rw[<-g1];exact c7.o.post
 ·have j:bar l a b=b:=by simp at d3;omega
  have e:mM l t (f+1) 0 a b o n=mM l t f 1 a (bar l a b) o n:=by rw[mM];rw[lG j]
  rw[e]at U |-;clear e a4;generalize b7:mM l t f 1 a (bar l a b) o n=S at *;have b3:=hid (λx h=>Z x h U);clear b7 Z d2 j a7 c9 U G b5 b6 a2;go_enter func24,ntmps24
  go_upto_region 1 with fail
  generalize (w.alloc (.cells (qG o) 66))=f1 at *;go_wp2_with (first|(go_at_call 52;refine(Ku l _ _ _ _ b1.o d4 (by omega) d1).mono ?_;rintro e w' ⟨rfl,rfl⟩)|(refine bK (by rfl) (.tmp 7) (by rfl) w.heap.size (by rfl) (by exact a0.o) (by exact b0.o) ?_) | fail)
  refine(b3.o _ a9.o).mono ?_;rintro e w1 ⟨c1,rfl,J⟩;have a1:=hid ((b2.o.call J).pick (q:=(c1,S.1)) (by simp));clear J;go_wp2_with fail
  go_ret;exact⟨_,rfl,a1.o.post⟩
theorem Md:(prog.info? 93).map (·.size)=some 44:=by kernel_rfl
theorem DX b t:∀I o(w:World) C,w.heap[b]?=some (.cells C t (0,0))->∃D,(w.setCells b o I).heap[b]?=some (.cells D t (0,0))/\D.size=C.size
 | [],o,w,C,h=>⟨C,h,rfl⟩
 | v::r,o,w,C,h=>by
  obtain⟨D,j,G⟩:=DX b t r (o+1) (w.setCell ⟨b,o,none⟩ v) _ (lX w b o C t v h);exact⟨D,j,by rw[G];simp⟩
theorem yM b:∀j o(w:World) k,k≠b->(w.setCells b o j).heap[k]?=w.heap[k]?
 | [],o,w,k,h=>rfl
 | v::r,o,w,k,h=>by
  show((w.setCell ⟨b,o,none⟩ v).setCells b (o+1) r).heap[k]?=_;rw[yM b r (o+1) _ k h,lS _ _ _ _ h]
theorem xM{w:World}{b}{t}{B}(G:w.heap[b]?=some (.cells B t (0,0)))(cs)(Y:cs.size=B.size):
  (w.setCells b 0 cs.toList).heap[b]?=some (.cells cs t (0,0)):=by
 obtain⟨D,I,a0⟩:=DX b t cs.toList 0 w B G;have J:=zB G;obtain⟨a1,e,Z,_⟩:=Ci J.1 J.2 cs Y;have O:=zB I
 have:D=cs:=by
  apply aO (by omega);intro i U W;have h:=O.1 i;have j:=Z i;rw[e]at j;rw[j,sD U,sD W]at h;simpa using h.symm
 rw[I,this]
theorem xJ{w:World}{b}{t}{A}(h:w.heap[b]?=some (.cells A t (0,0))):w.rangeAt b 0 A.toList:=λG v j=>by
 rw[rO,(zB h).1 G];simpa using j
theorem zW{j}{G}{h}{a}{w}{Q}(O:h.guard=none)(x)(U:h.op=.load 93 x)
  (b) (Y:a.eval x=.pointer (some ⟨b,0,none⟩)) {t} {A} (J:w.heap[b]?=some (.cells A t (0,0))) (W:A.size=44)
  (I:wpList prog j Q G (a.put h.dst (.agg A)) w):wpList prog j Q (h::G) a w:=
 wpList_load_mid O _ x U b 0 Y A.toList _ (xJ J) underlying93 rfl (by rw[Md];simp[W]) I
theorem zM{I}{J}{h}{a}{w}{Q}(Z:h.guard=none)(x y)(a1:h.op=.store 93 x y)
  (b) (cs) (a2:a.eval x=.pointer (some ⟨b,0,none⟩)) (a3:a.eval y=.agg cs) {t} {B} (j:w.heap[b]?=some (.cells B t (0,0))) (a4:B.size=44) (Y:cs.size=44) (U:cs.all (·.oneCell')=true)
  (O:∀w2,w2.heap[b]?=some (.cells cs t (0,0))->(∀k,k≠b->w2.heap[k]?=w.heap[k]?)->w2.heap.size=w.heap.size->(∀L,L<=b->Below L w w2)->wpList prog I Q J (a.put h.dst undef) w2):wpList prog I Q (h::J) a w:=by
 have G:=zB j;refine wpList_store_mid Z _ x y a1 b 0 cs a2 a3 (vC G.1 G.2 _ (by omega)) (by rw[Md,Y]) U ?_;exact O _ (xM j cs (by omega)) (λk a0=>yM b _ 0 w k a0) (below_setCells b _ 0 w 0 (gD _)).2 (λL W=>(below_setCells b _ 0 w L W).1)
theorem dN{j}{p u:Tmp}(J:j.results=#[.cell p 93,.tmp u]){h}{w}{b}{t}{A}(I:h.getD p undef=.pointer (some ⟨b,0,none⟩))(G:w.heap[b]?=some (.cells A t (0,0)))(O:A.size=44):
  (results j h).run prog w=.ok (.tuple #[.agg A,h.getD u undef]) w:=by
 rw[aR J,I];have:=run_loadVar_mid (P:=prog) w b 0 93 A.toList _ (xJ G) underlying93 rfl (by rw[Md];simp[O]);simp[asAddr,Result.andThen,this]
theorem qw(w:World) A B C:(((w.alloc A).alloc B).alloc C).heap[w.heap.size]?=some A:=by
 rw[kQ _ _ _ (by simp;omega),kQ _ _ _ (by simp),gF]
theorem vv(w:World) A B C:(((w.alloc A).alloc B).alloc C).heap[w.heap.size+1+1]?=some C:=by
 have:((w.alloc A).alloc B).heap.size=w.heap.size+1+1:=by simp
 rw[<-this,gF]
def DY:Obj:=.cells #[Value.int IntKind.i64 0,Value.int IntKind.i64 0,Value.int IntKind.i64 0,Value.int IntKind.i64 0,Value.int IntKind.i64 0,Value.int IntKind.i64 0,Value.int IntKind.i64 0,Value.int IntKind.i64 0,Value.int IntKind.i64 0,Value.int IntKind.i64 0,Value.int IntKind.i64 0,Value.int IntKind.i64 0,Value.int IntKind.i64 0,Value.int IntKind.i64 0,Value.int IntKind.i64 0,Value.int IntKind.i64 0,Value.int IntKind.i64 0,Value.int IntKind.i64 0,Value.int IntKind.i64 0,Value.int IntKind.i64 0,Value.int IntKind.i64 0,Value.int IntKind.i64 0,Value.int IntKind.i64 0,Value.int IntKind.i64 0,Value.int IntKind.i64 0,Value.int IntKind.i64 0,Value.int IntKind.i64 0,Value.int IntKind.i64 0,Value.int IntKind.i64 0,Value.int IntKind.i64 0,Value.int IntKind.i64 0,Value.int IntKind.i64 0,Value.int IntKind.i64 0,Value.int IntKind.i64 0,Value.int IntKind.i64 0,Value.int IntKind.i64 0,Value.int IntKind.i64 0,Value.int IntKind.i64 0,Value.int IntKind.i64 0,Value.int IntKind.i64 0,Value.int IntKind.i64 0,Value.int IntKind.i64 0,Value.int IntKind.i64 0,Value.int IntKind.i64 0] 93
theorem bY:Obj.cells #[Value.int IntKind.i64 0,Value.int IntKind.i64 0,Value.int IntKind.i64 0,Value.int IntKind.i64 0,Value.int IntKind.i64 0,Value.int IntKind.i64 0,Value.int IntKind.i64 0,Value.int IntKind.i64 0,Value.int IntKind.i64 0,Value.int IntKind.i64 0,Value.int IntKind.i64 0,Value.int IntKind.i64 0,Value.int IntKind.i64 0,Value.int IntKind.i64 0,Value.int IntKind.i64 0,Value.int IntKind.i64 0,Value.int IntKind.i64 0,Value.int IntKind.i64 0,Value.int IntKind.i64 0,Value.int IntKind.i64 0,Value.int IntKind.i64 0,Value.int IntKind.i64 0,Value.int IntKind.i64 0,Value.int IntKind.i64 0,Value.int IntKind.i64 0,Value.int IntKind.i64 0,Value.int IntKind.i64 0,Value.int IntKind.i64 0,Value.int IntKind.i64 0,Value.int IntKind.i64 0,Value.int IntKind.i64 0,Value.int IntKind.i64 0,Value.int IntKind.i64 0,Value.int IntKind.i64 0,Value.int IntKind.i64 0,Value.int IntKind.i64 0,Value.int IntKind.i64 0,Value.int IntKind.i64 0,Value.int IntKind.i64 0,Value.int IntKind.i64 0,Value.int IntKind.i64 0,Value.int IntKind.i64 0,Value.int IntKind.i64 0,Value.int IntKind.i64 0] 93=DY:=rfl
def ow(x:zT):Value:=.agg #[.int .i64 x.op,.int .i64 x.x,.int .i64 x.y,.string ⟨x.set.toArray⟩]
theorem zEM(s:List Int) i v:((s.map (Value.int .i64)).toArray).setIfInBounds i (.int .i64 v)=((s.set i v).map (Value.int .i64)).toArray:=by
 simp[uW]
theorem yA(s:List Int):((s.map (Value.int .i64)).toArray).all (·.oneCell')=true:=by
 simp[Value.oneCell']
theorem zDw(s:List Int) i v:(((s.map (Value.int .i64)).set i (.int .i64 v)).toArray).all (·.oneCell')=true:=by
 rw[<-uW];exact yA _
theorem yG(s:List Int) i v:((s.map (Value.int .i64)).set i (.int .i64 v))=(s.set i v).map (Value.int .i64):=by rw[uW]
theorem zBK{w}{I gc a1 a0 gk W Y U Z}{c}{b0}{a4}{J}{O}{kn}{zA b1}{a5}
  (a2:kP w I gc a1 a0 gk W Y U Z c b0 a4 J O kn zA b1 a5) (s) (x) (pc a6:Nat) (b3:s[0]?=some (pc:Int)) (b4:s[1]?=some (a6:Int)) (j:s.length=44)
  (b5:(x.op==1)=false) (b6:(x.op==3)=true):
  Calls prog 77 #[.pointer (some ⟨I,0,none⟩),nS s,ow x] w λe w'=>e=.returned (.tuple #[nS (s.set 0 x.x),.bool true])/\Below w.heap.size w w':=by
 have h:=hid j;clear j a2;unfold nS ow;have hz:=bY
 go_in
 go_wp2_with (first|(refine zW (by rfl) (.tmp 4) (by rfl) w.heap.size (by rfl) (by exact qw _ _ _ _) (by simp[h.o]) ?_)|(refine zM (by rfl) (.tmp 6) (.tmp 41) (by rfl) (w.heap.size+1+1) _ (by rfl) (by rfl) (by exact vv _ _ _ _) (by rfl) (by simp[h.o]) (zDw _ _ _) ?_;intro b2 a7 a8 a9 G))
 have a3:Below w.heap.size w b2:=((((lK _ _).alloc (lF _) _).alloc (by simp) _).alloc (by simp;omega) _).trans (G _ (by omega));clear a8 a9 G;refine lT (dN rfl (by rfl) a7 (by simp[h.o])) rfl ⟨?_,a3⟩;rw[yG];rfl
theorem zBL{w}{W gc a5 a4 gk a1 a2 a0 a3}{c}{I}{a7}{Y}{Z}{kn}{zA b2}{a8}
  (j:kP w W gc a5 a4 gk a1 a2 a0 a3 c I a7 Y Z kn zA b2 a8) (s) (x) (pc G:Nat) (b5:s[0]?=some (pc:Int)) (b6:s[1]?=some (G:Int)) (O:s.length=44) (b7:pc<=300) (b8:G<=I.size) (b9:I.size<=60)
  (c1:(x.op==1)=false) (c2:(x.op==3)=false) (c3:(x.op==4)=false) (c4:(x.op==5)=false) (c5:(x.op==6)=false) (c6:(x.op==7)=false) (c7:(x.op==8)=false) (c8:(x.op==9)=true):
  Calls prog 77 #[.pointer (some ⟨W,0,none⟩),nS s,ow x] w λe w'=>e=.returned (.tuple #[nS (s.set 0 ((pc)+1)),.bool ((G:Int)==0)])/\Below w.heap.size w w':=by
 have h:=hid O;have J:=zB j.cell;have c0:=(lM.1 j.cell).1;have b4:=J.1 1;clear O j J;unfold nS ow;have hz:=bY
 go_in
 go_wp2_with (first|(refine zW (by rfl) (.tmp 4) (by rfl) w.heap.size (by rfl) (by exact qw _ _ _ _) (by simp[h.o]) ?_)|(refine zM (by rfl) (.tmp 6) (.tmp 121) (by rfl) (w.heap.size+1+1) _ (by rfl) (by rfl) (by exact vv _ _ _ _) (by rfl) (by simp[h.o]) (by simp only[yG];exact yA _) ?_;intro b3 a9 b0 b1 U))
 have a6:Below w.heap.size w b3:=((((lK _ _).alloc (lF _) _).alloc (by simp) _).alloc (by simp;omega) _).trans (U _ (by omega));clear b0 b1 U;refine lT (dN rfl (by rfl) a9 (by simp[h.o])) rfl ⟨?_,a6⟩;simp only[yG];rfl
theorem zBM{w}{W gc a5 a4 gk a1 a2 a0 a3}{c}{G}{a7}{Y}{Z}{kn}{zA b2}{a8}
  (j:kP w W gc a5 a4 gk a1 a2 a0 a3 c G a7 Y Z kn zA b2 a8) (s) (x) (pc O:Nat) (b5:s[0]?=some (pc:Int)) (b6:s[1]?=some (O:Int)) (J:s.length=44) (b7:pc<=300) (b8:O<=G.size) (b9:G.size<=60)
  (c1:(x.op==1)=false) (c3:(x.op==3)=false) (c4:(x.op==4)=false) (c5:(x.op==5)=false) (c6:(x.op==6)=false) (c7:(x.op==7)=false) (c8:(x.op==8)=false) (c9:(x.op==9)=false) (c2:(x.op==10)=false):
  Calls prog 77 #[.pointer (some ⟨W,0,none⟩),nS s,ow x] w λe w'=>e=.returned (.tuple #[nS (s.set 0 ((pc)+1)),.bool true])/\Below w.heap.size w w':=by
 have h:=hid J;have I:=zB j.cell;have c0:=(lM.1 j.cell).1;have b4:=I.1 1;clear J j I;unfold nS ow;have hz:=bY
 go_in
 go_wp2_with (first|(refine zW (by rfl) (.tmp 4) (by rfl) w.heap.size (by rfl) (by exact qw _ _ _ _) (by simp[h.o]) ?_)|(refine zM (by rfl) (.tmp 6) (.tmp 121) (by rfl) (w.heap.size+1+1) _ (by rfl) (by rfl) (by exact vv _ _ _ _) (by rfl) (by simp[h.o]) (by simp only[yG];exact yA _) ?_;intro b3 a9 b0 b1 U))
 have a6:Below w.heap.size w b3:=((((lK _ _).alloc (lF _) _).alloc (by simp) _).alloc (by simp;omega) _).trans (U _ (by omega));clear b0 b1 U;refine lT (dN rfl (by rfl) a9 (by simp[h.o])) rfl ⟨?_,a6⟩;simp only[yG];rfl
theorem zBN{w}{W gc a5 a4 gk a1 a2 a0 a3}{c}{I}{a7}{Y}{Z}{kn}{zA b2}{a8}
  (j:kP w W gc a5 a4 gk a1 a2 a0 a3 c I a7 Y Z kn zA b2 a8) (s) (x) (pc G:Nat) (b5:s[0]?=some (pc:Int)) (b6:s[1]?=some (G:Int)) (O:s.length=44) (b8:pc<=300) (b9:G<=I.size) (c0:I.size<=60)
  (c2:(x.op==1)=false) (c3:(x.op==3)=false) (c4:(x.op==4)=true) (c5:0<=x.x) (c6:x.x<12):
  Calls prog 77 #[.pointer (some ⟨W,0,none⟩),nS s,ow x] w λe w'=>e=.returned (.tuple #[nS ((s.set (32+x.x.toNat) (G)).set 0 ((pc)+1)),.bool true])/\Below w.heap.size w w':=by
 have h:=hid O;have J:=zB j.cell;have c1:=(lM.1 j.cell).1;have b4:=J.1 1;have b7:s[32+x.x.toNat]?=some (gt s (32+x.x.toNat)):=by unfold gt;rw[lH,lN (by omega)];rfl
 clear O j J;unfold nS ow;have hz:=bY
 go_in
 go_wp2_with (first|(refine zW (by rfl) (.tmp 4) (by rfl) w.heap.size (by rfl) (by exact qw _ _ _ _) (by simp[h.o]) ?_)|(refine zM (by rfl) (.tmp 6) (.tmp 121) (by rfl) (w.heap.size+1+1) _ (by rfl) (by rfl) (by exact vv _ _ _ _) (by rfl) (by simp[h.o]) (by simp only[yG];exact yA _) ?_;intro b3 a9 b0 b1 U))
 have a6:Below w.heap.size w b3:=((((lK _ _).alloc (lF _) _).alloc (by simp) _).alloc (by simp;omega) _).trans (U _ (by omega));clear b0 b1 U;refine lT (dN rfl (by rfl) a9 (by simp[h.o])) rfl ⟨?_,a6⟩;simp only[yG];rfl
theorem zBO{w}{h gc a6 a5 gk a2 a3 a1 a4}{c}{J}{a8}{Z}{a0}{kn}{zA b3}{a9}
  (G:kP w h gc a6 a5 gk a2 a3 a1 a4 c J a8 Z a0 kn zA b3 a9) (s) (x) (pc I:Nat) (b6:s[0]?=some (pc:Int)) (b7:s[1]?=some (I:Int)) (W:s.length=44) (c0:pc<=300) (c1:I<=J.size) (c2:J.size<=60)
  (c6:(x.op==1)=false) (c7:(x.op==3)=false) (c8:(x.op==4)=false) (c9:(x.op==5)=false) (d0:(x.op==6)=true) (d1:0<=x.x) (d2:x.x<10):
  Calls prog 77 #[.pointer (some ⟨h,0,none⟩),nS s,ow x] w λe w'=>e=.returned (.tuple #[nS ((s.set (22+x.x.toNat) (I)).set 0 ((pc)+1)),.bool true])/\Below w.heap.size w w':=by
 have j:=hid W;have U:=zB G.cell;have c3:=(lM.1 G.cell).1;have b5:=U.1 1;have b9:s[22+x.x.toNat]?=some (gt s (22+x.x.toNat)):=by unfold gt;rw[lH,lN (by omega)];rfl
 have c4:h<w.heap.size+1:=by omega
 have c5:h<w.heap.size+1+1:=by omega
 have b8:∀(O:World) (n:Nat) (a:Addr) (v:Value),(O.drewN n).setCell a v=(O.setCell a v).drewN n:=λ_ _ _ _=>rfl
 clear W G U;unfold nS ow;have hz:=bY
 go_in
 go_wp2_with (first|(refine zW (by rfl) (.tmp 4) (by rfl) w.heap.size (by rfl) (by exact qw _ _ _ _) (by simp[j.o]) ?_)|(refine zM (by rfl) (.tmp 6) (.tmp 121) (by rfl) (w.heap.size+1+1) _ (by rfl) (by rfl) (by exact vv _ _ _ _) (by rfl) (by simp[j.o]) (by simp only[yG];exact yA _) ?_;intro b4 b0 b1 b2 Y))
 have a7:Below w.heap.size w b4:=((((lK _ _).alloc (lF _) _).alloc (by simp) _).alloc (by simp;omega) _).trans (Y _ (by omega));clear b1 b2 Y;refine lT (dN rfl (by rfl) b0 (by simp[j.o])) rfl ⟨?_,a7⟩;simp only[yG];rfl
theorem zBP{w}{j gc a6 a5 gk a2 a3 a1 a4}{c}{h}{a8}{Z}{a0}{kn}{zA b3}{a9}
  (I:kP w j gc a6 a5 gk a2 a3 a1 a4 c h a8 Z a0 kn zA b3 a9) (s) (x) (pc J:Nat) (b6:s[0]?=some (pc:Int)) (b7:s[1]?=some (J:Int)) (W:s.length=44) (b9:pc<=300) (c0:J<=h.size) (c1:h.size<=60)
  (c5:(x.op==1)=false) (c7:(x.op==3)=false) (c8:(x.op==4)=false) (c9:(x.op==5)=false) (d0:(x.op==6)=false) (d1:(x.op==7)=false) (d2:(x.op==8)=false) (d3:(x.op==9)=false) (c6:(x.op==10)=true):
  Calls prog 77 #[.pointer (some ⟨j,0,none⟩),nS s,ow x] w λe w'=>e=.returned (.tuple #[nS (s.set 0 ((pc)+1)),.bool ((J)==(h.size:Int))])/\Below w.heap.size w w':=by
 have G:=hid W;have U:=zB I.cell;have c2:=(lM.1 I.cell).1;have b5:=U.1 1;have c3:j<w.heap.size+1:=by omega
 have c4:j<w.heap.size+1+1:=by omega
 have b8:∀(O:World) (n:Nat) (a:Addr) (v:Value),(O.drewN n).setCell a v=(O.setCell a v).drewN n:=λ_ _ _ _=>rfl
 clear W I U;unfold nS ow;have hz:=bY
 go_in
 go_wp2_with fail
 go_quiet (fail)
 go_wp2_with (first|(refine zW (by rfl) (.tmp 4) (by rfl) w.heap.size (by rfl) (by exact qw _ _ _ _) (by simp[G.o]) ?_)|(refine zM (by rfl) (.tmp 6) (.tmp 121) (by rfl) (w.heap.size+1+1) _ (by rfl) (by rfl) (by exact vv _ _ _ _) (by rfl) (by simp[G.o]) (by simp only[yG];exact yA _) ?_;intro b4 b0 b1 b2 Y))
 have a7:Below w.heap.size w b4:=(below_drewN ((((lK _ _).alloc (lF _) _).alloc (by simp) _).alloc (by simp;omega) _) _).trans (Y _ (by omega));clear b1 b2 Y;refine lT (dN rfl (by rfl) b0 (by simp[G.o])) rfl ⟨?_,a7⟩;simp only[yG];rfl
theorem YN{w}{h gc a6 a5 gk a2 a3 a1 a4}{c}{J}{a8}{Z}{a0}{kn}{zA b3}{a9}
  (G:kP w h gc a6 a5 gk a2 a3 a1 a4 c J a8 Z a0 kn zA b3 a9) (s) (x) (pc I:Nat) (b6:s[0]?=some (pc:Int)) (b7:s[1]?=some (I:Int)) (W:s.length=44) (c0:pc<=300) (c1:I<=J.size) (c2:J.size<=60)
  (c6:(x.op==1)=false) (c7:(x.op==3)=false) (c8:(x.op==4)=false) (c9:(x.op==5)=true) (d0:0<=x.y) (d1:x.y<12):
  Calls prog 77 #[.pointer (some ⟨h,0,none⟩),nS s,ow x] w λe w'=>e=.returned (.tuple #[nS (s.set 0 x.x),.bool (gt s (32+x.y.toNat) != (I))])/\Below w.heap.size w w':=by
 have j:=hid W;have U:=zB G.cell;have c3:=(lM.1 G.cell).1;have b5:=U.1 1;have b9:s[32+x.y.toNat]?=some (gt s (32+x.y.toNat)):=by unfold gt;rw[lH,lN (by omega)];rfl
 have c4:h<w.heap.size+1:=by omega
 have c5:h<w.heap.size+1+1:=by omega
 have b8:∀(O:World) (n:Nat) (a:Addr) (v:Value),(O.drewN n).setCell a v=(O.setCell a v).drewN n:=λ_ _ _ _=>rfl
 clear W G U;unfold nS ow;have hz:=bY
 go_in
 go_wp2_with fail
 go_quiet (fail)
 go_wp2_with (first|(refine zW (by rfl) (.tmp 4) (by rfl) w.heap.size (by rfl) (by exact qw _ _ _ _) (by simp[j.o]) ?_)|(refine zM (by rfl) (.tmp 6) (.tmp 63) (by rfl) (w.heap.size+1+1) _ (by rfl) (by rfl) (by exact vv _ _ _ _) (by rfl) (by simp[j.o]) (by simp only[yG];exact yA _) ?_;intro b4 b0 b1 b2 Y))
 have a7:Below w.heap.size w b4:=(below_drewN ((((lK _ _).alloc (lF _) _).alloc (by simp) _).alloc (by simp;omega) _) _).trans (Y _ (by omega));clear b1 b2 Y;refine lT (dN rfl (by rfl) b0 (by simp[j.o])) rfl ⟨?_,a7⟩;simp only[yG];rfl
theorem YO{w}{j gc a6 a5 gk a2 a3 a1 a4}{c}{J}{b1}{Z}{a0}{kn}{zA b6}{b2}
  (I:kP w j gc a6 a5 gk a2 a3 a1 a4 c J b1 Z a0 kn zA b6 b2) (s) (x) (pc h:Nat) (a7:s[0]?=some (pc:Int)) (a8:s[1]?=some (h:Int)) (W:s.length=44) (c2:pc<=300) (c3:h<=J.size) (c4:J.size<=60)
  (c8:(x.op==1)=false) (c9:(x.op==3)=false) (d0:(x.op==4)=false) (d1:(x.op==5)=false) (d2:(x.op==6)=false) (d3:(x.op==7)=true) (d7:0<=x.x) (d8:x.x<10):
  Calls prog 77 #[.pointer (some ⟨j,0,none⟩),nS s,ow x] w λe w'=>e=.returned (.tuple #[nS (((s.set (2+(2*x.x).toNat) (gt s (22+x.x.toNat))).set (2+(2*x.x+1).toNat) (h)).set 0 ((pc)+1)),.bool true])/\Below w.heap.size w w':=by
 have G:=hid W;have U:=zB I.cell;have c5:=(lM.1 I.cell).1;have b8:=U.1 1;have c0:s[22+x.x.toNat]?=some (gt s (22+x.x.toNat)):=by unfold gt;rw[lH,lN (by omega)];rfl
 have c1:s[2+(2*x.x).toNat]?=some (gt s (2+(2*x.x).toNat)):=by unfold gt;rw[lH,lN (by omega)];rfl
 have b0:s[2+(2*x.x+1).toNat]?=some (gt s (2+(2*x.x+1).toNat)):=by unfold gt;rw[lH,lN (by omega)];rfl
 have d4:((s.map (Value.int .i64)).set (2+(2*x.x).toNat) (.int .i64 (gt s (22+x.x.toNat))))[1]?=some (.int .i64 (h:Int)):=by
  rw[rD (by omega),gN,a8];rfl
 have d5:((s.map (Value.int .i64)).set (2+(2*x.x).toNat) (.int .i64 (gt s (22+x.x.toNat))))[2+(2*x.x+1).toNat]?=some (.int .i64 (gt s (2+(2*x.x+1).toNat))):=by
  rw[rD (by omega),gN,b0];rfl
 have d6:(((s.map (Value.int .i64)).set (2+(2*x.x).toNat) (.int .i64 (gt s (22+x.x.toNat)))).set (2+(2*x.x+1).toNat) (.int .i64 (h:Int)))[0]?=some (.int .i64 (pc:Int)):=by
  rw[rD (by omega),rD (by omega),gN,a7];rfl
 have c6:j<w.heap.size+1:=by omega
 have c7:j<w.heap.size+1+1:=by omega
 have b9:∀(O:World) (n:Nat) (a:Addr) (v:Value),(O.drewN n).setCell a v=(O.setCell a v).drewN n:=λ_ _ _ _=>rfl
 clear W I U;unfold nS ow;have hz:=bY
 go_in
 go_wp2_with fail
 go_region
 go_wp2_with (first|(refine zW (by rfl) (.tmp 4) (by rfl) w.heap.size (by rfl) (by exact qw _ _ _ _) (by simp[G.o]) ?_)|(refine zM (by rfl) (.tmp 6) (.tmp 121) (by rfl) (w.heap.size+1+1) _ (by rfl) (by rfl) (by exact vv _ _ _ _) (by rfl) (by simp[G.o]) (by simp only[yG];exact yA _) ?_;intro b7 b3 b4 b5 Y))
 have a9:Below w.heap.size w b7:=(((((lK _ _).alloc (lF _) _).alloc (by simp) _).alloc (by simp;omega) _).drew).trans (Y _ (by omega));clear b4 b5 Y;refine lT (dN rfl (by rfl) b3 (by simp[G.o])) rfl ⟨?_,a9⟩;simp only[yG];rfl
theorem SI{P}{f}{h}{X:World}{a b}{v}(G:Calls P f h (X.drewN (a+b)) λe w'=>e=.returned v/\w'=X.drewN (a+b)):
  Calls P f h (X.drewN (a+b)) λe I=>e=.returned v/\∃n,I=X.drewN (a+n):=G.mono λ_ _ j=>⟨j.1,b,j.2⟩
theorem zBQ{w}{G gc a6 a5 gk a2 a3 a1 a4}{c}{j}{a8}{Z}{a0}{kn}{zA b3}{a9}
  (J:kP w G gc a6 a5 gk a2 a3 a1 a4 c j a8 Z a0 kn zA b3 a9) (s) (x) (pc h:Nat) (b6:s[0]?=some (pc:Int)) (b7:s[1]?=some (h:Int)) (W:s.length=44) (c0:pc<=300) (c1:h<=j.size) (c2:j.size<=60)
  (c6:(x.op==1)=true) (b9:¬h<j.size):
  Calls prog 77 #[.pointer (some ⟨G,0,none⟩),nS s,ow x] w λe w'=>e=.returned (.tuple #[nS ((s.set 1 ((h)+1)).set 0 ((pc)+1)),.bool false])/\Below w.heap.size w w':=by
 have I:=hid W;have U:=zB J.cell;have c3:=(lM.1 J.cell).1;have b5:=U.1 1;have c4:G<w.heap.size+1:=by omega
 have c5:G<w.heap.size+1+1:=by omega
 have b8:∀(O:World) (n:Nat) (a:Addr) (v:Value),(O.drewN n).setCell a v=(O.setCell a v).drewN n:=λ_ _ _ _=>rfl
 clear W J U;unfold nS ow;have hz:=bY
 go_in
 go_wp2_with fail
 go_quiet (fail)
 go_wp2_with (first|(refine zW (by rfl) (.tmp 4) (by rfl) w.heap.size (by rfl) (by exact qw _ _ _ _) (by simp[I.o]) ?_)|(refine zM (by rfl) (.tmp 6) (.tmp 121) (by rfl) (w.heap.size+1+1) _ (by rfl) (by rfl) (by exact vv _ _ _ _) (by rfl) (by simp[I.o]) (by simp only[yG];exact yA _) ?_;intro b4 b0 b1 b2 Y))
 have a7:Below w.heap.size w b4:=(below_drewN ((((lK _ _).alloc (lF _) _).alloc (by simp) _).alloc (by simp;omega) _) _).trans (Y _ (by omega));clear b1 b2 Y;refine lT (dN rfl (by rfl) b0 (by simp[I.o])) rfl ⟨?_,a7⟩;simp only[yG];rfl
theorem one_byte{w}{I gc a9 a8 gk a5 a6 a4 a7}{c}{j}{b1}{a2}{a3}{kn}{zA b6}{b2}
  (O:kP w I gc a9 a8 gk a5 a6 a4 a7 c j b1 a2 a3 kn zA b6 b2) (s) (x) (pc h:Nat) (b9:s[0]?=some (pc:Int)) (c0:s[1]?=some (h:Int)) (Z:s.length=44) (c3:pc<=300) (c4:h<=j.size) (c6:j.size<=60)
  (d0:(x.op==1)=true) (G:h<j.size) (c5:x.set.length<=256):
  Calls prog 77 #[.pointer (some ⟨I,0,none⟩),nS s,ow x] w λe w'=>e=.returned (.tuple #[nS ((s.set 1 ((h)+1)).set 0 ((pc)+1)),.bool (hasB ⟨x.set.toArray⟩ ((j[h]'G).toNat:Int))])/\Below w.heap.size w w':=by
 have J:=hid Z;have W:=zB O.cell;have c7:=(lM.1 O.cell).1;have b8:=W.1 1;have c1:=(j[h]'G).toNat_lt;have a1:Hid (∀z:World,CT 105 #[.string ⟨x.set.toArray⟩,.int .u8 ((j[h]'G).toNat:Int)] z λe w'=>e=.returned (.bool (hasB ⟨x.set.toArray⟩ ((j[h]'G).toNat:Int)))/\w'=z):=λz=>(Qp ⟨x.set.toArray⟩ _ z (by show x.set.toArray.size<=1000;simp;omega) (by omega) (by omega)).mono (λe w' Y=>⟨Y.1,Y.2.symm⟩)
 have c8:I<w.heap.size+1:=by omega
 have c9:I<w.heap.size+1+1:=by omega
 have c2:∀(U:World) (n:Nat) (a:Addr) (v:Value),(U.drewN n).setCell a v=(U.setCell a v).drewN n:=λ_ _ _ _=>rfl
 clear Z O W;unfold nS ow;have hz:=bY
 go_in
 go_wp2_with fail
 go_quiet (fail)
 go_wp2_with fail
 go_quiet ((go_at_call 105;exact SI (a1.o _)))
 go_wp2_with (first|(refine zW (by rfl) (.tmp 4) (by rfl) w.heap.size (by rfl) (by exact qw _ _ _ _) (by simp[J.o]) ?_)|(refine zM (by rfl) (.tmp 6) (.tmp 121) (by rfl) (w.heap.size+1+1) _ (by rfl) (by rfl) (by exact vv _ _ _ _) (by rfl) (by simp[J.o]) (by simp only[yG];exact yA _) ?_;intro b7 b3 b4 b5 a0))
 have b0:Below w.heap.size w b7:=(below_drewN ((((lK _ _).alloc (lF _) _).alloc (by simp) _).alloc (by simp;omega) _) _).trans (a0 _ (by omega));clear b4 b5 a0;refine lT (dN rfl (by rfl) b3 (by simp[J.o])) rfl ⟨?_,b0⟩;simp only[yG];rfl
theorem ny(w:World) A C:((w.alloc A).alloc C).heap[w.heap.size]?=some A:=by
 rw[kQ _ _ _ (by simp),gF]
theorem au(w:World) A C:((w.alloc A).alloc C).heap[w.heap.size+1]?=some C:=by
 have:(w.alloc A).heap.size=w.heap.size+1:=by simp
 rw[<-this,gF]
theorem YP{w}{I gc a6 a5 gk a2 a3 a1 a4}{c}{G}{a8}{Z}{a0}{kn}{zA b3}{a9}
  (j:kP w I gc a6 a5 gk a2 a3 a1 a4 c G a8 Z a0 kn zA b3 a9) (s) (k) (pc W:Nat) (b5:s[0]?=some (pc:Int)) (b6:s[1]?=some (W:Int)) (U:s.length=44) (c1:pc<=300) (c2:W<=G.size) (c3:G.size<=60) (c7:0<=k) (c8:k<10)
  (a b) (b7:s[2+(2*k).toNat]?=some a) (b9:s[2+(2*k+1).toNat]?=some b) (b8:decide (a<0)=true):
  Calls prog 106 #[.pointer (some ⟨I,0,none⟩),nS s,.int .i64 k] w λe w'=>e=.returned (.tuple #[nS (s),.bool false])/\Below w.heap.size w w':=by
 have h:=hid U;have O:=zB j.cell;have c4:=(lM.1 j.cell).1;have b4:=O.1 1;have c5:I<w.heap.size+1:=by omega
 have c0:∀(J:World) (n:Nat) (a:Addr) (v:Value),(J.drewN n).setCell a v=(J.setCell a v).drewN n:=λ_ _ _ _=>rfl
 clear U j O;unfold nS;have hz:=bY
 go_in
 go_wp2_with fail
 go_quiet (fail)
 go_wp2_with (first|(refine zW (by rfl) (.tmp 4) (by rfl) w.heap.size (by rfl) (by exact ny _ _ _) (by simp[h.o]) ?_)|(refine zM (by rfl) (.tmp 6) (.tmp 38) (by rfl) (w.heap.size+1) _ (by rfl) (by rfl) (by exact au _ _ _) (by rfl) (by simp[h.o]) (by first | exact yA _|(simp only[yG];exact yA _)) ?_;intro c6 b0 b1 b2 Y))
 have a7:=(below_drewN (((lK _ _).alloc (lF _) _).alloc (by simp) _) _).trans (Y _ (by omega));clear b1 b2 Y;refine lT (dN rfl (by rfl) b0 (by simp[h.o])) rfl ⟨?_,a7⟩;try simp only[yG]
 rfl
theorem YQ{w}{J gc a6 a5 gk a2 a3 a1 a4}{c}{h}{a8}{Z}{a0}{kn}{zA b3}{a9}
  (G:kP w J gc a6 a5 gk a2 a3 a1 a4 c h a8 Z a0 kn zA b3 a9) (s) (k) (pc I:Nat) (b5:s[0]?=some (pc:Int)) (b6:s[1]?=some (I:Int)) (W:s.length=44) (c3:pc<=300) (c4:I<=h.size) (c5:h.size<=60) (d0:0<=k) (d1:k<10)
  (a b:Nat) (b7:s[2+(2*k).toNat]?=some (a:Int)) (b9:s[2+(2*k+1).toNat]?=some (b:Int)) (b8:a<=b) (c0:b<=h.size) (c2:h.size<I+(b-a)):
  Calls prog 106 #[.pointer (some ⟨J,0,none⟩),nS s,.int .i64 k] w λe w'=>e=.returned (.tuple #[nS (s),.bool false])/\Below w.heap.size w w':=by
 have j:=hid W;have U:=zB G.cell;have c6:=(lM.1 G.cell).1;have b4:=U.1 1;have c7:J<w.heap.size+1:=by omega
 have c1:∀(O:World) (n:Nat) (a:Addr) (v:Value),(O.drewN n).setCell a v=(O.setCell a v).drewN n:=λ_ _ _ _=>rfl
 clear W G U;unfold nS;have hz:=bY
 go_in
 have c8:decide ((a:Int)<0)=false:=by simp
 go_wp2_with fail
 go_quiet (fail)
 go_wp2_with (first|(refine zW (by rfl) (.tmp 4) (by rfl) w.heap.size (by rfl) (by exact ny _ _ _) (by simp[j.o]) ?_)|(refine zM (by rfl) (.tmp 6) (.tmp 38) (by rfl) (w.heap.size+1) _ (by rfl) (by rfl) (by exact au _ _ _) (by rfl) (by simp[j.o]) (by first | exact yA _|(simp only[yG];exact yA _)) ?_;intro c9 b0 b1 b2 Y))
 have a7:=(below_drewN (((lK _ _).alloc (lF _) _).alloc (by simp) _) _).trans (Y _ (by omega));clear b1 b2 Y;refine lT (dN rfl (by rfl) b0 (by simp[j.o])) rfl ⟨?_,a7⟩;try simp only[yG]
 rfl
theorem YR{w}{J gc a6 a5 gk a2 a3 a1 a4}{c}{h}{a8}{Z}{a0}{kn}{zA b3}{a9}
  (I:kP w J gc a6 a5 gk a2 a3 a1 a4 c h a8 Z a0 kn zA b3 a9) (s) (k) (pc j:Nat) (b5:s[0]?=some (pc:Int)) (b6:s[1]?=some (j:Int)) (W:s.length=44) (c3:pc<=300) (c4:j<=h.size) (c5:h.size<=60) (d0:0<=k) (d1:k<10)
  (a b:Nat) (b7:s[2+(2*k).toNat]?=some (a:Int)) (b9:s[2+(2*k+1).toNat]?=some (b:Int)) (b8:a<=b) (c0:b<=h.size) (c2:j+(b-a)<=h.size):
  Calls prog 106 #[.pointer (some ⟨J,0,none⟩),nS s,.int .i64 k] w λe w'=>e=.returned (.tuple #[nS ((s.set 1 ((j)+b-a)).set 0 ((pc)+1)),.bool ((h.extract a b).toList==(h.extract j (j+b-a)).toList)])/\Below w.heap.size w w':=by
 have G:=hid W;have U:=zB I.cell;have c6:=(lM.1 I.cell).1;have b4:=U.1 1;have c7:J<w.heap.size+1:=by omega
 have c1:∀(O:World) (n:Nat) (a:Addr) (v:Value),(O.drewN n).setCell a v=(O.setCell a v).drewN n:=λ_ _ _ _=>rfl
 clear W I U;unfold nS;have hz:=bY
 go_in
 have c8:decide ((a:Int)<0)=false:=by simp
 go_wp2_with fail
 go_quiet (fail)
 go_wp2_with fail
 go_quiet (fail)
 go_wp2_with (first|(refine zW (by rfl) (.tmp 4) (by rfl) w.heap.size (by rfl) (by exact ny _ _ _) (by simp[G.o]) ?_)|(refine zM (by rfl) (.tmp 6) (.tmp 71) (by rfl) (w.heap.size+1) _ (by rfl) (by rfl) (by exact au _ _ _) (by rfl) (by simp[G.o]) (by first | exact yA _|(simp only[yG];exact yA _)) ?_;intro c9 b0 b1 b2 Y))
 have a7:=(below_drewN (((lK _ _).alloc (lF _) _).alloc (by simp) _) _).trans (Y _ (by omega));clear b1 b2 Y;refine lT (dN rfl (by rfl) b0 (by simp[G.o])) rfl ⟨?_,a7⟩;try simp only[yG]
 rfl
theorem zBR{w}{j gc a1 a0 gk W Y U Z}{c}{h}{a6}{J}{O}{kn}{zA b0}{a7}
  (a2:kP w j gc a1 a0 gk W Y U Z c h a6 J O kn zA b0 a7) (s s') (ok) (x) (pc a8:Nat) (c0:s[0]?=some (pc:Int)) (c1:s[1]?=some (a8:Int)) (a4:s.length=44) (a5:s'.length=44) (c2:pc<=300) (c3:a8<=h.size) (c4:h.size<=60)
  (b4:Hid (∀z,kP z j gc a1 a0 gk W Y U Z c h a6 J O kn zA b0 a7->CT 106 #[.pointer (some ⟨j,0,none⟩),nS s,.int .i64 x.x] z λe w'=>e=.returned (.tuple #[nS s',.bool ok])/\Below z.heap.size z w'))
  (c5:(x.op==1)=false) (c6:(x.op==3)=false) (c7:(x.op==4)=false) (c8:(x.op==5)=false) (c9:(x.op==6)=false) (d0:(x.op==7)=false) (d1:(x.op==8)=true):
  Calls prog 77 #[.pointer (some ⟨j,0,none⟩),nS s,ow x] w λe w'=>e=.returned (.tuple #[nS s',.bool ok])/\Below w.heap.size w w':=by
 have b2:=hid a4;have I:=hid (a5);have b3:=hid a2;clear a4 a2 a5;unfold nS ow;have hz:=bY
 go_in
 go_wp2_with (first|(refine zW (by rfl) (.tmp 4) (by rfl) w.heap.size (by rfl) (by exact qw _ _ _ _) (by simp[b2.o]) ?_) | fail)
 refine(b4.o _ (b3.o.below (((((lK _ _).alloc (lF _) _).alloc (by simp) _).alloc (by simp;omega) _)))).mono ?_;rintro e w1 ⟨rfl,G⟩;have a3:w1.heap[w.heap.size+1+1]?=some DY:=by rw[G.block _ (by simp)];exact vv _ _ _ _
 have b6:Below w.heap.size w w1:=(((((lK _ _).alloc (lF _) _).alloc (by simp) _).alloc (by simp;omega) _)).trans (G.mono (by simp;omega));have b1:=hid a3;clear a3 G;go_wp2_with (refine zM (by rfl) (.tmp 6) (.tmp 100) (by rfl) (w.heap.size+1+1) (s'.map (Value.int .i64)).toArray (by rfl) (by rfl) (by exact b1.o) (by rfl) (by simp[I.o]) (yA _) ?_;intro d2 b7 b8 b9 a9)
 have b5:=b6.trans (a9 _ (by omega));clear b8 b9 a9;refine lT (dN rfl (by rfl) b7 (by simp[I.o])) rfl ⟨rfl,b5⟩
def SK(k:Nat):Array Value:=(List.replicate k (Value.int .i64 (-1))++List.replicate (20-k) (Value.int .i64 0)).toArray
theorem Cy:(prog.info? 27).map (·.size)=some 20:=by kernel_rfl
theorem Me{j}{G}{h}{a}{w}{Q}(O:h.guard=none)(x)(U:h.op=.load 27 x)
  (b) (Y:a.eval x=.pointer (some ⟨b,0,none⟩)) {t} {A} (J:w.heap[b]?=some (.cells A t (0,0))) (W:A.size=20)
  (I:wpList prog j Q G (a.put h.dst (.agg A)) w):wpList prog j Q (h::G) a w:=
 wpList_load_mid O _ x U b 0 Y A.toList _ (xJ J) underlying27 rfl (by rw[Cy];simp[W]) I
theorem JY{I}{J}{h}{a}{w}{Q}(Z:h.guard=none)(x y)(a1:h.op=.store 27 x y)
  (b) (cs) (a2:a.eval x=.pointer (some ⟨b,0,none⟩)) (a3:a.eval y=.agg cs) {t} {B} (j:w.heap[b]?=some (.cells B t (0,0))) (a4:B.size=20) (Y:cs.size=20) (U:cs.all (·.oneCell')=true)
  (O:∀w2,w2.heap[b]?=some (.cells cs t (0,0))->(∀k,k≠b->w2.heap[k]?=w.heap[k]?)->w2.heap.size=w.heap.size->(∀L,L<=b->Below L w w2)->wpList prog I Q J (a.put h.dst undef) w2):wpList prog I Q (h::J) a w:=by
 have G:=zB j;refine wpList_store_mid Z _ x y a1 b 0 cs a2 a3 (vC G.1 G.2 _ (by omega)) (by rw[Cy,Y]) U ?_;exact O _ (xM j cs (by omega)) (λk a0=>yM b _ 0 w k a0) (below_setCells b _ 0 w 0 (gD _)).2 (λL W=>(below_setCells b _ 0 w L W).1)
theorem zDx:(SK 20).all (·.oneCell')=true:=by
 unfold SK;rw[wH];simp[Value.oneCell']
theorem GK{G}{p:Tmp}{j}(I:G.results=#[.cell p j]) h P w:
  (results G h).run P w=((asAddr (h.getD p undef)).run P w).andThen λa w₁=>((loadVar j a).run P w₁).andThen λv w₂=>.ok v w₂:=by
 simp only[results,I];simp[aD,Result.andThen];cases Sem.run P (asAddr (h[p]?.getD undef)) w with
 | ok a w1=>dsimp only;cases Sem.run P (loadVar j a) w1 <;> rfl
 | halt I w1=>rfl
theorem zEN{h}{p}(J:h.results=#[.cell p 27]){j}{w}{b}{t}{A}(I:j.getD p undef=.pointer (some ⟨b,0,none⟩))(G:w.heap[b]?=some (.cells A t (0,0)))(O:A.size=20):
  (results h j).run prog w=.ok (.agg A) w:=by
 rw[GK J,I];have:=run_loadVar_mid (P:=prog) w b 0 27 A.toList _ (xJ G) underlying27 rfl (by rw[Cy];simp[O]);simp[asAddr,Result.andThen,this]
theorem YS k(h:k<20):(SK k).setIfInBounds k (.int .i64 (-1))=SK (k+1):=by
 unfold SK;have e:20-k=(20-(k+1))+1:=by omega
 rw[lD,e,wV,sU _ _ (by simp)];simp[eT,gZ]
theorem JC w:
  Calls prog 25 #[] w λe w'=>e=.returned (.agg ((List.replicate 20 (-1:Int)).map (Value.int .i64)).toArray)/\Below w.heap.size w w':=by
 go_in
 go_wp2_with fail
 go_loopw [2] (λi wr=>∃k:Nat,k<=20/\i=.int .i64 k/\wr.heap[w.heap.size+1]?=some (.cells (SK k) 27 (0,0))/\wr.heap[w.heap.size]?=some (.cells (SK 0) 27 (0,0))/\w.heap.size+1<wr.heap.size/\Below w.heap.size w wr) (λi _=>20-(intOf i).toNat)
 case atStart=>exact⟨0,by omega,rfl,au _ _ _,ny _ _ _,by simp,by go_grown⟩
 case round =>
  obtain⟨k,a0,rfl,h,G,W,j⟩:=hrel;have I:=hid h;have J:=hid G;have O:=hid j;by_cases U:k<20
  ·have a5:wr.cell? ⟨w.heap.size+1,k,none⟩=some (.int .i64 0):=by
    rw[(zB h).1];unfold SK;rw[oI,gL (by simp)];simp only[sV,aS];rw[oJ,lG (by omega)]
   have a4:=(zB h).2 k;clear h G j;go_wp2_with fail
   go_roundw
   case rel =>
    refine⟨k+1,by omega,by go_num,?_,?_,by simpa[World.setCell]using W,O.o.setCell (p:=⟨w.heap.size+1,k,none⟩) (by simp) _⟩
    ·rw[<-YS k U];exact lX wr _ k _ _ _ I.o
    ·rw[lS _ _ _ _ (by show w.heap.size≠w.heap.size+1;omega)];exact J.o
   case measure=>simp[intOf];omega
  ·have e:k=20:=by omega
   subst e;clear h G j;go_wp2_with (first|(refine Me (by rfl) (.tmp 1) (by rfl) (w.heap.size+1) (by rfl) I.o (by rfl) ?_)|(refine JY (by rfl) (.tmp 0) (.tmp 9) (by rfl) w.heap.size _ (by rfl) (by rfl) J.o (by rfl) (by rfl) zDx ?_;intro a3 Y a1 a2 Z))
   refine lT (zEN rfl (by rfl) Y (by rfl)) rfl ⟨rfl,?_⟩;exact O.o.trans (Z _ (lF _))
