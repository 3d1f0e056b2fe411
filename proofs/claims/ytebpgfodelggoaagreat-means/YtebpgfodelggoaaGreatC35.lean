import Derived.Test.YtebpgfodelggoaaGreatC34
import Derived.Test.YtebpgfodelggoaaGreatC32
set_option linter.all false
set_option maxRecDepth 100000
set_option maxHeartbeats 8000000
namespace Go.Proofs.YtebpgfodelggoaaGreat
open Go.RowKit _root_.Go.Proofs.Tryz Mt
def xZ(f:Hz):Array Value:=(Value.bool f.ok::(f.at'.map (Value.int .i64)++[Value.int .i64 f.steps])).toArray
def uw(f:Hz):Value:=.agg (xZ f)
theorem kH f(h:f.at'.length=20):(xZ f).size=22:=by simp[xZ,h]
theorem GL{l:List Int}(h:l.length=20):∃a0 a1 a2 a3 a4 a5 a6 a7 a8 a9 a10 a11 a12 a13 a14 a15 a16 a17 a18 a19,l=[a0,a1,a2,a3,a4,a5,a6,a7,a8,a9,a10,a11,a12,a13,a14,a15,a16,a17,a18,a19]:=by
 match l,h with
 | [a0,a1,a2,a3,a4,a5,a6,a7,a8,a9,a10,a11,a12,a13,a14,a15,a16,a17,a18,a19],_=>exact⟨a0,a1,a2,a3,a4,a5,a6,a7,a8,a9,a10,a11,a12,a13,a14,a15,a16,a17,a18,a19,rfl⟩
theorem zBT l(h:l.length=20) b u w:(Instr.build 29 #[(0,.bool b),(1,.agg (l.map (Value.int .i64)).toArray),(2,.int .i64 u)]).run prog w=.ok (uw ⟨b,l,u⟩) w:=by
 obtain⟨j,G,a3,a4,a5,a6,a7,a8,a9,b0,I,J,O,U,W,Y,Z,a0,a1,a2,rfl⟩:=GL h;unfold uw xZ;simp only[oZ,sO,rR,sN];kernel_rfl
theorem YV l(h:l.length=20) u w:(Instr.build 29 #[(1,.agg (l.map (Value.int .i64)).toArray),(2,.int .i64 u)]).run prog w=.ok (uw ⟨false,l,u⟩) w:=by
 obtain⟨j,G,a3,a4,a5,a6,a7,a8,a9,b0,I,J,O,U,W,Y,Z,a0,a1,a2,rfl⟩:=GL h;unfold uw xZ;simp only[oZ,sO,rR,sN];kernel_rfl
theorem OC{P}{h}{r}{t}{parts}(G:h.op=.build t parts){z}{u}(j:(Instr.build t (parts.map λq=>(q.1,r q.2))).run P z=.ok u z):(execOp r h).run P z=.ok (.value u) z:=by
 unfold execOp;simp only[G];simp only[aD,j,Result.andThen_ok,Sem.run_pure]
theorem SN{P}{O}{j}{Q}{S}(i)(G){Z}{J}{a}{w}(a2:j[i]?=some G)(a1:G.guard=none)(Y:Region.ready O j J=[i])(a3:Region.ready O j (J.setIfInBounds i true)=[])
  (a0:Oper.wp P G a w (λh w'=>S w'/\Q .normal h w') Q):wpAnyH P O j Q S (Z+1) J a w:=by
 refine⟨λW=>(by rw[Y]at W;cases W),λa5 I=>?_⟩;rw[Y]at I;simp only[wL]at I;subst I;refine wpOp_mono (K:=λh w'=>S w'/\Q .normal h w') (λh w' (U:S w'/\Q .normal h w')=>⟨U.1,rP a3 U.2 _⟩) ?_;have a4:Region.wanted G (yielded j a.tmps)=true:=by simp[Region.wanted,a1]
 unfold wpOp;simp only[a2,a4,wS];exact .inl a0
theorem Ay{P}{I}{j}{Q}{S}(i)(h){O}{G}{a}{w}(a0:j[i]?=some h)(Z:h.guard=none)(a2:Region.ready I j G=[i])(a3:Region.ready I j (G.setIfInBounds i true)=[])
  (J) (x y) (a1:h.op=.store J x y) (b o) (cells) (a5:a.eval x=.pointer (some ⟨b,o,none⟩)) (a6:a.eval y=.agg cells) (a4:w.there b o cells.size) (hz:(P.info? J).map (·.size)=some cells.size) (W:cells.all (·.oneCell')=true)
  (Y:h.dst=none) (U:S (w.setCells b o cells.toList)/\Q .normal a (w.setCells b o cells.toList)):wpAnyH P I j Q S (O+1) G a w:=
 SN i h a0 Z a2 a3 (wp_store_mid J x y a1 b o cells a5 a6 a4 hz W (by rw[Y];exact U))
theorem Qr{z w:World} p(h:z.heap[p.block]?=w.heap[p.block]?):z.cell? p=w.cell? p:=by unfold World.cell?;rw[h]
theorem zBU{w:World}{b}{s:List Int}{t}(j:w.heap[b]?=some (.cells (s.map (Value.int .i64)).toArray t (0,0)))(J:s.length=44):w.rangeAt b 2 (((s.drop 2).take 20).map (Value.int .i64)):=λI v h=>by
 rw[(zB j).1];rw[gN]at h;by_cases G:I<20
 ·rw[oK G,sW]at h;simp[<-h]
 ·rw[gQ (by simp;omega)]at h;simp at h
theorem av:(prog.info? 29).map (·.size)=some 22:=by kernel_rfl
theorem qY{I}{J}{h}{a}{w}{Q}(Z:h.guard=none)(x y)(a1:h.op=.store 29 x y)
  (b) (cs) (a2:a.eval x=.pointer (some ⟨b,0,none⟩)) (a3:a.eval y=.agg cs) {t} {B} (j:w.heap[b]?=some (.cells B t (0,0))) (a4:B.size=22) (Y:cs.size=22) (U:cs.all (·.oneCell')=true)
  (O:∀w2,w2.heap[b]?=some (.cells cs t (0,0))->(∀k,k≠b->w2.heap[k]?=w.heap[k]?)->w2.heap.size=w.heap.size->(∀L,L<=b->Below L w w2)->wpList prog I Q J (a.put h.dst undef) w2):wpList prog I Q (h::J) a w:=by
 have G:=zB j;refine wpList_store_mid Z _ x y a1 b 0 cs a2 a3 (vC G.1 G.2 _ (by omega)) (by rw[av,Y]) U ?_;exact O _ (xM j cs (by omega)) (λk a0=>yM b _ 0 w k a0) (below_setCells b _ 0 w 0 (gD _)).2 (λL W=>(below_setCells b _ 0 w L W).1)
theorem Vy{h}{p}(J:h.results=#[.cell p 29]){j}{w}{b}{t}{A}(I:j.getD p undef=.pointer (some ⟨b,0,none⟩))(G:w.heap[b]?=some (.cells A t (0,0)))(O:A.size=22):
  (results h j).run prog w=.ok (.agg A) w:=by
 rw[GK J,I];have:=run_loadVar_mid (P:=prog) w b 0 29 A.toList _ (xJ G) underlying29 rfl (by rw[av];simp[O]);simp[asAddr,Result.andThen,this]
def zD8:Value:=.agg #[.int .i64 (-1),.int .i64 (-1),.int .i64 (-1),.int .i64 (-1),.int .i64 (-1),.int .i64 (-1),.int .i64 (-1),.int .i64 (-1),.int .i64 (-1),.int .i64 (-1),.int .i64 (-1),.int .i64 (-1),.int .i64 (-1),.int .i64 (-1),.int .i64 (-1),.int .i64 (-1),.int .i64 (-1),.int .i64 (-1),.int .i64 (-1),.int .i64 (-1)]
theorem SQ w:CT 25 #[] w λe w'=>e=.returned zD8/\Below w.heap.size w w':=JC w
theorem bU f:(xZ f).all (·.oneCell')=true:=by
 unfold xZ;rw[wH];simp[Value.oneCell']
theorem FP w:CT 25 #[] w λe w'=>e=.returned (.agg (nowhere.map (Value.int .i64)).toArray)/\Below w.heap.size w w':=JC w
theorem found_eq p(r:List Int)(h:r.length=44):vN p r=(((r.set 2 p).set 3 (gt r 1)).drop 2).take 20:=by
 match r,h with
 | a0::a1::a2::a3::t,h=>simp[vN,gt]
def bg:Obj:=.cells (xZ yD) 29 (0,0)
def zFc(w:World)(wb gc gi ga gk cc ci ca ck:Nat)(c:List zT)(zL:BA)(qU:List Bool)(ar:List Int)(zD:Int)(F:Hz × Bool)(i:Value)(wr:World):Prop:=
 ∃(p n1:Nat) (kn1:List Bool) (Br:Int),i=.int .i64 p/\p<=zL.size+1/\kP wr wb gc gi ga gk cc ci ca ck c zL qU ar zD kn1 Br (zD-(n1:Int)) false/\wr.heap[w.heap.size]?=some bg/\Keep wb gk w wr
  /\ kn1.length=c.length*(zL.size+1)*12/\(0<=Br/\Br<=5000)/\(n1:Int)<=zD/\F=search ⟨c,zL,qU,ar⟩ zD (zL.size+1-p) p n1 kn1 Br
theorem Vz(G gc c8 c7 gk c4 c5 c3 c6)(c)(j)(Z)(W)(J)(g0:JD c j W)(k9:0<c.length)(m0:0<=J)(d4:J<=10000)
  (h6:∀n:Nat,(n:Int)<=J->Qq G gc c8 c7 gk c4 c5 c3 c6 c j Z W J n) (w) (jK n:Nat) (kn) (zA) (m1:jK<=j.size)
  (O:kP w G gc c8 c7 gk c4 c5 c3 c6 c j Z W J kn zA (J-(n)) false) (i6:(n)<=J) (d8:kn.length=c.length*(j.size+1)*12) (i8:0<=zA/\zA<=5000):
  Calls prog 22 #[.pointer (some ⟨G,0,none⟩),.int .i64 jK] w λe w' =>
   e=.returned (uw (search ⟨c,j,Z,W⟩ J (j.size+1-jK) jK n kn zA).1)/\Keep G gk w w'/\∃qK zG zFe,kP w' G gc c8 c7 gk c4 c5 c3 c6 c j Z W J qK zG zFe (search ⟨c,j,Z,W⟩ J (j.size+1-jK) jK n kn zA).2:=by
 have j6:=hid g0;have j7:=hid h6;have e7:=O.lt;have f5:=hid e7;have m7:=e7.1;have m6:=e7.2.2.2.2;have c2:=hid O;have d6:Hid (kn.length=c.length*(j.size+1)*12/\(0<=zA/\zA<=5000)/\(n:Int)<=J/\jK<=j.size+1):=⟨d8,i8,i6,by omega⟩
 obtain⟨F,hF⟩:∃F,F=search ⟨c,j,Z,W⟩ J (j.size+1-jK) jK n kn zA:=⟨_,rfl⟩
 rw[<-hF];have c1:=hid hF;have m5:Obj.cells #[Value.int IntKind.i64 0,Value.int IntKind.i64 0,Value.int IntKind.i64 0,Value.int IntKind.i64 0,Value.int IntKind.i64 0,Value.int IntKind.i64 0,Value.int IntKind.i64 0,Value.int IntKind.i64 0,Value.int IntKind.i64 0,Value.int IntKind.i64 0,Value.int IntKind.i64 0,Value.int IntKind.i64 0,Value.int IntKind.i64 0,Value.int IntKind.i64 0,Value.int IntKind.i64 0,Value.int IntKind.i64 0,Value.int IntKind.i64 0,Value.int IntKind.i64 0,Value.int IntKind.i64 0,Value.int IntKind.i64 0,Value.int IntKind.i64 0,Value.int IntKind.i64 0,Value.int IntKind.i64 0,Value.int IntKind.i64 0,Value.int IntKind.i64 0,Value.int IntKind.i64 0,Value.int IntKind.i64 0,Value.int IntKind.i64 0,Value.int IntKind.i64 0,Value.int IntKind.i64 0,Value.int IntKind.i64 0,Value.int IntKind.i64 0,Value.int IntKind.i64 0,Value.int IntKind.i64 0,Value.int IntKind.i64 0,Value.int IntKind.i64 0,Value.int IntKind.i64 0,Value.int IntKind.i64 0,Value.int IntKind.i64 0,Value.int IntKind.i64 0,Value.int IntKind.i64 0,Value.int IntKind.i64 0,Value.int IntKind.i64 0,Value.int IntKind.i64 0] 93=DY:=rfl;have m4:=g0.t;clear O d8 i8 i6 e7 g0 h6 hF
 go_in
 go_wp2_with fail
 go_loopw [5] (λi wr=>zFc w G gc c8 c7 gk c4 c5 c3 c6 c j Z W J F i wr) (λi _=>j.size+1-(intOf i).toNat)
 case atStart =>
  have i2:Below w.heap.size w (w.alloc bg):=(lK _ _).alloc (lF _) _;exact⟨jK,n,kn,zA,rfl,d6.o.2.2.2,c2.o.below i2,gF _ _,Keep.below i2,d6.o.1,d6.o.2.1,d6.o.2.2.1,c1.o⟩
 case round =>
  clear c1 d6 c2;obtain⟨p,a5,b0,a7,rfl,m2,g5,g8,d7,d8,j0,l1,hF⟩:=hrel;have c2:=hid g5;have f6:=hid g8;have f3:=hid d7;have d2:Hid (b0.length=c.length*(j.size+1)*12/\(0<=a7/\a7<=5000)/\(a5:Int)<=J):=⟨d8,j0,l1⟩
  have c1:=hid hF;have g6:=zB g5.cell;have k1:=g6.1 1;have e3:=g6.1 7;have j1:=(lM.1 g8).1;have j5:G<wr.heap.size:=by omega
  clear g6 g5 g8 d7 d8 j0 hF;obtain⟨a3,g3⟩:∃a3:Int,a3=J-(a5:Int):=⟨_,rfl⟩
  rw[<-g3]at c2 e3;have h8:=hid g3;clear g3;by_cases l2:p<=j.size
  ·have i3:=j7.o a5 d2.o.2.2;have g7:=ku c.length j.size p k9 l2;have e8:=yK ⟨c,j,Z,W⟩ j6.o.ok a5 a5 (kL p) b0 a7 (lF _) g7 d2.o.2.1;have m3:=xE ⟨c,j,Z,W⟩ a5 (kL p) b0 a7;have i4:∀z:World,kP z G gc c8 c7 gk c4 c5 c3 c6 c j Z W J b0 a7 a3 false->CT 47 #[.pointer (some ⟨G,0,none⟩),nS (kL p)] z λe w'=>e=.returned (.tuple #[nS (zS ⟨c,j,Z,W⟩ a5 (kL p) b0 a7).st,.bool (zS ⟨c,j,Z,W⟩ a5 (kL p) b0 a7).ok])/\Keep G gk z w'/\kP w' G gc c8 c7 gk c4 c5 c3 c6 c j Z W J (zS ⟨c,j,Z,W⟩ a5 (kL p) b0 a7).kn (zS ⟨c,j,Z,W⟩ a5 (kL p) b0 a7).zA (J-((zS ⟨c,j,Z,W⟩ a5 (kL p) b0 a7).n:Int)) (zS ⟨c,j,Z,W⟩ a5 (kL p) b0 a7).kI:=λz hz=>i3 z (kL p) b0 a7 (by rw[<-h8.o];exact hz) g7 d2.o.1 d2.o.2.1
   have g1:=c1.o;rw[show j.size+1-p=(j.size-p)+1 by omega,search]at g1;generalize zS ⟨c,j,Z,W⟩ a5 (kL p) b0 a7=r at *;have h5:=hid i4;have b6:=hid e8.2.2.2.1;have f7:Hid (r.kn.length=c.length*(j.size+1)*12/\(0<=r.zA/\r.zA<=5000)/\(r.n:Int)<=J):=⟨e8.2.1.trans d2.o.1,e8.2.2.1,by have:=d2.o.2.2;omega⟩
   have d1:=hid g1;clear i3 g7 e8 i4 g1 c1;go_wp2_with fail
   refine(SQ wr).mono ?_;rintro e w1 ⟨rfl,d4⟩;have l3:=d4.size;have h9:=hid (c2.o.below d4);have h7:Hid (w1.heap[w.heap.size]?=some bg):=(d4.block _ (by omega)).trans f6.o;have h4:=hid (f3.o.trans (Keep.below d4));have l6:w.heap.size<w1.heap.size:=by omega
   clear c2 f6 f3 d4 k1 e3 j5 j1 l3;unfold zD8;go_wp2_with (first|(refine zM (by rfl) (.tmp 6) (.tmp 21) (by rfl) w1.heap.size ((kL (p:Int)).map (Value.int .i64)).toArray (by rfl) (by rfl) (by exact gF _ _) (by rfl) (by simp[Aj]) (yA _) ?_;intro f2 a0 U a6 Y;have d9:Hid (Below w1.heap.size w1 f2):=(((lK _ _).alloc (lF _) _).trans (Y _ (lF _)));have i1:Hid (f2.heap[w1.heap.size]?=some (.cells ((kL (p:Int)).map (Value.int .i64)).toArray 93 (0,0))):=(a0);have s2:f2.heap.size=w1.heap.size+1:=(by simpa using a6);clear a0 U a6 Y)|(refine zW (by rfl) (.tmp 6) (by rfl) w1.heap.size (by rfl) (by exact i1.o) (by simp[Aj]) ?_) | fail)
   refine(h5.o f2 (h9.o.below d9.o)).mono ?_;rintro e h ⟨rfl,e6,j2⟩;have l4:=e6.size;have b3:=hid j2;have e1:Hid (h.heap[w.heap.size]?=some bg):=((e6.blk _ (by omega) (by omega) (by omega)).trans (d9.o.block _ (by omega))).trans h7.o;have f4:Hid (Keep G gk w h):=(h4.o.trans (Keep.below d9.o)).trans e6;have e9:w.heap.size<h.heap.size:=by omega
   clear e6 j2 h5 h9 h7 h4 i1 d9 s2 l4 l6;have l0:(r.kI=true)\/(r.kI=false/\r.ok=true)\/(r.kI=false/\r.ok=false):=by cases r.ok <;> cases r.kI <;> simp
   rcases l0 with b9 | ⟨b9,ok⟩ | ⟨b9,ok⟩
   ·have b2:Hid (F=(yD,true)):=by show _=_;rw[d1.o,b9];rfl
    have d5:=hid b9;clear d1;go_wp2_with (first|(refine zM (by rfl) (.tmp 7) (.tmp 26) (by rfl) h.heap.size (r.st.map (Value.int .i64)).toArray (by rfl) (by rfl) (by exact gF _ _) (by rfl) (by simp[b6.o]) (yA _) ?_;intro I a0 U a6 Y;have a2:Hid (Below h.heap.size h I):=(((lK _ _).alloc (lF _) _).trans (Y _ (lF _)));have b5:Hid (I.heap[h.heap.size]?=some (.cells (r.st.map (Value.int .i64)).toArray 93 (0,0))):=(a0);have b7:Hid (I.heap[w.heap.size]?=some bg):=((a2.o.block _ e9).trans e1.o);have g9:I.cell? ⟨G,8,none⟩=some (.bool r.kI):=((zB (b3.o.below a2.o).cell).1 8);have d0:I.cell? ⟨G,7,none⟩=some (.int .i64 (J-(r.n:Int))):=((zB (b3.o.below a2.o).cell).1 7);have s4:I.heap.size=h.heap.size+1:=(by simpa using a6);have h0:G<I.heap.size:=(by omega);have h1:h.heap.size<I.heap.size:=(by omega);have f9:Hid (I.heap.size=h.heap.size+1):=(s4);clear a0 U a6 Y s4)|(refine qY (by rfl) (.tmp 4) (.tmp 32) (by rfl) w.heap.size (xZ yD) (by rfl) (by rfl) (by exact b7.o) (by rfl) (by rfl) (bU _) ?_;intro a1 a0 U a6 Y) | fail)
    refine lT (Vy rfl (by rfl) a0 (by rfl)) rfl ⟨?_,Keep.whole (f4.o.trans (Keep.below a2.o)) U a6 (Y _ (lF _)),?_⟩
    ·rw[b2.o];rfl
    ·rw[b2.o];have j3:=f5.o;have:=(b3.o.below a2.o).mem (U _ (by omega)) (U _ (by omega)) (U _ (by omega)) (U _ (by omega)) (U _ (by omega));rw[d5.o]at this;exact⟨_,_,_,this⟩
   ·have b2:Hid (F=(⟨true,vN p r.st,J-r.n⟩,false)):=by show _=_;rw[d1.o,b9,ok];rfl
    have d5:=hid b9;clear d1;go_wp2_with (first|(refine zM (by rfl) (.tmp 7) (.tmp 26) (by rfl) h.heap.size (r.st.map (Value.int .i64)).toArray (by rfl) (by rfl) (by exact gF _ _) (by rfl) (by simp[b6.o]) (yA _) ?_;intro I a0 U a6 Y;have a2:Hid (Below h.heap.size h I):=(((lK _ _).alloc (lF _) _).trans (Y _ (lF _)));have b5:Hid (I.heap[h.heap.size]?=some (.cells (r.st.map (Value.int .i64)).toArray 93 (0,0))):=(a0);have b7:Hid (I.heap[w.heap.size]?=some bg):=((a2.o.block _ e9).trans e1.o);have g9:I.cell? ⟨G,8,none⟩=some (.bool r.kI):=((zB (b3.o.below a2.o).cell).1 8);have d0:I.cell? ⟨G,7,none⟩=some (.int .i64 (J-(r.n:Int))):=((zB (b3.o.below a2.o).cell).1 7);have s4:I.heap.size=h.heap.size+1:=(by simpa using a6);have h0:G<I.heap.size:=(by omega);have h1:h.heap.size<I.heap.size:=(by omega);have k2:=(fq b5.o 1 _ (Cz b6.o 1 (by omega)));have k3:=(fq b5.o 2 _ (Cz b6.o 2 (by omega)));have k4:=(fq b5.o 3 _ (Cz b6.o 3 (by omega)));have k5:=(og b5.o 2);have k6:=(og b5.o 3);have f9:Hid (I.heap.size=h.heap.size+1):=(s4);clear a0 U a6 Y s4) | fail)
    have e2:((I.setCell ⟨h.heap.size,2,none⟩ (.int .i64 (p:Int))).setCell ⟨h.heap.size,3,none⟩ (.int .i64 (gt r.st 1))).heap[h.heap.size]?=some (.cells (((r.st.set 2 (p:Int)).set 3 (gt r.st 1)).map (Value.int .i64)).toArray 93 (0,0)):=bM (bM b5.o 2 _) 3 _;have e0:Below h.heap.size h ((I.setCell ⟨h.heap.size,2,none⟩ (.int .i64 (p:Int))).setCell ⟨h.heap.size,3,none⟩ (.int .i64 (gt r.st 1))):=(a2.o.setCell (p:=⟨h.heap.size,2,none⟩) (lF _) _).setCell (p:=⟨h.heap.size,3,none⟩) (lF _) _;generalize (I.setCell ⟨h.heap.size,2,none⟩ (.int .i64 (p:Int))).setCell ⟨h.heap.size,3,none⟩ (.int .i64 (gt r.st 1))=a1 at *;obtain⟨S,e4⟩:∃S,S=(r.st.set 2 (p:Int)).set 3 (gt r.st 1):=⟨_,rfl⟩
    rw[<-e4]at e2;have j8:=hid e4;have i0:Hid (S.length=44):=by show _=_;rw[e4];simp[b6.o]
    clear e4 k2 k3 k4 k5 k6 d0 g9 h0 h1 b7;have d0:=(zB (b3.o.below e0).cell).1 7;have b7:a1.heap[w.heap.size]?=some bg:=(e0.block _ e9).trans e1.o;have l7:=(lM.1 e2).1;have l8:G<a1.heap.size:=by omega
    have l9:w.heap.size<a1.heap.size:=by omega
    have i9:a1.rangeAt h.heap.size 2 (((S.drop 2).take 20).map (Value.int .i64)):=zBU e2 i0.o;have h2:Hid (Below h.heap.size h a1):=e0;have k0:Hid (a1.heap[w.heap.size]?=some bg):=b7;clear e2 e0 b5 a2 f9 b7;obtain⟨a4,g4⟩:∃a4:Int,a4=J-(r.n:Int):=⟨_,rfl⟩
    rw[<-g4]at d0;have j9:Hid (a4=J-(r.n:Int)):=g4;clear g4;have a9:∀z:World,(∀k,k≠w.heap.size->z.heap[k]?=a1.heap[k]?)->z.cell? ⟨G,7,none⟩=some (.int .i64 a4):=λz hz=>(Qr ⟨G,7,none⟩ (hz G (by omega))).trans d0
    have i5:∀z:World,(∀k,k≠w.heap.size->z.heap[k]?=a1.heap[k]?)->z.rangeAt h.heap.size 2 (((S.drop 2).take 20).map (Value.int .i64)):=λz hz j4 v l5=>(Qr ⟨h.heap.size,2+j4,none⟩ (hz h.heap.size (by omega))).trans (i9 j4 v l5)
    have d3:((S.drop 2).take 20).length=20:=by simp[i0.o]
    refine wp_region_held_drew (S:=λz:World=>∀k,k≠w.heap.size->z.heap[k]?=a1.heap[k]?) (by kernel_rfl) (λ_ _=>rfl) (λa8=>?_);refine qJ 0 41 (.pointer (some ⟨h.heap.size,2,none⟩)) rfl (by kernel_rfl) (λ_ _ _ O=>O) (λz hz=>by have b8:=a9 z hz;clear hz a8;go_simp) (by assumption) ?_;simp only[Act.put,lD,lJ,lI];refine MN 1 42 (.agg (((S.drop 2).take 20).map (Value.int .i64)).toArray) rfl (by kernel_rfl) (λ_ _ _ O=>O) (yieldsIf_load_mid (by rfl) _ _ rfl _ _ rfl _ _ i5 underlying27 rfl (by rw[Cy,uD,d3])) (by assumption) ?_;simp only[Act.put,lD,lJ,lI];refine qJ 2 43 (.pointer (some ⟨G,0,none⟩)) rfl (by kernel_rfl) (λ_ _ _ O=>O) (λz hz=>by have b8:=a9 z hz;clear hz a8;go_simp) (by assumption) ?_;simp only[Act.put,lD,lJ,lI];refine qJ 3 44 (.pointer (some ⟨G,0,none⟩)) rfl (by kernel_rfl) (λ_ _ _ O=>O) (λz hz=>by have b8:=a9 z hz;clear hz a8;go_simp) (by assumption) ?_;simp only[Act.put,lD,lJ,lI];refine qJ 4 45 (.pointer (some ⟨G,7,none⟩)) rfl (by kernel_rfl) (λ_ _ _ O=>O) (λz hz=>by have b8:=a9 z hz;clear hz a8;go_simp) (by assumption) ?_;simp only[Act.put,lD,lJ,lI];refine qJ 5 46 (.int .i64 a4) rfl (by kernel_rfl) (λ_ _ _ O=>O) (λz hz=>by have b8:=a9 z hz;clear hz a8;go_simp) (by assumption) ?_;simp only[Act.put,lD,lJ,lI];refine qJ 6 47 (uw ⟨true,(S.drop 2).take 20,a4⟩) rfl (by kernel_rfl) (λ_ _ _ O=>O) (λz hz=>by refine OC (t:=29) (parts:=#[(0,.const (.bool true)),(1,.tmp 42),(2,.tmp 46)]) rfl ?_;simp only[rU,oZ,sO];exact zBT _ d3 true a4 z) (by assumption) ?_;simp only[Act.put,lD,lJ,lI];have f0:a1.drew.heap[w.heap.size]?=some (.cells (xZ yD) 29 (0,0)):=k0.o;refine Ay 7 _ rfl rfl (by kernel_rfl) (by kernel_rfl) _ _ _ rfl w.heap.size 0 (xZ ⟨true,(S.drop 2).take 20,a4⟩) (by kernel_rfl) (by kernel_rfl) (vC (zB f0).1 (zB f0).2 _ (by rw[kH _ d3,kH yD rfl];exact lF _)) (by rw[av,kH _ d3]) (bU _) rfl ?_;have a0:=xM f0 (xZ ⟨true,(S.drop 2).take 20,a4⟩) (by rw[kH _ d3,kH yD rfl]);have U:∀k,k≠w.heap.size->(a1.drew.setCells w.heap.size 0 (xZ ⟨true,(S.drop 2).take 20,a4⟩).toList).heap[k]?=a1.heap[k]?:=λk c9=>yM _ _ 0 a1.drew k c9
    have Y:=(below_setCells w.heap.size (xZ ⟨true,(S.drop 2).take 20,a4⟩).toList 0 a1.drew w.heap.size (lF _))
    generalize a1.drew.setCells w.heap.size 0 (xZ ⟨true,(S.drop 2).take 20,a4⟩).toList=c0 at *;refine⟨U,?_⟩;have f8:Hid (c0.heap[w.heap.size]?=some (.cells (xZ ⟨true,(S.drop 2).take 20,a4⟩) 29 (0,0))):=a0;have b4:Hid ((∀k,k≠w.heap.size->c0.heap[k]?=a1.heap[k]?)/\c0.heap.size=a1.heap.size/\Below w.heap.size a1 c0):=⟨U,Y.2,((lK _ _).drew).trans Y.1⟩
    clear a0 U Y a8 f0 i9 a9 i5 d0 l7 l8 l9;go_wp2_with fail
    refine lT (Vy rfl (by rfl) f8.o (kH _ d3)) rfl ⟨?_,Keep.whole (f4.o.trans (Keep.below h2.o)) b4.o.1 b4.o.2.1 b4.o.2.2,?_⟩
    ·rw[b2.o];have e:vN p r.st=(S.drop 2).take 20:=by rw[j8.o];exact found_eq p r.st b6.o
     rw[e,<-j9.o];rfl
    ·rw[b2.o];have j3:=f5.o;have o:=b4.o.1;have:=(b3.o.below h2.o).mem (o _ (by omega)) (o _ (by omega)) (o _ (by omega)) (o _ (by omega)) (o _ (by omega));rw[d5.o]at this;exact⟨_,_,_,this⟩
   ·have b2:Hid (F=search ⟨c,j,Z,W⟩ J (j.size+1-(p+1)) (p+1) r.n r.kn r.zA):=by show _=_;rw[d1.o,b9,ok,show j.size+1-(p+1)=j.size-p by omega];rfl
    have d5:=hid b9;clear d1;go_wp2_with (first|(refine zM (by rfl) (.tmp 7) (.tmp 26) (by rfl) h.heap.size (r.st.map (Value.int .i64)).toArray (by rfl) (by rfl) (by exact gF _ _) (by rfl) (by simp[b6.o]) (yA _) ?_;intro I a0 U a6 Y;have a2:Hid (Below h.heap.size h I):=(((lK _ _).alloc (lF _) _).trans (Y _ (lF _)));have b5:Hid (I.heap[h.heap.size]?=some (.cells (r.st.map (Value.int .i64)).toArray 93 (0,0))):=(a0);have b7:Hid (I.heap[w.heap.size]?=some bg):=((a2.o.block _ e9).trans e1.o);have g9:I.cell? ⟨G,8,none⟩=some (.bool r.kI):=((zB (b3.o.below a2.o).cell).1 8);have d0:I.cell? ⟨G,7,none⟩=some (.int .i64 (J-(r.n:Int))):=((zB (b3.o.below a2.o).cell).1 7);have s4:I.heap.size=h.heap.size+1:=(by simpa using a6);have h0:G<I.heap.size:=(by omega);have h1:h.heap.size<I.heap.size:=(by omega);have f9:Hid (I.heap.size=h.heap.size+1):=(s4);clear a0 U a6 Y s4) | fail)
    have k8:kP I G gc c8 c7 gk c4 c5 c3 c6 c j Z W J r.kn r.zA (J-(r.n:Int)) false:=by
     have:=b3.o.below a2.o;rw[d5.o]at this;exact this
    go_roundw
    case rel=>exact⟨p+1,r.n,r.kn,r.zA,by go_num,by omega,k8,b7.o,f4.o.trans (Keep.below a2.o),f7.o.1,f7.o.2.1,f7.o.2.2,b2.o⟩
    case measure=>simp[intOf];omega
  ·have b2:Hid (F=(⟨false,nowhere,a3⟩,false)):=by show _=_;rw[c1.o,show j.size+1-p=0 by omega,h8.o];rfl
   clear c1;go_wp2_with fail
   have a9:∀z:World,(∀k,k<wr.heap.size->k≠w.heap.size->z.heap[k]?=wr.heap[k]?)->z.cell? ⟨G,7,none⟩=some (.int .i64 a3):=λz hz=>(Qr ⟨G,7,none⟩ (hz G j5 (by omega))).trans e3
   refine wp_region_held_drew (S:=λz:World=>∀k,k<wr.heap.size->k≠w.heap.size->z.heap[k]?=wr.heap[k]?) (by kernel_rfl) (λ_ _ _=>rfl) (λa8=>?_);refine qJ 1 49 (.pointer (some ⟨G,0,none⟩)) rfl (by kernel_rfl) (λ_ _ _ O=>O) (λz hz=>by have b8:=a9 z hz;clear hz a8;go_simp) (by assumption) ?_;simp only[Act.put,lD,lJ,lI];refine qJ 2 50 (.pointer (some ⟨G,0,none⟩)) rfl (by kernel_rfl) (λ_ _ _ O=>O) (λz hz=>by have b8:=a9 z hz;clear hz a8;go_simp) (by assumption) ?_;simp only[Act.put,lD,lJ,lI];refine qJ 3 51 (.pointer (some ⟨G,7,none⟩)) rfl (by kernel_rfl) (λ_ _ _ O=>O) (λz hz=>by have b8:=a9 z hz;clear hz a8;go_simp) (by assumption) ?_;simp only[Act.put,lD,lJ,lI];refine qJ 4 52 (.int .i64 a3) rfl (by kernel_rfl) (λ_ _ _ O=>O) (λz hz=>by have b8:=a9 z hz;clear hz a8;go_simp) (by assumption) ?_;simp only[Act.put,lD,lJ,lI];refine wpAnyH_ready (rs:=[0]) (by kernel_rfl) (by simp) ?_;refine AllReadyH.cons rfl (λK d7=>?_) AllReadyH.nil
   go_simp
   refine(FP wr.drew).mono ?_;rintro e b1 ⟨rfl,e5⟩;have g2:∀k,k<wr.heap.size->k≠w.heap.size->b1.heap[k]?=wr.heap[k]?:=λk c9 _=>e5.block k c9
   have f1:b1.heap[w.heap.size]?=some (.cells (xZ yD) 29 (0,0)):=(e5.block _ j1).trans f6.o;have h3:Hid (Below wr.heap.size wr b1):=((lK _ _).drew).trans e5;clear e5
   go_simp
   refine d7.out _ _ g2 (λk7=>?_);clear d7 K a8;refine qJ 5 53 (uw ⟨false,nowhere,a3⟩) rfl (by kernel_rfl) (λ_ _ _ O=>O) (λz hz=>by refine OC (t:=29) (parts:=#[(1,.tmp 48),(2,.tmp 52)]) rfl ?_;simp only[rU,oZ,sO];exact YV _ rfl a3 z) (by assumption) ?_;simp only[Act.put,lD,lJ,lI];refine Ay 6 _ rfl rfl (by kernel_rfl) (by kernel_rfl) _ _ _ rfl w.heap.size 0 (xZ ⟨false,nowhere,a3⟩) (by kernel_rfl) (by kernel_rfl) (vC (zB f1).1 (zB f1).2 _ (by rw[kH ⟨false,nowhere,a3⟩ rfl,kH yD rfl];exact lF _)) (by rw[av,kH ⟨false,nowhere,a3⟩ rfl]) (bU _) rfl ?_;have a0:=xM f1 (xZ ⟨false,nowhere,a3⟩) (by rw[kH ⟨false,nowhere,a3⟩ rfl,kH yD rfl]);have U:∀k,k≠w.heap.size->(b1.setCells w.heap.size 0 (xZ ⟨false,nowhere,a3⟩).toList).heap[k]?=b1.heap[k]?:=λk c9=>yM _ _ 0 b1 k c9
   have Y:=(below_setCells w.heap.size (xZ ⟨false,nowhere,a3⟩).toList 0 b1 w.heap.size (lF _))
   generalize b1.setCells w.heap.size 0 (xZ ⟨false,nowhere,a3⟩).toList=c0 at *;refine⟨λk c9 i7=>(U k i7).trans (g2 k c9 i7),?_⟩;have f8:=hid a0;have b4:Hid ((∀k,k≠w.heap.size->c0.heap[k]?=b1.heap[k]?)/\c0.heap.size=b1.heap.size/\Below w.heap.size b1 c0):=⟨U,Y.2,Y.1⟩
   clear a0 U Y k7 f1 a9 e3 g2;go_wp2_with fail
   refine lT (Vy rfl (by rfl) f8.o (kH ⟨false,nowhere,a3⟩ rfl)) rfl ⟨?_,Keep.whole (f3.o.trans (Keep.below h3.o)) b4.o.1 b4.o.2.1 b4.o.2.2,?_⟩
   ·rw[b2.o];rfl
   ·rw[b2.o];have j3:=f5.o;have o:=b4.o.1;exact⟨_,_,_,(c2.o.below h3.o).mem (o _ (by omega)) (o _ (by omega)) (o _ (by omega)) (o _ (by omega)) (o _ (by omega))⟩
theorem SV a1 gc Z Y gk O U J W c I a0 G j(a2:JD c I G)(a3:0<=j)(a4:j<=10000):
  ∀(N n:Nat),n<=N->(n:Int)<=j->Qq a1 gc Z Y gk O U J W c I a0 G j n
 | 0,n,h,hn=>SL a1 gc Z Y gk O U J W c I a0 G j a2 a3 a4 n hn (λm a5=>by omega)
 | N+1,n,h,hn=>SL a1 gc Z Y gk O U J W c I a0 G j a2 a3 a4 n hn (λm a5=>SV a1 gc Z Y gk O U J W c I a0 G j a2 a3 a4 N m (by omega) (by omega))
theorem zBV(p)(J)(j:(jA p).2=0)(a0:J.size<=60):JD (jA p).1 J (vT (jA p).1 (jA p).1.length)/\0<(jA p).1.length:=by
 have Y:(qW p).1=0:=by
  unfold jA at j;by_cases G:(qW p).1=0
  ·exact G
  ·rw[lG G]at j;exact j
 obtain⟨f,a3,e,W,U,a1,O,_⟩:=kr p Y;rw[O];have a2:(f.re.code 0 0++[(⟨13,0,0,[]⟩:zT)]).length=f.re.len+1:=by rw[lQ,Re.zH];rfl
 have I:∀q,q<(f.re.code 0 0++[(⟨13,0,0,[]⟩:zT)]).length->(vT (f.re.code 0 0++[(⟨13,0,0,[]⟩:zT)]) (f.re.code 0 0++[(⟨13,0,0,[]⟩:zT)]).length).getD q 0=(jY (f.re.code 0 0++[(⟨13,0,0,[]⟩:zT)]) q:Int):=by
  intro q h;unfold vT;rw[lH,gN,sF h];rfl
 refine⟨⟨by omega,a0,Jf _ W U,λq h=>?_,λq h=>?_⟩,by omega⟩
 ·rw[I q h];have:=Fj (f.re.code 0 0++[(⟨13,0,0,[]⟩:zT)]) q;omega
 ·rw[I q (by omega)];have Z:q=(f.re.code 0 0).length:=by rw[Re.zH];omega
  rw[Z,Pq _ _ (by simp)];simp
theorem tK{j}{G}{h}{a}{w}{Q}(O:h.guard=none)(x)(U:h.op=.load 29 x)
  (b) (Y:a.eval x=.pointer (some ⟨b,0,none⟩)) {t} {A} (J:w.heap[b]?=some (.cells A t (0,0))) (W:A.size=22)
  (I:wpList prog j Q G (a.put h.dst (.agg A)) w):wpList prog j Q (h::G) a w:=
 wpList_load_mid O _ x U b 0 Y A.toList _ (xJ J) underlying29 rfl (by rw[av];simp[W]) I
theorem CF{j}{p u:Tmp}(J:j.results=#[.cell p 29,.tmp u]){h}{w}{b}{t}{A}(I:h.getD p undef=.pointer (some ⟨b,0,none⟩))(G:w.heap[b]?=some (.cells A t (0,0)))(O:A.size=22):
  (results j h).run prog w=.ok (.tuple #[.agg A,h.getD u undef]) w:=by
 rw[aR J,I];have:=run_loadVar_mid (P:=prog) w b 0 29 A.toList _ (xJ G) underlying29 rfl (by rw[av];simp[O]);simp[asAddr,Result.andThen,this]
theorem FQ E(j:Mt.codeOk E.c)(G:0<E.c.length) h:∀f p n kn zA,p+f<=E.t.size+1->(0<=zA/\zA<=5000)->(search E h f p n kn zA).1.at'.length=20
 | 0,p,n,kn,zA,_,_=>rfl
 | f+1,p,n,kn,zA,hp,hr=>by
  have I:=yK E j n n (kL p) kn zA (lF _) (ku _ _ p G (by omega)) hr;rw[search];split
  ·rfl
  split
  ·exact Jj _ _ I.2.2.2.1
  ·exact FQ E j G h f (p+1) _ _ _ (by omega) I.2.2.1
theorem Keep.toBelow{j gk a b N}(h:Keep j gk a b)(J:N<=a.heap.size)(G:N<=j)(I:N<=gk):Below N a b:=
 ⟨h.os,h.tape,h.output,h.size,λi O=>h.block i (by omega) (by omega) (by omega)⟩
theorem SX(p j:BA) jK I G zA h w(i2:p.size<=maxLen)(i4:j.size<=maxLen):
  Calls prog 12 #[.string p,.string j,.int .i64 jK,.agg #[.int .i64 I,.int .i64 G,.int .i64 zA,.int .i64 h]] w λe w' =>
   e=.returned (.tuple #[uw (pI p j jK I G zA h).1,.int .i64 (pI p j jK I G zA h).2])/\Below w.heap.size w w':=by
 have d3:=hid (λz=>SG p z i2);have f6:Hid (∀z:World,CT 20 #[.string j,.int .i64 jK,.agg #[.int .i64 I,.int .i64 G,.int .i64 zA,.int .i64 h]] z λe w'=>e=.returned (.int .i64 (mV j.size jK I G zA h))/\Below z.heap.size z w'):=λz=>SS j jK I G zA h z i4
 have c6:=NG p;have c8:=zBV p j;unfold pI;generalize h6:jA p=C at *
 have d0:mV j.size jK I G zA h=0->j.size<=60/\(0<=jK/\jK<=j.size)/\(0<=G/\G<=4294967295)/\(0<=zA/\zA<=5000)/\(0<=h/\h<=10000):=by
  intro d6;unfold mV at d6;split at d6
  ·omega
  split at d6
  ·rename_i k0 h5
   obtain⟨g8,k1,k2,k3,k4,k5,k6⟩:=h5;unfold jW at g8;simp only[gM]at g8;omega
  ·omega
 generalize h7:mV j.size jK I G zA h=M at *;have k7:Obj.cells #[Value.bool false,Value.int IntKind.i64 0,Value.int IntKind.i64 0,Value.int IntKind.i64 0,Value.int IntKind.i64 0,Value.int IntKind.i64 0,Value.int IntKind.i64 0,Value.int IntKind.i64 0,Value.int IntKind.i64 0,Value.int IntKind.i64 0,Value.int IntKind.i64 0,Value.int IntKind.i64 0,Value.int IntKind.i64 0,Value.int IntKind.i64 0,Value.int IntKind.i64 0,Value.int IntKind.i64 0,Value.int IntKind.i64 0,Value.int IntKind.i64 0,Value.int IntKind.i64 0,Value.int IntKind.i64 0,Value.int IntKind.i64 0,Value.int IntKind.i64 0] 29=bg:=rfl;clear h6 h7;cases d9:(C.2 != 0)
 ·have g5:C.2=0:=by simpa using d9
  rw[lC (by simpa using d9)];cases e0:(M != 0)
  ·have g6:M=0:=by simpa using e0
   rw[lC (by simpa using e0)];obtain⟨d5,h4,f9,c3,b6⟩:=d0 g6;obtain⟨b8,c7⟩:=c8 g5 d5;obtain⟨F,hF⟩:∃F,F=xB C.1 j I G zA h jK.toNat:=⟨_,rfl⟩
   rw[<-hF];have g2:F.1.at'.length=20:=by rw[hF];exact FQ (uh C.1 j I G) b8.ok c7 h _ _ _ _ _ (by show _<=j.size+1;omega) c3
   have j9:Hid (F=xB C.1 j I G zA h jK.toNat):=hF;have b7:Hid (F.1.at'.length=20):=g2;have j8:Hid (JD C.1 j (vT C.1 C.1.length)):=b8;have e9:Hid (fit 100000000 C.1/\C.1.length<=300):=c6;have j6:Hid (0<=h/\h<=10000):=b6;have j7:Hid (0<=zA/\zA<=5000):=c3
   have g3:∀(J gc a5 a4 gk O a2 a1 a3:Nat) (z:World),kP z J gc a5 a4 gk O a2 a1 a3 C.1 j (qO C.1 I G) (vT C.1 C.1.length) h (List.replicate (C.1.length*(j.size+1)*12) false) zA 0 false->
     CT 22 #[.pointer (some ⟨J,0,none⟩),.int .i64 jK] z λe w'=>e=.returned (uw F.1)/\Keep J gk z w'/\∃qK zG c0,kP w' J gc a5 a4 gk O a2 a1 a3 C.1 j (qO C.1 I G) (vT C.1 C.1.length) h qK zG c0 F.2:=by
    intro J gc a5 a4 gk O a2 a1 a3 z hz;have h8:(h.toNat:Int)=h:=by omega
    have h9:((jK.toNat:Nat):Int)=jK:=by omega
    have:=Vz J gc a5 a4 gk O a2 a1 a3 C.1 j (qO C.1 I G) (vT C.1 C.1.length) h b8 c7 b6.1 b6.2 (λn i1=>SV J gc a5 a4 gk O a2 a1 a3 C.1 j _ _ h b8 b6.1 b6.2 n n (lF _) i1) z jK.toNat h.toNat (List.replicate (C.1.length*(j.size+1)*12) false) zA (by omega) (by rw[h8,Int.sub_self];exact hz) (by omega) (by simp) c3;rw[h9]at this;rw[hF];exact this
   have f1:Hid (∀(J gc a5 a4 gk O a2 a1 a3:Nat) (z:World),kP z J gc a5 a4 gk O a2 a1 a3 C.1 j (qO C.1 I G) (vT C.1 C.1.length) h (List.replicate (C.1.length*(j.size+1)*12) false) zA 0 false->
     CT 22 #[.pointer (some ⟨J,0,none⟩),.int .i64 jK] z λe w'=>e=.returned (uw F.1)/\Keep J gk z w'/\∃qK zG c0,kP w' J gc a5 a4 gk O a2 a1 a3 C.1 j (qO C.1 I G) (vT C.1 C.1.length) h qK zG c0 F.2):=g3
   generalize d7:(if F.2=true then(yD,(14:Int))else(F.1,0))=R;have h1:Hid (F.2=true->R=(yD,14)):=λe=>by rw[<-d7,lG e]
   have h0:Hid (F.2=false->R=(F.1,0)):=λe=>by rw[<-d7,lC (by simp[e])]
   clear d7;have e7:Hid (0<=G/\G<=4294967295):=f9;have e8:Hid (0<C.1.length):=c7;have h2:Hid (j.size<=60):=d5;clear hF g2 b8 c6 c8 d0 g3 d5 h4 f9 c3 b6 c7 g5 g6
   go_in
   go_wp2_with fail
   refine(d3.o _).mono ?_;rintro e w1 ⟨e2,rfl,b2,W⟩;have b5:Hid (w1.heap[w.heap.size]?=some (.cells #[.int .i64 I,.int .i64 G,.int .i64 zA,.int .i64 h] 34 (0,0))):=(W.block _ (by simp;omega)).trans (ny _ _ _);have b0:Hid (w1.heap[w.heap.size+1]?=some bg):=(W.block _ (by simp)).trans (au _ _ _);have b9:=W.size;have d1:w.heap.size+1<w1.heap.size:=by simp at b9;omega
   have b1:Below w.heap.size w w1:=(((lK _ _).alloc (lF _) _).alloc (by simp) _).trans (W.mono (by simp;omega));have U:=(zB b5.o).1;have e3:w1.cell? ⟨w.heap.size,0,none⟩=some (.int .i64 I):=U 0;have e4:w1.cell? ⟨w.heap.size,1,none⟩=some (.int .i64 G):=U 1;have e5:w1.cell? ⟨w.heap.size,2,none⟩=some (.int .i64 zA):=U 2;have e6:w1.cell? ⟨w.heap.size,3,none⟩=some (.int .i64 h):=U 3;have e1:w.heap.size<w1.heap.size:=by omega
   obtain⟨gc,O,i5,j0⟩:∃gc O,e2=.slice (some ⟨gc,0,none⟩) C.1.length O/\gc<w1.heap.size:=by
    rcases aj b2 with ⟨e,_⟩ | ⟨_,g,cap,e,_,i0,_⟩
    ·have:=e8.o;rw[e]at this;simp at this
    ·exact⟨g,cap,e,i0⟩
   subst i5;have f7:Hid (zY w1 0 (.slice (some ⟨gc,0,none⟩) C.1.length O) C.1):=b2;clear W b2 b9 U;go_wp2_with fail
   refine(f6.o _).mono ?_;rintro e Y ⟨rfl,a8⟩;have i3:=a8.size;have c2:Hid (Y.heap[w.heap.size+1]?=some bg):=(a8.block _ d1).trans b0.o;have f0:Y.heap[w.heap.size]?=some (.cells #[.int .i64 I,.int .i64 G,.int .i64 zA,.int .i64 h] 34 (0,0)):=(a8.block _ e1).trans b5.o;have f8:Hid (zY Y 0 (.slice (some ⟨gc,0,none⟩) C.1.length O) C.1):=f7.o.below a8;have c4:Below w.heap.size w Y:=b1.trans (a8.mono (by omega));have U:=(zB f0).1;have j2:Y.cell? ⟨w.heap.size,0,none⟩=some (.int .i64 I):=U 0;have j3:Y.cell? ⟨w.heap.size,1,none⟩=some (.int .i64 G):=U 1;have j4:Y.cell? ⟨w.heap.size,2,none⟩=some (.int .i64 zA):=U 2;have j5:Y.cell? ⟨w.heap.size,3,none⟩=some (.int .i64 h):=U 3;have i7:w.heap.size+1<Y.heap.size:=by omega
   have k8:w.heap.size<Y.heap.size:=by omega
   clear b5 b0 a8 b1 e3 e4 e5 e6 f7 f0 U i3 d1 e1 j0;go_wp2_with fail
   refine(YW C.1 j I G zA h h gc O Y f8.o e8.o e9.o.2 e9.o.1 h2.o e7.o.1 e7.o.2).mono ?_;rintro e c1 ⟨J,a5,a4,gk,a2,a1,a3,rfl,g4,c5,l0,k9⟩;have f4:Hid (c1.heap[w.heap.size+1]?=some bg):=(c5.block _ i7).trans c2.o;have g0:Below w.heap.size w c1:=c4.trans (c5.mono (by omega));have i8:w.heap.size+1<c1.heap.size:=by have:=c5.size;omega
   have f2:Hid (kP c1 J gc a5 a4 gk O a2 a1 a3 C.1 j (qO C.1 I G) (vT C.1 C.1.length) h (List.replicate (C.1.length*(j.size+1)*12) false) zA 0 false):=g4;clear g4 c5 c2 c4 j2 j3 j4 j5 f8;go_wp2_with fail
   refine(f1.o J gc a5 a4 gk O a2 a1 a3 c1 f2.o).mono ?_;rintro e a0 ⟨rfl,c9,qK,zG,c0,d8⟩;have f5:Hid (a0.heap[w.heap.size+1]?=some bg):=(c9.blk _ i8 (by omega) (by omega)).trans f4.o;have g1:Below w.heap.size w a0:=g0.trans (c9.toBelow (by omega) (by omega) (by omega));have g9:w.heap.size+1<a0.heap.size:=by have:=c9.size;omega
   have f3:Hid (kP a0 J gc a5 a4 gk O a2 a1 a3 C.1 j (qO C.1 I G) (vT C.1 C.1.length) h qK zG c0 F.2):=d8;have l1:J<a0.heap.size:=d8.lt.1;clear c9 d8 f2 f4 g0 f1;unfold uw;cases g7:F.2 with
   | true =>
    have d2:Hid (R=_):=h1.o g7;go_wp2_with (first|(refine qY (by rfl) (.tmp 13) (.tmp 39) (by rfl) a0.heap.size (xZ F.1) (by rfl) (by rfl) (by exact gF _ _) (by rfl) (kH _ b7.o) (bU _) ?_;intro a7 a6 b3 b4 Z;have a9:Hid (Below a0.heap.size a0 a7):=(((lK _ _).alloc (lF _) _).trans (Z _ (lF _)));have i6:a7.cell? ⟨J,8,none⟩=some (.bool F.2):=((zB (f3.o.below a9.o).cell).1 8);have i9:J<a7.heap.size:=(by have:=a9.o.size;omega);have d4:Hid (a7.heap[w.heap.size+1]?=some bg):=((a9.o.block _ g9).trans f5.o);clear a6 b3 b4 Z)|(refine qY (by rfl) (.tmp 8) (.tmp 44) (by rfl) (w.heap.size+1) (xZ yD) (by rfl) (by rfl) (by exact d4.o) (by rfl) (by rfl) (bU _) ?_;intro j1 a6 b3 b4 Z) | fail)
    refine lT (CF rfl (by rfl) a6 (by rfl)) rfl ⟨?_,(g1.trans (a9.o.mono (by omega))).trans (Z _ (by omega))⟩;rw[d2.o];rfl
   | false =>
    have d2:Hid (R=_):=h0.o g7;go_wp2_with (first|(refine qY (by rfl) (.tmp 13) (.tmp 39) (by rfl) a0.heap.size (xZ F.1) (by rfl) (by rfl) (by exact gF _ _) (by rfl) (kH _ b7.o) (bU _) ?_;intro a7 a6 b3 b4 Z;have a9:Hid (Below a0.heap.size a0 a7):=(((lK _ _).alloc (lF _) _).trans (Z _ (lF _)));have i6:a7.cell? ⟨J,8,none⟩=some (.bool F.2):=((zB (f3.o.below a9.o).cell).1 8);have i9:J<a7.heap.size:=(by have:=a9.o.size;omega);have d4:Hid (a7.heap[w.heap.size+1]?=some bg):=((a9.o.block _ g9).trans f5.o);have h3:Hid (a7.heap[a0.heap.size]?=some (.cells (xZ F.1) 29 (0,0))):=(a6);clear a6 b3 b4 Z)|(refine tK (by rfl) (.tmp 13) (by rfl) a0.heap.size (by rfl) (by exact h3.o) (kH _ b7.o) ?_)|(refine qY (by rfl) (.tmp 8) (.tmp 45) (by rfl) (w.heap.size+1) (xZ F.1) (by rfl) (by rfl) (by exact d4.o) (by rfl) (kH _ b7.o) (bU _) ?_;intro j1 a6 b3 b4 Z) | fail)
    refine lT (CF rfl (by rfl) a6 (kH _ b7.o)) rfl ⟨?_,(g1.trans (a9.o.mono (by omega))).trans (Z _ (by omega))⟩;rw[d2.o];rfl
  ·rw[lG (by simpa using e0)];clear c6 c8 d0
   go_in
   go_wp2_with fail
   refine(d3.o _).mono ?_;rintro e w1 ⟨e2,rfl,b2,W⟩;have b5:Hid (w1.heap[w.heap.size]?=some (.cells #[.int .i64 I,.int .i64 G,.int .i64 zA,.int .i64 h] 34 (0,0))):=(W.block _ (by simp;omega)).trans (ny _ _ _);have b0:Hid (w1.heap[w.heap.size+1]?=some bg):=(W.block _ (by simp)).trans (au _ _ _);have b9:=W.size;have d1:w.heap.size+1<w1.heap.size:=by simp at b9;omega
   have b1:Below w.heap.size w w1:=(((lK _ _).alloc (lF _) _).alloc (by simp) _).trans (W.mono (by simp;omega));have U:=(zB b5.o).1;have e3:w1.cell? ⟨w.heap.size,0,none⟩=some (.int .i64 I):=U 0;have e4:w1.cell? ⟨w.heap.size,1,none⟩=some (.int .i64 G):=U 1;have e5:w1.cell? ⟨w.heap.size,2,none⟩=some (.int .i64 zA):=U 2;have e6:w1.cell? ⟨w.heap.size,3,none⟩=some (.int .i64 h):=U 3;have e1:w.heap.size<w1.heap.size:=by omega
   clear W b2 b9 U;go_wp2_with fail
   refine(f6.o _).mono ?_;rintro e Y ⟨rfl,a8⟩;have c2:Hid (Y.heap[w.heap.size+1]?=some bg):=(a8.block _ d1).trans b0.o;have c4:Below w.heap.size w Y:=b1.trans (a8.mono (by omega));clear b5 b0 a8 b1 e3 e4 e5 e6;go_wp2_with (first|(refine qY (by rfl) (.tmp 8) (.tmp 29) (by rfl) (w.heap.size+1) (xZ yD) (by rfl) (by rfl) (by exact c2.o) (by rfl) (by rfl) (bU _) ?_;intro a7 a6 b3 b4 Z) | fail)
   refine lT (CF rfl (by rfl) a6 (by rfl)) rfl ⟨?_,c4.trans (Z _ (by omega))⟩;rfl
 ·rw[lG (by simpa using d9)];clear c6 c8 d0
  go_in
  go_wp2_with fail
  refine(d3.o _).mono ?_;rintro e w1 ⟨e2,rfl,b2,W⟩;have b0:Hid (w1.heap[w.heap.size+1]?=some bg):=(W.block _ (by simp)).trans (au _ _ _);have b1:Below w.heap.size w w1:=(((lK _ _).alloc (lF _) _).alloc (by simp) _).trans (W.mono (by simp;omega));clear W b2;go_wp2_with (first|(refine qY (by rfl) (.tmp 8) (.tmp 21) (by rfl) (w.heap.size+1) (xZ yD) (by rfl) (by rfl) (by exact b0.o) (by rfl) (by rfl) (bU _) ?_;intro a7 a6 b3 b4 Z) | fail)
  refine lT (CF rfl (by rfl) a6 (by rfl)) rfl ⟨?_,b1.trans (Z _ (by omega))⟩;rfl
theorem WS f(h:f.at'.length=20):(xZ f)[0]?=some (.bool f.ok)/\(xZ f)[1]?=some (.int .i64 (f.at'.getD 0 0))/\(xZ f)[2]?=some (.int .i64 (f.at'.getD 1 0))/\(xZ f)[21]?=some (.int .i64 f.steps):=by
 obtain⟨j,G,a3,a4,a5,a6,a7,a8,a9,b0,I,J,O,U,W,Y,Z,a0,a1,a2,e⟩:=GL h;obtain⟨ok,l,b1⟩:=f;dsimp only at e;subst e;exact⟨rfl,rfl,rfl,rfl⟩
