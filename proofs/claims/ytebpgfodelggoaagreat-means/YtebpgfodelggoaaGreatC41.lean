import Derived.Test.YtebpgfodelggoaaGreatC40
set_option linter.all false
set_option maxRecDepth 100000
set_option maxHeartbeats 4000000
namespace Go.Proofs.YtebpgfodelggoaaGreat
open Go.RowKit _root_.Go.Proofs.Tryz Mt
theorem VO{b f a n}(h:yO b 0 0 f a n)(U:f.wf)(O:f.ok):
  (a=-1/\f.both.1.len=0)\/
  ∃(k:Nat) (s:Fs) (r:Option zU) (x:Re),a=k/\k<b.zC.length/\(b.qI k).rep=rp r/\Hr r/\BZ r/\f.both.1.len=(Mt.part r x).len+s.both.1.len/\yO b 0 0 s (b.qI k).next n/\s.wf/\s.ok/\s.zJ.length<f.zJ.length/\
   (((b.qI k).body=-1/\x.len=1)\/∃(t:zU) (i:Fs) (q:Nat),x=iy t i.re/\t.kind=6/\(0<=t.jB/\t.jB<=4)/\i.wf/\i.ok/\i.zJ.length<f.zJ.length/\(b.qI k).tok=jQ t/\(b.qI k).body=q/\q<b.zK.length/\yO b 0 0 i (b.xQ q).first (b.xQ q).next):=by
 cases f with
 | nil=>exact gG ⟨h.1,rfl⟩
 | bar t r=>exact gG ⟨h.1,rfl⟩
 | leaf t r s =>
  obtain⟨k,j,_,G,W,I,Y,J⟩:=h;exact lZ ⟨k,s,r,fV t,j,G,I,U.2.1,O.1,rfl,J,U.2.2,O.2,by simp[Fs.zJ];omega,gG ⟨Y,Ul t⟩⟩
 | Dh t i c r s =>
  obtain⟨k,j,_,G,W,I,Y,⟨q,Z,_,a0,a1⟩,J⟩:=h;obtain⟨w1,a9,a6,a7,a8⟩:=U;obtain⟨a2,a3,a4,a5⟩:=O;exact lZ ⟨k,s,r,iy t i.re,j,G,I,a7,a2,rfl,J,a8,a5,by simp[Fs.zJ];omega,lZ ⟨t,i,q,rfl,w1,a3,a6,a4,by simp[Fs.zJ];omega,W,Z,a0,a1⟩⟩
theorem zCa(S X Y T)(h:lim (S+(X+Y))=T):lim (lim (S+lim X)+Y)=T:=by unfold lim at *;omega
theorem Zl{L}{w}{b}{so}{sc ac}{G}(I:vQ L w b so (some ⟨G,0,none⟩) sc ac)(k)(O:k<b.zC.length):w.rangeAt G (k*20+9) (WC (b.qI k).rep):=by
 obtain⟨U,e,_,_,J⟩:=I.CK k O;simp only[oP,uO,wJ,iE]at e;subst e;intro h v j;by_cases W:h<8
 ·rw[show k*20+9+h=k*20+(9+h) by omega,J (9+h) (by omega)];unfold pU;rw[gL (by simp[WC];omega)];rw[show 9+h-(WC (b.qI k).tok).length=h+1 by simp[WC];omega,gI,gK (by simp[WC];omega)];exact j
 ·rw[gQ (by simp[WC];omega)]at j;simp at j
theorem IU{b}{so ao}{sc ac N}(c5:zDH b so ao sc ac N)(d2:b.zC.length<=1000)(h2:b.zK.length<=1000)(f)(e0:f.wf)(d3:f.ok)(h0:f.zJ.length<=N)(s)(h4:s<b.zK.length)(d7:yO b 0 0 f (b.xQ s).first (b.xQ s).next){L}{w}(a9:vQ L w b so ao sc ac):
  Calls prog 145 #[fU b so ao sc ac,.int .i64 (s)] w λe w'=>e=.returned (.int .i64 (lim f.both.1.len:Nat))/\Below w.heap.size w w':=by
 obtain⟨I,rfl,i7,j4,h9,i0⟩:=a9.xq s h4;have e9:=hid a9;have e2:=hid c5;have a4:=hnd d7 (And.intro e0 d3);have e4:=hid h0;have j1:(s:Int)<(b.zK.length:Int):=by omega
 have f0:Hid (Below w.heap.size w (w.alloc (.cells (bN b (some ⟨I,0,none⟩) ao sc ac) 107))):=(lK _ _).alloc (lF _) _;have a2:bN b (some ⟨I,0,none⟩) ao sc ac=#[.slice (some ⟨I,0,none⟩) b.zK.length sc,.slice ao b.zC.length ac]:=rfl;generalize h1:(b.xQ s).next=n at *
 generalize g8:(b.xQ s).first=f1 at *
 clear a9 c5 d7 e0 d3 h1 g8;unfold fU
 go_in
 go_wp2_with fail
 go_loopg [5,6] f.zJ.length (λc3 h8 at' wr=>∃(g:Fs) (S:Nat) (a:Int),h8=.int .i64 (S:Int)/\at'=.int .i64 a/\S<=301/\g.zJ.length=c3/\c3<=f.zJ.length/\yO b 0 0 g a n/\g.wf/\g.ok/\lim (S+g.both.1.len)=lim f.both.1.len/\wr.heap[w.heap.size]?=some (.cells (bN b (some ⟨I,0,none⟩) ao sc ac) 107 (0,0))/\Below w.heap.size w wr)
 case atStart=>exact⟨f,0,f1,rfl,rfl,by omega,rfl,lF _,a4.o.1,a4.o.2.1,a4.o.2.2,by rw[rO],by exact jP _ _,f0.o⟩
 case round =>
  obtain⟨g,S,a,rfl,rfl,i3,i6,i5,c8,c9,c7,d1,J,a8⟩:=hrel;have b6:=(zB J).1 0;have b7:=(zB J).1 1;rw[a2]at b6 b7;simp only[oI,gI,sG]at b6 b7;have h5:=(lM.1 J).1;have a1:=hnd J a8;have U:=hid (e9.o.below a8);have g7:=VO c8 c9 c7;have O:=hid d1;clear c8 c9 c7 d1 J a8;rcases g7 with ⟨b0,c4⟩ | ⟨k,b1,r,x,b0,Z,d4,d5,a0,d0,d8,d9,d6,j5,e1⟩
  ·have e3:Hid (lim f.both.1.len=S):=by show _=_;rw[<-O.o,c4];unfold lim;omega
   subst b0;clear c4 O;go_wp2_with fail
   go_returns;exact⟨by rw[e3.o];rfl,a1.o.2⟩
  ·subst b0;obtain⟨j,g5,g9,i4,c6⟩:=U.o.CK k Z;subst g5;have c2:=c6 19 (by decide);change wr.cell? ⟨j,k*20+19,none⟩=some (.int .i64 (b.qI k).next)at c2;have e7:Hid (∀a5:World,Below wr.heap.size wr a5->a5.rangeAt j (k*20+9) (WC (rp r))):=λa5 g4=>by rw[<-d4];exact Zl (U.o.below g4) k Z
   have e8:=hid (λo z h3=>IQ o r z h3 a0 d5)
   have b3:Hid (CT 159 #[fU b (some ⟨I,0,none⟩) (some ⟨j,0,none⟩) sc ac,.int .i64 (k:Int)] wr λe w'=>e=.returned (.int .i64 (lim x.len:Nat))/\Below wr.heap.size wr w'):=by
    rcases e1 with ⟨g6,a7⟩ | ⟨t,i,q,a7,f5,f6,f7,f8,i2,f9,g0,g1,f4⟩
    ·have f3:lim x.len=1:=by rw[a7];rfl
     rw[f3];exact Nj U.o k Z d2 g6
    ·rw[a7];exact Qv e2.o U.o k Z d2 h2 t i f5 f6 f7 f8 (by have:=e4.o;omega) f9 q g0 g1 f4
   have e5:Hid (lim (lim (S+lim (rG (lim x.len) r))+b1.both.1.len)=lim f.both.1.len):=by
    show _=_;rw[zAl _ _ a0,<-zAk x r a0];exact zCa S _ _ _ (by rw[<-O.o,d0])
   have a3:=hnd d8 (And.intro d9 d6);have i8:(k:Int)<(b.zC.length:Int):=by omega
   have h6:=BX x.len;have j0:=BX (rG (lim x.len) r);have i9:((k:Int) != -1)=true:=by simp
   clear c6 e1 d0 d8 d9 d6 a0 d5 d4 O;generalize g2:(b.qI k).next=h7 at *
   clear g2;generalize lim x.len=X at *;unfold fU at b3;go_wp2_with fail
   refine b3.o.mono ?_;rintro e b2 ⟨rfl,h⟩;have j2:=h.size;have W:=(h.block _ h5).trans a1.o.1;have b8:=(zB W).1 0;have b9:=(zB W).1 1;rw[a2]at b8 b9;simp only[oI,gI,sG]at b8 b9;have e6:=hid (e7.o b2 h);have b4:=hnd (a1.o.2.trans (h.mono (by omega))) (And.intro h W);have f2:=(h.cell (p:=⟨j,k*20+19,none⟩) g9).trans c2;clear h W;go_wp2_with (refine wpList_load_mid (by rfl) 174 (.tmp 31) (by rfl) j (k*20+9) (by rfl) (WC (rp r)) _ e6.o underlying174 rfl (by rw[qF];rfl) ?_)
   refine(e8.o X b2 h6).mono ?_;rintro e j6 ⟨rfl,G⟩;have j3:=G.size;have Y:=(G.block _ (by omega)).trans b4.o.2.2;have c0:=(zB Y).1 0;have c1:=(zB Y).1 1;rw[a2]at c0 c1;simp only[oI,gI,sG]at c0 c1;have i1:=(G.cell (p:=⟨j,k*20+19,none⟩) (by show j<b2.heap.size;omega)).trans f2;have b5:=hnd (b4.o.1.trans (G.mono (by omega))) Y;clear G Y;generalize lim (rG X r)=a6 at *;have g3:=BX (S+a6);go_wp2_with (go_at_call 119;refine(mO _ (S+a6) (by omega) _).mono ?_;rintro e w' ⟨rfl,rfl⟩)
   go_roundg b1.zJ.length
   case measure=>omega
   case rel=>exact⟨b1,lim (S+a6),h7,rfl,rfl,g3,rfl,by omega,a3.o.1,a3.o.2.1,a3.o.2.2,e5.o,b5.o.2,b5.o.1⟩
def GR(r:Option Fs):Nat:=match r with
 | none=>0
 | some g=>2+g.re.len
theorem WV(f:Fs):f.re.len=f.both.1.len+GR f.rs:=zEb f
theorem zDI(S X R T)(h:lim (S+(2+(X+R)))=T):lim (lim (S+2+lim X)+R)=T:=by unfold lim at *;omega
def Qw(b:PB)(r:Option Fs)(a:Int):Prop:=match r with
 | none=>a=-1
 | some g=>∃k:Nat,a=k/\k<b.zK.length/\yO b 0 0 g (b.xQ k).first (b.xQ k).next/\g.wf/\g.ok
def Zm(r:Option Fs):Nat:=match r with
 | none=>0
 | some g=>g.zJ.length+1
theorem Ml{b f a n}(j:yO b 0 0 f a n)(O:f.wf)(J:f.ok):Qw b f.rs n/\Zm f.rs<=f.zJ.length:=by
 rcases Ep f a n j with ⟨e,h⟩ | ⟨r,k,e,h,G,I⟩
 ·rw[e];exact⟨h,gD _⟩
 ·have:=Km f r e;rw[e];exact⟨⟨k,h,G,I,this.2.1 O,this.2.2 J⟩,this.1⟩
theorem DZ{b}{so ao}{sc ac N}(c7:zDH b so ao sc ac N)(f1:b.zC.length<=1000)(f2:b.zK.length<=1000)(f)(b4:f.wf)(b1:f.ok)(b0:f.zJ.length<=N)(s)(d2:s<b.zK.length)(b3:yO b 0 0 f (b.xQ s).first (b.xQ s).next){L}{w}(Z:vQ L w b so ao sc ac):
  Calls prog 118 #[fU b so ao sc ac,.int .i64 (s)] w λe w'=>e=.returned (.int .i64 (lim f.re.len:Nat))/\Below w.heap.size w w':=by
 have b9:Hid (∀(g:Fs) (k:Nat) (I:World),g.wf->g.ok->g.zJ.length<=N->k<b.zK.length->yO b 0 0 g (b.xQ k).first (b.xQ k).next->vQ L I b so ao sc ac->CT 145 #[fU b so ao sc ac,.int .i64 (k:Int)] I λe w'=>e=.returned (.int .i64 (lim g.both.1.len:Nat))/\Below I.heap.size I w'):=λg k I d9 e0 e1 e2 e3 e4=>IU c7 f1 f2 g d9 e0 e1 k e2 e3 e4
 obtain⟨h,rfl,e9,g7,f7,d8⟩:=Z.xq s d2;have c2:Hid (Below w.heap.size w (w.alloc (.cells (bN b (some ⟨h,0,none⟩) ao sc ac) 107))):=(lK _ _).alloc (lF _) _;have c1:Hid (vQ L w b (some ⟨h,0,none⟩) ao sc ac):=Z;have a2:Hid (CT 145 #[fU b (some ⟨h,0,none⟩) ao sc ac,.int .i64 (s:Int)] (w.alloc (.cells (bN b (some ⟨h,0,none⟩) ao sc ac) 107)) _):=b9.o f s _ b4 b1 b0 d2 b3 (Z.below c2.o);have c0:=hid (Ml b3 b4 b1);have d7:=hid (WV f);have d4:Hid (f.zJ.length<=N):=b0;have g6:(s:Int)<(b.zK.length:Int):=by omega
 have a3:bN b (some ⟨h,0,none⟩) ao sc ac=#[.slice (some ⟨h,0,none⟩) b.zK.length sc,.slice ao b.zC.length ac]:=rfl;have e7:=BX f.both.1.len;have d5:Hid (lim (lim f.both.1.len+GR f.rs)=lim f.re.len):=by show _=_;rw[d7.o];unfold lim;omega
 generalize f0:(b.xQ s).next=n at *
 clear Z c7 b3 b4 b1 f0 b0;generalize f.rs=b5 at *;generalize lim f.both.1.len=X at *;generalize lim f.re.len=F at *;unfold fU;unfold fU bN at a2
 go_in
 go_wp2_with fail
 refine a2.o.mono ?_;rintro e w1 ⟨rfl,a6⟩;have j:w1.heap[w.heap.size]?=some (.cells (bN b (some ⟨h,0,none⟩) ao sc ac) 107 (0,0)):=(a6.block _ (by simp)).trans (jP _ _);have O:=(zB j).1 0;have U:=(zB j).1 1;rw[a3]at O U;simp only[oI,gI,sG]at O U;have a1:=hnd j (c2.o.trans (a6.mono (by simp)));have f8:=(a1.o.2.cell (p:=⟨h,s*2+1,none⟩) e9).trans d8;have g9:=(lM.1 j).1;clear a6 j a2;go_wp2_with fail
 go_loopg [5,6] (Zm b5) (λc6 f6 at' wr=>∃(r:Option Fs) (S:Nat) (a:Int),f6=.int .i64 (S:Int)/\at'=.int .i64 a/\S<=301/\Zm r=c6/\c6<=Zm b5/\Qw b r a/\lim (S+GR r)=F/\wr.heap[w.heap.size]?=some (.cells (bN b (some ⟨h,0,none⟩) ao sc ac) 107 (0,0))/\Below w.heap.size w wr)
 case atStart=>exact⟨b5,X,n,rfl,rfl,e7,rfl,lF _,c0.o.1,d5.o,a1.o.1,a1.o.2⟩
 case round =>
  obtain⟨r,S,a,rfl,rfl,g1,c9,g2,b2,d1,j,c8⟩:=hrel;have O:=(zB j).1 0;have U:=(zB j).1 1;rw[a3]at O U;simp only[oI,gI,sG]at O U;have f3:=(lM.1 j).1;have G:Hid (wr.heap[w.heap.size]?=some (.cells (bN b (some ⟨h,0,none⟩) ao sc ac) 107 (0,0))/\Below w.heap.size w wr):=⟨j,c8⟩
  have W:Hid (lim (S+GR r)=F):=d1;clear d1 j c8;cases r with
  | none =>
   have e8:a=-1:=b2;have d3:Hid (F=S):=by show _=_;rw[<-W.o];show lim (S+0)=S;unfold lim;omega
   subst e8;clear W b2;go_wp2_with fail
   go_returns;exact⟨by rw[d3.o];rfl,G.o.2⟩
  | some g =>
   obtain⟨k,rfl,d0,a8,a9,a7⟩:=b2;have g3:g.zJ.length+1=gk:=c9;have g8:=c0.o.2;have b7:Hid (CT 145 #[fU b (some ⟨h,0,none⟩) ao sc ac,.int .i64 (k:Int)] wr _):=b9.o g k wr a9 a7 (by have:=d4.o;omega) d0 a8 (c1.o.below G.o.2);obtain⟨g0,c5,_,_,_,f4⟩:=(c1.o.below G.o.2).xq k d0;simp only[oP,uO,wJ,iE]at c5;subst c5;have b8:=Ml a8 a9 a7;have a4:Hid (Qw b g.rs (b.xQ k).next/\Zm g.rs<=g.zJ.length):=b8
   have d6:Hid (lim (lim (S+2+lim g.both.1.len)+GR g.rs)=F):=by
    show _=_;apply zDI;rw[<-W.o];show lim _=lim (S+(2+g.re.len));rw[WV g]
   have g4:(k:Int)<(b.zK.length:Int):=by omega
   have g5:((k:Int) != -1)=true:=by simp
   have h1:=BX g.both.1.len;clear b8 a8 a9 a7 W c9;generalize e5:(b.xQ k).next=f5 at *
   clear e5;generalize lim g.both.1.len=a5 at *;unfold fU at b7;go_wp2_with fail
   refine b7.o.mono ?_;rintro e a0 ⟨rfl,Y⟩;have J:a0.heap[w.heap.size]?=some (.cells (bN b (some ⟨h,0,none⟩) ao sc ac) 107 (0,0)):=(Y.block _ f3).trans G.o.1;have c3:=(zB J).1 0;have c4:=(zB J).1 1;rw[a3]at c3 c4;simp only[oI,gI,sG]at c3 c4;have f9:=(Y.cell (p:=⟨h,k*2+1,none⟩) (by show h<wr.heap.size;omega)).trans f4;have b6:Hid (a0.heap[w.heap.size]?=some (.cells (bN b (some ⟨h,0,none⟩) ao sc ac) 107 (0,0))/\Below w.heap.size w a0):=⟨J,G.o.2.trans (Y.mono (by omega))⟩
   have h0:w.heap.size<a0.heap.size:=(lM.1 J).1;clear Y J;have e6:=BX (S+2+a5);go_wp2_with (go_at_call 119;refine(mO _ (S+2+a5) (by omega) _).mono ?_;rintro e w' ⟨rfl,rfl⟩)
   go_roundg (Zm g.rs)
   case measure=>have:=a4.o.2;omega
   case rel=>exact⟨g.rs,lim (S+2+a5),f5,rfl,rfl,e6,rfl,by have:=a4.o.2;omega,a4.o.1,d6.o,b6.o.1,b6.o.2⟩
theorem Tj{b so ao sc ac}(h:b.zC.length<=1000)(j:b.zK.length<=1000):∀N,zDH b so ao sc ac N
 | 0=>λf _ _ G=>by omega
 | N+1=>λf W J G s O U L w I=>DZ (Tj h j N) h j f W J (by omega) s O U I
theorem zCb{b}{so ao}{sc ac}(Y:b.zC.length<=1000)(Z:b.zK.length<=1000)(f)(O:f.wf)(I:f.ok)(a0:0<b.zK.length)(J:yO b 0 0 f (b.xQ 0).first (b.xQ 0).next){L}{w}(G:vQ L w b so ao sc ac):
  Calls prog 90 #[fU b so ao sc ac] w λe w'=>e=.returned (.int .i64 (lim (f.re.len+1):Nat))/\Below w.heap.size w w':=by
 have h:Hid (CT 118 #[fU b so ao sc ac,.int .i64 ((0:Nat):Int)] (w.alloc (.cells (bN b so ao sc ac) 107)) _):=Tj Y Z (f.zJ.length+1) f O I (by omega) 0 a0 J L _ (G.below ((lK _ _).alloc (lF _) _));have W:Hid (lim (f.re.len+1)=lim (lim f.re.len+1)):=by show _=_;unfold lim;omega
 rw[W.o];have a1:=BX f.re.len;generalize lim f.re.len=F at *;clear G J O I;unfold fU;unfold fU bN at h
 go_in
 go_wp2_with fail
 refine h.o.mono ?_;rintro e w1 ⟨rfl,j⟩;have U:=hid (((lK _ _).alloc (lF _) _).trans (j.mono (by simp)));clear j;go_wp2_with (go_at_call 119;refine(mO _ (F+1) (by omega) _).mono ?_;rintro e w' ⟨rfl,rfl⟩)
 go_returns;exact⟨rfl,U.o⟩
def Reads(p:BA)(w:World)(e:Ending)(w':World):Prop:=
 ((qW p).1≠0->e=.returned (.tuple #[.agg #[.slice none 0 0,.slice none 0 0],.int .i64 (qW p).1,.int .i64 (qW p).2]))/\
 ((qW p).1=0->∃so ao sc ac,e=.returned (.tuple #[fU (PB.start.run (zP p).1) so ao sc ac,.int .i64 0,.int .i64 0])/\vQ w.heap.size w' (PB.start.run (zP p).1) so ao sc ac)/\Below w.heap.size w w'
theorem OL{p}{w w'}{e}{E k}(h:qW p=(E,k))(G:E≠0)(J:e=.returned (.tuple #[.agg #[.slice none 0 0,.slice none 0 0],.int .i64 E,.int .i64 k]))(I:Below w.heap.size w w'):Reads p w e w':=by
 refine⟨λ_=>by rw[h];exact J,λj=>?_,I⟩;rw[h]at j;exact absurd j G
theorem vQ.lower{L h w b so ao sc ac}(G:vQ L w b so ao sc ac)(a3:h<=L):vQ h w b so ao sc ac:=by
 have J:∀(o:Option Addr) (n c:Nat) (e:TypeId) (j:Nat) (xs:List Value),w.ownsRow L e j (.slice o n c) n xs->w.ownsRow h e j (.slice o n c) n xs:=by
  intro o n c e j xs I;refine⟨I.1,?_⟩;rcases I.2 with Y | ⟨W,O,U,a0,a2,Z,a1⟩
  ·exact .inl Y
  ·exact .inr ⟨W,O,U,a0,by omega,Z,a1⟩
 exact⟨J _ _ _ _ _ _ G.zK,J _ _ _ _ _ _ G.zC⟩
theorem vQ.keep{L B:Nat}{w w' b so ao sc ac}(h:vQ L w b so ao sc ac)(G:∀q,L<=q->q<w.heap.size->w'.heap[q]?=w.heap[q]?):vQ L w' b so ao sc ac:=
 ⟨zR h.zK (λq j=>G q (lY h.zK q (by rw[jC];exact j)).1 (lY h.zK q (by rw[jC];exact j)).2),zR h.zC (λq j=>G q (lY h.zC q (by rw[jC];exact j)).1 (lY h.zC q (by rw[jC];exact j)).2)⟩
theorem zCc(p:BA) w(d4:p.size<=maxLen):Calls prog 55 #[.string p] w (Reads p w):=by
 have W:=Zk p (w.alloc (.cells CJ 107)) d4;have d7:(w.alloc (.cells CJ 107)).heap.size=w.heap.size+1:=by simp
 unfold Builds at W;rw[d7]at W;by_cases I:(zP p).2.1=0
 ·obtain⟨f,c5,c3,d3,c4,d5,d9,e1,b5,d2⟩:=zAo p I;have Z:=hid W;have c8:Hid (∀(so ao:Option Addr) (sc ac L:Nat) (a0:World),vQ L a0 (PB.start.run (zP p).1) so ao sc ac->CT 90 #[fU (PB.start.run (zP p).1) so ao sc ac] a0 λe w'=>e=.returned (.int .i64 (lim (f.re.len+1):Nat))/\Below a0.heap.size a0 w'):=λso ao sc ac L a0 a9=>zCb (by omega) (by omega) f c5 c3 d5 c4 a9
  have a2:qW p=if 300<f.re.len+1 then(12,0)else(0,0):=by
   unfold qW;rw[lC (by omega)];by_cases x:300<f.re.len+1
   ·rw[lG x,lG (b5.2 x)]
   ·rw[lC x,lC (λy=>x (b5.1 y))]
  have a8:=hid a2;have a7:=hid I;have e0:=BX (f.re.len+1)
  have b9:Hid (300<f.re.len+1↔300<lim (f.re.len+1)):=by
   show _↔_;unfold lim;omega
  clear W b5 d2 c4 c5 c3 d3 a2 I;generalize c2:PB.start.run (zP p).1=b at *;have b8:=hid c2;clear c2;generalize lim (f.re.len+1)=F at *
  go_in
  go_wp2_with fail
  refine Z.o.mono ?_;rintro e w1 ⟨_,a3,J⟩;obtain⟨so,ao,sc,ac,rfl,a9⟩:=a3 a7.o;have O:=(J.block _ (by omega)).trans (jP _ _);have h:=hnd (((lK _ _).alloc (lF _) _).trans (J.mono (by omega))) (And.intro O (And.intro a9 ((lM.1 O).1)));clear J a3 a9 O Z;unfold fU;go_wp2_with (first|(refine zN 107 2 bB (by rfl) (.tmp 5) (.tmp 11) (by rfl) w1.heap.size (bN b so ao sc ac) (by rfl) (by rfl) (by exact jP _ _) (by rfl) (by rfl) (by simp[bN,Value.oneCell']) ?_;intro j Y b2 b7 a6)|(refine kY 107 2 underlying107 rfl bB (by rfl) (.tmp 5) (by rfl) w1.heap.size (by rfl) Y (by rfl) ?_))
  have b0:=((lK _ _).alloc (lF _) _).trans (a6 _ (lF _));have G:Hid (Below w.heap.size w j/\j.heap[w.heap.size]?=some (.cells CJ 107 (0,0))/\vQ (w.heap.size+1) j b so ao sc ac/\j.heap[w1.heap.size]?=some (.cells (bN b so ao sc ac) 107 (0,0))/\w1.heap.size<j.heap.size):=⟨h.o.1.trans (b0.mono (by have:=h.o.2.2.2;omega)),(b0.block _ h.o.2.2.2).trans h.o.2.1,h.o.2.2.1.below b0,Y,(lM.1 Y).1⟩
  clear Y b2 b7 a6 b0;have c0:=c8.o so ao sc ac _ j G.o.2.2.1;refine c0.mono ?_;clear c0;rintro e b3 ⟨rfl,a1⟩;have U:Hid (Below w.heap.size w b3/\b3.heap[w.heap.size]?=some (.cells CJ 107 (0,0))/\vQ (w.heap.size+1) b3 b so ao sc ac/\b3.heap[w1.heap.size]?=some (.cells (bN b so ao sc ac) 107 (0,0))):=⟨G.o.1.trans (a1.mono (by have:=G.o.2.2.2.2;have:=h.o.2.2.2;omega)),(a1.block _ (by have:=G.o.2.2.2.2;have:=h.o.2.2.2;omega)).trans G.o.2.1,G.o.2.2.1.below a1,(a1.block _ G.o.2.2.2.2).trans G.o.2.2.2.1⟩
  clear a1;by_cases b1:300<F
  ·have b4:Hid (qW p=(12,0)):=by show _=_;rw[a8.o,lG (b9.o.2 b1)]
   have c9:decide (300<(F:Int))=true:=by simp;omega
   have d0:decide (300<F)=true:=by simpa using b1
   go_wp2_with (refine zN 107 2 bB (by rfl) (.tmp 2) (.tmp 22) (by rfl) w.heap.size CJ (by rfl) (by rfl) U.o.2.1 (by rfl) (by rfl) Ag ?_;intro c7 a4 b6 c6 a5)
   refine lT (Af 107 2 underlying107 rfl bB rfl (by rfl) a4 (by rfl)) rfl ?_;exact OL b4.o (by decide) rfl (U.o.1.trans (a5 _ (lF _)))
  ·have b4:Hid (qW p=(0,0)):=by show _=_;rw[a8.o,lC (λx=>b1 (b9.o.1 x))]
   have c9:decide (300<(F:Int))=false:=by simp;omega
   have d0:decide (300<F)=false:=by simpa using b1
   have d8:Hid (w1.heap.size≠w.heap.size):=by have:=h.o.2.2.2;show _≠_;omega
   go_wp2_with (first|(refine kY 107 2 underlying107 rfl bB (by rfl) (.tmp 5) (by rfl) w1.heap.size (by rfl) U.o.2.2.2 (by rfl) ?_)|(refine zN 107 2 bB (by rfl) (.tmp 2) (.tmp 23) (by rfl) w.heap.size (bN b so ao sc ac) (by rfl) (by rfl) U.o.2.1 (by rfl) (by rfl) (by simp[bN,Value.oneCell']) ?_;intro c7 a4 b6 c6 a5))
   refine lT (Af 107 2 underlying107 rfl bB rfl (by rfl) a4 (by rfl)) rfl ?_;refine⟨λd1=>absurd (by rw[b4.o]) d1,λ_=>⟨so,ao,sc,ac,by rw[b8.o];rfl,?_⟩,U.o.1.trans (a5 _ (lF _))⟩;rw[b8.o];exact(vQ.keep (B:=0) U.o.2.2.1 (λq e2 _=>b6 q (by omega))).lower (by omega)
 ·have a2:qW p=((zP p).2.1,(zP p).2.2):=by unfold qW;rw[lG I]
  have a8:=hid a2;have Z:=hid W;have e3:((zP p).2.1 != 0)=true:=by simpa using I
  have a7:=hid I;clear W a2 I;generalize (zP p).2.1=E at *;generalize (zP p).2.2=K at *
  go_in
  go_wp2_with fail
  refine Z.o.mono ?_;rintro e w1 ⟨a3,_,J⟩;obtain rfl:=a3 a7.o;have O:=(J.block _ (by omega)).trans (jP _ _);have d6:=(lM.1 O).1;have h:=hnd (((lK _ _).alloc (lF _) _).trans (J.mono (by omega))) O;clear J a3 O Z;go_wp2_with (first|(refine zN 107 2 bB (by rfl) (.tmp 5) (.tmp 11) (by rfl) w1.heap.size CJ (by rfl) (by rfl) (by exact jP _ _) (by rfl) (by rfl) Ag ?_;intro j Y b2 b7 a6;have c1:Hid (Below w.heap.size w j/\j.heap[w.heap.size]?=some (.cells CJ 107 (0,0))):=⟨(h.o.1.alloc (by omega) _).trans (a6 _ (by omega)),(b2 _ (by omega)).trans ((kQ _ _ _ d6).trans h.o.2)⟩;clear Y b2 b7 a6)|(refine zN 107 2 bB (by rfl) (.tmp 2) (.tmp 16) (by rfl) w.heap.size CJ (by rfl) (by rfl) c1.o.2 (by rfl) (by rfl) Ag ?_;intro c7 a4 b6 c6 a5))
  refine lT (Af 107 2 underlying107 rfl bB rfl (by rfl) a4 (by rfl)) rfl ?_;exact OL a8.o a7.o rfl (c1.o.1.trans (a5 _ (lF _)))
def qQ(i:zT):Array Value:=#[.int .i64 i.op,.int .i64 i.x,.int .i64 i.y,.string ⟨i.set.toArray⟩]
theorem uy i:(qQ i).all (·.oneCell')=true:=by simp[qQ,Value.oneCell']
theorem Mq i:(jE i).length=4:=rfl
theorem bZ:(prog.info? 112).map (·.size)=some 4:=by kernel_rfl
theorem zDJ:(prog.info? 112).map (λi=>(i.zero,i.size,i.bytes))=some (some (.agg (qQ kC)),4,40):=by kernel_rfl
structure za (L:Nat) (w:World) (g:Nat) (b:PB) (so ao:Option Addr) (sc ac:Nat) (co:Option Addr) (cc:Nat) (c:List zT) (d:Int):Prop where
 cell:w.heap[g]?=some (.cells #[.slice so b.zK.length sc,.slice ao b.zC.length ac,.slice co c.length cc,.int .i64 d] 144 (0,0))
 lo:L<=g
 tree:vQ 0 w b so ao sc ac
 code:w.ownsRow L 112 4 (.slice co c.length cc) c.length (c.flatMap jE)
 ap:blk co≠some g/\blk so≠some g/\blk ao≠some g/\(∀q,blk co=some q->blk so≠some q/\blk ao≠some q)
structure vL (g:Nat) (co ZG:Option Addr) (w w':World):Prop where
 os:w'.os=w.os
 tape:w'.tape=w.tape
 output:w'.output=w.output
 size:w.heap.size<=w'.heap.size
 block:∀k,k<w.heap.size->k≠g->blk co≠some k->w'.heap[k]?=w.heap[k]?
 sub:∀k,k<w.heap.size->blk ZG=some k->blk co=some k
theorem vL.refl g co w:vL g co co w w:=⟨rfl,rfl,rfl,lF _,λ_ _ _ _=>rfl,λ_ _ h=>h⟩
theorem vL.trans{g co G I a b c}(h:vL g co G a b)(k:vL g G I b c):vL g co I a c:=
 ⟨k.os.trans h.os,k.tape.trans h.tape,k.output.trans h.output,gX h.size k.size,
 λi j J O=>(k.block i (rF j h.size) J (λe=>O (h.sub i j e))).trans (h.block i j J O),λi j U=>h.sub i j (k.sub i (rF j h.size) U)⟩
theorem vL.below{g co a b}(h:Below a.heap.size a b):vL g co co a b:=⟨h.os,h.tape,h.output,h.size,λi j _ _=>h.block i j,λ_ _ h=>h⟩
theorem vL.drew{g co h a w}(j:vL g co h a w):vL g co h a w.drew:=j.trans (vL.below (lK _ _).drew)
theorem vL.set{g co j a w}(G:vL g co j a w){p}(h:p.block=g\/blk j=some p.block) u:vL g co j a (w.setCell p u):=
 G.trans ⟨rfl,rfl,rfl,by simp[World.setCell],λi O I J=>lS _ _ _ _ (λe=>by rcases h with h | h;exact I (by rw[e,h]);exact J (by rw[e,h])),λ_ _ G=>G⟩
theorem vL.setMany{g co G a w}(I:vL g co G a w) q o h(j:q=g\/blk G=some q):vL g co G a (w.setCells q o h):=
 I.trans ⟨(below_setCells q h o w 0 (gD _)).1.os,(below_setCells q h o w 0 (gD _)).1.tape,(below_setCells q h o w 0 (gD _)).1.output,aB (below_setCells q h o w 0 (gD _)).2.symm,λi U J O=>vG q h o w i (λe=>by rcases j with j | j;exact J (by rw[e,j]);exact O (by rw[e,j])),λ_ _ I=>I⟩
section
variable {L:Nat} {w:World} {g:Nat} {b:PB} {so ao:Option Addr} {sc ac:Nat} {co:Option Addr} {cc:Nat} {c:List zT} {d:Int}
theorem za.lt(j:za L w g b so ao sc ac co cc c d):g<w.heap.size/\(∀k,blk co=some k->L<=k/\k<w.heap.size)/\(∀k,blk so=some k->k<w.heap.size)/\(∀k,blk ao=some k->k<w.heap.size):=
 ⟨(lM.1 j.cell).1,λk h=>lY j.code k (by rw[jC];exact h),λk h=>(lY j.tree.zK k (by rw[jC];exact h)).2,λk h=>(lY j.tree.zC k (by rw[jC];exact h)).2⟩
theorem za.below{w'}(h:za L w g b so ao sc ac co cc c d)(j:Below w.heap.size w w'):za L w' g b so ao sc ac co cc c d:=
 ⟨by rw[j.block _ h.lt.1];exact h.cell,h.lo,h.tree.below j,zR h.code (λq G=>j.block q (h.lt.2.1 q G).2),h.ap⟩
theorem za.drew(h:za L w g b so ao sc ac co cc c d):za L w.drew g b so ao sc ac co cc c d:=⟨h.cell,h.lo,⟨zR h.tree.zK (λ_ _=>rfl),zR h.tree.zC (λ_ _=>rfl)⟩,zR h.code (λ_ _=>rfl),h.ap⟩
theorem vL.low{G w'}(j:za L w g b so ao sc ac co cc c d)(h:vL g co G w w')(I:L<=w.heap.size):Below L w w':=
 ⟨h.os,h.tape,h.output,h.size,λk J=>h.block k (by omega) (λe=>by have:=j.lo;omega) (λe=>by have:=(j.lt.2.1 k e).1;omega)⟩
theorem za.cells(j:za L w g b so ao sc ac co cc c d):w.cell? ⟨g,0,none⟩=some (.slice so b.zK.length sc)/\w.cell? ⟨g,1,none⟩=some (.slice ao b.zC.length ac)/\w.cell? ⟨g,2,none⟩=some (.slice co c.length cc)/\w.cell? ⟨g,3,none⟩=some (.int .i64 d)/\(∀k,w.frozen? ⟨g,k,none⟩=false):=by
 have h:=zB j.cell;exact⟨h.1 0,h.1 1,h.1 2,h.1 3,h.2⟩
theorem za.form(j:za L w g b so ao sc ac co cc c d)(J:0<c.length):∃gc,co=some ⟨gc,0,none⟩/\gc≠g/\gc<w.heap.size/\c.length<=cc:=by
 obtain⟨G,cap,h,_,I⟩:=World.ownsRow.form j.code J;simp only[oD]at h;obtain⟨rfl,_,rfl⟩:=h;rcases j.code.2 with ⟨e,_⟩ | ⟨W,O,U,h,_,_,Y,_⟩
 ·simp at e
 ·simp only[oD]at h;exact⟨G,rfl,λe=>j.ap.1 (by rw[uo,e]),I,by omega⟩
theorem za.Kw{gc}(h:za L w g b so ao sc ac (some ⟨gc,0,none⟩) cc c d)(i G)(j)(J)(W:i<c.length)(Y:G+j.length<=4)(U:jE J=setMany (jE (c.getD i kC)) G j):
  za L (w.setCells gc (i*4+G) j) g b so ao sc ac (some ⟨gc,0,none⟩) cc (c.set i J) d:=by
 have o:∀k,k≠gc->(w.setCells gc (i*4+G) j).heap[k]?=w.heap[k]?:=λk I=>vG gc j _ w k I
 have Z:gc≠g:=λe=>h.ap.1 (by rw[uo,e])
 refine⟨?_,h.lo,⟨zR h.tree.zK (λk I=>o k (λe=>(h.ap.2.2.2 gc rfl).1 (by rw[<-e];exact I))),zR h.tree.zC (λk I=>o k (λe=>(h.ap.2.2.2 gc rfl).2 (by rw[<-e];exact I)))⟩,?_,h.ap⟩
 ·rw[o g (iB Z),gY];exact h.cell
 ·have r:=Cm j (i*4+G) w _ h.code;rw[Gp jE 4 Mq c i G j J W Y (λa O=>by rw[U,lH,O];rfl)]at r;simpa using r
theorem za.Tk(h:za L w g b so ao sc ac co cc c d) G:za L (w.setCell ⟨g,3,none⟩ (.int .i64 G)) g b so ao sc ac co cc c G:=by
 have o:∀k,k≠g->(w.setCell ⟨g,3,none⟩ (.int .i64 G)).heap[k]?=w.heap[k]?:=λk j=>lS _ _ _ _ j
 refine⟨?_,h.lo,⟨zR h.tree.zK (λk j=>o k (λe=>h.ap.2.1 (by rw[<-e];exact j))),zR h.tree.zC (λk j=>o k (λe=>h.ap.2.2.1 (by rw[<-e];exact j)))⟩,zR h.code (λk j=>o k (λe=>h.ap.1 (by rw[<-e];exact j))),h.ap⟩;have:=lX w g 3 _ _ (.int .i64 G) h.cell;rw[this];rfl
theorem put_mem{w0 w1}{q cap}{x}(j:za L w g b so ao sc ac co cc c d)(G:Below w.heap.size w w0)(b0:w.heap.size<w0.heap.size)(I:w0.grownBy w1 (blk co))(J:blk co=some q\/q=w0.heap.size)
  (a4:w1.ownsRow L 112 4 (.slice (some ⟨q,0,none⟩) (c.length+1) cap) (c.length+1) (c.flatMap jE++jE x)):
  za L (w1.setCell ⟨g,2,none⟩ (.slice (some ⟨q,0,none⟩) (c.length+1) cap)) g b so ao sc ac (some ⟨q,0,none⟩) cap (c++[x]) d/\vL g co (some ⟨q,0,none⟩) w (w1.setCell ⟨g,2,none⟩ (.slice (some ⟨q,0,none⟩) (c.length+1) cap)):=by
 obtain⟨a6,b1,Y,W⟩:=j.lt
 have n:q≠g/\blk so≠some q/\blk ao≠some q:=by
  rcases J with e | e
  ·exact⟨λx=>j.ap.1 (by rw[e,x]),(j.ap.2.2.2 q e).1,(j.ap.2.2.2 q e).2⟩
  ·subst e;exact⟨by omega,λe=>by have:=Y _ e;omega,λe=>by have:=W _ e;omega⟩
 obtain⟨a7,a8,a9⟩:=n;have O:∀k,k<w.heap.size->blk co≠some k->w1.heap[k]?=w.heap[k]?:=λk h a5=>by rw[I.block k (by have:=G.size;omega) (λe=>a5 e.symm),G.block k h]
 have o:∀k,k≠g->(w1.setCell ⟨g,2,none⟩ (.slice (some ⟨q,0,none⟩) (c.length+1) cap)).heap[k]?=w1.heap[k]?:=λk h=>lS _ _ _ _ h
 refine⟨⟨?_,j.lo,⟨?_,?_⟩,?_,λe=>a7 (by simpa[blk]using e),j.ap.2.1,j.ap.2.2.1,λk h=>by simp[blk]at h;subst h;exact⟨a8,a9⟩⟩,?_⟩
 ·have a3:=lX w1 g 2 _ _ (.slice (some ⟨q,0,none⟩) (c.length+1) cap) (by rw[O g a6 j.ap.1];exact j.cell);rw[a3];simp
 ·exact zR j.tree.zK (λk h=>by rw[o k (λe=>j.ap.2.1 (by rw[<-e];exact h)),O k (Y k h) (λe=>(j.ap.2.2.2 k e).1 h)])
 ·exact zR j.tree.zC (λk h=>by rw[o k (λe=>j.ap.2.2.1 (by rw[<-e];exact h)),O k (W k h) (λe=>(j.ap.2.2.2 k e).2 h)])
 ·have Z:(c++[x]).length=c.length+1:=by simp
  have a0:(c++[x]).flatMap jE=c.flatMap jE++jE x:=by simp
  rw[Z,a0];exact zR a4 (λk h=>o k (by simp[blk]at h;omega))
 ·refine⟨I.os.trans G.os,I.tape.trans G.tape,I.output.trans G.output,?_,λk h a1 a2=>?_,λk h U=>?_⟩
  ·have:=I.size;have:=G.size;simp[World.setCell];omega
  ·rw[o k a1,O k h a2]
  ·simp[blk]at U;subst U;rcases J with J | J
   ·exact J
   ·omega
end
theorem Tn x{h:TypeInfo}(j:h.size=4):Instr.fill (λi=>some (i*h.size,h.size)) ((Array.range (1*h.size)).map ((Value.agg (qQ kC)).cells[· % (Value.agg (qQ kC)).cells.size]!)) [(0,.agg (qQ x))]=some (qQ x):=by
 rw[j];unfold qQ;kernel_rfl
theorem Zn{L}{w w1}{g}{b}{so ao}{sc ac}{co}{cc}{c}{d}{T E}{G U}{n k}(h:za L w g b so ao sc ac co cc c d)(j:(((w.alloc (.cells T G)).drew).alloc (.cells E U)).grownBy w1 (Value.slice co n k).ownBlock):
  w1.heap[w.heap.size]?=some (.cells T G (0,0))/\(∀o,w1.cell? ⟨g,o,none⟩=w.cell? ⟨g,o,none⟩)/\(∀o,w1.frozen? ⟨g,o,none⟩=w.frozen? ⟨g,o,none⟩):=by
 rw[jC]at j;have O:=h.lt.1
 have J:w1.heap[w.heap.size]?=some (.cells T G (0,0)):=by
  rw[j.block _ (by simp;omega) (λe=>by have:=(h.lt.2.1 _ e.symm).2;omega),kQ _ _ _ (by simp)];exact gF _ _
 have I:w1.heap[g]?=w.heap[g]?:=by
  rw[j.block _ (by simp;omega) (λe=>h.ap.1 e.symm),kQ _ _ _ (by simp;omega)];exact kQ _ _ _ O
 exact⟨J,λo=>gH (a:=⟨g,o,none⟩) I,λo=>rC (a:=⟨g,o,none⟩) I⟩
theorem mI{L w g b so ao sc ac co cc c d} x(h:za L w g b so ao sc ac co cc c d)(d2:c.length<=1000000):
  Calls prog 93 #[.pointer (some ⟨g,0,none⟩),.agg (qQ x)] w λe w'=>e=.returned (.int .i64 c.length)/\∃q cap,za L w' g b so ao sc ac (some ⟨q,0,none⟩) cap (c++[x]) d/\vL g co (some ⟨q,0,none⟩) w w':=by
 obtain⟨a1,Y,a0,I,c3⟩:=sK zDJ;have a4:=hid h;obtain⟨c6,c7,a6,c8,b1⟩:=h.cells;have b9:=b1 2;have c1:=h.lt.1;have d1:L<=w.heap.size:=by have:=h.lo;omega
 have b6:=hid h.code;clear h b1
 go_in
 go_upto_region 2 with fail
 go_cut [] (λb5=>∃q cap,za L b5 g b so ao sc ac (some ⟨q,0,none⟩) cap (c++[x]) d/\vL g co (some ⟨q,0,none⟩) w b5)
 case first =>
  have G:∀z:World,z.heap[w.heap.size]?=some (.cells (qQ x) 112 (0,0))->z.rangeAt w.heap.size 0 (qQ x).toList:=λz hz=>yE hz
  have S0:(w.alloc (.cells (qQ x) 112)).heap[w.heap.size]?=some (.cells (qQ x) 112 (0,0)):=gF _ _;have c4:(w.alloc (.cells (qQ x) 112)).cell? ⟨g,2,none⟩=some (.slice co c.length cc):=by rw[gH (a:=⟨g,2,none⟩) (kQ w _ g c1)];exact a6
  refine wp_region_held_drew (S:=λz:World=>z.heap[w.heap.size]?=some (.cells (qQ x) 112 (0,0))) (by kernel_rfl) S0 (λJ=>?_);refine qJ 0 11 (.pointer (some ⟨g,0,none⟩)) rfl (by kernel_rfl) (λ_ _ _ h=>h) (λz hz=>by clear J hz G S0;go_simp) (by assumption) ?_;refine qJ 1 12 (.pointer (some ⟨g,0,none⟩)) rfl (by kernel_rfl) (λ_ _ _ h=>h) (λz hz=>by clear J hz G S0;go_simp) (by assumption) ?_;refine qJ 2 13 (.pointer (some ⟨g,0,none⟩)) rfl (by kernel_rfl) (λ_ _ _ h=>h) (λz hz=>by clear J hz G S0;go_simp) (by assumption) ?_;refine qJ 3 14 (.pointer (some ⟨g,2,none⟩)) rfl (by kernel_rfl) (λ_ _ _ h=>h) (λz hz=>by clear J hz G S0;go_simp) (by assumption) ?_;refine MN 5 16 (.agg (qQ x)) rfl (by kernel_rfl) (λ_ _ _ h=>h) (yieldsIf_load_mid (by rfl) _ _ rfl _ _ rfl _ _ G underlying112 rfl (by rw[bZ];rfl)) (by assumption) ?_;simp only[Act.put,lD,lJ,lI]
  have S1:((w.alloc (.cells (qQ x) 112)).drew.alloc (.cells (qQ x) 112)).heap[w.heap.size]?=some (.cells (qQ x) 112 (0,0)):=
   (kQ _ _ _ (by simp)).trans S0
  have b3:(w.alloc (.cells (qQ x) 112)).drew.heap.size=w.heap.size+1:=by simp
  have c2:((w.alloc (.cells (qQ x) 112)).drew.alloc (.cells (qQ x) 112)).heap[w.heap.size+1]?=some (.cells (qQ x) 112 (0,0)):=by
   rw[<-b3];exact gF _ _
  refine wpAnyH_ready (rs:=[4,6]) (by kernel_rfl) (by simp) ?_;refine AllReadyH.cons rfl (λK j=>?_) (AllReadyH.cons rfl (λK j=>?_) AllReadyH.nil)
  all_goals
   first
   | (
     refine mK rfl 40 112 (.tmp 16) rfl (qQ x) a1 _ (.agg (qQ x)) underlying40 Y a0 (by rw[I];decide) (by rw[I];decide) (by rfl) (Tn _ I) ?_;refine j.out _ _ S1 (λc0=>?_);clear j K;simp only[Act.put,lD,lJ,lI];refine wpAnyH_ready (rs:=[4]) (by kernel_rfl) (by simp) ?_;refine AllReadyH.cons rfl (λK j=>?_) AllReadyH.nil;try clear J
     try clear G
     go_simp
     refine j.out _ _ S1 (λa8=>?_);clear j K
     )
   | (
     try clear J
     try clear G
     go_simp
     refine j.out _ _ S0 (λa8=>?_);clear j K;refine wpAnyH_ready (rs:=[6]) (by kernel_rfl) (by simp) ?_;refine AllReadyH.cons rfl (λK j=>?_) AllReadyH.nil;refine mK rfl 40 112 (.tmp 16) rfl (qQ x) a1 _ (.agg (qQ x)) underlying40 Y a0 (by rw[I];decide) (by rw[I];decide) (by rfl) (Tn _ I) ?_;refine j.out _ _ S1 (λc0=>?_);clear j K;simp only[Act.put,lD,lJ,lI,b3]
     )
  all_goals
   refine wpAnyH_ready (rs:=[7]) (by kernel_rfl) (by simp) ?_;refine AllReadyH.cons rfl (λK j=>?_) AllReadyH.nil;refine step_append_lies _ rfl (.tmp 15) (.tmp 17) 40 rfl L 112 a1 _ 4 40 underlying40 Y a0 I c3 rfl (by decide) (.slice co c.length cc) c.length (c.flatMap jE) (by rfl) (oM (w:=(w.alloc (.cells (qQ x) 112)).drew) (b6.o.alloc _) _) ⟨w.heap.size+1,0,none⟩ 1 1 (jE x) (by rfl) (by rfl) (World.news_of_block (cs:=(qQ x)) c2) (by intro u b4;simp[jE]at b4;rcases b4 with h | h | h | h <;> subst h <;> rfl) (by decide) (by unfold maxLen;omega) (by omega) (by simp;omega) (w.heap.size+2) (by simp) ?_;intro q cap w1 b2 O Z d3;obtain⟨U,a2,a3⟩:=Zn a4.o O;refine j.out _ _ U (λa7=>?_);clear j K;have c9:=(a2 2).trans a6;have d0:=(a3 2).trans b9
   have a5:Hid (za L (w1.setCell ⟨g,2,none⟩ (.slice (some ⟨q,0,none⟩) (c.length+1) cap)) g b so ao sc ac (some ⟨q,0,none⟩) cap (c++[x]) d/\vL g co (some ⟨q,0,none⟩) w (w1.setCell ⟨g,2,none⟩ (.slice (some ⟨q,0,none⟩) (c.length+1) cap))):=
    put_mem a4.o (w0:=(w.alloc (.cells (qQ x) 112)).drew.alloc (.cells (qQ x) 112)) ((((lK _ _).alloc (lF _) _).drew).alloc (by simp) _) (by simp;omega) (by rw[jC]at O;exact O) (by rw[jC]at Z;simpa using Z) b2
   have c5:=(lM.1 U).1
   have W:(w1.setCell ⟨g,2,none⟩ (.slice (some ⟨q,0,none⟩) (c.length+1) cap)).heap[w.heap.size]?=some (.cells (qQ x) 112 (0,0)):=
    (lS _ _ _ _ (by show w.heap.size≠g;omega)).trans U
   clear a2 a3 O b2 Z S0 S1;refine qJ 8 19 (.pointer (some ⟨g,0,none⟩)) rfl (by kernel_rfl) (λ_ _ _ h=>h) (λz hz=>by clear a7 hz W;go_simp) (by assumption) ?_;refine qJ 9 20 (.pointer (some ⟨g,2,none⟩)) rfl (by kernel_rfl) (λ_ _ _ h=>h) (λz hz=>by clear a7 hz W;go_simp) (by assumption) ?_;simp only[Act.put,lD,lJ,lI];refine wpAnyH_ready (rs:=[10]) (by kernel_rfl) (by simp) ?_;refine AllReadyH.cons rfl (λK j=>?_) AllReadyH.nil
   go_simp
   refine j.out _ _ W (λa8=>?_);clear j K;refine rP (by kernel_rfl) ?_ _;go_wp2_with fail
   go_meet
   case rel=>exact⟨q,cap,a5.o.1,a5.o.2⟩
 case rest =>
  obtain⟨q,cap,a9,b0⟩:=hcut;have b7:=hid a9;have b8:=hid b0;clear a9 b0;go_wp2_with fail
  go_ret;exact⟨rfl,q,cap,b7.o,b8.o⟩
