import Derived.Test.YtebpgfodelggoaaGreatC47
import Derived.Test.YtebpgfodelggoaaGreatC45
import Derived.Test.YtebpgfodelggoaaGreatC20
set_option linter.all false
set_option maxRecDepth 100000
set_option maxHeartbeats 4000000
namespace Go.Proofs.YtebpgfodelggoaaGreat
open Go.RowKit _root_.Go.Proofs.Tryz Mt
theorem zDU:(prog.info? 144).map (·.size)=some 4:=by kernel_rfl
def lyA(b:PB)(so ao:Option Addr)(sc ac:Nat):Array Value:=#[.slice so b.zK.length sc,.slice ao b.zC.length ac,.slice none 0 0,.int .i64 0]
theorem Zv{w J}{b}{so ao}{I h O}(j:vQ O w b so ao I h)(U:Below w.heap.size w J)(W:J.heap[w.heap.size+1]?=some (.cells (lyA b so ao I h) 144 (0,0))):
  za w.heap.size J (w.heap.size+1) b so ao I h none 0 [] 0:=by
 have a0:∀k,blk so=some k->k<w.heap.size:=λk G=>(lY j.zK k (by rw[jC];exact G)).2
 have Z:∀k,blk ao=some k->k<w.heap.size:=λk G=>(lY j.zC k (by rw[jC];exact G)).2
 exact⟨W,by omega,(j.below U).lower (gD _),oC _ _ _ _,by simp[blk],λe=>by have:=a0 _ e;omega,λe=>by have:=Z _ e;omega,λq Y=>by simp[blk]at Y⟩
theorem zDV{b}{so ao}{I G}(b2:b.zC.length<=1000)(b3:b.zK.length<=1000)(f)(a2:f.wf)(a0:f.ok)(c2:f.zJ.length<=1000)(c4:f.re.len<=900)(b4:0<b.zK.length)(a1:yO b 0 0 f (b.xQ 0).first (b.xQ 0).next){L}{w}(Z:vQ L w b so ao I G):
  Calls prog 64 #[fU b so ao I G] w λe w'=>∃v,e=.returned v/\zY w' w.heap.size v (f.re.code 0 0++[⟨13,0,0,[]⟩])/\Below w.heap.size w w':=by
 have a6:Hid (Lays w.heap.size (w.heap.size+1) b so ao I G 0 92 #[.pointer (some ⟨w.heap.size+1,0,none⟩),.int .i64 ((0:Nat):Int)] f.re):=TI b2 b3 (f.zJ.length+1) f a2 a0 (by omega) 0 b4 a1 0 (by omega) (by omega);have b0:=hid Z;have c3:(f.re.code 0 0).length=f.re.len:=Re.zH _ _ _;clear Z a1 a2 a0;unfold fU
 go_in
 go_wp2_with (refine zN 144 4 zDU (by rfl) (.tmp 3) (.tmp 5) (by rfl) (w.heap.size+1) (lyA b so ao I G) (by rfl) (by rfl) (by exact nA _ _ _) (by rfl) (by rfl) (by simp[lyA,Value.oneCell']) ?_;intro b7 a3 b5 b6 a4)
 have O:=(((lK _ _).alloc (lF _) _).alloc (by simp) _).trans (a4 _ (by omega));have J:=Zv b0.o O a3;have U:=a6.o b7 none 0 [] J (by simp;omega);simp only[sN,lV]at U;have a5:=hid (U);have W:=hnd O J;clear a3 b5 b6 a4 O J U;go_wp2_with fail
 refine a5.o.mono ?_;rintro e b8 ⟨rfl,c1,c0,h,j⟩;have Y:Hid (CT 93 #[.pointer (some ⟨w.heap.size+1,0,none⟩),.agg (qQ ⟨13,0,0,[]⟩)] b8 _):=mI (x:=⟨13,0,0,[]⟩) h (by show(f.re.code 0 0).length<=_;omega);have a9:=hid j;clear h j;unfold qQ at Y;go_wp2_with fail
 refine Y.o.mono ?_;rintro e c5 ⟨rfl,q,cap,h,j⟩;have b9:=h.cells.2.2.1;have a8:=hid h.code;have a7:=hid (W.o.1.trans ((a9.o.trans j).low W.o.2 W.o.1.size));clear h j;generalize b1:f.re.code 0 0++[(⟨13,0,0,[]⟩:zT)]=C at *;go_wp2_with fail
 go_ret;exact⟨_,rfl,by rw[b1];exact a8.o,a7.o⟩
theorem zCn(p:BA) w(c5:p.size<=maxLen):Calls prog 35 #[.string p] w λe w'=>∃v,e=.returned (.tuple #[v,.int .i64 (jA p).2])/\zY w' w.heap.size v (jA p).1/\Below w.heap.size w w':=by
 have Z:=hid (zCc p w c5);by_cases h:(qW p).1=0
 ·have c1:(zP p).2.1=0:=by
   unfold qW at h;split at h
   ·rename_i x;exact absurd h x
   ·rename_i x;simpa using x
  obtain⟨f,c2,b9,b7,c0,c6,c9,d0,b5,b6⟩:=zAo p c1
  have c4:f.re.len+1<=300:=by
   unfold qW at h;rw[lC (by omega)]at h;split at h
   ·simp at h
   ·rename_i x
    have:=λy=>x (b5.2 y)
    omega
  have O:jA p=(f.re.code 0 0++[⟨13,0,0,[]⟩],0):=by unfold jA;rw[lC (by omega),b6 c4]
  have c8:=(bG p).2;rw[b7]at c8;rw[O];have b2:Hid (∀(so ao:Option Addr) (I G L:Nat) (j:World),vQ L j (PB.start.run (zP p).1) so ao I G->CT 64 #[fU (PB.start.run (zP p).1) so ao I G] j λe w'=>∃v,e=.returned v/\zY w' j.heap.size v (f.re.code 0 0++[⟨13,0,0,[]⟩])/\Below j.heap.size j w'):=λso ao I G L j a0=>zDV (by omega) (by omega) f c2 b9 (by omega) (by omega) c6 c0 a0
  have a3:=hid h;clear c0 c2 b9 b7 b5 b6 O h c1;generalize f.re.code 0 0++[(⟨13,0,0,[]⟩:zT)]=C at *
  go_in
  go_wp2_with fail
  refine Z.o.mono ?_;rintro e w1 ⟨_,U,J⟩;obtain⟨so,ao,I,G,rfl,a0⟩:=U a3.o;have a5:=hnd J a0;clear J U a0 Z;generalize PB.start.run (zP p).1=b at *;unfold fU;unfold fU at b2;go_wp2_with (first|(refine zN 107 2 bB (by rfl) (.tmp 4) (.tmp 10) (by rfl) w1.heap.size (bN b so ao I G) (by rfl) (by rfl) (by exact jP _ _) (by rfl) (by rfl) (by simp[bN,Value.oneCell']) ?_;intro Y a2 a8 a9 W)|(refine kY 107 2 underlying107 rfl bB (by rfl) (.tmp 4) (by rfl) w1.heap.size (by rfl) a2 (by rfl) ?_))
  have a1:=((lK _ _).alloc (lF _) _).trans (W _ (lF _));have c7:=a5.o.1.size;have d1:=a1.size;have a6:Hid (Below w.heap.size w Y/\w.heap.size<=Y.heap.size):=⟨a5.o.1.trans (a1.mono c7),by omega⟩
  have b0:=b2.o so ao I G _ Y (a5.o.2.below a1);refine b0.mono ?_;clear b0 a2 a8 a9 W a1;rintro e d3 ⟨v,rfl,b8,b4⟩;have b3:=hnd (b8.base a6.o.2) (a6.o.1.trans (b4.mono a6.o.2));clear b8 b4;go_wp2_with fail
  go_ret2
  exact⟨_,rfl,b3.o.1,b3.o.2⟩
 ·have O:jA p=([],(qW p).1):=by unfold jA;rw[lG h]
  rw[O];have a3:=hid h;have d2:((qW p).1 != 0)=true:=by simpa using h
  have a7:=Z.o;unfold Reads at a7;have b1:=hid (a7);clear O h a7 Z;generalize (qW p).1=E at *;generalize (qW p).2=K at *
  go_in
  go_wp2_with fail
  refine b1.o.mono ?_;rintro e w1 ⟨U,_,J⟩;obtain rfl:=U a3.o;have a4:=hid J;clear J U b1;go_wp2_with (refine zN 107 2 bB (by rfl) (.tmp 4) (.tmp 10) (by rfl) w1.heap.size CJ (by rfl) (by rfl) (by exact jP _ _) (by rfl) (by rfl) Ag ?_;intro Y a2 a8 a9 W;have c3:Hid (Below w.heap.size w Y):=(a4.o.alloc (a4.o.size) _).trans (W _ a4.o.size);clear a2 a8 a9 W)
  go_ret2
  exact⟨_,rfl,oC _ _ _ _,c3.o⟩
def qZ(w:World)(base:Nat)(v:Value)(b:List Int):Prop:=w.ownsRow base 3 1 v b.length (b.map (Value.int .i64))
def yN(w:World)(base:Nat)(v:Value)(b:List Bool):Prop:=w.ownsRow base 4 1 v b.length (b.map Value.bool)
theorem QL:(prog.info? 3).map (λi=>(i.zero,i.size,i.bytes))=some (some (.int .i64 0),1,8):=by kernel_rfl
theorem MF:(prog.info? 4).map (λi=>(i.zero,i.size,i.bytes))=some (some (.bool false),1,1):=by kernel_rfl
theorem qZ.below{w w' base v l}(h:qZ w base v l)(j:Below w.heap.size w w'):qZ w' base v l:=vW h j
theorem yN.below{w w' base v l}(h:yN w base v l)(j:Below w.heap.size w w'):yN w' base v l:=vW h j
theorem qZ.made{w}{base}{v}{n}(h:w.ownsRow base 3 1 v n (madeCells (Value.int .i64 0).cells (n*1)).toList):qZ w base v (List.replicate n 0):=by
 unfold qZ;rw[sV,aJ]
 have e:(madeCells (Value.int .i64 0).cells (n*1)).toList=List.replicate n (Value.int .i64 0):=by
  rw[Nat.mul_one];exact eU _ _
 rw[e]at h;exact h
theorem yN.made{w}{base}{v}{n}(h:w.ownsRow base 4 1 v n (madeCells (Value.bool false).cells (n*1)).toList):yN w base v (List.replicate n false):=by
 unfold yN;rw[sV,aJ]
 have e:(madeCells (Value.bool false).cells (n*1)).toList=List.replicate n (Value.bool false):=by
  rw[Nat.mul_one];exact eU _ _
 rw[e]at h;exact h
section
variable {w:World} {base g n cap:Nat}
theorem qZ.at{l}(h:qZ w base (.slice (some ⟨g,0,none⟩) n cap) l)(i)(j:i<l.length)(G:n=l.length):w.cell? ⟨g,i,none⟩=some (.int .i64 (l.getD i 0))/\w.frozen? ⟨g,i,none⟩=false:=by
 subst G;refine⟨?_,rA h i⟩;rw[gU h i (by omega),lH,gN,lN j];rfl
theorem yN.at{l}(h:yN w base (.slice (some ⟨g,0,none⟩) n cap) l)(i)(j:i<l.length)(G:n=l.length):w.cell? ⟨g,i,none⟩=some (.bool (l.getD i false))/\w.frozen? ⟨g,i,none⟩=false:=by
 subst G;refine⟨?_,rA h i⟩;rw[gU h i (by omega),lH,gN,lN j];rfl
theorem qZ.set{l}(h:qZ w base (.slice (some ⟨g,0,none⟩) n cap) l)(j:n=l.length)(i)(v):qZ (w.setCell ⟨g,i,none⟩ (.int .i64 v)) base (.slice (some ⟨g,0,none⟩) n cap) (l.set i v):=by
 subst j;unfold qZ;rw[gY,uW];exact(uU h i (.int .i64 v)).1
theorem yN.set{l}(h:yN w base (.slice (some ⟨g,0,none⟩) n cap) l)(j:n=l.length)(i)(v):yN (w.setCell ⟨g,i,none⟩ (.bool v)) base (.slice (some ⟨g,0,none⟩) n cap) (l.set i v):=by
 subst j;unfold yN;rw[gY,uW];exact(uU h i (.bool v)).1
end
def fill{α:Type}(f:Nat->α)(z:α)(k n:Nat):List α:=(List.range n).map λi=>if i<k then f i else z
theorem nJ{α} f(z:α) k n:(fill f z k n).length=n:=by simp[fill]
theorem EH{α} f(z:α) n:fill f z 0 n=List.replicate n z:=by
 unfold fill;apply rY
 ·simp
 ·intro i h j;simp
theorem He{α} f(z:α) n:fill f z n n=(List.range n).map f:=by
 unfold fill;apply sM;intro i h;rw[lG (wK.1 h)]
theorem Hf{α} f(z:α) k n:(fill f z k n).set k (f k)=fill f z (k+1) n:=by
 unfold fill;apply rY
 ·simp
 ·intro i G I;rw[eP];simp only[uX,uQ];by_cases h:k=i
  ·subst h;simp
  ·rw[lC h];by_cases j:i<k
   ·rw[lG j,lG (by omega)]
   ·rw[lC j,lC (by omega)]
def nK(c:List zT):List Int:=(List.range c.length).map λp=>(jY c p:Int)
theorem nE c:(nK c).length=c.length:=by simp[nK]
theorem JK c p(h:p<c.length):(nK c).getD p 0=(jY c p):=by
 unfold nK;rw[lH,gN,sF h];rfl
theorem Zw(c)(b3:∀k,(c.take k).countP xG=(c.take k).countP dS+jY c k)(e6:c.length<=300)(g cap)(w)(a5:zY w 0 (.slice (some ⟨g,0,none⟩) c.length cap) c):
  Calls prog 67 #[.slice (some ⟨g,0,none⟩) c.length cap] w λe w'=>e=.returned (.slice (some ⟨w.heap.size,0,none⟩) c.length c.length)/\qZ w' w.heap.size (.slice (some ⟨w.heap.size,0,none⟩) c.length c.length) (nK c)/\Below w.heap.size w w':=by
 obtain⟨d7,d1,d4,d5,d6⟩:=sK QL
 have c2:Hid (∀k j,k<c.length->j<4->w.cell? ⟨g,k*4+j,none⟩=(jE (c.getD k kC))[j]?):=λk j b5 a0=>by
  have a9:=a5;unfold zY at a9;rw[gU a9 (k*4+j) (by omega),jk c k j b5 a0]
 have d0:=(lY a5 g rfl).2;have a3:=hid b3;clear a5 b3
 go_in
 go_wp2_with (first|(at_make;refine uN _ rfl (.tmp 8) (.tmp 8) 41 rfl w.heap.size 3 d7 (.int .i64 0) 1 underlying41 d1 d4 d5 .i64 .i64 _ _ c.length rfl rfl rfl rfl (by rw[d6];omega) (by unfold maxLen;omega) (lF _) ?_;intro w1 b6 b4))
 have c9:=(lK _ _).grown b4 (lF _) (λq d3=>by simp at d3);have c4:Hid (qZ w1 w.heap.size (.slice (some ⟨w.heap.size,0,none⟩) c.length c.length) (fill (λp=>(jY c p:Int)) 0 0 c.length)):=by rw[EH];exact qZ.made b6
 clear b6 b4
 go_loopw [4,12] (λd8 i wr=>∃k:Nat,k<=c.length/\i=.int .i64 k/\d8=.int .i64 (jY c k:Nat)/\qZ wr w.heap.size (.slice (some ⟨w.heap.size,0,none⟩) c.length c.length) (fill (λp=>(jY c p:Int)) 0 k c.length)/\Below w.heap.size w wr) (λ_ i _=>c.length-(intOf i).toNat)
 case atStart =>
  refine⟨0,gD _,rfl,?_,c4.o,c9⟩;have:=a3.o 0;simp at this;rw[<-this];rfl
 case round =>
  obtain⟨k,b5,rfl,rfl,W,U⟩:=hrel;have b7:=U.size;by_cases a1:k<c.length
  ·have b2:wr.rangeAt g (k*4) (jE (c.getD k kC)):=λj u a0=>by
    by_cases c8:j<4
    ·rw[(U.cell (p:=⟨g,k*4+j,none⟩) d0),c2.o k j a1 c8];exact a0
    ·rw[gQ (by rw[Mq];omega)]at a0;simp at a0
   have d9:=a3.o k;have Y:=a3.o (k+1);rw[Lc _ c k a1,Lc _ c k a1]at Y;have e3:=Fj c k;have e5:(k:Int)<(c.length:Int):=by omega
   generalize c.getD k kC=h at *
   have c3:Hid (((h.op==4)=true/\jY c (k+1)=jY c k+1)\/((h.op==4)=false/\(h.op==5)=true/\jY c (k+1)+1=jY c k)\/((h.op==4)=false/\(h.op==5)=false/\jY c (k+1)=jY c k)):=by
    show _\/_;unfold xG dS at *;simp only[oU,gP,gM]at *;by_cases I:h.op=4
    ·rw[lG I,lC (by omega)]at Y;exact gG ⟨I,by omega⟩
    ·rw[lC I]at Y;by_cases O:h.op=5
     ·rw[lG O]at Y;exact lZ (gG ⟨I,O,by omega⟩)
     ·rw[lC O]at Y;exact lZ (lZ ⟨I,O,by omega⟩)
   clear d9 Y
   have c7:Hid (∀G:World,(∀q,q≠wr.heap.size->G.heap[q]?=(wr.alloc (.cells (qQ kC) 112)).heap[q]?)->(∀L,L<=wr.heap.size->Below L (wr.alloc (.cells (qQ kC) 112)) G)->Below w.heap.size w G/\qZ G w.heap.size (.slice (some ⟨w.heap.size,0,none⟩) c.length c.length) (fill (λp=>(jY c p:Int)) 0 k c.length)):=λG e4 b0 =>
    ⟨(U.alloc b7 _).trans (b0 _ b7),W.below (((lK _ _).alloc (lF _) _).trans (b0 _ (lF _)))⟩
   have e7:=(lY W w.heap.size rfl).2;clear W U;generalize b1:jY c k=a2 at *;rcases c3.o with ⟨I,J⟩ | ⟨I,O,J⟩ | ⟨I,O,J⟩
   all_goals
    have c5:=hid J;clear J;go_upto_region 6 with (first|(refine wpList_load_mid (by rfl) 112 (.tmp 15) (by rfl) g (k*4) (by rfl) (jE h) _ b2 underlying112 rfl (by rw[bZ];rfl) ?_)|(refine zN 112 4 bZ (by rfl) (.tmp 6) (.tmp 16) (by rfl) wr.heap.size (qQ h) (by rfl) (by rfl) (by exact jP _ _) (by rfl) (by rfl) (uy h) ?_;intro G b8 b9 e0 c0))
    obtain⟨a6,a4⟩:=c7.o G b9 c0;obtain⟨e1,e2⟩:=a4.at k (by rw[nJ];exact a1) (by rw[nJ]);have Z:=a4.set (by rw[nJ]) k (a2:Int);rw[<-b1]at Z;rw[Hf (λp=>(jY c p:Int)) 0 k c.length]at Z;rw[b1]at Z;have a7:=a6.setCell (p:=⟨w.heap.size,k,none⟩) (lF _) (.int .i64 (a2:Int))
    have t0:(G.setCell ⟨w.heap.size,k,none⟩ (.int .i64 (a2:Int))).cell? ⟨wr.heap.size,0,none⟩=some (.int .i64 h.op):=by
     rw[gH (a:=⟨wr.heap.size,0,none⟩) (lS G ⟨w.heap.size,k,none⟩ _ wr.heap.size (by show wr.heap.size≠w.heap.size;omega))];exact(zB b8).1 0
    have a8:=hnd Z a7;clear b8 b9 e0 c0 a6 a4 Z a7 b2;generalize (fill (λp=>(jY c p:Int)) 0 k c.length).getD k 0=e9 at *;go_upto_region 7 with fail
    generalize G.setCell ⟨w.heap.size,k,none⟩ (.int .i64 (a2:Int))=e8 at *;clear e1 e2;go_wp2_with fail
    go_roundw
    case rel=>exact⟨k+1,by omega,by go_num,by have J:=c5.o;first|(rw[J];go_num)|(rw[<-J];go_num)|(rw[J]),a8.o.1,a8.o.2⟩
    case measure=>simp[intOf];omega
  ·have d2:k=c.length:=by omega
   subst d2;rw[He]at W;have c1:=hid U;have c6:=hid W;clear U W;go_wp2_with fail
   go_ret;exact⟨rfl,c6.o,c1.o⟩
def xO(p:Int)(a b:Nat):List Int:=0::p::((List.replicate a (-1)++List.replicate (20-a) 0)++(List.replicate 10 0++(List.replicate b (-1)++List.replicate (11-b) 0)))
theorem JL p a b(h:a<=20)(j:b<=11):(xO p a b).length=43:=by simp[xO];omega
theorem TJ p:xO p 20 11=lg p:=by unfold xO lg nowhere;rfl
theorem Nq p a(h:a<20):(xO p a 0).set (2+a) (-1)=xO p (a+1) 0:=by
 unfold xO;rw[show 2+a=a+1+1 by omega,lI,lI,gZ,sU _ _ (by simp),show a-(List.replicate a (-1:Int)).length=0 by simp,show 20-a=(20-(a+1))+1 by omega,wV (n:=20-(a+1)),rR,lJ,eT (n:=a)];simp
theorem QM p b(j:b<11):(xO p 20 b).set (32+b) (-1)=xO p 20 (b+1):=by
 have e:∀h,xO p 20 h=(0::p::(List.replicate 20 (-1)++List.replicate 10 0))++(List.replicate h (-1)++List.replicate (11-h) 0):=λh=>by simp[xO]
 rw[e b,e (b+1),sU _ _ (by simp)];rw[show 32+b-(0::p::(List.replicate 20 (-1:Int)++List.replicate 10 0)).length=b by simp];rw[sU _ _ (by simp),show b-(List.replicate b (-1:Int)).length=0 by simp,show 11-b=(11-(b+1))+1 by omega,wV (n:=11-(b+1)),lJ,eT (n:=b)];simp
def TK(p:Int):Array Value:=#[.int .i64 0,.int .i64 p,.int .i64 0,.int .i64 0,.int .i64 0,.int .i64 0,.int .i64 0,.int .i64 0,.int .i64 0,.int .i64 0,.int .i64 0,.int .i64 0,.int .i64 0,.int .i64 0,.int .i64 0,.int .i64 0,.int .i64 0,.int .i64 0,.int .i64 0,.int .i64 0,.int .i64 0,.int .i64 0,.int .i64 0,.int .i64 0,.int .i64 0,.int .i64 0,.int .i64 0,.int .i64 0,.int .i64 0,.int .i64 0,.int .i64 0,.int .i64 0,.int .i64 0,.int .i64 0,.int .i64 0,.int .i64 0,.int .i64 0,.int .i64 0,.int .i64 0,.int .i64 0,.int .i64 0,.int .i64 0,.int .i64 0]
theorem MG p:TK p=yH (xO p 0 0):=by
 apply aO
 ·rfl
 ·intro i j G;have h:i<43:=j;have e:=yX (xO p 0 0) i h;rw[sD G]at e;injection e with e;rw[e]
  match i,h with
  | 0,_=>rfl
  | 1,_=>rfl
  | i+2,h =>
   have hz:gt (xO p 0 0) (i+2)=0:=by
    unfold gt xO;rw[lH,gI,gI];simp only[List.replicate_zero,sN,Nat.sub_zero];rw[eG,eG,oJ];split <;> rfl
   rw[hz]
   have:(TK p)[i+2]?=some (.int .i64 0):=by
    have I:(TK p).toList=.int .i64 0::.int .i64 p::List.replicate 41 (.int .i64 0):=rfl;rw[<-Array.getElem?_toList,I,gI,gI,oJ,lG (by omega)]
   rw[sD j]at this;injection this
theorem Ec p w:Calls prog 39 #[.int .i64 p] w λe w'=>e=.returned (.agg (yH (lg p)))/\Below w.heap.size w w':=by
 obtain⟨O,W⟩:∃O,O=w.alloc (.cells (yH []) 83):=⟨_,rfl⟩
 have B1:Below w.heap.size w O:=by rw[W];exact(lK _ _).alloc (lF _) _
 have T1:O.heap[w.heap.size]?=some (.cells (yH []) 83 (0,0)):=by rw[W];exact gF _ _
 have U:O.heap.size=w.heap.size+1:=by rw[W];simp
 go_in
 go_upto_region 1 with fail
 show Code.wp _ _ _ _ (w.alloc (.cells (yH []) 83));rw[<-W];clear W;generalize b5:w.heap.size=n at *;have a9:=hid U;clear U;refine wp_region_lit ?_;refine iQ (by rfl) (λK a6=>?_)
 go_simp
 refine a6 _ _ ?_;clear a6 K;refine wpList_buildTo (by rfl) 83 #[(1,.tmp 6)] (by rfl) (some 7) rfl (TK p) (by kernel_rfl) ?_;simp only[Act.put,lD,lJ,lI];go_upto_region 2 with (refine zN 83 43 jT (by rfl) (.tmp 3) (.tmp 7) (by rfl) O.heap.size (TK p) (by rfl) (by rfl) (by exact jP _ _) (by rfl) (by rw[MG];exact kK _) (by rw[MG];exact aV _) ?_;intro a7 J a3 a4 Y)
 rw[MG]at J;have U:=a9.o;have a1:a7.heap[n]?=some (.cells (yH []) 83 (0,0)):=by rw[a3 n (by omega),kQ _ _ _ (by omega)];exact T1
 have Z:=(B1.alloc (by omega) _).trans (Y n (by omega));rw[U]at J;rw[U];have b0:a7.heap.size=n+2:=by rw[a4];simp[U]
 clear B1 T1 a3 a4 Y;go_wp2_with fail
 go_loopw [8] (λi wr=>∃a:Nat,a<=20/\i=.int .i64 a/\wr.heap[n+1]?=some (.cells (yH (xO p a 0)) 83 (0,0))/\wr.heap[n]?=some (.cells (yH []) 83 (0,0))/\Below n w wr/\wr.heap.size=n+2) (λi _=>20-(intOf i).toNat)
 case atStart=>exact⟨0,gD _,rfl,J,a1,Z,b0⟩
 case round =>
  obtain⟨a,b8,rfl,h,I,j,G⟩:=hrel;by_cases a2:a<20
  ·have b6:wr.cell? ⟨n+1,2+a,none⟩=some (.int .i64 (gt (xO p a 0) (2+a))):=by rw[(zB h).1];exact yX _ _ (by omega)
   have b1:=(zB h).2 (2+a);have b4:(a:Int)<20:=by omega
   have a0:Hid ((wr.setCell ⟨n+1,2+a,none⟩ (.int .i64 (-1))).heap[n+1]?=some (.cells (yH (xO p (a+1) 0)) 83 (0,0))/\(wr.setCell ⟨n+1,2+a,none⟩ (.int .i64 (-1))).heap[n]?=some (.cells (yH []) 83 (0,0))/\Below n w (wr.setCell ⟨n+1,2+a,none⟩ (.int .i64 (-1)))/\(wr.setCell ⟨n+1,2+a,none⟩ (.int .i64 (-1))).heap.size=n+2):=by
    refine⟨?_,(lS _ _ _ _ (by show n≠n+1;omega)).trans I,j.setCell (p:=⟨n+1,2+a,none⟩) (by show n<=n+1;omega) _,by simp[World.setCell,G]⟩;have:=lX wr (n+1) (2+a) _ _ (.int .i64 (-1)) h;rw[oh _ (JL p a 0 (by omega) (by omega)),Nq p a a2]at this;exact this
   clear h I j G J a1 Z;generalize gt (xO p a 0) (2+a)=b7 at *;go_wp2_with fail
   go_roundw
   case rel=>exact⟨a+1,by omega,by go_num,a0.o⟩
   case measure=>simp[intOf];omega
  ·have b2:a=20:=by omega
   subst b2
   rename World=>c1
   clear J a1 Z;have a5:=hnd j G;clear j G;go_wp2_with fail
   go_loopw [15] (λi wr=>∃b:Nat,b<=11/\i=.int .i64 b/\wr.heap[n+1]?=some (.cells (yH (xO p 20 b)) 83 (0,0))/\wr.heap[n]?=some (.cells (yH []) 83 (0,0))/\Below n w wr/\wr.heap.size=n+2) (λi _=>11-(intOf i).toNat)
   case atStart=>exact⟨0,gD _,rfl,h,I,a5.o.1,a5.o.2⟩
   case round =>
    obtain⟨b,b9,rfl,h,I,j,G⟩:=hrel;by_cases a2:b<11
    ·have b6:wr.cell? ⟨n+1,32+b,none⟩=some (.int .i64 (gt (xO p 20 b) (32+b))):=by rw[(zB h).1];exact yX _ _ (by omega)
     have b1:=(zB h).2 (32+b);have b4:(b:Int)<11:=by omega
     have a0:Hid ((wr.setCell ⟨n+1,32+b,none⟩ (.int .i64 (-1))).heap[n+1]?=some (.cells (yH (xO p 20 (b+1))) 83 (0,0))/\(wr.setCell ⟨n+1,32+b,none⟩ (.int .i64 (-1))).heap[n]?=some (.cells (yH []) 83 (0,0))/\Below n w (wr.setCell ⟨n+1,32+b,none⟩ (.int .i64 (-1)))/\(wr.setCell ⟨n+1,32+b,none⟩ (.int .i64 (-1))).heap.size=n+2):=by
      refine⟨?_,(lS _ _ _ _ (by show n≠n+1;omega)).trans I,j.setCell (p:=⟨n+1,32+b,none⟩) (by show n<=n+1;omega) _,by simp[World.setCell,G]⟩;have:=lX wr (n+1) (32+b) _ _ (.int .i64 (-1)) h;rw[oh _ (JL p 20 b (by omega) (by omega)),QM p b a2]at this;exact this
     clear h I j G;generalize gt (xO p 20 b) (32+b)=b7 at *;go_wp2_with fail
     go_roundw
     case rel=>exact⟨b+1,by omega,by go_num,a0.o⟩
     case measure=>simp[intOf];omega
    ·have b3:b=11:=by omega
     subst b3;rw[TJ]at h;have a8:=hid j;clear j G;go_wp2_with (first|(refine kY 83 43 underlying83 rfl jT (by rfl) (.tmp 3) (by rfl) (n+1) (by rfl) h (kK _) ?_)|(refine zN 83 43 jT (by rfl) (.tmp 2) (.tmp 22) (by rfl) n (yH (lg p)) (by rfl) (by rfl) I (kK _) (kK _) (aV _) ?_;intro c0 J a3 a4 Y))
     refine lT (Gn 83 43 underlying83 rfl jT rfl (by rfl) J (kK _)) rfl ⟨rfl,by rw[b5];exact a8.o.trans (Y n (lF _))⟩
theorem twenty{l:List Int}(h:l.length=20):∃a0 a1 a2 a3 a4 a5 a6 a7 a8 a9 a10 a11 a12 a13 a14 a15 a16 a17 a18 a19,l=[a0,a1,a2,a3,a4,a5,a6,a7,a8,a9,a10,a11,a12,a13,a14,a15,a16,a17,a18,a19]:=by
 match l,h with
 | [a0,a1,a2,a3,a4,a5,a6,a7,a8,a9,a10,a11,a12,a13,a14,a15,a16,a17,a18,a19],_=>exact⟨a0,a1,a2,a3,a4,a5,a6,a7,a8,a9,a10,a11,a12,a13,a14,a15,a16,a17,a18,a19,rfl⟩
theorem TM l(h:l.length=20) b u:prog.built 29 [(0,.bool b),(1,.agg (l.map (Value.int .i64)).toArray),(2,.int .i64 u)]=some (uz ⟨b,l,u⟩):=by
 obtain⟨j,G,a3,a4,a5,a6,a7,a8,a9,b0,I,J,O,U,W,Y,Z,a0,a1,a2,rfl⟩:=twenty h;unfold uz;simp only[oZ,sO,rR,sN];kernel_rfl
theorem Wh l(h:l.length=20) u:prog.built 29 [(1,.agg (l.map (Value.int .i64)).toArray),(2,.int .i64 u)]=some (uz ⟨false,l,u⟩):=by
 obtain⟨j,G,a3,a4,a5,a6,a7,a8,a9,b0,I,J,O,U,W,Y,Z,a0,a1,a2,rfl⟩:=twenty h;unfold uz;simp only[oZ,sO,rR,sN];kernel_rfl
def placesOf(e:List Int):List Int:=(List.range 20).map λi=>gt e (2+i)
theorem QN e:(placesOf e).length=20:=by simp[placesOf]
theorem MH e:((fu e).drop 2).take 20=(placesOf e).map (Value.int .i64):=by
 apply iH;intro j;by_cases h:j<20
 ·rw[oK h,sW];unfold fu placesOf;rw[gN,sF (by omega),gN,gN,sF h];rfl
 ·rw[gQ (by simp[fu];omega),gQ (by simp[placesOf];omega)]
theorem QO e(G:e.length=43) p:((placesOf e).set 0 p).set 1 (gt e 1)=vN p e:=by
 apply iH;intro h;have I:(vN p e).length=20:=by simp[vN,G]
 by_cases j:h<20
 ·rw[wQ,wQ]
  match h with
  | 0=>simp[placesOf,vN]
  | 1=>simp[placesOf,vN]
  | h+2 =>
   rw[lC (by omega),lC (by omega)];unfold placesOf vN gt;rw[gN,sF j,gI,gI,oK (by omega),sW,show 4+h=2+(h+2) by omega];simp only[Option.map_some];rw[lH,lN (by omega)];rfl
 ·rw[gQ (by simp[placesOf];omega),gQ (by omega)]
theorem Zx p e(a6:e.length=43) u w:Calls prog 42 #[.int .i64 p,.agg (yH e),.int .i64 u] w λr w'=>r=.returned (.agg (uz ⟨true,vN p e,u⟩))/\Below w.heap.size w w':=by
 obtain⟨j,I⟩:∃j,j=(w.alloc (.cells (yH e) 83)).alloc (.cells (uz yD) 29):=⟨_,rfl⟩
 have B1:Below w.heap.size w j:=by rw[I];exact((lK _ _).alloc (lF _) _).alloc (by simp) _
 have T1:j.heap[w.heap.size]?=some (.cells (yH e) 83 (0,0)):=by rw[I];exact nN _ _ _
 have a2:j.heap[w.heap.size+1]?=some (.cells (uz yD) 29 (0,0)):=by rw[I];exact nA _ _ _
 have a1:Hid (j.heap.size=w.heap.size+2):=by rw[I];show _=_;simp
 have O:=EF T1 2 20;rw[MH]at O;have W:=QN e;generalize b1:placesOf e=P at *;have a0:=TM P W true u
 go_in
 go_upto_region 1 with fail
 show Code.wp _ _ _ _ ((w.alloc (.cells (yH e) 83)).alloc (.cells (uz yD) 29));rw[<-I];clear I;generalize b2:w.heap.size=n at *;refine wp_region_lit ?_;refine iQ (by rfl) (λK J=>?_)
 go_simp
 refine J _ _ ?_;clear J K;refine wpList_load_mid (by rfl) 27 (.tmp 8) (by rfl) n 2 (by rfl) (P.map (Value.int .i64)) _ O underlying27 rfl (by rw[Az];simp[W]) ?_;simp only[Act.put,lD,lJ,lI];refine iQ (by rfl) (λK J=>?_)
 go_simp
 refine J _ _ ?_;clear J K;refine wpList_buildTo (by rfl) 29 #[(0,.const (.bool true)),(1,.tmp 9),(2,.tmp 10)] (by rfl) (some 11) rfl (uz ⟨true,P,u⟩) (by simp only[rU,oZ,sO];exact a0) ?_;simp only[Act.put,lD,lJ,lI];clear a0 O;go_upto_region 2 with (refine zN 29 22 dH (by rfl) (.tmp 7) (.tmp 11) (by rfl) j.heap.size (uz ⟨true,P,u⟩) (by rfl) (by rfl) (by exact jP _ _) (by rfl) (xC _ W) (sJ _) ?_;intro h G Y b5 a7)
 have U:=a1.o;have T2:h.heap[n]?=some (.cells (yH e) 83 (0,0)):=by rw[Y n (by omega),kQ _ _ _ (by omega)];exact T1
 have a3:h.heap[n+1]?=some (.cells (uz yD) 29 (0,0)):=by rw[Y (n+1) (by omega),kQ _ _ _ (by omega)];exact a2
 have Z:=(B1.alloc (by omega) _).trans (a7 n (by omega));rw[U]at G;rw[U];have c2:h.cell? ⟨n,1,none⟩=some (.int .i64 (gt e 1)):=by rw[(zB T2).1 1];exact yX e 1 (by omega)
 have c3:h.cell? ⟨n+2,1,none⟩=some (.int .i64 (P.getD 0 0)):=by rw[(zB G).1 1];exact zCo true P u 0 (by omega)
 have c4:h.cell? ⟨n+2,2,none⟩=some (.int .i64 (P.getD 1 0)):=by rw[(zB G).1 2];exact zCo true P u 1 (by omega)
 have b7:=(zB G).2 1;have b8:=(zB G).2 2
 have T3:((h.setCell ⟨n+2,1,none⟩ (.int .i64 p)).setCell ⟨n+2,2,none⟩ (.int .i64 (gt e 1))).heap[n+2]?=some (.cells (uz ⟨true,vN p e,u⟩) 29 (0,0)):=by
  have a4:=lX h (n+2) 1 _ _ (.int .i64 p) G;rw[show(1:Nat)=1+0 from rfl,Xa true P u 0 p (by omega)]at a4;have a5:=lX _ (n+2) 2 _ _ (.int .i64 (gt e 1)) a4;rw[show(2:Nat)=1+1 from rfl,Xa true _ u 1 _ (by simp;omega),<-b1,QO e a6]at a5;exact a5
 have a9:((h.setCell ⟨n+2,1,none⟩ (.int .i64 p)).setCell ⟨n+2,2,none⟩ (.int .i64 (gt e 1))).heap[n+1]?=some (.cells (uz yD) 29 (0,0)):=by
  rw[lS _ _ _ _ (by show n+1≠n+2;omega),lS _ _ _ _ (by show n+1≠n+2;omega)];exact a3
 have a8:Hid (Below n w ((h.setCell ⟨n+2,1,none⟩ (.int .i64 p)).setCell ⟨n+2,2,none⟩ (.int .i64 (gt e 1)))):=(Z.setCell (p:=⟨n+2,1,none⟩) (by show n<=n+2;omega) _).setCell (p:=⟨n+2,2,none⟩) (by show n<=n+2;omega) _;have hF:(vN p e).length=20:=by simp[vN,a6]
 clear G Y b5 a7 T1 a2 B1 T2 a3 Z U a1;generalize b0:vN p e=F at *;generalize gt e 1=b6 at *;generalize P.getD 0 0=c5 at *;generalize P.getD 1 0=c6 at *;go_wp2_with (first|(refine kY 29 22 underlying29 rfl dH (by rfl) (.tmp 7) (by rfl) (n+2) (by rfl) T3 (xC _ hF) ?_)|(refine zN 29 22 dH (by rfl) (.tmp 6) (.tmp 19) (by rfl) (n+1) (uz ⟨true,F,u⟩) (by rfl) (by rfl) a9 (by rfl) (xC _ hF) (sJ _) ?_;intro c1 b3 b9 c0 b4))
 refine lT (Gn 29 22 underlying29 rfl dH rfl (by rfl) b3 (xC _ hF)) rfl ⟨by rw[b0],by rw[b2];exact a8.o.trans (b4 n (by omega))⟩
def xD(E:Env)(k:Nat):List Int:=(List.range E.c.length).map λp:Nat=>if p<k/\E.qU.getD p false=true then(E.base p:Int)else -1
theorem mP E k:(xD E k).length=E.c.length:=by simp[xD]
theorem QS E:xD E 0=List.replicate E.c.length (-1):=by
 unfold xD;apply rY
 ·simp
 ·intro i h j;simp
theorem Wi E p(j:p<E.c.length):(xD E E.c.length).getD p 0=if E.qU.getD p false=true then(E.base p:Int)else -1:=by
 unfold xD;rw[lH,gN,sF j];simp only[Option.map_some,uS];by_cases h:E.qU.getD p false=true
 ·rw[lG ⟨j,h⟩,lG h]
 ·rw[lC (λx=>h x.2),lC h]
theorem QT E k(j:E.qU.getD k false=false):xD E (k+1)=xD E k:=by
 unfold xD;apply sM;intro p _;by_cases e:p=k
 ·subst e;rw[lC (λx=>by rw[j]at x;cases x.2),lC (by omega)]
 ·by_cases G:p<k
  ·by_cases h:E.qU.getD p false=true
   ·rw[lG ⟨by omega,h⟩,lG ⟨G,h⟩]
   ·rw[lC (λx=>h x.2),lC (λx=>h x.2)]
  ·rw[lC (by omega),lC (by omega)]
theorem TN E k(O:k<E.c.length)(j:E.qU.getD k false=true):xD E (k+1)=(xD E k).set k (E.base k:Int):=by
 unfold xD;apply rY
 ·simp
 ·intro i I J;rw[eP];simp only[uX,uQ];by_cases e:k=i
  ·subst e;rw[lG rfl,lG ⟨by omega,j⟩]
  ·rw[lC e];by_cases G:i<k
   ·by_cases h:E.qU.getD i false=true
    ·rw[lG ⟨by omega,h⟩,lG ⟨G,h⟩]
    ·rw[lC (λx=>h x.2),lC (λx=>h x.2)]
   ·rw[lC (by omega),lC (by omega)]
theorem Zy(E:Env):∀h,h<(qE E.qU E.c.length).length->∃p,p<E.c.length/\(qE E.qU E.c.length).getD h 0=(p)/\E.qU.getD p false=true/\(qE E.qU p).length=h:=by
 have key:∀(L h:Nat),h<(qE E.qU L).length->∃p:Nat,p<L/\(qE E.qU L).getD h 0=(p:Int)/\E.qU.getD p false=true/\(qE E.qU p).length=h:=by
  intro L;induction L with
  | zero=>intro h j;simp[qE]at j
  | succ L W =>
   intro h j;rw[bH]at j |-;by_cases I:h<(qE E.qU L).length
   ·obtain⟨p,Y,J,O,U⟩:=W h I;refine⟨p,by omega,?_,O,U⟩;rw[lH,gK I,<-lH];exact J
   ·rw[lQ]at j;cases G:E.qU.getD L false with
    | false=>rw[G]at j;simp at j;omega
    | true =>
     rw[G]at j;simp at j;refine⟨L,by omega,?_,G,by omega⟩;rw[lH,gL (by omega)];have:h-(qE E.qU L).length=0:=by omega
     rw[this];simp
 exact key E.c.length
theorem FU E a:∀d,(∀i,a<=i->i<a+d->E.qU.getD i false=false)->xD E (a+d)=xD E a/\E.base (a+d)=E.base a/\(qE E.qU (a+d)).length=(qE E.qU a).length
 | 0,_=>⟨rfl,rfl,rfl⟩
 | d+1,h=>by
  obtain⟨G,I,J⟩:=FU E a d (λi O U=>h i O (by omega));have j:=h (a+d) (by omega) (by omega);refine⟨by rw[<-uF,QT E _ j];exact G,by rw[<-uF,E.XF _ j];exact I,?_⟩;rw[<-uF,bH,j];simpa using J
theorem IY(E:Env) a:∀d,(qE E.qU (a+d)).length=(qE E.qU a).length->∀i,a<=i->i<a+d->E.qU.getD i false=false
 | 0,_,i,h1,h2=>by omega
 | d+1,h,i,h1,h2=>by
  rw[<-uF,bH,lQ]at h
  have G:(qE E.qU a).length<=(qE E.qU (a+d)).length:=by
   clear h h2;induction d with
   | zero=>exact lF _
   | succ d I=>rw[<-uF,bH,lQ];omega
  cases j:E.qU.getD (a+d) false with
  | true=>rw[j]at h;simp at h;omega
  | false =>
   by_cases e:i=a+d
   ·rw[e];exact j
   ·exact IY E a d (by rw[j]at h;simpa using h) i h1 (by omega)
