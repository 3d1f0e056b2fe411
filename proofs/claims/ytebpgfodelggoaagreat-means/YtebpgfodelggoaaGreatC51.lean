import Derived.Test.YtebpgfodelggoaaGreatC48
set_option linter.all false
set_option maxRecDepth 100000
set_option maxHeartbeats 8000000
namespace Go.Proofs.YtebpgfodelggoaaGreat
open Go.RowKit _root_.Go.Proofs.Tryz Mt
theorem CU{w wr}{g cap}{c}(G:zY w 0 (.slice (some ⟨g,0,none⟩) c.length cap) c)(O:Below w.heap.size w wr)(k)(U:k<c.length):wr.rangeAt g (k*4) (jE (c.getD k kC)):=λh u j=>by
 have I:=G;unfold zY at I;by_cases J:h<4
 ·rw[O.cell (p:=⟨g,k*4+h,none⟩) (lY G g rfl).2,gU I (k*4+h) (by omega),jk c k h U J];exact j
 ·rw[gQ (by rw[Mq];omega)]at j;simp at j
theorem Kz{w wr h}{j}(G:Below w.heap.size w wr)(I:h.heap[wr.heap.size]?=some (.cells (qQ j) 112 (0,0)))(J:∀L,L<=wr.heap.size->Below L (wr.alloc (.cells (qQ kC) 112)) h):
  h.cell? ⟨wr.heap.size,0,none⟩=some (.int .i64 j.op)/\h.cell? ⟨wr.heap.size,1,none⟩=some (.int .i64 j.x)/\h.cell? ⟨wr.heap.size,2,none⟩=some (.int .i64 j.y)/\Below w.heap.size w h/\Below wr.heap.size wr h:=
 ⟨(zB I).1 0,(zB I).1 1,(zB I).1 2,(G.alloc G.size _).trans (J _ G.size),((lK _ _).alloc (lF _) _).trans (J _ (lF _))⟩
theorem TQ(c)(b4:c.length<=300)(g cap)(w)(Z:zY w 0 (.slice (some ⟨g,0,none⟩) c.length cap) c):
  Calls prog 65 #[.slice (some ⟨g,0,none⟩) c.length cap] w λe w'=>e=.returned (.bool (tO c))/\Below w.heap.size w w':=by
 have a5:=hid Z;clear Z
 go_in
 go_wp2_with fail
 go_loopw [7] (λi wr=>∃k:Nat,k<=c.length/\i=.int .i64 k/\(c.take k).any (λi=>decide (i.op=8))=false/\Below w.heap.size w wr) (λi _=>c.length-(intOf i).toNat)
 case atStart=>exact⟨0,gD _,rfl,rfl,lK _ _⟩
 case round =>
  obtain⟨k,b2,rfl,a1,G⟩:=hrel;have Y:=hid a1;have W:=hid G;clear a1;by_cases J:k<c.length
  ·have a0:=CU a5.o G k J;have a6:Hid ((c.take (k+1)).any (λi=>decide (i.op=8))=((c.take k).any (λi=>decide (i.op=8))||decide ((c.getD k kC).op=8))):=Bh c _ k J
   have a4:Hid ((c.getD k kC).op=8->tO c=true):=λj=>by
    have:=uf c (λi=>decide (i.op=8)) k c.length J (lF _) (by simpa using j)
    rwa [rT]at this
   have b3:(k:Int)<(c.length:Int):=by omega
   clear G;generalize c.getD k kC=h at *;go_upto_region 4 with (first|(refine wpList_load_mid (by rfl) 112 (.tmp 9) (by rfl) g (k*4) (by rfl) (jE h) _ a0 underlying112 rfl (by rw[bZ];rfl) ?_)|(refine zN 112 4 bZ (by rfl) (.tmp 4) (.tmp 10) (by rfl) wr.heap.size (qQ h) (by rfl) (by rfl) (by exact jP _ _) (by rfl) (by rfl) (uy h) ?_;intro b5 a2 a8 a9 a3))
   obtain⟨b6,b0,b1,O,_⟩:=Kz W.o a2 a3;have U:=hid O;clear a2 a8 a9 a3 O a0 b0 b1;cases j:(h.op==8)
   ·have a7:Hid ((c.take (k+1)).any (λi=>decide (i.op=8))=false):=by
     show _=_;rw[a6.o,Y.o,Bool.false_or];simpa using j
    go_wp2_with fail
    go_roundw
    case rel=>exact⟨k+1,by omega,by go_num,a7.o,U.o⟩
    case measure=>simp[intOf];omega
   ·have I:=hid (a4.o (by simpa using j));go_wp2_with fail
    go_ret;exact⟨jM (by rw[I.o]),U.o⟩
  ·have I:Hid (tO c=false):=by
    have:=Y.o
    rwa [show k=c.length by omega,rT]at this
   clear G;go_wp2_with fail
   go_ret;exact⟨jM (by rw[I.o]),W.o⟩
theorem and_one(x:Nat)(O:x<9223372036854775808):bits .and .i64 (x) 1=((x % 2:Nat):Int):=by
 unfold bits;dsimp only;have j:BitVec.ofInt IntKind.i64.bits (x:Int)=BitVec.ofNat 64 x:=BitVec.ofInt_natCast 64 x;have G:BitVec.ofInt IntKind.i64.bits 1=BitVec.ofNat 64 1:=rfl;rw[j,G]
 have I:(BitVec.ofNat 64 x &&& BitVec.ofNat 64 1).toNat=x % 2:=by
  rw[BitVec.toNat_and,BitVec.toNat_ofNat,BitVec.toNat_ofNat,Nat.mod_eq_of_lt (show x<2 ^ 64 by omega),Nat.mod_eq_of_lt (show 1<2 ^ 64 by omega),Nat.and_one_is_mod]
 have J:IntKind.i64.wrap (((BitVec.ofNat 64 x &&& BitVec.ofNat 64 1).toNat:Nat):Int)=((x % 2:Nat):Int):=by
  rw[I];have h:x % 2=0\/x % 2=1:=by omega
  rcases h with h | h <;> rw[h] <;> rfl
 exact J
theorem zDX h(G:0<=h)(I:h<=4294967295) k:(bits .and .i64 (h/2 ^ k) 1==1)=tu h k:=by
 obtain⟨M,rfl⟩:∃M:Nat,h=(M:Int):=⟨h.toNat,by omega⟩
 have e:(M:Int)/2 ^ k=((M/2 ^ k:Nat):Int):=by push_cast;rfl
 have j:M/2 ^ k<=M:=Nat.div_le_self _ _;unfold tu;rw[e,and_one _ (by omega)];congr 1
theorem Ed(c:List zT) h(a5:0<=h)(a6:h<=4294967295)(b4:c.length<=300) g cap w:
  Calls prog 94 #[.slice (some ⟨g,0,none⟩) c.length cap,.int .i64 h] w λe w'=>e=.returned (.slice (some ⟨w.heap.size,0,none⟩) c.length c.length)/\yN w' w.heap.size (.slice (some ⟨w.heap.size,0,none⟩) c.length c.length) ((List.range c.length).map λp=>tu h (p % 32))/\Below w.heap.size w w':=by
 obtain⟨b1,a2,a8,a9,b0⟩:=sK MF
 go_in
 go_wp2_with (first|(at_make;refine uN _ rfl (.tmp 8) (.tmp 8) 53 rfl w.heap.size 4 b1 (.bool false) 1 underlying53 a2 a8 a9 .i64 .i64 _ _ c.length rfl rfl rfl rfl (by rw[b0];omega) (by unfold maxLen;omega) (lF _) ?_;intro w1 O J))
 have a1:=(lK _ _).grown J (lF _) (λq a7=>by simp at a7);have Y:Hid (yN w1 w.heap.size (.slice (some ⟨w.heap.size,0,none⟩) c.length c.length) (fill (λp=>tu h (p % 32)) false 0 c.length)):=by rw[EH];exact yN.made O
 clear O J
 go_loopw [12] (λi wr=>∃k:Nat,k<=c.length/\i=.int .i64 k/\yN wr w.heap.size (.slice (some ⟨w.heap.size,0,none⟩) c.length c.length) (fill (λp=>tu h (p % 32)) false k c.length)/\Below w.heap.size w wr) (λi _=>c.length-(intOf i).toNat)
 case atStart=>exact⟨0,gD _,rfl,Y.o,a1⟩
 case round =>
  obtain⟨k,b2,rfl,j,G⟩:=hrel;by_cases a4:k<c.length
  ·obtain⟨b5,b6⟩:=j.at k (by rw[nJ];exact a4) (by rw[nJ]);have b3:(k:Int)<(c.length:Int):=by omega
   have I:=j.set (by rw[nJ]) k (tu h (k % 32));rw[Hf (λp=>tu h (p % 32)) false k c.length]at I;have Z:Hid (yN (wr.setCell ⟨w.heap.size,k,none⟩ (.bool (tu h (k % 32)))) w.heap.size (.slice (some ⟨w.heap.size,0,none⟩) c.length c.length) (fill (λp=>tu h (p % 32)) false (k+1) c.length)/\Below w.heap.size w (wr.setCell ⟨w.heap.size,k,none⟩ (.bool (tu h (k % 32))))):=⟨I,G.setCell (p:=⟨w.heap.size,k,none⟩) (lF _) _⟩
   have U:Hid ((bits .and .i64 (h/2 ^ (k % 32)) 1==1)=tu h (k % 32)):=zDX h a5 a6 _;clear j G I;generalize (fill (λp=>tu h (p % 32)) false k c.length).getD k false=b7 at *;go_wp2_with fail
   go_roundw
   case rel=>rw[U.o];exact⟨k+1,by omega,by go_num,Z.o⟩
   case measure=>simp[intOf];omega
  ·have a3:k=c.length:=by omega
   subst a3;rw[He]at j;have W:=hid G;have a0:=hid j;clear G j;go_wp2_with fail
   go_ret;exact⟨rfl,a0.o,W.o⟩
def cB(c:List zT)(k:Nat):List Bool:=(List.range c.length).map λp:Nat=>(c.take k).any (xW (p:Int))
theorem Ee c k:(cB c k).length=c.length:=by simp[cB]
theorem QY c k(j:k<c.length):((c.getD k kC).op≠5->cB c (k+1)=cB c k)/\(∀X:Nat,(c.getD k kC).op=5->(c.getD k kC).x=X->cB c (k+1)=(cB c k).set X true):=by
 refine⟨λh=>?_,λX h G=>?_⟩
 ·unfold cB;apply sM;intro p U;rw[Bh c _ k j];have:xW (p:Int) (c.getD k kC)=false:=by unfold xW;simp;intro e;exact absurd e h
  rw[this,aL]
 ·unfold cB;apply rY
  ·simp
  ·intro i J O;rw[eP];simp only[uX,uQ];rw[Bh c _ k j];by_cases e:X=i
   ·rw[lG e];have:xW (i:Int) (c.getD k kC)=true:=by unfold xW;rw[gM];exact⟨h,by rw[G,e]⟩
    rw[this,Bool.or_true]
   ·rw[lC e];have:xW (i:Int) (c.getD k kC)=false:=by unfold xW;rw[lW];intro I;rw[G]at I;omega
    rw[this,aL]
theorem Nr(c)(c1:Mt.codeOk c)(d7:c.length<=300)(g cap)(w)(a6:zY w 0 (.slice (some ⟨g,0,none⟩) c.length cap) c):
  Calls prog 95 #[.slice (some ⟨g,0,none⟩) c.length cap] w λe w'=>e=.returned (.slice (some ⟨w.heap.size,0,none⟩) c.length c.length)/\yN w' w.heap.size (.slice (some ⟨w.heap.size,0,none⟩) c.length c.length) ((List.range c.length).map λp:Nat=>c.any (xW (p)))/\Below w.heap.size w w':=by
 obtain⟨c7,b9,c4,c5,c6⟩:=sK MF;have b6:=hid a6;clear a6
 go_in
 go_wp2_with (first|(at_make;refine uN _ rfl (.tmp 7) (.tmp 7) 53 rfl w.heap.size 4 c7 (.bool false) 1 underlying53 b9 c4 c5 .i64 .i64 _ _ c.length rfl rfl rfl rfl (by rw[c6];omega) (by unfold maxLen;omega) (lF _) ?_;intro w1 b1 a9))
 have b8:=(lK _ _).grown a9 (lF _) (λq c2=>by simp at c2)
 have b7:Hid (yN w1 w.heap.size (.slice (some ⟨w.heap.size,0,none⟩) c.length c.length) (cB c 0)):=by
  have:cB c 0=List.replicate c.length false:=by
   unfold cB;apply rY
   ·simp
   ·intro i d2 d3;simp
  rw[this];exact yN.made b1
 clear b1 a9
 go_loopw [11] (λi wr=>∃k:Nat,k<=c.length/\i=.int .i64 k/\yN wr w.heap.size (.slice (some ⟨w.heap.size,0,none⟩) c.length c.length) (cB c k)/\Below w.heap.size w wr) (λi _=>c.length-(intOf i).toNat)
 case atStart=>exact⟨0,gD _,rfl,b7.o,b8⟩
 case round =>
  obtain⟨k,d5,rfl,j,G⟩:=hrel;by_cases Z:k<c.length
  ·have a8:=CU b6.o G k Z;have a3:=QY c k Z;have b0:=c1 k Z;have d6:(k:Int)<(c.length:Int):=by omega
   have I:=hid G;have O:=hid j;have d8:=(lY j w.heap.size rfl).2;clear G j;generalize c.getD k kC=h at *;have a4:=hid a3;have b5:Hid (h.op=5->0<=h.x/\h.x<c.length):=λe=>by have:=b0.2.2.2.1 e;omega
   clear a3 b0;go_upto_region 5 with (first|(refine wpList_load_mid (by rfl) 112 (.tmp 13) (by rfl) g (k*4) (by rfl) (jE h) _ a8 underlying112 rfl (by rw[bZ];rfl) ?_)|(refine zN 112 4 bZ (by rfl) (.tmp 5) (.tmp 14) (by rfl) wr.heap.size (qQ h) (by rfl) (by rfl) (by exact jP _ _) (by rfl) (by rfl) (uy h) ?_;intro b4 b2 c8 c9 b3))
   obtain⟨d9,d0,d1,a0,a1⟩:=Kz I.o b2 b3;have a2:=hid a0;have J:=hid (O.o.below a1);clear b2 c8 c9 b3 a0 a1 a8 d1;cases a7:(h.op==5)
   ·have U:=hid (a4.o.1 (by simpa using a7));go_wp2_with fail
    go_roundw
    case rel=>exact⟨k+1,by omega,by go_num,by rw[U.o];exact J.o,a2.o⟩
    case measure=>simp[intOf];omega
   ·have W:h.op=5:=by simpa using a7
    have c3:=b5.o W;obtain⟨X,Y⟩:∃X:Nat,h.x=(X:Int):=⟨h.x.toNat,by omega⟩
    have U:=hid (a4.o.2 X W Y);obtain⟨e0,e1⟩:=J.o.at X (by rw[Ee];omega) (by rw[Ee]);have a5:Hid (yN (b4.setCell ⟨w.heap.size,X,none⟩ (.bool true)) w.heap.size (.slice (some ⟨w.heap.size,0,none⟩) c.length c.length) ((cB c k).set X true)/\Below w.heap.size w (b4.setCell ⟨w.heap.size,X,none⟩ (.bool true))):=⟨J.o.set (by rw[Ee]) X true,a2.o.setCell (p:=⟨w.heap.size,X,none⟩) (lF _) _⟩
    rw[Y]at d0;have d4:(X:Int)<(c.length:Int):=by omega
    clear c3 Y W;generalize (cB c k).getD X false=e2 at *;go_wp2_with fail
    go_roundw
    case rel=>exact⟨k+1,by omega,by go_num,by rw[U.o];exact a5.o.1,a5.o.2⟩
    case measure=>simp[intOf];omega
  ·have c0:k=c.length:=by omega
   subst c0;have e:cB c c.length=(List.range c.length).map λp:Nat=>c.any (xW (p:Int)):=by unfold cB;rw[rT]
   rw[e]at j;have I:=hid G;have O:=hid j;clear G j;go_wp2_with fail
   go_ret;exact⟨rfl,O.o,I.o⟩
def jJ(c:List zT)(k:Nat):List Int:=(List.range c.length).map λp:Nat=>(kN c (p:Int) k:Int)
theorem xP c k:(jJ c k).length=c.length:=by simp[jJ]
theorem Ef c k p(h:p<c.length):(jJ c k).getD p 0=(kN c (p) k:Int):=by
 unfold jJ;rw[lH,gN,sF h];rfl
theorem AX c k(G:k<c.length)(S:Nat->Bool)(j:∀p:Nat,p<c.length->leads c k p=S p):jJ c (k+1)=(List.range c.length).map λp:Nat=>(kN c (p) k:Int)+if S p then 1 else 0:=by
 unfold jJ;apply sM;intro p h;rw[wK]at h;rw[Ga,j p h];split <;> simp
theorem IZ f n X(v:Int):((List.range n).map f).set X v=(List.range n).map λp=>if p=X then v else f p:=by
 apply rY
 ·simp
 ·intro i j G;rw[eP];simp only[uX,uQ];by_cases e:X=i
  ·rw[lG e,lG e.symm]
  ·rw[lC e,lC (λh=>e h.symm)]
theorem zCp(c)(k)(j:k<c.length)(X)(h:∀p:Nat,p<c.length->leads c k (p)=decide (p=X)):jJ c (k+1)=(jJ c k).set X ((kN c (X) k:Int)+1):=by
 rw[AX c k j (λp=>decide (p=X)) h];unfold jJ;rw[IZ];apply sM;intro p _;by_cases e:p=X
 ·subst e;simp
 ·simp[e]
theorem zCq(c)(k)(J:k<c.length)(X h)(O:h≠X)(I:∀p:Nat,p<c.length->leads c k (p)=(decide (p=X)||decide (p=h))):jJ c (k+1)=((jJ c k).set X ((kN c (X) k:Int)+1)).set h ((kN c (h) k:Int)+1):=by
 rw[AX c k J _ I];unfold jJ;rw[IZ,IZ];apply sM;intro p _;by_cases e:p=X
 ·subst e;have:¬p=h:=λG=>O G.symm
  simp[this]
 ·by_cases j:p=h
  ·subst j;simp
  ·simp[e,j]
theorem OV c k(j:k<c.length)(h:∀p:Nat,p<c.length->leads c k p=false):jJ c (k+1)=jJ c k:=by
 rw[AX c k j (λ_=>false) h];unfold jJ;apply sM;intro p _;simp
theorem TS(c)(f4:Mt.codeOk c)(h3:c.length<=300)(g cap)(w)(e0:zY w 0 (.slice (some ⟨g,0,none⟩) c.length cap) c):
  Calls prog 122 #[.slice (some ⟨g,0,none⟩) c.length cap] w λe w'=>e=.returned (.slice (some ⟨w.heap.size,0,none⟩) c.length c.length)/\qZ w' w.heap.size (.slice (some ⟨w.heap.size,0,none⟩) c.length c.length) (jJ c c.length)/\Below w.heap.size w w':=by
 obtain⟨f8,f1,f5,f6,f7⟩:=sK QL;have e7:=hid e0;clear e0
 go_in
 go_wp2_with (first|(at_make;refine uN _ rfl (.tmp 7) (.tmp 7) 41 rfl w.heap.size 3 f8 (.int .i64 0) 1 underlying41 f1 f5 f6 .i64 .i64 _ _ c.length rfl rfl rfl rfl (by rw[f7];omega) (by unfold maxLen;omega) (lF _) ?_;intro w1 e4 e2))
 have f0:=(lK _ _).grown e2 (lF _) (λq c0=>by simp at c0)
 have e8:Hid (qZ w1 w.heap.size (.slice (some ⟨w.heap.size,0,none⟩) c.length c.length) (jJ c 0)):=by
  have:jJ c 0=List.replicate c.length 0:=by
   unfold jJ;apply rY
   ·simp
   ·intro i g5 g6;simp[kN]
  rw[this];exact qZ.made e4
 clear e4 e2
 go_loopw [11] (λi wr=>∃k:Nat,k<=c.length/\i=.int .i64 k/\qZ wr w.heap.size (.slice (some ⟨w.heap.size,0,none⟩) c.length c.length) (jJ c k)/\Below w.heap.size w wr) (λi _=>c.length-(intOf i).toNat)
 case atStart=>exact⟨0,gD _,rfl,e8.o,f0⟩
 case round =>
  obtain⟨k,h0,rfl,b9,b7⟩:=hrel;by_cases b2:k<c.length
  ·have e1:=CU e7.o b7 k b2;have e3:=f4 k b2;have h1:(k:Int)<(c.length:Int):=by omega
   have c9:=hid b7;have d0:=hid b9;have h5:=(lY b9 w.heap.size rfl).2;have a5:=hid (λp=>gX (KS c p k) (by omega));have a2:Hid (∀p:Int,leads c k p=mE (c.getD k kC) k p):=λp=>rfl
   have b4:=hid (λX=>zCp c k b2 X);clear b7 b9;generalize c.getD k kC=h at *;have b0:=hid e3;clear e3;go_upto_region 5 with (first|(refine wpList_load_mid (by rfl) 112 (.tmp 14) (by rfl) g (k*4) (by rfl) (jE h) _ e1 underlying112 rfl (by rw[bZ];rfl) ?_)|(refine zN 112 4 bZ (by rfl) (.tmp 5) (.tmp 15) (by rfl) wr.heap.size (qQ h) (by rfl) (by rfl) (by exact jP _ _) (by rfl) (by rfl) (uy h) ?_;intro U c7 f9 g0 e5))
   obtain⟨e6,b3,d4,d5,d6⟩:=Kz c9.o c7 e5;have c8:=hid d5;have c1:=hid (d0.o.below d6);have h4:=(lM.1 c7).1
   have a4:Hid (∀X:Nat,X<c.length->U.cell? ⟨w.heap.size,X,none⟩=some (.int .i64 (kN c (X:Int) k:Nat))/\U.frozen? ⟨w.heap.size,X,none⟩=false):=λX j=>by
    have:=c1.o.at X (by rw[xP];exact j) (by rw[xP]);rw[Ef c k X j]at this;exact this
   have Y:Hid (∀(X:Nat) (v:Int),qZ (U.setCell ⟨w.heap.size,X,none⟩ (.int .i64 v)) w.heap.size (.slice (some ⟨w.heap.size,0,none⟩) c.length c.length) ((jJ c k).set X v)/\Below w.heap.size w (U.setCell ⟨w.heap.size,X,none⟩ (.int .i64 v))):=λX v=>⟨c1.o.set (by rw[xP]) X v,c8.o.setCell (p:=⟨w.heap.size,X,none⟩) (lF _) _⟩
   have d8:Hid (∀z:World,(∀q,q≠w.heap.size->z.heap[q]?=U.heap[q]?)->z.cell? ⟨wr.heap.size,1,none⟩=some (.int .i64 h.x)/\z.cell? ⟨wr.heap.size,2,none⟩=some (.int .i64 h.y)):=λz hz=>by
    have a3:=(hz wr.heap.size (by omega)).trans c7;exact⟨(zB a3).1 1,(zB a3).1 2⟩
   clear c7 f9 g0 e5 d5 d6 e1
   have e9:Hid (((h.op==2)=true/\(h.y != h.x)=true)\/((h.op==2)=true/\(h.y != h.x)=false)\/((h.op==2)=false/\(h.op==3)=true)\/((h.op==2)=false/\(h.op==3)=false/\(h.op==5)=true)\/((h.op==2)=false/\(h.op==3)=false/\(h.op==5)=false/\(h.op==11)=true)\/((h.op==2)=false/\(h.op==3)=false/\(h.op==5)=false/\(h.op==11)=false/\(h.op==12)=true)\/((h.op==2)=false/\(h.op==3)=false/\(h.op==5)=false/\(h.op==11)=false/\(h.op==12)=false/\(h.op==13)=true)\/((h.op==2)=false/\(h.op==3)=false/\(h.op==5)=false/\(h.op==11)=false/\(h.op==12)=false/\(h.op==13)=false)):=by
    show _\/_;simp only[oU,gP,iX,wR];omega
   rcases e9.o with ⟨Z,b6⟩ | ⟨Z,b6⟩ | ⟨Z,b1⟩ | ⟨Z,b1,b5⟩ | ⟨Z,b1,b5,c2⟩ | ⟨Z,b1,b5,c2,d1⟩ | ⟨Z,b1,b5,c2,d1,d9⟩ | ⟨Z,b1,b5,c2,d1,d9⟩
   ·have J:h.op=2:=by simpa using Z
    have a1:=b0.o.1 J;have b8:h.y≠h.x:=by simpa using b6
    obtain⟨X,j⟩:∃X:Nat,h.x=(X:Int):=⟨h.x.toNat,by omega⟩
    have a0:X<c.length:=by omega
    have c3:(X:Int)<(c.length:Int):=by omega
    obtain⟨G,c4⟩:∃G:Nat,h.y=(G:Int):=⟨h.y.toNat,by omega⟩
    have c5:G<c.length:=by omega
    have g8:(G:Int)<(c.length:Int):=by omega
    have W:Hid (jJ c (k+1)=((jJ c k).set X ((kN c (X:Int) k:Int)+1)).set G ((kN c (G:Int) k:Int)+1)):=zCq c k b2 X G (by omega) (λp a7=>by
     rw[a2.o];unfold mE;rw[lG J,j,c4,uE];simp only[Bool.or_eq_true,oU,gM];omega)
    obtain⟨a8,a9⟩:=a4.o X a0;obtain⟨g1,g2⟩:=a4.o G c5;have a3:=a5.o (X:Int);have g9:=a5.o (G:Int);obtain⟨d2,d3⟩:=d8.o (U.setCell ⟨w.heap.size,X,none⟩ (.int .i64 ((kN c (X:Int) k:Int)+1))) (λq c0=>lS _ _ _ _ c0);have g7:G≠X:=by omega
    have h7:(U.setCell ⟨w.heap.size,X,none⟩ (.int .i64 ((kN c (X:Int) k:Int)+1))).cell? ⟨w.heap.size,G,none⟩=some (.int .i64 (kN c (G:Int) k:Nat)):=by
     have:=(Y.o X ((kN c (X:Int) k:Int)+1)).1.at G (by rw[gY,xP];exact c5) (by rw[gY,xP]);rw[this.1,lH,rD (by omega),<-lH,Ef c k G c5]
    have h8:(U.setCell ⟨w.heap.size,X,none⟩ (.int .i64 ((kN c (X:Int) k:Int)+1))).frozen? ⟨w.heap.size,G,none⟩=false:=
     ((Y.o X ((kN c (X:Int) k:Int)+1)).1.at G (by rw[gY,xP];exact c5) (by rw[gY,xP])).2
    rw[j]at d2 b3;rw[c4]at d3;rw[j,c4]at b6;have I:=(Y.o X ((kN c (X:Int) k:Int)+1)).1.set (by rw[gY,xP]) G ((kN c (G:Int) k:Int)+1);rw[<-W.o]at I;have d7:=(Y.o X ((kN c (X:Int) k:Int)+1)).2.setCell (p:=⟨w.heap.size,G,none⟩) (lF _) (.int .i64 ((kN c (G:Int) k:Int)+1));have O:=hid (And.intro I d7);clear I d7 a1 j c4 J b8 g1 g2;generalize kN c (X:Int) k=a6 at *;generalize kN c (G:Int) k=g4 at *;go_upto_region 9 with fail
    generalize U.setCell ⟨w.heap.size,X,none⟩ (.int .i64 ((a6:Int)+1))=g3 at *;clear e6 b3 d4 a8 a9;go_wp2_with fail
    go_roundw
    case rel=>exact⟨k+1,by omega,by go_num,O.o.1,O.o.2⟩
    case measure=>simp[intOf];omega
   ·have J:h.op=2:=by simpa using Z
    have a1:=b0.o.1 J;have b8:h.y=h.x:=by simpa using b6
    obtain⟨X,j⟩:∃X:Nat,h.x=(X:Int):=⟨h.x.toNat,by omega⟩
    have a0:X<c.length:=by omega
    have c3:(X:Int)<(c.length:Int):=by omega
    have W:Hid (jJ c (k+1)=(jJ c k).set X ((kN c (X:Int) k:Int)+1)):=b4.o X (λp a7=>by
     rw[a2.o];unfold mE;rw[lG J,b8,j,uE];simp only[Bool.or_eq_true,oU,gM];omega)
    obtain⟨a8,a9⟩:=a4.o X a0;have a3:=a5.o (X:Int);obtain⟨d2,d3⟩:=d8.o (U.setCell ⟨w.heap.size,X,none⟩ (.int .i64 ((kN c (X:Int) k:Int)+1))) (λq c0=>lS _ _ _ _ c0);rw[b8,j]at d3;rw[j]at d2 b3;have I:=Y.o X ((kN c (X:Int) k:Int)+1);rw[<-W.o]at I;have O:=hid I;have h6:((X:Int) != (X:Int))=false:=by simp
    clear I a1 j J b8 b6;generalize kN c (X:Int) k=a6 at *;go_upto_region 9 with fail
    generalize U.setCell ⟨w.heap.size,X,none⟩ (.int .i64 ((a6:Int)+1))=g3 at *;clear e6 b3 d4 a8 a9;go_wp2_with fail
    go_roundw
    case rel=>exact⟨k+1,by omega,by go_num,O.o.1,O.o.2⟩
    case measure=>simp[intOf];omega
   ·have J:h.op=3:=by simpa using b1
    have a1:=b0.o.2.1 J;obtain⟨X,j⟩:∃X:Nat,h.x=(X:Int):=⟨h.x.toNat,by omega⟩
    have a0:X<c.length:=by omega
    have c3:(X:Int)<(c.length:Int):=by omega
    have W:Hid (jJ c (k+1)=(jJ c k).set X ((kN c (X:Int) k:Int)+1)):=b4.o X (λp a7=>by
     rw[a2.o];unfold mE;rw[lC (by omega),lG (by omega)];rw[j,uE];simp only[oU,gM];omega)
    obtain⟨a8,a9⟩:=a4.o X a0;have a3:=a5.o (X:Int);rw[j]at b3;have I:=Y.o X ((kN c (X:Int) k:Int)+1);have O:Hid (qZ (U.setCell ⟨w.heap.size,X,none⟩ (.int .i64 ((kN c (X:Int) k:Int)+1))) w.heap.size (.slice (some ⟨w.heap.size,0,none⟩) c.length c.length) (jJ c (k+1))/\Below w.heap.size w (U.setCell ⟨w.heap.size,X,none⟩ (.int .i64 ((kN c (X:Int) k:Int)+1)))):=by rw[W.o];exact I
    clear I a1 j J;generalize kN c (X:Int) k=a6 at *;go_wp2_with fail
    go_roundw
    case rel=>exact⟨k+1,by omega,by go_num,O.o.1,O.o.2⟩
    case measure=>simp[intOf];omega
   ·have J:h.op=5:=by simpa using b5
    have a1:=b0.o.2.2.2.1 J;obtain⟨X,j⟩:∃X:Nat,h.x=(X:Int):=⟨h.x.toNat,by omega⟩
    have a0:X<c.length:=by omega
    have c3:(X:Int)<(c.length:Int):=by omega
    have W:Hid (jJ c (k+1)=(jJ c k).set X ((kN c (X:Int) k:Int)+1)):=b4.o X (λp a7=>by
     rw[a2.o];unfold mE;rw[lC (by omega),lG (by omega)];rw[j,uE];simp only[oU,gM];omega)
    obtain⟨a8,a9⟩:=a4.o X a0;have a3:=a5.o (X:Int);rw[j]at b3;have I:=Y.o X ((kN c (X:Int) k:Int)+1);have O:Hid (qZ (U.setCell ⟨w.heap.size,X,none⟩ (.int .i64 ((kN c (X:Int) k:Int)+1))) w.heap.size (.slice (some ⟨w.heap.size,0,none⟩) c.length c.length) (jJ c (k+1))/\Below w.heap.size w (U.setCell ⟨w.heap.size,X,none⟩ (.int .i64 ((kN c (X:Int) k:Int)+1)))):=by rw[W.o];exact I
    clear I a1 j J;generalize kN c (X:Int) k=a6 at *;go_wp2_with fail
    go_roundw
    case rel=>exact⟨k+1,by omega,by go_num,O.o.1,O.o.2⟩
    case measure=>simp[intOf];omega
   ·have J:h.op=11:=by simpa using c2
    have a1:=b0.o.2.2.2.2.2.1 J;obtain⟨X,j⟩:∃X:Nat,h.y=(X:Int):=⟨h.y.toNat,by omega⟩
    have a0:X<c.length:=by omega
    have c3:(X:Int)<(c.length:Int):=by omega
    have W:Hid (jJ c (k+1)=(jJ c k).set X ((kN c (X:Int) k:Int)+1)):=b4.o X (λp a7=>by
     rw[a2.o];unfold mE;rw[lC (by omega),lC (by omega),lG (by omega)];rw[j,uE];simp only[oU,gM];omega)
    obtain⟨a8,a9⟩:=a4.o X a0;have a3:=a5.o (X:Int);rw[j]at d4;have I:=Y.o X ((kN c (X:Int) k:Int)+1);have O:Hid (qZ (U.setCell ⟨w.heap.size,X,none⟩ (.int .i64 ((kN c (X:Int) k:Int)+1))) w.heap.size (.slice (some ⟨w.heap.size,0,none⟩) c.length c.length) (jJ c (k+1))/\Below w.heap.size w (U.setCell ⟨w.heap.size,X,none⟩ (.int .i64 ((kN c (X:Int) k:Int)+1)))):=by rw[W.o];exact I
    clear I a1 j J;generalize kN c (X:Int) k=a6 at *;go_wp2_with fail
    go_roundw
    case rel=>exact⟨k+1,by omega,by go_num,O.o.1,O.o.2⟩
    case measure=>simp[intOf];omega
   ·have J:h.op=12:=by simpa using d1
    have W:Hid (jJ c (k+1)=jJ c k):=OV c k b2 (λp a7=>by
     rw[a2.o];unfold mE;rw[lC (by omega),lC (by omega),lC (by omega),lG (by omega)])
    clear J;go_wp2_with fail
    go_roundw
    case rel=>exact⟨k+1,by omega,by go_num,by rw[W.o];exact c1.o,c8.o⟩
    case measure=>simp[intOf];omega
   ·have J:h.op=13:=by simpa using d9
    have W:Hid (jJ c (k+1)=jJ c k):=OV c k b2 (λp a7=>by
     rw[a2.o];unfold mE;rw[lC (by omega),lC (by omega),lC (by omega),lG (by omega)])
    clear J;go_wp2_with fail
    go_roundw
    case rel=>exact⟨k+1,by omega,by go_num,by rw[W.o];exact c1.o,c8.o⟩
    case measure=>simp[intOf];omega
   ·have c6:h.op≠2/\h.op≠3/\h.op≠5/\h.op≠11/\h.op≠12/\h.op≠13:=by simp only[gP]at *;omega
    have f2:=b0.o.2.2.2.2.2.2.1 c6.2.2.2.2.2
    have W:Hid (jJ c (k+1)=(jJ c k).set (k+1) ((kN c ((k+1:Nat):Int) k:Int)+1)):=b4.o (k+1) (λp a7=>by
     rw[a2.o];unfold mE;rw[lC c6.1,lC (by omega),lC c6.2.2.2.1,lC (by omega),uE];simp only[oU,gM];omega)
    obtain⟨a8,a9⟩:=a4.o (k+1) f2;have a3:=a5.o ((k+1:Nat):Int);have h2:(k:Int)+1<(c.length:Int):=by omega
    have I:=Y.o (k+1) ((kN c ((k+1:Nat):Int) k:Int)+1);rw[<-W.o]at I;have O:=hid I;clear I c6;generalize kN c ((k+1:Nat):Int) k=a6 at *;go_wp2_with fail
    go_roundw
    case rel=>exact⟨k+1,by omega,by go_num,O.o.1,O.o.2⟩
    case measure=>simp[intOf];omega
  ·have f3:k=c.length:=by omega
   subst f3;have c9:=hid b7;have d0:=hid b9;clear b7 b9;go_wp2_with fail
   go_ret;exact⟨rfl,d0.o,c9.o⟩
theorem Ns(c)(a9:Mt.codeOk c)(c0:c.length<=300)(g cap)(w)(a7:zY w 0 (.slice (some ⟨g,0,none⟩) c.length cap) c):
  Calls prog 96 #[.slice (some ⟨g,0,none⟩) c.length cap] w λe w'=>e=.returned (.slice (some ⟨w.heap.size,0,none⟩) c.length c.length)/\yN w' w.heap.size (.slice (some ⟨w.heap.size,0,none⟩) c.length c.length) ((List.range c.length).map λp:Nat=>decide (1<kN c (p) c.length))/\Below w.heap.size w w':=by
 obtain⟨c4,b8,c1,c2,c3⟩:=sK MF;have b3:=hid a7;have b6:=hid a9;clear a7 a9
 go_in
 go_wp2_with (first|(at_make;refine uN _ rfl (.tmp 7) (.tmp 7) 53 rfl w.heap.size 4 c4 (.bool false) 1 underlying53 b8 c1 c2 .i64 .i64 _ _ c.length rfl rfl rfl rfl (by rw[c3];omega) (by unfold maxLen;omega) (lF _) ?_;intro w1 a0 a8))
 have W:=(lK _ _).grown a8 (lF _) (λq a1=>by simp at a1);have a5:Hid (yN w1 w.heap.size (.slice (some ⟨w.heap.size,0,none⟩) c.length c.length) (fill (λp:Nat=>decide (1<kN c (p:Int) c.length)) false 0 c.length)):=by rw[EH];exact yN.made a0
 have a4:=hid (TS c b6.o c0 g cap w1 (b3.o.below W));have d0:=(lY a0 w.heap.size rfl).2;have a2:=hid W;clear a0 a8 W;refine a4.o.mono ?_;rintro e d1 ⟨rfl,b0,Y⟩;have b5:=hid b0;have b4:=hid (a5.o.below Y);have b1:=hid (a2.o.trans (Y.mono (by omega)));clear b0 Y a4 a5 a2;generalize c7:w1.heap.size=h at *;go_wp2_with fail
 go_loopw [12] (λi wr=>∃k:Nat,k<=c.length/\i=.int .i64 k/\yN wr w.heap.size (.slice (some ⟨w.heap.size,0,none⟩) c.length c.length) (fill (λp:Nat=>decide (1<kN c (p:Int) c.length)) false k c.length)/\qZ wr h (.slice (some ⟨h,0,none⟩) c.length c.length) (jJ c c.length)/\Below w.heap.size w wr) (λi _=>c.length-(intOf i).toNat)
 case atStart=>exact⟨0,gD _,rfl,b4.o,b5.o,b1.o⟩
 case round =>
  obtain⟨k,c8,rfl,j,G,I⟩:=hrel;by_cases Z:k<c.length
  ·obtain⟨d2,d3⟩:=j.at k (by rw[nJ];exact Z) (by rw[nJ]);obtain⟨c5,c6⟩:=G.at k (by rw[xP];exact Z) (by rw[xP]);rw[Ef c _ k Z]at c5;have c9:(k:Int)<(c.length:Int):=by omega
   have U:=j.set (by rw[nJ]) k (decide (1<kN c (k:Int) c.length));rw[Hf (λp:Nat=>decide (1<kN c (p:Int) c.length)) false k c.length]at U
   have a6:qZ (wr.setCell ⟨w.heap.size,k,none⟩ (.bool (decide (1<kN c (k:Int) c.length)))) h (.slice (some ⟨h,0,none⟩) c.length c.length) (jJ c c.length):=by
    unfold qZ at G |-;rw[xP]at G |-;exact zR G (λq a1=>by cases a1;exact lS _ _ _ _ (by show h≠w.heap.size;omega))
   have O:Hid (yN (wr.setCell ⟨w.heap.size,k,none⟩ (.bool (decide (1<kN c (k:Int) c.length)))) w.heap.size (.slice (some ⟨w.heap.size,0,none⟩) c.length c.length) (fill (λp:Nat=>decide (1<kN c (p:Int) c.length)) false (k+1) c.length)/\qZ (wr.setCell ⟨w.heap.size,k,none⟩ (.bool (decide (1<kN c (k:Int) c.length)))) h (.slice (some ⟨h,0,none⟩) c.length c.length) (jJ c c.length)/\Below w.heap.size w (wr.setCell ⟨w.heap.size,k,none⟩ (.bool (decide (1<kN c (k:Int) c.length))))):=⟨U,a6,I.setCell (p:=⟨w.heap.size,k,none⟩) (lF _) _⟩
   clear j I U a6 G c6;generalize (fill (λp:Nat=>decide (1<kN c (p:Int) c.length)) false k c.length).getD k false=d4 at *;generalize kN c (k:Int) c.length=J at *
   have a3:Hid (decide ((J:Int)>=2)=decide (1<J)/\decide (J>=2)=decide (1<J)):=by
    constructor <;> (rw[aQ];omega)
   go_wp2_with fail
   go_roundw
   case rel=>first | exact⟨k+1,by omega,by go_num,O.o⟩|(rw[a3.o.1];exact⟨k+1,by omega,by go_num,O.o⟩)|(rw[a3.o.2];exact⟨k+1,by omega,by go_num,O.o⟩)
   case measure=>simp[intOf];omega
  ·have b9:k=c.length:=by omega
   subst b9;rw[He]at j;have b2:=hid I;have b7:=hid j;clear I j;go_wp2_with fail
   go_ret;exact⟨rfl,b7.o,b2.o⟩
def vU(c:List zT)(kZ vK:Int):List Bool:=(List.range c.length).map λp:Nat=>picked c p kZ vK
theorem CV c j h:(vU c j h).length=c.length:=by simp[vU]
theorem zDY:∀k,k<32->tu 4294967295 k=true:=by decide
theorem zCr(c)(a1:Mt.codeOk c)(h j)(c7:0<=h/\h<=4)(b7:0<=j)(b8:j<=4294967295)(Y:c.length<=300)(g cap)(w)(a0:zY w 0 (.slice (some ⟨g,0,none⟩) c.length cap) c):
  Calls prog 66 #[.slice (some ⟨g,0,none⟩) c.length cap,.int .i64 h,.int .i64 j] w λe w'=>e=.returned (.slice (some ⟨w.heap.size,0,none⟩) c.length c.length)/\yN w' w.heap.size (.slice (some ⟨w.heap.size,0,none⟩) c.length c.length) (vU c h j)/\Below w.heap.size w w':=by
 obtain⟨c3,b6,c0,c1,c2⟩:=sK MF;have a2:=Ed c 4294967295 (by omega) (by omega) Y g cap w;have a5:=Ed c j b7 b8 Y g cap w;have a3:=Nr c a1 Y g cap w a0;have a4:=Ns c a1 Y g cap w a0;have b0:=hid a2;have b3:=hid a5;have b1:=hid a3;have b2:=hid a4
 have b4:Hid (((h==1)=true)\/((h==1)=false/\(h==2)=true)\/((h==1)=false/\(h==2)=false/\(h==3)=true)\/((h==1)=false/\(h==2)=false/\(h==3)=false/\(h==4)=true)\/((h==1)=false/\(h==2)=false/\(h==3)=false/\(h==4)=false)):=by
  show _\/_;simp only[oU,gP];omega
 clear a2 a3 a4 a5 a0 a1;rcases b4.o with U | ⟨U,W⟩ | ⟨U,W,Z⟩ | ⟨U,W,Z,a6⟩ | ⟨U,W,Z,a6⟩
 ·go_in
  go_wp2_with fail
  refine b0.o.mono ?_;rintro e w1 ⟨rfl,I,G⟩
  have J:Hid (yN w1 w.heap.size (.slice (some ⟨w.heap.size,0,none⟩) c.length c.length) (vU c h j)/\Below w.heap.size w w1):=by
   refine⟨?_,G⟩
   have:vU c h j=(List.range c.length).map λp=>tu 4294967295 (p % 32):=by
    unfold vU;apply sM;intro p _;rw[zDY _ (Nat.mod_lt _ (by omega))];have O:h=1:=by simpa using U
    unfold picked;rw[lC (by omega),lG O]
   rw[this];exact I
  clear I G;go_wp2_with fail
  go_ret;exact⟨rfl,J.o⟩
 ·go_in
  go_wp2_with fail
  refine b1.o.mono ?_;rintro e w1 ⟨rfl,I,G⟩
  have J:Hid (yN w1 w.heap.size (.slice (some ⟨w.heap.size,0,none⟩) c.length c.length) (vU c h j)/\Below w.heap.size w w1):=by
   refine⟨?_,G⟩
   have:vU c h j=(List.range c.length).map λp:Nat=>c.any (xW (p:Int)):=by
    unfold vU;apply sM;intro p _;have O:h=2:=by simpa using W
    unfold picked;cases c6:c.any (xW (p:Int))
    ·rw[lC (λx=>by cases x.2),lC (by omega),lC (by omega),lC (by omega)]
    ·rw[lG ⟨O,rfl⟩]
   rw[this];exact I
  clear I G;go_wp2_with fail
  go_ret;exact⟨rfl,J.o⟩
 ·go_in
  go_wp2_with fail
  refine b2.o.mono ?_;rintro e w1 ⟨rfl,I,G⟩
  have J:Hid (yN w1 w.heap.size (.slice (some ⟨w.heap.size,0,none⟩) c.length c.length) (vU c h j)/\Below w.heap.size w w1):=by
   refine⟨?_,G⟩
   have:vU c h j=(List.range c.length).map λp:Nat=>decide (1<kN c (p:Int) c.length):=by
    unfold vU;apply sM;intro p _;have O:h=3:=by simpa using Z
    unfold picked;rw[lC (by omega),lC (by omega),lG O]
   rw[this];exact I
  clear I G;go_wp2_with fail
  go_ret;exact⟨rfl,J.o⟩
 ·go_in
  go_wp2_with fail
  refine b3.o.mono ?_;rintro e w1 ⟨rfl,I,G⟩
  have J:Hid (yN w1 w.heap.size (.slice (some ⟨w.heap.size,0,none⟩) c.length c.length) (vU c h j)/\Below w.heap.size w w1):=by
   refine⟨?_,G⟩
   have:vU c h j=(List.range c.length).map λp=>tu j (p % 32):=by
    unfold vU;apply sM;intro p _;have O:h=4:=by simpa using a6
    unfold picked;rw[lC (by omega),lC (by omega),lC (by omega),lG O]
   rw[this];exact I
  clear I G;go_wp2_with fail
  go_ret;exact⟨rfl,J.o⟩
 ·have b5:Hid (vU c h j=List.replicate c.length false):=by
   show _=_;have O:h≠1/\h≠2/\h≠3/\h≠4:=by simp only[gP]at *;omega
   unfold vU;apply rY
   ·simp
   ·intro i c4 c5;simp only[uX,uQ,List.getElem_replicate];unfold picked;rw[lC (by omega),lC (by omega),lC (by omega),lC (by omega)]
  go_in
  go_wp2_with (first|(at_make;refine uN _ rfl (.tmp 26) (.tmp 26) 53 rfl w.heap.size 4 c3 (.bool false) 1 underlying53 b6 c0 c1 .i64 .i64 _ _ c.length rfl rfl rfl rfl (by rw[c2];omega) (by unfold maxLen;omega) (lF _) ?_;intro w1 a9 a8))
  have a7:=(lK _ _).grown a8 (lF _) (λq b9=>by simp at b9);have J:Hid (yN w1 w.heap.size (.slice (some ⟨w.heap.size,0,none⟩) c.length c.length) (vU c h j)/\Below w.heap.size w w1):=by rw[b5.o];exact⟨yN.made a9,a7⟩
  clear a9 a8 a7;go_wp2_with fail
  go_ret;exact⟨rfl,J.o⟩
theorem TT c j h(G:tO c=false) k(I:k<c.length):(qO c j h).getD k false=if vw c k=true then false else picked c k j h:=by
 unfold qO;rw[lC (by rw[G];exact oF),lH,gN,sF I];rfl
theorem ZC c G j(h:tO c=true):qE (qO c G j) c.length=[]:=by
 unfold qO qE;rw[lG h]
 have:((List.range c.length).filter λi=>(List.replicate c.length false).getD i false)=[]:=by
  rw[List.filter_eq_nil_iff];intro i I;rw[lH,oJ];split <;> simp
 rw[this];rfl
theorem TU c j h k(G:k<c.length):(vU c j h).getD k false=picked c k j h:=by
 unfold vU;rw[lH,gN,sF G];rfl
structure TV (c:List zT) (kZ vK:Int) (w:World) (gp k q n cap:Nat) (wr:World):Prop where
 row:qZ wr w.heap.size (.slice (some ⟨q,0,none⟩) n cap) (qE (qO c kZ vK) k)
 len:n=(qE (qO c kZ vK) k).length
 pk:yN wr w.heap.size (.slice (some ⟨gp,0,none⟩) c.length c.length) (vU c kZ vK)
 qp:q≠gp
 below:Below w.heap.size w wr
theorem TV.next{c}{G j}{w wr w'}{J k q n cap}(h:TV c G j w J k q n cap wr)(I:Below wr.heap.size wr w')(e:qE (qO c G j) (k+1)=qE (qO c G j) k):TV c G j w J (k+1) q n cap w':=
 ⟨by rw[e];exact h.row.below I,by rw[e];exact h.len,h.pk.below I,h.qp,h.below.trans (I.mono h.below.size)⟩
theorem TV.push{c}{J I}{w wr Z a0}{O k q n cap q' a1}{E}{a4}(h:TV c J I w O k q n cap wr)(j:Below wr.heap.size wr Z)(G:(Z.alloc (.cells E a4)).grownBy a0 (some q))(U:some q=some q'\/q'=Z.heap.size+1)
  (a3:a0.ownsRow w.heap.size 3 1 (.slice (some ⟨q',0,none⟩) (n+1) a1) (n+1) ((qE (qO c J I) k).map (Value.int .i64)++[.int .i64 (k)])) (e:qE (qO c J I) (k+1)=qE (qO c J I) k++[(k:Int)]):TV c J I w O (k+1) q' (n+1) a1 a0:=by
 have a5:=(lY h.pk O rfl).2;have a6:=lY h.row q rfl;have a7:=j.size;refine⟨?_,by rw[e,lQ,<-h.len];rfl,?_,?_,?_⟩
 ·unfold qZ;rw[e,lQ,rW,<-h.len];exact a3
 ·have Y:=h.pk.below j;unfold yN at Y |-;rw[CV]at Y |-;refine zR Y (λz hz=>?_);cases hz;rw[G.block O (by simp;omega) (λW=>h.qp (by cases W;rfl)),kQ _ _ _ (by omega)]
 ·rcases U with U | U
  ·cases U;exact h.qp
  ·omega
 ·refine⟨G.os.trans (j.os.trans h.below.os),G.tape.trans (j.tape.trans h.below.tape),G.output.trans (j.output.trans h.below.output),?_,λi a2=>?_⟩
  ·have:=G.size;have:=h.below.size;simp at *;omega
  ·have:=h.below.size;rw[G.block i (by simp;omega) (λW=>by cases W;omega),kQ _ _ _ (by omega),j.block i (by omega),h.below.block i a2]
theorem MJ(c)(e6:Mt.codeOk c)(e2:JQ 0 c)(j h)(g0:0<=j/\j<=4)(f8:0<=h)(f9:h<=4294967295)(e5:c.length<=300)(g cap)(w)(c5:zY w 0 (.slice (some ⟨g,0,none⟩) c.length cap) c):
  Calls prog 37 #[.slice (some ⟨g,0,none⟩) c.length cap,.int .i64 j,.int .i64 h] w λe w'=>∃q n G,e=.returned (.slice (some ⟨q,0,none⟩) n G)/\n=(qE (qO c j h) c.length).length/\qZ w' w.heap.size (.slice (some ⟨q,0,none⟩) n G) (qE (qO c j h) c.length)/\Below w.heap.size w w':=by
 obtain⟨f1,e4,e8,e9,f0⟩:=sK QL;obtain⟨a4,a9⟩:∃a4,a4=w.alloc (.cells #[] 3):=⟨_,rfl⟩
 have B1:Below w.heap.size w a4:=by rw[a9];exact(lK _ _).alloc (lF _) _
 have e1:a4.heap.size=w.heap.size+1:=by rw[a9];simp
 have e0:a4.ownsRow w.heap.size 3 1 (.slice (some ⟨w.heap.size,0,none⟩) 0 0) 0 []:=by rw[a9];exact World.ownsRow_lit w #[] 0 (lF _) (by unfold maxLen;omega) rfl
 have a7:=hid (TQ c e5 g cap a4 (c5.below B1));have d5:=hid c5;have a6:=hnd e6 (And.intro e2 (And.intro g0 (And.intro f8 f9)));clear c5 e6 e2;have c1:=hid B1;have c3:=hid e0;have b6:=hid e1;clear B1 e0 e1
 go_in
 go_upto_region 2 with fail
 rw[<-a9];clear a9;cases b8:tO c
 ·rw[b8]at a7;go_wp2_with fail
  refine a7.o.mono ?_;rintro e U ⟨rfl,Y⟩;have b9:Below w.heap.size w U:=c1.o.trans (Y.mono (by have:=b6.o;omega));have d8:=hid (zCr c a6.o.1 j h a6.o.2.2.1 a6.o.2.2.2.1 a6.o.2.2.2.2 e5 g cap U (d5.o.below b9));have d9:=hid (vW c3.o Y);have a5:Hid (Below w.heap.size w U/\w.heap.size<U.heap.size):=⟨b9,by have:=b6.o;have:=Y.size;omega⟩
  clear Y b9 a7 c3 c1 b6;go_wp2_with fail
  refine d8.o.mono ?_;rintro e g4 ⟨rfl,c9,c6⟩
  have f5:Hid (TV c j h w U.heap.size 0 w.heap.size 0 0 g4):=by
   refine⟨vW d9.o c6,rfl,?_,by have:=a5.o.2;omega,a5.o.1.trans (c6.mono a5.o.1.size)⟩;exact qP c9 (by have:=a5.o.2;omega)
  clear c9 c6 d8 d9 a5;generalize U.heap.size=b7 at *;go_wp2_with fail
  go_loopw [7,9,22] (λv b i wr=>∃k q n G:Nat,k<=c.length/\i=.int .i64 k/\b=.int .i64 (bh c k)/\v=.slice (some ⟨q,0,none⟩) n G/\TV c j h w b7 k q n G wr) (λ_ _ i _=>c.length-(intOf i).toNat)
  case atStart=>exact⟨0,w.heap.size,0,0,gD _,rfl,rfl,rfl,f5.o⟩
  case round =>
   obtain⟨k,q,n,G,g9,rfl,rfl,rfl,O⟩:=hrel;by_cases b2:k<c.length
   ·have e3:=CU d5.o O.below k b2;have h0:(k:Int)<(c.length:Int):=by omega
    have I:=hid O;have e7:=zAu c a6.o.2.1 k b2;have c8:=bH (qO c j h) k;rw[TT c j h b8 k b2,<-e7]at c8;obtain⟨d1,g7⟩:=O.pk.at k (by rw[CV];exact b2) (by rw[CV]);rw[TU c j h k b2]at d1;have f6:=(lY O.pk b7 rfl).2;have d2:Hid (bh c (k+1)=if(k:Int)<bh c k then bh c k else if(c.getD k kC).op=11 then(c.getD k kC).y else bh c k):=rfl;have h1:n<=300:=by rw[O.len];have:=KT (qO c j h) k;omega
    have c2:=hid c8;have d3:=hid O.below;clear O e7 c8 g7;generalize c.getD k kC=J at *;generalize c9:picked c k j h=g1 at *;generalize g8:bh c k=a0 at *;go_upto_region 9 with (first|(refine wpList_load_mid (by rfl) 112 (.tmp 25) (by rfl) g (k*4) (by rfl) (jE J) _ e3 underlying112 rfl (by rw[bZ];rfl) ?_)|(refine zN 112 4 bZ (by rfl) (.tmp 11) (.tmp 26) (by rfl) wr.heap.size (qQ J) (by rfl) (by rfl) (by exact jP _ _) (by rfl) (by rfl) (uy J) ?_;intro b5 f2 g2 g3 f3))
    obtain⟨h3,g6,h4,f4,c0⟩:=Kz d3.o f2 f3;have h5:=(gH (a:=⟨b7,k,none⟩) (c0.block b7 f6)).trans d1;have a1:=hid c0;clear f2 g2 g3 f3 f4 c0 e3 g6 d1;cases b0:decide ((k:Int)<a0)
    ·have c7:¬(k:Int)<a0:=by simpa using b0
     have a2:Hid (bh c (k+1)=if J.op=11 then J.y else a0):=by show _=_;rw[d2.o,lC c7]
     cases g1
     ·have a3:Hid (qE (qO c j h) (k+1)=qE (qO c j h) k):=by
       show _=_;rw[c2.o,b0];simp
      have W:=hid (I.o.next a1.o a3.o);cases a8:(J.op==11)
      ·have Z:Hid (bh c (k+1)=a0):=by show _=_;rw[a2.o,lC (by simpa using a8)]
       go_wp2_with fail
       go_roundw
       case rel=>exact⟨k+1,q,n,G,by omega,by go_num,by rw[Z.o],rfl,W.o⟩
       case measure=>simp[intOf];omega
      ·have Z:Hid (bh c (k+1)=J.y):=by show _=_;rw[a2.o,lG (by simpa using a8)]
       go_wp2_with fail
       go_roundw
       case rel=>exact⟨k+1,q,n,G,by omega,by go_num,by rw[Z.o],rfl,W.o⟩
       case measure=>simp[intOf];omega
     ·have a3:Hid (qE (qO c j h) (k+1)=qE (qO c j h) k++[(k:Int)]):=by
       show _=_;rw[c2.o,b0];simp
      have d7:Hid (b5.ownsRow w.heap.size 3 1 (.slice (some ⟨q,0,none⟩) n G) n ((qE (qO c j h) k).map (Value.int .i64))):=by
       have:=I.o.row.below a1.o;unfold qZ at this;rw[<-I.o.len]at this;exact this
      have h2:=gX d3.o.size a1.o.size;cases a8:(J.op==11)
      ·have Z:Hid (bh c (k+1)=a0):=by show _=_;rw[a2.o,lC (by simpa using a8)]
       go_wp2_with (at_builtin;refine wpList_append_lies _ rfl _ _ 41 rfl w.heap.size 3 f1 _ 1 8 underlying41 e4 e8 e9 f0 rfl (by decide) _ n _ rfl (oM d7.o _) ⟨b5.heap.size,0,none⟩ 1 1 [.int .i64 (k:Int)] rfl rfl (fJ _ _ _) (by simp[Value.oneCell']) (by decide) (by unfold maxLen;omega) (by omega) (by simp;omega) (b5.heap.size+1) (by simp) ?_)
       intro q' c4 g5 b3 b1 b4 d0;have W:=hid (I.o.push a1.o b1 (by simpa[Value.ownBlock]using b4) b3 a3.o);clear b3 b1 b4 d0;go_wp2_with fail
       go_roundw
       case rel=>exact⟨k+1,q',n+1,c4,by omega,by go_num,by rw[Z.o],rfl,W.o⟩
       case measure=>simp[intOf];omega
      ·have Z:Hid (bh c (k+1)=J.y):=by show _=_;rw[a2.o,lG (by simpa using a8)]
       go_wp2_with (at_builtin;refine wpList_append_lies _ rfl _ _ 41 rfl w.heap.size 3 f1 _ 1 8 underlying41 e4 e8 e9 f0 rfl (by decide) _ n _ rfl (oM d7.o _) ⟨b5.heap.size,0,none⟩ 1 1 [.int .i64 (k:Int)] rfl rfl (fJ _ _ _) (by simp[Value.oneCell']) (by decide) (by unfold maxLen;omega) (by omega) (by simp;omega) (b5.heap.size+1) (by simp) ?_)
       intro q' c4 g5 b3 b1 b4 d0;have W:=hid (I.o.push a1.o b1 (by simpa[Value.ownBlock]using b4) b3 a3.o);clear b3 b1 b4 d0;go_wp2_with fail
       go_roundw
       case rel=>exact⟨k+1,q',n+1,c4,by omega,by go_num,by rw[Z.o],rfl,W.o⟩
       case measure=>simp[intOf];omega
    ·have c7:(k:Int)<a0:=by simpa using b0
     have a2:Hid (bh c (k+1)=a0):=by show _=_;rw[d2.o,lG c7]
     have a3:Hid (qE (qO c j h) (k+1)=qE (qO c j h) k):=by
      show _=_;rw[c2.o,b0];simp
     have W:=hid (I.o.next a1.o a3.o);go_wp2_with fail
     go_roundw
     case rel=>exact⟨k+1,q,n,G,by omega,by go_num,by rw[a2.o],rfl,W.o⟩
     case measure=>simp[intOf];omega
   ·have f7:k=c.length:=by omega
    subst f7;have I:=hid O;clear O;go_wp2_with fail
    go_ret;exact⟨q,n,G,rfl,I.o.len,I.o.row,I.o.below⟩
 ·rw[b8]at a7;have d6:=hid (ZC c j h b8);go_wp2_with fail
  refine a7.o.mono ?_;rintro e U ⟨rfl,Y⟩;have d4:Hid (Below w.heap.size w U/\qZ U w.heap.size (.slice (some ⟨w.heap.size,0,none⟩) 0 0) []):=⟨c1.o.trans (Y.mono (by have:=b6.o;omega)),vW c3.o Y⟩
  clear Y;go_wp2_with fail
  go_ret;exact⟨w.heap.size,0,0,rfl,by rw[d6.o];rfl,by rw[d6.o];exact d4.o.2,d4.o.1⟩
theorem QZ j h w:Calls prog 36 #[.int .i64 j,.int .i64 h] w λe w'=>e=.returned (.bool (jW j h))/\w=w':=by
 have G:Hid (jW j h=(decide (j>=0)&&decide (j<=4)&&decide (h>=0)&&decide (h<=4294967295))):=by
  show _=_;unfold jW;rw[uE];simp;omega
 rw[G.o];cases I:decide (j>=0)
 ·go_in
  go_wp2_with fail
  go_ret;exact⟨rfl,rfl⟩
 cases J:decide (j<=4)
 ·go_in
  go_wp2_with fail
  go_ret;exact⟨rfl,rfl⟩
 cases O:decide (h>=0)
 ·go_in
  go_wp2_with fail
  go_ret;exact⟨rfl,rfl⟩
 cases U:decide (h<=4294967295)
 ·go_in
  go_wp2_with fail
  go_ret;exact⟨rfl,rfl⟩
 ·go_in
  go_wp2_with fail
  go_ret;exact⟨rfl,rfl⟩
theorem AA(p)(h:(jA p).2=0):(qW p).1=0:=by
 unfold jA at h;split at h
 ·rename_i x;exact absurd h x
 ·rename_i x;simpa using x
