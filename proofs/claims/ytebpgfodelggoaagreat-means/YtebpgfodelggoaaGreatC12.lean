import Derived.Test.YtebpgfodelggoaaGreatC01
set_option linter.all false
set_option maxRecDepth 100000
set_option maxHeartbeats 1000000
namespace Go.Proofs.YtebpgfodelggoaaGreat
open Go.RowKit _root_.Go.Proofs.Tryz Mt
def Ik(S:bP):Array Value:=((List.range 256).map λc=>Value.bool (S c)).toArray
theorem NY S:(Ik S).size=256:=by simp[Ik]
theorem Lx S c(h:c<256):(Ik S)[c]?=some (.bool (S c)):=by
 unfold Ik;rw[oI,gN,sF h];rfl
theorem RU S T k b(I:k<256)(j:∀c,T c=if c=k then b else S c):(Ik S).setIfInBounds k (.bool b)=Ik T:=by
 apply aO
 ·simp[Ik]
 ·intro i h G;simp only[Array.size_setIfInBounds,NY]at h;rw[Array.getElem_setIfInBounds (by rw[NY];exact h)];simp only[Ik,List.getElem_toArray,uX,uQ];rw[j i];by_cases e:k=i
  ·rw[lG e,lG e.symm]
  ·rw[lC e,lC (iB e)]
theorem NZ{S T}(h:ZO S T):Ik S=Ik T:=by
 unfold Ik;congr 1;apply sM;intro c j;rw[h c (by simpa using j)]
def aW(w:World)(g:Nat)(S:bP):Prop:=w.heap[g]?=some (.cells (Ik S) 208 (0,0))
structure Only (g:Nat) (w w':World):Prop where
 os:w'.os=w.os
 tape:w'.tape=w.tape
 output:w'.output=w.output
 size:w'.heap.size=w.heap.size
 block:∀k,k≠g->w'.heap[k]?=w.heap[k]?
theorem Only.refl g w:Only g w w:=⟨rfl,rfl,rfl,rfl,λ_ _=>rfl⟩
theorem Only.trans{g a b c}(h:Only g a b)(k:Only g b c):Only g a c:=
 ⟨k.os.trans h.os,k.tape.trans h.tape,k.output.trans h.output,k.size.trans h.size,λi j=>(k.block i j).trans (h.block i j)⟩
theorem Only.set{g a w}(h:Only g a w) k u:Only g a (w.setCell ⟨g,k,none⟩ u):=
 h.trans ⟨rfl,rfl,rfl,by simp[World.setCell],λi j=>lS _ _ _ _ j⟩
theorem Only.below{g L a w}(h:Only g a w)(G:L<=g):Below L a w:=
 ⟨h.os,h.tape,h.output,aB h.size.symm,λi j=>h.block i (by omega)⟩
theorem bI w g S a b(U:aW w g S):
  Calls prog 152 #[.pointer (some ⟨g,0,none⟩),.int .i64 a,.int .i64 b] w λe w'=>e=.returned (.tuple #[])/\aW w' g (mR S a b)/\Only g w w':=by
 have Y:Hid (aW w g (zh S a b 0)):=by show aW _ _ _;rw[Uc];exact U
 clear U
 go_in
 go_wp2_with fail
 go_loopw [6] (λi wr=>∃k:Nat,k<=256/\i=.int .i64 k/\aW wr g (zh S a b k)/\Only g w wr) (λi _=>256-(intOf i).toNat)
 case atStart=>exact⟨0,by omega,rfl,Y.o,Only.refl _ _⟩
 case round =>
  obtain⟨k,a1,rfl,j,J⟩:=hrel;have I:=hid j;have G:=hid J;by_cases W:k<256
  ·have a3:wr.cell? ⟨g,k,none⟩=some (.bool (zh S a b k k)):=by rw[(zB j).1,Lx _ _ W]
   have a2:=(zB j).2 k;clear j J;by_cases Z:a<=(k:Int)
   ·by_cases a0:(k:Int)<=b
    ·have O:=Xe S a b k ⟨Z,a0⟩;have h:=hid O;clear O;go_wp2_with fail
     go_roundw
     case rel =>
      refine⟨k+1,by omega,by go_num,?_,G.o.set _ _⟩;have:=lX wr g k _ _ (.bool true) I.o;unfold aW;rw[RU (zh S a b k) (zh S a b (k+1)) k true W (λc=>by rw[h.o])]at this;exact this
     case measure=>simp[intOf];omega
    ·have h:=hid (KG S a b k (by omega));go_wp2_with fail
     go_roundw
     case rel=>exact⟨k+1,by omega,by go_num,by rw[h.o];exact I.o,G.o⟩
     case measure=>simp[intOf];omega
   ·have h:=hid (KG S a b k (by omega));go_wp2_with fail
    go_roundw
    case rel=>exact⟨k+1,by omega,by go_num,by rw[h.o];exact I.o,G.o⟩
    case measure=>simp[intOf];omega
  ·have e:k=256:=by omega
   subst e;clear j J;go_wp2_with fail
   go_returns;refine⟨rfl,?_,G.o⟩;have:=I.o;unfold aW at this |-;rw[NZ (Xf S a b)]at this;exact this
theorem EU w g S c(W:aW w g S):
  Calls prog 157 #[.pointer (some ⟨g,0,none⟩),.int .i64 c] w λe w'=>e=.returned (.tuple #[])/\aW w' g (JO S (decide (c=119)))/\Only g w w':=by
 have O:=hid W;clear W;cases Y:(c==119)
 ·have J:Hid (JO S (decide (c=119))=mR S 48 57):=by
   show _=_;have:¬c=119:=by simpa using Y
   simp[JO,this]
  go_in
  go_wp2_with fail
  refine(bI w g S 48 57 O.o).mono ?_;rintro e w1 ⟨rfl,s1,h⟩;have j:=hnd s1 h;clear s1 h;go_wp2_with fail
  go_returns;exact⟨rfl,by rw[J.o];exact j.o.1,j.o.2⟩
 ·have J:Hid (JO S (decide (c=119))=mR (mR (mR (mR S 48 57) 65 90) 95 95) 97 122):=by
   show _=_;have:c=119:=by simpa using Y
   simp[JO,this]
  go_in
  go_wp2_with fail
  refine(bI w g S 48 57 O.o).mono ?_;rintro e w1 ⟨rfl,s1,h⟩;have j:=hnd s1 h;clear s1 h;go_wp2_with fail
  refine(bI w1 g _ 65 90 j.o.1).mono ?_;rintro e Z ⟨rfl,s1,h⟩;have G:=hnd s1 (j.o.2.trans h);clear s1 h j;go_wp2_with fail
  refine(bI Z g _ 95 95 G.o.1).mono ?_;rintro e a0 ⟨rfl,s1,h⟩;have I:=hnd s1 (G.o.2.trans h);clear s1 h G;go_wp2_with fail
  refine(bI a0 g _ 97 122 I.o.1).mono ?_;rintro e a1 ⟨rfl,s1,h⟩;have U:=hnd s1 (I.o.2.trans h);clear s1 h I;go_wp2_with fail
  go_returns;exact⟨rfl,by rw[J.o];exact U.o.1,U.o.2⟩
theorem Gm w g S(O:aW w g S):
  Calls prog 153 #[.pointer (some ⟨g,0,none⟩)] w λe w'=>e=.returned (.string ⟨(yZ S 256).toArray⟩)/\Below w.heap.size w w':=by
 obtain⟨b1,a4,a8,a9,b0⟩:=sK zAL;have a0:=hid O;have a3:=(lM.1 O).1;clear O
 go_in
 go_wp2_with fail
 go_loopw [3,4] (λv i wr=>∃k:Nat,k<=256/\i=.int .i64 k/\wr.ownsRow w.heap.size 5 1 v (yZ S k).length (mo (yZ S k))/\Below w.heap.size w wr) (λ_ i _=>256-(intOf i).toNat)
 case atStart=>exact⟨0,by omega,rfl,oC _ _ _ _,lK _ _⟩
 case round =>
  obtain⟨k,b5,rfl,I,h⟩:=hrel;have b6:=Xh S k;have a7:=h.size;by_cases a5:k<256
  ·have Z:wr.cell? ⟨g,k,none⟩=some (.bool (S k)):=by
    rw[h.cell (p:=⟨g,k,none⟩) a3,(zB a0.o).1,Lx _ _ a5]
   cases J:S k
   ·rw[J]at Z;have j:Hid (wr.ownsRow w.heap.size 5 1 u3 (yZ S (k+1)).length (mo (yZ S (k+1)))):=by rw[Ue J];exact I
    go_wp2_with fail
    go_roundw
    case rel=>exact⟨k+1,by omega,by go_num,j.o,h⟩
    case measure=>simp[intOf];omega
   ·rw[J]at Z
    have j:Hid (mo (yZ S (k+1))=mo (yZ S k)++[.int .u8 (k:Int)]/\(yZ S (k+1)).length=(yZ S k).length+1):=by
     rw[Xg J];refine⟨?_,by simp⟩;simp only[mo,rW,oZ,sO];have:(UInt8.ofNat k).toNat=k:=by simp;omega
     rw[this]
    go_wp2_with (first|(at_builtin;refine rZ _ rfl _ _ 158 rfl w.heap.size 5 b1 (.int .u8 0) 1 1 underlying158 a4 a8 a9 b0 rfl (by decide) _ _ _ rfl (I.alloc _) ⟨wr.heap.size,0,none⟩ 1 1 [.int .u8 (k:Int)] rfl rfl ?c1 ?c2 ?c3 ?c4 ?c5 ?_))
    case c1 =>
     intro b2 u G
     match b2,G with
     | 0,G=>simp at G;subst G;simp[Addr.add]
    case c2=>intro u Y;simp at Y;subst Y;rfl
    case c3=>unfold maxLen;omega
    case c4=>omega
    case c5=>simp;omega
    ·intro b3 w1 W U _
     have a1:Hid (w1.ownsRow w.heap.size 5 1 b3 (yZ S (k+1)).length (mo (yZ S (k+1)))):=by
      show World.ownsRow _ _ _ _ _ _ _;rw[j.o.1,j.o.2];exact W
     have a2:Hid (Below w.heap.size w w1):=(h.alloc a7 _).grown U (by simp;omega) (λq a6=>(I.lt q a6).1);clear W U;go_wp2_with fail
     go_roundw
     case rel=>exact⟨k+1,by omega,by go_num,a1.o,a2.o⟩
     case measure=>simp[intOf];omega
  ·have e:k=256:=by omega
   subst e;have b4:=Lv wr w.heap.size u3 (yZ S 256) I;go_wp2_with fail
   go_returns;exact⟨rfl,h⟩
def zx(p:BA)(i:Int):Int × Int × Bool:=if(zF p i).2=0 then(0,0,false)else((zF p i).1,i+(zF p i).2,true)
theorem RV d(h:-1<=d):FB d=true↔¬(d<0\/bn d=true\/aX d=true):=by
 unfold FB;cases bn d <;> cases aX d <;> simp <;> omega
theorem XR p i:
  ((zI p i==-1)=true/\zx p i=(0,0,false))\/((zI p i==-1)=false/\(zI p i==93)=true/\zx p i=(0,0,false))\/
  ((zI p i==-1)=false/\(zI p i==93)=false/\(zI p i==45)=true/\zx p i=(0,0,false))\/
  ((zI p i==-1)=false/\(zI p i==93)=false/\(zI p i==45)=false/\(zI p i==92)=true/\FB (zI p (i+1))=false/\zx p i=(0,0,false))\/
  ((zI p i==-1)=false/\(zI p i==93)=false/\(zI p i==45)=false/\(zI p i==92)=true/\FB (zI p (i+1))=true/\zx p i=(zI p (i+1),i+2,true))\/
  ((zI p i==-1)=false/\(zI p i==93)=false/\(zI p i==45)=false/\(zI p i==92)=false/\zx p i=(zI p i,i+1,true)):=by
 unfold zx zF;have O:=KA p i;have J:=KA p (i+1);have I:=RV (zI p (i+1)) J;generalize zI p i=c at *;generalize zI p (i+1)=d at *;simp only[oU,gP];by_cases j:c<0\/c=93\/c=45
 ·rw[lG j];simp;omega
 ·rw[lC j];by_cases G:c≠92
  ·rw[lG G];simp;omega
  ·rw[lC G];by_cases h:d<0\/bn d=true\/aX d=true
   ·rw[lG h];have:FB d=false:=by cases x:FB d;rfl;exact absurd h (I.1 x)
    simp[this];omega
   ·rw[lC h];have:FB d=true:=I.2 h;simp[this];omega
theorem bJ(p:BA) i w(O:p.size<=64)(U:0<=i)(W:i<=1000):
  Calls prog 165 #[.string p,.int .i64 i] w λe w'=>e=.returned (.tuple #[.int .i64 (zx p i).1,.int .i64 (zx p i).2.1,.bool (zx p i).2.2])/\w=w':=by
 rcases XR p i with ⟨h,e⟩ | ⟨h,j,e⟩ | ⟨h,j,G,e⟩ | ⟨h,j,G,I,J,e⟩ | ⟨h,j,G,I,J,e⟩ | ⟨h,j,G,I,e⟩
 all_goals
  rw[e];clear e
  go_in
  go_wp2_with (first|(go_at_call 132;refine(kJ _ _ _ O).mono ?_;rintro e w' ⟨rfl,rfl⟩)|(go_at_call 158;refine(qj _ _).mono ?_;rintro e w' ⟨rfl,rfl⟩))
  refine lT (results_tmp3 rfl _ _ _) rfl ?_;exact⟨rfl,rfl⟩
def xH(p:BA)(i:Int):Int × Int × Bool:=if(number p i).2=0\/20<(number p i).1 then(0,0,false)else((number p i).1,i+(number p i).2,true)
theorem UC p i:
  (bn (zI p i)=false/\xH p i=(0,0,false))\/
  (48<=zI p i/\zI p i<=57/\bn (zI p i)=true/\bn (zI p (i+1))=false/\xH p i=(zI p i-48,i+1,true))\/
  (48<=zI p i/\zI p i<=57/\48<=zI p (i+1)/\zI p (i+1)<=57/\bn (zI p i)=true/\bn (zI p (i+1))=true/\
   (
   (decide (20<(zI p i-48)*10+zI p (i+1)-48)=true/\xH p i=(0,0,false))\/
   (decide (20<(zI p i-48)*10+zI p (i+1)-48)=false/\xH p i=((zI p i-48)*10+zI p (i+1)-48,i+1+1,true)))):=by
 unfold xH number;simp only[bn,gM,lW];generalize zI p i=c;generalize zI p (i+1)=d;by_cases h:c<48\/57<c
 ·rw[lG h];simp;omega
 ·rw[lC h];by_cases j:d<48\/57<d
  ·rw[lG j];simp;omega
  ·rw[lC j];by_cases G:20<10*(c-48)+d-48
   ·simp[G];omega
   ·simp[G];omega
theorem pX(p:BA) i w(O:p.size<=64)(U:0<=i)(W:i<=1000):
  Calls prog 150 #[.string p,.int .i64 i] w λe w'=>e=.returned (.tuple #[.int .i64 (xH p i).1,.int .i64 (xH p i).2.1,.bool (xH p i).2.2])/\w=w':=by
 rcases UC p i with ⟨h,e⟩ | ⟨I,J,h,j,e⟩ | ⟨I,J,Y,Z,h,j,⟨G,e⟩ | ⟨G,e⟩⟩
 all_goals
  rw[e];clear e
  go_in
  go_wp2_with (first|(go_at_call 132;refine(kJ _ _ _ O).mono ?_;rintro e w' ⟨rfl,rfl⟩)|(go_at_call 164;refine(Js _ _).mono ?_;rintro e w' ⟨rfl,rfl⟩))
  refine lT (results_tmp3 rfl _ _ _) rfl ?_;exact⟨rfl,rfl⟩
def fA(p:BA)(i:Int):Int × Int × Bool:=if zI p i=125 then(-1,i,true)else xH p i
theorem mZ(p:BA) i w(h:p.size<=64)(j:0<=i)(G:i<=1000):
  Calls prog 151 #[.string p,.int .i64 i] w λe w'=>e=.returned (.tuple #[.int .i64 (fA p i).1,.int .i64 (fA p i).2.1,.bool (fA p i).2.2])/\w=w':=by
 cases a:(zI p i==125)
 ·have e:fA p i=xH p i:=by unfold fA;rw[lC (by simpa using a)]
  rw[e];clear e
  go_in
  go_wp2_with (first|(go_at_call 132;refine(kJ _ _ _ h).mono ?_;rintro e w' ⟨rfl,rfl⟩)|(go_at_call 150;refine(pX _ _ _ h (by omega) (by omega)).mono ?_;rintro e w' ⟨rfl,rfl⟩))
  refine lT (results_tmp3 rfl _ _ _) rfl ?_;exact⟨rfl,rfl⟩
 ·have e:fA p i=(-1,i,true):=by unfold fA;rw[lG (by simpa using a)]
  rw[e];clear e
  go_in
  go_wp2_with (first|(go_at_call 132;refine(kJ _ _ _ h).mono ?_;rintro e w' ⟨rfl,rfl⟩))
  refine lT (results_tmp3 rfl _ _ _) rfl ?_;exact⟨rfl,rfl⟩
