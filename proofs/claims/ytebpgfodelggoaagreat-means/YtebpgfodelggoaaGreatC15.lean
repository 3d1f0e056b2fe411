import Derived.Test.YtebpgfodelggoaaGreatC14
set_option linter.all false
set_option maxRecDepth 100000
set_option maxHeartbeats 2000000
namespace Go.Proofs.YtebpgfodelggoaaGreat
open Go.RowKit _root_.Go.Proofs.Tryz Mt
def Rh(p:BA)(i:Int):PT × Int:=if(count p i).2.2.2 then(tF p (count p i).2.2.1 (count p i).1 (count p i).2.1,0)else(mJ,4)
theorem XW p i:
  ((xH p (i+1)).2.2=false/\Rh p i=(mJ,4))\/
  ((
   xH p (i+1)).2.2=true/\(zI p (xH p (i+1)).2.1==44)=false/\
   (
   ((zI p (xH p (i+1)).2.1 != 125)=true/\Rh p i=(mJ,4))\/
   ((zI p (xH p (i+1)).2.1 != 125)=false/\Rh p i=(tF p ((xH p (i+1)).2.1+1) (xH p (i+1)).1 (xH p (i+1)).1,0))))\/
  ((
   xH p (i+1)).2.2=true/\(zI p (xH p (i+1)).2.1==44)=true/\
   (
   ((fA p ((xH p (i+1)).2.1+1)).2.2=false/\Rh p i=(mJ,4))\/
   ((fA p ((xH p (i+1)).2.1+1)).2.2=true/\((fA p ((xH p (i+1)).2.1+1)).1 != -1)=true/\decide ((fA p ((xH p (i+1)).2.1+1)).1<(xH p (i+1)).1)=true/\Rh p i=(mJ,4))\/
   ((
    fA p ((xH p (i+1)).2.1+1)).2.2=true/\(((fA p ((xH p (i+1)).2.1+1)).1 != -1)=false\/((fA p ((xH p (i+1)).2.1+1)).1 != -1)=true/\decide ((fA p ((xH p (i+1)).2.1+1)).1<(xH p (i+1)).1)=false)/\
    (
     ((zI p (fA p ((xH p (i+1)).2.1+1)).2.1 != 125)=true/\Rh p i=(mJ,4))\/
     ((zI p (fA p ((xH p (i+1)).2.1+1)).2.1 != 125)=false/\Rh p i=(tF p ((fA p ((xH p (i+1)).2.1+1)).2.1+1) (xH p (i+1)).1 (fA p ((xH p (i+1)).2.1+1)).1,0)))))):=by
 have a1:=cK p (i+1);have a2:=cK p (i+1+(number p (i+1)).2+1);have no:∀x,count p i=x->x.2.2.2=false->Rh p i=(mJ,4):=λx I e=>by unfold Rh;rw[I,e];rfl
 have O:∀a b c,count p i=(a,b,c,true)->Rh p i=(tF p c a b,0):=λa b c I=>by unfold Rh;rw[I];rfl
 by_cases j:(number p (i+1)).2=0\/20<(number p (i+1)).1
 ·left;refine⟨by unfold xH;rw[lG j],no (0,0,0,false) ?_ rfl⟩;unfold count;rw[lG j]
 ·right;have Z:xH p (i+1)=((number p (i+1)).1,i+1+(number p (i+1)).2,true):=by unfold xH;rw[lC j]
  rw[Z];dsimp only;by_cases J:zI p (i+1+(number p (i+1)).2)=44
  ·right;refine⟨rfl,by simpa using J,?_⟩;by_cases h:zI p (i+1+(number p (i+1)).2+1)=125
   ·have G:fA p (i+1+(number p (i+1)).2+1)=(-1,i+1+(number p (i+1)).2+1,true):=by unfold fA;rw[lG h]
    rw[G];right;right;refine⟨rfl,gG rfl,lZ ⟨by simpa using h,?_⟩⟩;rw[show i+1+(number p (i+1)).2+1+1=i+1+(number p (i+1)).2+2 by omega];apply O;unfold count;rw[lC j,lC (by omega),lC (by omega),lG h]
   ·have G:fA p (i+1+(number p (i+1)).2+1)=xH p (i+1+(number p (i+1)).2+1):=by unfold fA;rw[lC h]
    rw[G];by_cases U:(number p (i+1+(number p (i+1)).2+1)).2=0\/20<(number p (i+1+(number p (i+1)).2+1)).1
    ·left;refine⟨by unfold xH;rw[lG U],no (0,0,0,false) ?_ rfl⟩;unfold count;rw[lC j,lC (by omega),lC (by omega),lC h,lG (by omega)]
    ·right;have a0:xH p (i+1+(number p (i+1)).2+1)=((number p (i+1+(number p (i+1)).2+1)).1,i+1+(number p (i+1)).2+1+(number p (i+1+(number p (i+1)).2+1)).2,true):=by unfold xH;rw[lC U]
     rw[a0];dsimp only;by_cases W:(number p (i+1+(number p (i+1)).2+1)).1<(number p (i+1)).1
     ·left;refine⟨rfl,by simp;omega,by simpa using W,no (0,0,0,false) ?_ rfl⟩;unfold count;rw[lC j,lC (by omega),lC (by omega),lC h,lG (by omega)]
     ·right;refine⟨rfl,lZ ⟨by simp;omega,by simpa using W⟩,?_⟩;by_cases Y:zI p (i+1+(number p (i+1)).2+1+(number p (i+1+(number p (i+1)).2+1)).2)=125
      ·right;refine⟨by simpa using Y,?_⟩;rw[show i+1+(number p (i+1)).2+1+(number p (i+1+(number p (i+1)).2+1)).2+1=i+1+(number p (i+1)).2+2+(number p (i+1+(number p (i+1)).2+1)).2 by omega];apply O;unfold count;rw[lC j,lC (by omega),lC (by omega),lC h,lC (by omega)]
      ·left;refine⟨by simpa using Y,no (0,0,0,false) ?_ rfl⟩;unfold count;rw[lC j,lC (by omega),lC (by omega),lC h,lG (by omega)]
  ·left;refine⟨rfl,by simpa using J,?_⟩;by_cases h:zI p (i+1+(number p (i+1)).2)=125
   ·right;refine⟨by simpa using h,O _ _ _ ?_⟩;unfold count;rw[lC j,lG h]
   ·left;refine⟨by simpa using h,no (0,0,0,false) ?_ rfl⟩;unfold count;rw[lC j,lC h,lG J]
theorem WA p i(j:0<=i):0<=(xH p i).2.1/\(xH p i).2.1<=i+2/\0<=(xH p i).1/\(xH p i).1<=20:=by
 have h:=cK p i;unfold xH;split
 ·simp;omega
 ·simp only;omega
theorem zAS p i(h:0<=i):0<=(fA p i).2.1/\(fA p i).2.1<=i+2/\-1<=(fA p i).1/\(fA p i).1<=20:=by
 have j:=WA p i h;unfold fA;split
 ·simp only;omega
 ·omega
theorem MV(p:BA) i w(h:p.size<=64)(a7:0<=i)(a8:i<=100):
  Calls prog 135 #[.string p,.int .i64 i] w λe w'=>e=.returned (.tuple #[jv (Rh p i).1,.int .i64 (Rh p i).2])/\Below w.heap.size w w':=by
 obtain⟨b3,b4,b5,b6⟩:=WA p (i+1) (by omega);obtain⟨a9,b0,b1,b2⟩:=zAS p ((xH p (i+1)).2.1+1) (by omega);rcases XW p i with ⟨a0,e⟩ | ⟨a0,a2,⟨U,e⟩ | ⟨U,e⟩⟩ | ⟨a0,a2,⟨U,e⟩ | ⟨U,G,a1,e⟩ | ⟨U,G,⟨a1,e⟩ | ⟨a1,e⟩⟩⟩
 ·rw[e];clear e
  go_in
  go_wp2_with (first|(go_at_call 132;refine(kJ _ _ _ h).mono ?_;rintro e w' ⟨rfl,rfl⟩)|(go_at_call 150;refine(pX _ _ _ h (by omega) (by omega)).mono ?_;rintro e w' ⟨rfl,rfl⟩)|(go_at_call 151;refine(mZ _ _ _ h (by omega) (by omega)).mono ?_;rintro e w' ⟨rfl,rfl⟩))
  go_returns;exact⟨rfl,by go_grown⟩
 ·rw[e];clear e
  go_in
  go_wp2_with (first|(go_at_call 132;refine(kJ _ _ _ h).mono ?_;rintro e w' ⟨rfl,rfl⟩)|(go_at_call 150;refine(pX _ _ _ h (by omega) (by omega)).mono ?_;rintro e w' ⟨rfl,rfl⟩)|(go_at_call 151;refine(mZ _ _ _ h (by omega) (by omega)).mono ?_;rintro e w' ⟨rfl,rfl⟩))
  go_returns;exact⟨rfl,by go_grown⟩
 ·rw[e];clear e;obtain⟨T,J⟩:∃T,T=tF p ((xH p (i+1)).2.1+1) (xH p (i+1)).1 (xH p (i+1)).1:=⟨_,rfl⟩
  rw[<-J];have W:=hid J;clear J
  go_in
  go_wp2_with (first|(go_at_call 132;refine(kJ _ _ _ h).mono ?_;rintro e w' ⟨rfl,rfl⟩)|(go_at_call 150;refine(pX _ _ _ h (by omega) (by omega)).mono ?_;rintro e w' ⟨rfl,rfl⟩)|(go_at_call 151;refine(mZ _ _ _ h (by omega) (by omega)).mono ?_;rintro e w' ⟨rfl,rfl⟩))
  have j:=mq p ((xH p (i+1)).2.1+1) (xH p (i+1)).1 (xH p (i+1)).1 (w.alloc (.cells (pQ mJ) 174)) h (by omega) (by omega);rw[<-W.o]at j;refine j.mono ?_;clear j;rintro e w1 ⟨rfl,I⟩;have O:=hnd ((I.block _ (by simp)).trans (jP w _)) (((lK _ _).alloc (lF _) _).trans (I.mono (by simp)));clear I;go_wp2_with (refine zN 174 8 qF (by rfl) (.tmp 4) (.tmp 56) (by rfl) w.heap.size (pQ T) (by rfl) (by rfl) O.o.1 (by rfl) (by rfl) (pR _) ?_;intro a6 Y a4 a5 Z)
  refine lT (qA 174 8 underlying174 rfl qF rfl (by rfl) Y (by rfl)) rfl ⟨rfl,?_⟩;exact O.o.2.trans (Z _ (lF _))
 ·rw[e];clear e
  go_in
  go_wp2_with (first|(go_at_call 132;refine(kJ _ _ _ h).mono ?_;rintro e w' ⟨rfl,rfl⟩)|(go_at_call 150;refine(pX _ _ _ h (by omega) (by omega)).mono ?_;rintro e w' ⟨rfl,rfl⟩)|(go_at_call 151;refine(mZ _ _ _ h (by omega) (by omega)).mono ?_;rintro e w' ⟨rfl,rfl⟩))
  go_returns;exact⟨rfl,by go_grown⟩
 ·rw[e];clear e
  go_in
  go_wp2_with (first|(go_at_call 132;refine(kJ _ _ _ h).mono ?_;rintro e w' ⟨rfl,rfl⟩)|(go_at_call 150;refine(pX _ _ _ h (by omega) (by omega)).mono ?_;rintro e w' ⟨rfl,rfl⟩)|(go_at_call 151;refine(mZ _ _ _ h (by omega) (by omega)).mono ?_;rintro e w' ⟨rfl,rfl⟩))
  go_returns;exact⟨rfl,by go_grown⟩
 ·rw[e];clear e;rcases G with G | ⟨G,a3⟩
  all_goals
   go_in
   go_wp2_with (first|(go_at_call 132;refine(kJ _ _ _ h).mono ?_;rintro e w' ⟨rfl,rfl⟩)|(go_at_call 150;refine(pX _ _ _ h (by omega) (by omega)).mono ?_;rintro e w' ⟨rfl,rfl⟩)|(go_at_call 151;refine(mZ _ _ _ h (by omega) (by omega)).mono ?_;rintro e w' ⟨rfl,rfl⟩))
   go_returns;exact⟨rfl,by go_grown⟩
 ·rw[e];clear e;obtain⟨T,J⟩:∃T,T=tF p ((fA p ((xH p (i+1)).2.1+1)).2.1+1) (xH p (i+1)).1 (fA p ((xH p (i+1)).2.1+1)).1:=⟨_,rfl⟩
  rw[<-J];have W:=hid J;clear J;rcases G with G | ⟨G,a3⟩
  all_goals
   go_in
   go_wp2_with (first|(go_at_call 132;refine(kJ _ _ _ h).mono ?_;rintro e w' ⟨rfl,rfl⟩)|(go_at_call 150;refine(pX _ _ _ h (by omega) (by omega)).mono ?_;rintro e w' ⟨rfl,rfl⟩)|(go_at_call 151;refine(mZ _ _ _ h (by omega) (by omega)).mono ?_;rintro e w' ⟨rfl,rfl⟩))
   have j:=mq p ((fA p ((xH p (i+1)).2.1+1)).2.1+1) (xH p (i+1)).1 (fA p ((xH p (i+1)).2.1+1)).1 (w.alloc (.cells (pQ mJ) 174)) h (by omega) (by omega);rw[<-W.o]at j;refine j.mono ?_;clear j;rintro e w1 ⟨rfl,I⟩;have O:=hnd ((I.block _ (by simp)).trans (jP w _)) (((lK _ _).alloc (lF _) _).trans (I.mono (by simp)));clear I;go_wp2_with (refine zN 174 8 qF (by rfl) (.tmp 4) (.tmp 56) (by rfl) w.heap.size (pQ T) (by rfl) (by rfl) O.o.1 (by rfl) (by rfl) (pR _) ?_;intro a6 Y a4 a5 Z)
   refine lT (qA 174 8 underlying174 rfl qF rfl (by rfl) Y (by rfl)) rfl ⟨rfl,?_⟩;exact O.o.2.trans (Z _ (lF _))
