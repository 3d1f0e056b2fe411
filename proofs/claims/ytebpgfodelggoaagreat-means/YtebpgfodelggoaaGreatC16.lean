import Derived.Test.YtebpgfodelggoaaGreatC14
set_option linter.all false
set_option maxRecDepth 100000
set_option maxHeartbeats 2000000
namespace Go.Proofs.YtebpgfodelggoaaGreat
open Go.RowKit _root_.Go.Proofs.Tryz Mt
def WB(p:BA)(i:Int):PT × Int:=if(kU p i).2 then(jQ (kU p i).1,0)else(mJ,5)
theorem XY p i:
  ((zI p (i+1) != 63)=true/\WB p i=(⟨2,i+1,1,0,0,0,0,[]⟩,0))\/
  ((
   zI p (i+1) != 63)=false/\
   (
   ((zI p (i+2)==58)=true/\WB p i=(⟨2,i+3,2,0,0,0,0,[]⟩,0))\/
   ((zI p (i+2)==58)=false/\(zI p (i+2)==62)=true/\WB p i=(⟨2,i+3,3,0,0,0,0,[]⟩,0))\/
   ((zI p (i+2)==58)=false/\(zI p (i+2)==62)=false/\(zI p (i+2)==61)=true/\WB p i=(⟨2,i+3,4,0,0,0,0,[]⟩,0))\/
   ((zI p (i+2)==58)=false/\(zI p (i+2)==62)=false/\(zI p (i+2)==61)=false/\(zI p (i+2)==33)=true/\WB p i=(⟨2,i+3,5,0,0,0,0,[]⟩,0))\/
   ((zI p (i+2)==58)=false/\(zI p (i+2)==62)=false/\(zI p (i+2)==61)=false/\(zI p (i+2)==33)=false/\WB p i=(mJ,5)))):=by
 unfold WB;rcases qz p i with ⟨j,e⟩ | ⟨j,⟨h,e⟩ | ⟨h,G,e⟩ | ⟨h,G,I,e⟩ | ⟨h,G,I,J,e⟩ | ⟨h,G,I,J,e⟩⟩
 ·exact gG ⟨j,by rw[e];rfl⟩
 ·exact lZ ⟨j,gG ⟨h,by rw[e];rfl⟩⟩
 ·exact lZ ⟨j,lZ (gG ⟨h,G,by rw[e];rfl⟩)⟩
 ·exact lZ ⟨j,lZ (lZ (gG ⟨h,G,I,by rw[e];rfl⟩))⟩
 ·exact lZ ⟨j,lZ (lZ (lZ (gG ⟨h,G,I,J,by rw[e];rfl⟩)))⟩
 ·exact lZ ⟨j,lZ (lZ (lZ (lZ ⟨h,G,I,J,by rw[e];rfl⟩)))⟩
theorem JV(p:BA) i w(O:p.size<=64)(U:0<=i)(W:i<=100):
  Calls prog 133 #[.string p,.int .i64 i] w λe w'=>e=.returned (.tuple #[jv (WB p i).1,.int .i64 (WB p i).2])/\Below w.heap.size w w':=by
 rcases XY p i with ⟨I,e⟩ | ⟨I,⟨h,e⟩ | ⟨h,j,e⟩ | ⟨h,j,G,e⟩ | ⟨h,j,G,J,e⟩ | ⟨h,j,G,J,e⟩⟩
 all_goals
  rw[e];clear e
  go_in
  go_wp2_with (go_at_call 132;refine(kJ _ _ _ O).mono ?_;rintro e w' ⟨rfl,rfl⟩)
  go_returns;exact⟨rfl,by go_grown⟩
def UE(p:BA)(i:Int):PT × Int:=if(vM p i).2 then(jQ (vM p i).1,0)else(mJ,2)
theorem zCX(p)(i)(j:zI p i=92)(h:zI p (i+1)=100\/zI p (i+1)=119):yZ (JO none0 (decide (zI p (i+1)=119))) 256=all p i (i+2) false:=by
 rw[<-Ej];refine zi (λc _=>?_);have e:jS p i=(92,zI p (i+1),2,true):=by unfold jS;rw[lG ⟨j,h⟩]
 rw[KH,pK,lC (by omega),e,lC (by simp),AB];simp only[wS];cases zf (decide (zI p (i+1)=119)) (c:Int) <;> simp[none0]
theorem XZ p i(Y:zI p i=92):
  (decide (49<=zI p (i+1))=true/\decide (zI p (i+1)<=57)=true/\49<=zI p (i+1)/\zI p (i+1)<=57/\UE p i=(⟨6,i+2,0,zI p (i+1)-48,0,0,0,[]⟩,0))\/
  ((
   decide (49<=zI p (i+1))=false\/decide (49<=zI p (i+1))=true/\decide (zI p (i+1)<=57)=false)/\
   (
   ((zI p (i+1)==100||zI p (i+1)==119)=true/\UE p i=(⟨5,i+2,0,0,0,0,0,yZ (JO none0 (decide (zI p (i+1)=119))) 256⟩,0))\/
   ((zI p (i+1)==100||zI p (i+1)==119)=false/\FB (zI p (i+1))=true/\UE p i=(⟨5,i+2,0,0,0,0,0,yZ (mR none0 (zI p (i+1)) (zI p (i+1))) 256⟩,0))\/
   ((zI p (i+1)==100||zI p (i+1)==119)=false/\FB (zI p (i+1))=false/\UE p i=(mJ,2)))):=by
 have a0:=KA p (i+1);have a1:=BI p (i+1);have Z:=RV (zI p (i+1)) a0;have J:∀t,vM p i=(t,true)->UE p i=(jQ t,0):=λt I=>by unfold UE;rw[I];rfl
 have no:∀t,vM p i=(t,false)->UE p i=(mJ,2):=λt I=>by unfold UE;rw[I];rfl
 by_cases G:zI p (i+1)<0
 ·right;refine⟨gG (by simp;omega),lZ (lZ ⟨?_,?_,no ⟨1,i,i+2,0,0,0,[]⟩ (by unfold vM;rw[lG G])⟩)⟩
  ·simp;omega
  ·cases x:FB (zI p (i+1));rfl;exact absurd (gG G) (Z.1 x)
 ·by_cases h:zI p (i+1)=100\/zI p (i+1)=119
  ·right;refine⟨lZ ⟨by simp;omega,by simp;omega⟩,gG ⟨by simpa using h,?_⟩⟩;rw[zCX p i Y h];exact J ⟨1,i,i+2,0,0,0,all p i (i+2) false⟩ (by unfold vM;rw[lC G,lG h])
  ·have O:(zI p (i+1)==100||zI p (i+1)==119)=false:=by simpa using h
   by_cases j:49<=zI p (i+1)/\zI p (i+1)<=57
   ·left;exact⟨by simpa using j.1,by simpa using j.2,j.1,j.2,J ⟨2,i,i+2,zI p (i+1)-48,0,0,[]⟩ (by unfold vM;rw[lC G,lC h,lG j])⟩
   ·right
    have e:vM p i=(⟨1,i,i+2,0,0,0,[UInt8.ofNat (zI p (i+1)).toNat]⟩,!bn (zI p (i+1))&&!aX (zI p (i+1))):=by
     unfold vM;rw[lC G,lC h,lC j]
    refine⟨?_,lZ ?_⟩
    ·simp only[gM,lW];omega
    ·have W:FB (zI p (i+1))=(!bn (zI p (i+1))&&!aX (zI p (i+1))):=by
      unfold FB;have:(zI p (i+1) != -1)=true:=by simp;omega
      rw[this];cases bn (zI p (i+1)) <;> cases aX (zI p (i+1)) <;> rfl
     rw[<-W]at e;cases U:FB (zI p (i+1))
     ·rw[U]at e;exact lZ ⟨O,rfl,no _ e⟩
     ·rw[U]at e;refine gG ⟨O,rfl,?_⟩;rw[Wo _ (by omega) a1];exact J _ e
theorem LC p i w(J:p.size<=64)(b5:0<=i)(b6:i<=100)(a3:zI p i=92):
  Calls prog 138 #[.string p,.int .i64 i] w λe w'=>e=.returned (.tuple #[jv (UE p i).1,.int .i64 (UE p i).2])/\Below w.heap.size w w':=by
 have a8:=XZ p i a3;clear a3;rcases a8 with ⟨U,a2,W,j,e⟩ | ⟨h,⟨U,e⟩ | ⟨U,a2,e⟩ | ⟨U,a2,e⟩⟩
 ·rw[e];clear e
  go_in
  go_wp2_with (go_at_call 132;refine(kJ _ _ _ J).mono ?_;rintro e w' ⟨rfl,rfl⟩)
  go_returns;exact⟨rfl,by go_grown⟩
 ·rw[e];clear e;obtain⟨T,I⟩:∃T,T=yZ (JO none0 (decide (zI p (i+1)=119))) 256:=⟨_,rfl⟩
  rw[<-I];have O:=hid I;clear I;rcases h with h | ⟨h,a1⟩
  all_goals
   go_in
   go_wp2_with (first|(go_at_call 132;refine(kJ _ _ _ J).mono ?_;rintro e w' ⟨rfl,rfl⟩)|(go_at_call 156;refine(vV _ _).mono ?_;rintro e w' ⟨rfl,rfl⟩))
   refine(EU _ (w.heap.size+1) none0 _ (by exact Il _ _)).mono ?_;rintro e w1 ⟨rfl,s1,a4⟩;obtain⟨a5,W,b7⟩:=Jt a4;have a9:=hid s1;have a6:=hid W;clear s1 a4 W;go_wp2_with fail
   have G:=Gm w1 (w.heap.size+1) _ a9.o;rw[<-O.o]at G;refine G.mono ?_;clear G;rintro e b2 ⟨rfl,j⟩;have b4:=(j.block _ (by omega)).trans a5;have a7:=hid (a6.o.trans (j.mono (by omega)));clear j a5;go_wp2_with (refine zN 174 8 qF (by rfl) (.tmp 4) (.tmp 30) (by rfl) w.heap.size (pQ ⟨5,i+2,0,0,0,0,0,T⟩) (by rfl) (by rfl) b4 (by rfl) (by rfl) (pR _) ?_;intro b3 Y b0 b1 Z)
   refine lT (qA 174 8 underlying174 rfl qF rfl (by rfl) Y (by rfl)) rfl ⟨rfl,?_⟩;exact a7.o.trans (Z _ (lF _))
 ·rw[e];clear e;obtain⟨T,I⟩:∃T,T=yZ (mR none0 (zI p (i+1)) (zI p (i+1))) 256:=⟨_,rfl⟩
  rw[<-I];have O:=hid I;clear I;rcases h with h | ⟨h,a1⟩
  all_goals
   go_in
   go_wp2_with (first|(go_at_call 132;refine(kJ _ _ _ J).mono ?_;rintro e w' ⟨rfl,rfl⟩)|(go_at_call 156;refine(vV _ _).mono ?_;rintro e w' ⟨rfl,rfl⟩)|(go_at_call 158;refine(qj _ _).mono ?_;rintro e w' ⟨rfl,rfl⟩))
   have G:=Im (w.alloc (.cells (pQ mJ) 174)) (zI p (i+1)) (zI p (i+1)) (i+2);rw[<-O.o]at G;refine G.mono ?_;clear G;rintro e b2 ⟨rfl,j⟩;have a0:=hnd ((j.block _ (by simp)).trans (jP w _)) (((lK _ _).alloc (lF _) _).trans (j.mono (by simp)));clear j;go_wp2_with (refine zN 174 8 qF (by rfl) (.tmp 4) (.tmp 37) (by rfl) w.heap.size (pQ ⟨5,i+2,0,0,0,0,0,T⟩) (by rfl) (by rfl) a0.o.1 (by rfl) (by rfl) (pR _) ?_;intro b3 Y b0 b1 Z)
   refine lT (qA 174 8 underlying174 rfl qF rfl (by rfl) Y (by rfl)) rfl ⟨rfl,?_⟩;exact a0.o.2.trans (Z _ (lF _))
 ·rw[e];clear e;rcases h with h | ⟨h,a1⟩
  all_goals
   go_in
   go_wp2_with (first|(go_at_call 132;refine(kJ _ _ _ J).mono ?_;rintro e w' ⟨rfl,rfl⟩)|(go_at_call 156;refine(vV _ _).mono ?_;rintro e w' ⟨rfl,rfl⟩)|(go_at_call 158;refine(qj _ _).mono ?_;rintro e w' ⟨rfl,rfl⟩))
   go_returns;exact⟨rfl,by go_grown⟩
