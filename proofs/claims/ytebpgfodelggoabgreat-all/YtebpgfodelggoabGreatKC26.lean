import Derived.Test.YtebpgfodelggoabGreatKC25
set_option linter.unusedVariables false
set_option linter.unusedSimpArgs false
set_option maxRecDepth 100000
set_option maxHeartbeats 2000000
namespace Go.Proofs.YtebpgfodelggoabGreat
open Go.RowKit
def coP(p:ByteArray)(i:Int):Mt.PT × Int:=if(Mt.count p i).2.2.2 then(mY p (Mt.count p i).2.2.1 (Mt.count p i).1 (Mt.count p i).2.1,0)else(Mt.pt0,4)
theorem zLX(p:ByteArray)(i:Int) :
  ((fE p (i+1)).2.2=false/\coP p i=(Mt.pt0,4)) \/
  ((
   fE p (i+1)).2.2=true/\(Mt.zTC p (fE p (i+1)).2.1==44)=false /\
   (
   ((Mt.zTC p (fE p (i+1)).2.1 != 125)=true/\coP p i=(Mt.pt0,4)) \/
   ((Mt.zTC p (fE p (i+1)).2.1 != 125)=false/\coP p i=(mY p ((fE p (i+1)).2.1+1) (fE p (i+1)).1 (fE p (i+1)).1,0)))) \/
  ((
   fE p (i+1)).2.2=true/\(Mt.zTC p (fE p (i+1)).2.1==44)=true /\
   (
   ((dX p ((fE p (i+1)).2.1+1)).2.2=false/\coP p i=(Mt.pt0,4)) \/
   ((dX p ((fE p (i+1)).2.1+1)).2.2=true/\((dX p ((fE p (i+1)).2.1+1)).1 != -1)=true/\decide ((dX p ((fE p (i+1)).2.1+1)).1<(fE p (i+1)).1)=true/\coP p i=(Mt.pt0,4)) \/
   ((
    dX p ((fE p (i+1)).2.1+1)).2.2=true/\(((dX p ((fE p (i+1)).2.1+1)).1 != -1)=false\/((dX p ((fE p (i+1)).2.1+1)).1 != -1)=true/\decide ((dX p ((fE p (i+1)).2.1+1)).1<(fE p (i+1)).1)=false) /\
    (
     ((Mt.zTC p (dX p ((fE p (i+1)).2.1+1)).2.1 != 125)=true/\coP p i=(Mt.pt0,4)) \/
     ((Mt.zTC p (dX p ((fE p (i+1)).2.1+1)).2.1 != 125)=false/\coP p i=(mY p ((dX p ((fE p (i+1)).2.1+1)).2.1+1) (fE p (i+1)).1 (dX p ((fE p (i+1)).2.1+1)).1,0)))))):=by
 have b1:=Mt.dK p (i+1);have b2:=Mt.dK p (i+1+(Mt.number p (i+1)).2+1);have no:∀x,Mt.count p i=x->x.2.2.2=false->coP p i=(Mt.pt0,4):=λx h e=>by unfold coP;rw[h,e];rfl
 have yes:∀a b c,Mt.count p i=(a,b,c,true)->coP p i=(mY p c a b,0):=λa b c h=>by unfold coP;rw[h];rfl
 by_cases h1:(Mt.number p (i+1)).2=0\/20<(Mt.number p (i+1)).1
 ·left;refine⟨by unfold fE;rw[if_pos h1],no (0,0,0,false) ?_ rfl⟩;unfold Mt.count;rw[if_pos h1]
 ·right;have en:fE p (i+1)=((Mt.number p (i+1)).1,i+1+(Mt.number p (i+1)).2,true):=by unfold fE;rw[if_neg h1]
  rw[en];dsimp only;by_cases h2:Mt.zTC p (i+1+(Mt.number p (i+1)).2)=44
  ·right;refine⟨rfl,by simpa using h2,?_⟩;by_cases h3:Mt.zTC p (i+1+(Mt.number p (i+1)).2+1)=125
   ·have em:dX p (i+1+(Mt.number p (i+1)).2+1)=(-1,i+1+(Mt.number p (i+1)).2+1,true):=by unfold dX;rw[if_pos h3]
    rw[em];right;right;refine⟨rfl,Or.inl rfl,Or.inr ⟨by simpa using h3,?_⟩⟩;rw[show i+1+(Mt.number p (i+1)).2+1+1=i+1+(Mt.number p (i+1)).2+2 by omega];apply yes;unfold Mt.count;rw[if_neg h1,if_neg (by omega),if_neg (by omega),if_pos h3]
   ·have em:dX p (i+1+(Mt.number p (i+1)).2+1)=fE p (i+1+(Mt.number p (i+1)).2+1):=by unfold dX;rw[if_neg h3]
    rw[em];by_cases h4:(Mt.number p (i+1+(Mt.number p (i+1)).2+1)).2=0\/20<(Mt.number p (i+1+(Mt.number p (i+1)).2+1)).1
    ·left;refine⟨by unfold fE;rw[if_pos h4],no (0,0,0,false) ?_ rfl⟩;unfold Mt.count;rw[if_neg h1,if_neg (by omega),if_neg (by omega),if_neg h3,if_pos (by omega)]
    ·right;have ey:fE p (i+1+(Mt.number p (i+1)).2+1)=((Mt.number p (i+1+(Mt.number p (i+1)).2+1)).1,i+1+(Mt.number p (i+1)).2+1+(Mt.number p (i+1+(Mt.number p (i+1)).2+1)).2,true):=by unfold fE;rw[if_neg h4]
     rw[ey];dsimp only;by_cases h5:(Mt.number p (i+1+(Mt.number p (i+1)).2+1)).1<(Mt.number p (i+1)).1
     ·left;refine⟨rfl,by simp;omega,by simpa using h5,no (0,0,0,false) ?_ rfl⟩;unfold Mt.count;rw[if_neg h1,if_neg (by omega),if_neg (by omega),if_neg h3,if_pos (by omega)]
     ·right;refine⟨rfl,Or.inr ⟨by simp;omega,by simpa using h5⟩,?_⟩;by_cases h6:Mt.zTC p (i+1+(Mt.number p (i+1)).2+1+(Mt.number p (i+1+(Mt.number p (i+1)).2+1)).2)=125
      ·right;refine⟨by simpa using h6,?_⟩;rw[show i+1+(Mt.number p (i+1)).2+1+(Mt.number p (i+1+(Mt.number p (i+1)).2+1)).2+1=i+1+(Mt.number p (i+1)).2+2+(Mt.number p (i+1+(Mt.number p (i+1)).2+1)).2 by omega];apply yes;unfold Mt.count;rw[if_neg h1,if_neg (by omega),if_neg (by omega),if_neg h3,if_neg (by omega)]
      ·left;refine⟨by simpa using h6,no (0,0,0,false) ?_ rfl⟩;unfold Mt.count;rw[if_neg h1,if_neg (by omega),if_neg (by omega),if_neg h3,if_pos (by omega)]
  ·left;refine⟨rfl,by simpa using h2,?_⟩;by_cases h3:Mt.zTC p (i+1+(Mt.number p (i+1)).2)=125
   ·right;refine⟨by simpa using h3,yes _ _ _ ?_⟩;unfold Mt.count;rw[if_neg h1,if_pos h3]
   ·left;refine⟨by simpa using h3,no (0,0,0,false) ?_ rfl⟩;unfold Mt.count;rw[if_neg h1,if_neg h3,if_pos h2]
theorem zLY(p:ByteArray)(i:Int)(h:0<=i):0<=(fE p i).2.1/\(fE p i).2.1<=i+2/\0<=(fE p i).1/\(fE p i).1<=20:=by
 have b1:=Mt.dK p i;unfold fE;split
 ·simp;omega
 ·simp only;omega
theorem zN1(p:ByteArray)(i:Int)(h:0<=i):0<=(dX p i).2.1/\(dX p i).2.1<=i+2/\-1<=(dX p i).1/\(dX p i).1<=20:=by
 have b1:=zLY p i h;unfold dX;split
 ·simp only;omega
 ·omega
theorem zFI(p:ByteArray)(i:Int)(w:World)(hp:p.size<=64)(hi0:0<=i)(hi1:i<=100) :
  Calls Tryz.prog 87 #[.string p,.int .i64 i] w λe w'=>e=.returned (.tuple #[ptV (coP p i).1,.int .i64 (coP p i).2])/\Below w.heap.size w w':=by
 obtain⟨n1,n2,n3,n4⟩:=zLY p (i+1) (by omega);obtain⟨m1,m2,m3,m4⟩:=zN1 p ((fE p (i+1)).2.1+1) (by omega);rcases zLX p i with ⟨a1,e⟩ | ⟨a1,a2,⟨a3,e⟩ | ⟨a3,e⟩⟩ | ⟨a1,a2,⟨a3,e⟩ | ⟨a3,a4,a5,e⟩ | ⟨a3,a4,⟨a5,e⟩ | ⟨a5,e⟩⟩⟩
 ·rw[e];clear e;go_enter Tryz.func87,Tryz.ntmps87
  go_wp2_with (first|(go_at_call 84;refine(kG _ _ _ hp).mono ?_;rintro e w' ⟨rfl,rfl⟩)|(go_at_call 119;refine(vS _ _ _ hp (by omega) (by omega)).mono ?_;rintro e w' ⟨rfl,rfl⟩)|(go_at_call 120;refine(dM _ _ _ hp (by omega) (by omega)).mono ?_;rintro e w' ⟨rfl,rfl⟩))
  go_returns;exact⟨rfl,by go_grown⟩
 ·rw[e];clear e;go_enter Tryz.func87,Tryz.ntmps87
  go_wp2_with (first|(go_at_call 84;refine(kG _ _ _ hp).mono ?_;rintro e w' ⟨rfl,rfl⟩)|(go_at_call 119;refine(vS _ _ _ hp (by omega) (by omega)).mono ?_;rintro e w' ⟨rfl,rfl⟩)|(go_at_call 120;refine(dM _ _ _ hp (by omega) (by omega)).mono ?_;rintro e w' ⟨rfl,rfl⟩))
  go_returns;exact⟨rfl,by go_grown⟩
 ·rw[e];clear e;obtain⟨T,hT⟩:∃T,T=mY p ((fE p (i+1)).2.1+1) (fE p (i+1)).1 (fE p (i+1)).1:=⟨_,rfl⟩
  rw[<-hT];have HT:Hid (T=mY p ((fE p (i+1)).2.1+1) (fE p (i+1)).1 (fE p (i+1)).1):=hT;clear hT;go_enter Tryz.func87,Tryz.ntmps87
  go_wp2_with (first|(go_at_call 84;refine(kG _ _ _ hp).mono ?_;rintro e w' ⟨rfl,rfl⟩)|(go_at_call 119;refine(vS _ _ _ hp (by omega) (by omega)).mono ?_;rintro e w' ⟨rfl,rfl⟩)|(go_at_call 120;refine(dM _ _ _ hp (by omega) (by omega)).mono ?_;rintro e w' ⟨rfl,rfl⟩))
  have MA:=mO p ((fE p (i+1)).2.1+1) (fE p (i+1)).1 (fE p (i+1)).1 (w.alloc (.cells (zTQ Mt.pt0) 100)) hp (by omega) (by omega);rw[<-HT.out]at MA;refine MA.mono ?_;clear MA;rintro e w1 ⟨rfl,b1⟩;have HZ:Hid (w1.heap[w.heap.size]?=some (.cells (zTQ Mt.pt0) 100 (0,0))/\Below w.heap.size w w1):=⟨(b1.block _ (by simp)).trans (jR w _),((Below.refl _ _).alloc (lG _) _).trans (b1.mono (by simp))⟩
  clear b1;go_wp2_with (refine zM 100 8 Tryz.sizePT (by rfl) (.tmp 4) (.tmp 56) (by rfl) w.heap.size (zTQ T) (by rfl) (by rfl) HZ.out.1 (by rfl) (by rfl) (xQ _) ?_;intro w3 r1 r2 r3 r4)
  refine bodyPost_ret (jK 100 8 Tryz.underlying100 rfl Tryz.sizePT rfl (by rfl) r1 (by rfl)) rfl ⟨rfl,?_⟩;exact HZ.out.2.trans (r4 _ (lG _))
 ·rw[e];clear e;go_enter Tryz.func87,Tryz.ntmps87
  go_wp2_with (first|(go_at_call 84;refine(kG _ _ _ hp).mono ?_;rintro e w' ⟨rfl,rfl⟩)|(go_at_call 119;refine(vS _ _ _ hp (by omega) (by omega)).mono ?_;rintro e w' ⟨rfl,rfl⟩)|(go_at_call 120;refine(dM _ _ _ hp (by omega) (by omega)).mono ?_;rintro e w' ⟨rfl,rfl⟩))
  go_returns;exact⟨rfl,by go_grown⟩
 ·rw[e];clear e;go_enter Tryz.func87,Tryz.ntmps87
  go_wp2_with (first|(go_at_call 84;refine(kG _ _ _ hp).mono ?_;rintro e w' ⟨rfl,rfl⟩)|(go_at_call 119;refine(vS _ _ _ hp (by omega) (by omega)).mono ?_;rintro e w' ⟨rfl,rfl⟩)|(go_at_call 120;refine(dM _ _ _ hp (by omega) (by omega)).mono ?_;rintro e w' ⟨rfl,rfl⟩))
  go_returns;exact⟨rfl,by go_grown⟩
 ·rw[e];clear e;rcases a4 with a4 | ⟨a4,a4'⟩
  all_goals
   go_enter Tryz.func87,Tryz.ntmps87
   go_wp2_with (first|(go_at_call 84;refine(kG _ _ _ hp).mono ?_;rintro e w' ⟨rfl,rfl⟩)|(go_at_call 119;refine(vS _ _ _ hp (by omega) (by omega)).mono ?_;rintro e w' ⟨rfl,rfl⟩)|(go_at_call 120;refine(dM _ _ _ hp (by omega) (by omega)).mono ?_;rintro e w' ⟨rfl,rfl⟩))
   go_returns;exact⟨rfl,by go_grown⟩
 ·rw[e];clear e;obtain⟨T,hT⟩:∃T,T=mY p ((dX p ((fE p (i+1)).2.1+1)).2.1+1) (fE p (i+1)).1 (dX p ((fE p (i+1)).2.1+1)).1:=⟨_,rfl⟩
  rw[<-hT];have HT:Hid (T=mY p ((dX p ((fE p (i+1)).2.1+1)).2.1+1) (fE p (i+1)).1 (dX p ((fE p (i+1)).2.1+1)).1):=hT;clear hT;rcases a4 with a4 | ⟨a4,a4'⟩
  all_goals
   go_enter Tryz.func87,Tryz.ntmps87
   go_wp2_with (first|(go_at_call 84;refine(kG _ _ _ hp).mono ?_;rintro e w' ⟨rfl,rfl⟩)|(go_at_call 119;refine(vS _ _ _ hp (by omega) (by omega)).mono ?_;rintro e w' ⟨rfl,rfl⟩)|(go_at_call 120;refine(dM _ _ _ hp (by omega) (by omega)).mono ?_;rintro e w' ⟨rfl,rfl⟩))
   have MA:=mO p ((dX p ((fE p (i+1)).2.1+1)).2.1+1) (fE p (i+1)).1 (dX p ((fE p (i+1)).2.1+1)).1 (w.alloc (.cells (zTQ Mt.pt0) 100)) hp (by omega) (by omega);rw[<-HT.out]at MA;refine MA.mono ?_;clear MA;rintro e w1 ⟨rfl,b1⟩;have HZ:Hid (w1.heap[w.heap.size]?=some (.cells (zTQ Mt.pt0) 100 (0,0))/\Below w.heap.size w w1):=⟨(b1.block _ (by simp)).trans (jR w _),((Below.refl _ _).alloc (lG _) _).trans (b1.mono (by simp))⟩
   clear b1;go_wp2_with (refine zM 100 8 Tryz.sizePT (by rfl) (.tmp 4) (.tmp 56) (by rfl) w.heap.size (zTQ T) (by rfl) (by rfl) HZ.out.1 (by rfl) (by rfl) (xQ _) ?_;intro w3 r1 r2 r3 r4)
   refine bodyPost_ret (jK 100 8 Tryz.underlying100 rfl Tryz.sizePT rfl (by rfl) r1 (by rfl)) rfl ⟨rfl,?_⟩;exact HZ.out.2.trans (r4 _ (lG _))
def opP(p:ByteArray)(i:Int):Mt.PT × Int:=if(Mt.kW p i).2 then(Mt.yC (Mt.kW p i).1,0)else(Mt.pt0,5)
theorem zLZ(p:ByteArray)(i:Int) :
  ((Mt.zTC p (i+1) != 63)=true/\opP p i=(⟨2,i+1,1,0,0,0,0,[]⟩,0)) \/
  ((
   Mt.zTC p (i+1) != 63)=false /\
   (
   ((Mt.zTC p (i+2)==58)=true/\opP p i=(⟨2,i+3,2,0,0,0,0,[]⟩,0)) \/
   ((Mt.zTC p (i+2)==58)=false/\(Mt.zTC p (i+2)==62)=true/\opP p i=(⟨2,i+3,3,0,0,0,0,[]⟩,0)) \/
   ((Mt.zTC p (i+2)==58)=false/\(Mt.zTC p (i+2)==62)=false/\(Mt.zTC p (i+2)==61)=true/\opP p i=(⟨2,i+3,4,0,0,0,0,[]⟩,0)) \/
   ((Mt.zTC p (i+2)==58)=false/\(Mt.zTC p (i+2)==62)=false/\(Mt.zTC p (i+2)==61)=false/\(Mt.zTC p (i+2)==33)=true/\opP p i=(⟨2,i+3,5,0,0,0,0,[]⟩,0)) \/
   ((Mt.zTC p (i+2)==58)=false/\(Mt.zTC p (i+2)==62)=false/\(Mt.zTC p (i+2)==61)=false/\(Mt.zTC p (i+2)==33)=false/\opP p i=(Mt.pt0,5)))):=by
 unfold opP;rcases Mt.nG p i with ⟨a1,e⟩ | ⟨a1,⟨a2,e⟩ | ⟨a2,a3,e⟩ | ⟨a2,a3,a4,e⟩ | ⟨a2,a3,a4,a5,e⟩ | ⟨a2,a3,a4,a5,e⟩⟩
 ·exact Or.inl ⟨a1,by rw[e];rfl⟩
 ·exact Or.inr ⟨a1,Or.inl ⟨a2,by rw[e];rfl⟩⟩
 ·exact Or.inr ⟨a1,Or.inr (Or.inl ⟨a2,a3,by rw[e];rfl⟩)⟩
 ·exact Or.inr ⟨a1,Or.inr (Or.inr (Or.inl ⟨a2,a3,a4,by rw[e];rfl⟩))⟩
 ·exact Or.inr ⟨a1,Or.inr (Or.inr (Or.inr (Or.inl ⟨a2,a3,a4,a5,by rw[e];rfl⟩)))⟩
 ·exact Or.inr ⟨a1,Or.inr (Or.inr (Or.inr (Or.inr ⟨a2,a3,a4,a5,by rw[e];rfl⟩)))⟩
theorem zDV(p:ByteArray)(i:Int)(w:World)(hp:p.size<=64)(hi0:0<=i)(hi1:i<=100) :
  Calls Tryz.prog 85 #[.string p,.int .i64 i] w λe w'=>e=.returned (.tuple #[ptV (opP p i).1,.int .i64 (opP p i).2])/\Below w.heap.size w w':=by
 rcases zLZ p i with ⟨a1,e⟩ | ⟨a1,⟨a2,e⟩ | ⟨a2,a3,e⟩ | ⟨a2,a3,a4,e⟩ | ⟨a2,a3,a4,a5,e⟩ | ⟨a2,a3,a4,a5,e⟩⟩
 all_goals
  rw[e];clear e;go_enter Tryz.func85,Tryz.ntmps85
  go_wp2_with (go_at_call 84;refine(kG _ _ _ hp).mono ?_;rintro e w' ⟨rfl,rfl⟩)
  go_returns;exact⟨rfl,by go_grown⟩
def esP(p:ByteArray)(i:Int):Mt.PT × Int:=if(Mt.vD p i).2 then(Mt.yC (Mt.vD p i).1,0)else(Mt.pt0,2)
theorem zPw(p:ByteArray)(i:Int)(h0:Mt.zTC p i=92)(h:Mt.zTC p (i+1)=100\/Mt.zTC p (i+1)=119):Mt.yY (Mt.zHD Mt.none0 (decide (Mt.zTC p (i+1)=119))) 256=Mt.all p i (i+2) false:=by
 rw[<-Mt.zBO];refine Mt.wL (λc _=>?_);have e:Mt.yB p i=(92,Mt.zTC p (i+1),2,true):=by unfold Mt.yB;rw[if_pos ⟨h0,h⟩]
 rw[Mt.zEP,Mt.vQ,if_neg (by omega),e,if_neg (by simp),Mt.zAd];simp only[if_true];cases Mt.zAs (decide (Mt.zTC p (i+1)=119)) (c:Int) <;> simp[Mt.none0]
theorem zL0(p:ByteArray)(i:Int)(h0:Mt.zTC p i=92) :
  (decide (49<=Mt.zTC p (i+1))=true/\decide (Mt.zTC p (i+1)<=57)=true/\49<=Mt.zTC p (i+1)/\Mt.zTC p (i+1)<=57/\esP p i=(⟨6,i+2,0,Mt.zTC p (i+1)-48,0,0,0,[]⟩,0)) \/
  ((
   decide (49<=Mt.zTC p (i+1))=false\/decide (49<=Mt.zTC p (i+1))=true/\decide (Mt.zTC p (i+1)<=57)=false) /\
   (
   ((Mt.zTC p (i+1)==100||Mt.zTC p (i+1)==119)=true/\esP p i=(⟨5,i+2,0,0,0,0,0,Mt.yY (Mt.zHD Mt.none0 (decide (Mt.zTC p (i+1)=119))) 256⟩,0)) \/
   ((Mt.zTC p (i+1)==100||Mt.zTC p (i+1)==119)=false/\zId (Mt.zTC p (i+1))=true/\esP p i=(⟨5,i+2,0,0,0,0,0,Mt.yY (Mt.bW Mt.none0 (Mt.zTC p (i+1)) (Mt.zTC p (i+1))) 256⟩,0)) \/
   ((Mt.zTC p (i+1)==100||Mt.zTC p (i+1)==119)=false/\zId (Mt.zTC p (i+1))=false/\esP p i=(Mt.pt0,2)))):=by
 have l0:=Mt.zGc p (i+1);have l1:=Mt.zCs p (i+1);have he:=zI5 (Mt.zTC p (i+1)) l0;have yes:∀t,Mt.vD p i=(t,true)->esP p i=(Mt.yC t,0):=λt h=>by unfold esP;rw[h];rfl
 have no:∀t,Mt.vD p i=(t,false)->esP p i=(Mt.pt0,2):=λt h=>by unfold esP;rw[h];rfl
 by_cases h1:Mt.zTC p (i+1)<0
 ·right;refine⟨Or.inl (by simp;omega),Or.inr (Or.inr ⟨?_,?_,no ⟨1,i,i+2,0,0,0,[]⟩ (by unfold Mt.vD;rw[if_pos h1])⟩)⟩
  ·simp;omega
  ·cases x:zId (Mt.zTC p (i+1));rfl;exact absurd (Or.inl h1) (he.1 x)
 ·by_cases h2:Mt.zTC p (i+1)=100\/Mt.zTC p (i+1)=119
  ·right;refine⟨Or.inr ⟨by simp;omega,by simp;omega⟩,Or.inl ⟨by simpa using h2,?_⟩⟩;rw[zPw p i h0 h2];exact yes ⟨1,i,i+2,0,0,0,Mt.all p i (i+2) false⟩ (by unfold Mt.vD;rw[if_neg h1,if_pos h2])
  ·have h2':(Mt.zTC p (i+1)==100||Mt.zTC p (i+1)==119)=false:=by simpa using h2
   by_cases h3:49<=Mt.zTC p (i+1)/\Mt.zTC p (i+1)<=57
   ·left;exact⟨by simpa using h3.1,by simpa using h3.2,h3.1,h3.2,yes ⟨2,i,i+2,Mt.zTC p (i+1)-48,0,0,[]⟩ (by unfold Mt.vD;rw[if_neg h1,if_neg h2,if_pos h3])⟩
   ·right
    have e:Mt.vD p i=(⟨1,i,i+2,0,0,0,[UInt8.ofNat (Mt.zTC p (i+1)).toNat]⟩,!Mt.zBa (Mt.zTC p (i+1))&&!Mt.zA6 (Mt.zTC p (i+1))):=by
     unfold Mt.vD;rw[if_neg h1,if_neg h2,if_neg h3]
    refine⟨?_,Or.inr ?_⟩
    ·simp only[decide_eq_true_eq,lJ];omega
    ·have eb:zId (Mt.zTC p (i+1))=(!Mt.zBa (Mt.zTC p (i+1))&&!Mt.zA6 (Mt.zTC p (i+1))):=by
      unfold zId;have:(Mt.zTC p (i+1) != -1)=true:=by simp;omega
      rw[this];cases Mt.zBa (Mt.zTC p (i+1)) <;> cases Mt.zA6 (Mt.zTC p (i+1)) <;> rfl
     rw[<-eb]at e;cases hx:zId (Mt.zTC p (i+1))
     ·rw[hx]at e;exact Or.inr ⟨h2',rfl,no _ e⟩
     ·rw[hx]at e;refine Or.inl ⟨h2',rfl,?_⟩;rw[Mt.zLH _ (by omega) l1];exact yes _ e
theorem zEs(p:ByteArray)(i:Int)(w:World)(hp:p.size<=64)(hi0:0<=i)(hi1:i<=100)(h92:Mt.zTC p i=92) :
  Calls Tryz.prog 90 #[.string p,.int .i64 i] w λe w'=>e=.returned (.tuple #[ptV (esP p i).1,.int .i64 (esP p i).2])/\Below w.heap.size w w':=by
 have HC:=zL0 p i h92;clear h92;rcases HC with ⟨a1,a2,b1,b2,e⟩ | ⟨a0,⟨a1,e⟩ | ⟨a1,a2,e⟩ | ⟨a1,a2,e⟩⟩
 ·rw[e];clear e;go_enter Tryz.func90,Tryz.ntmps90
  go_wp2_with (go_at_call 84;refine(kG _ _ _ hp).mono ?_;rintro e w' ⟨rfl,rfl⟩)
  go_returns;exact⟨rfl,by go_grown⟩
 ·rw[e];clear e;obtain⟨T,hT⟩:∃T,T=Mt.yY (Mt.zHD Mt.none0 (decide (Mt.zTC p (i+1)=119))) 256:=⟨_,rfl⟩
  rw[<-hT];have HT:Hid (T=Mt.yY (Mt.zHD Mt.none0 (decide (Mt.zTC p (i+1)=119))) 256):=hT;clear hT;rcases a0 with a0 | ⟨a0,a0'⟩
  all_goals
   go_enter Tryz.func90,Tryz.ntmps90
   go_wp2_with (first|(go_at_call 84;refine(kG _ _ _ hp).mono ?_;rintro e w' ⟨rfl,rfl⟩)|(go_at_call 125;refine(yJ _ _).mono ?_;rintro e w' ⟨rfl,rfl⟩))
   refine(zBX _ (w.heap.size+1) Mt.none0 _ (by exact zDS _ _)).mono ?_;rintro e w1 ⟨rfl,s1,o1⟩;obtain⟨z1,b1,sz⟩:=zDR o1;have HS:Hid (pK w1 (w.heap.size+1) (Mt.zHD Mt.none0 (decide (Mt.zTC p (i+1)=119)))):=s1;have HB:Hid (Below w.heap.size w w1):=b1;clear s1 o1 b1;go_wp2_with fail
   have TA:=zC5 w1 (w.heap.size+1) _ HS.out;rw[<-HT.out]at TA;refine TA.mono ?_;clear TA;rintro e w2 ⟨rfl,b2⟩;have z2:w2.heap[w.heap.size]?=_:=(b2.block _ (by omega)).trans z1;have HB2:Hid (Below w.heap.size w w2):=HB.out.trans (b2.mono (by omega));clear b2 z1;go_wp2_with (refine zM 100 8 Tryz.sizePT (by rfl) (.tmp 4) (.tmp 30) (by rfl) w.heap.size (zTQ ⟨5,i+2,0,0,0,0,0,T⟩) (by rfl) (by rfl) z2 (by rfl) (by rfl) (xQ _) ?_;intro w3 r1 r2 r3 r4)
   refine bodyPost_ret (jK 100 8 Tryz.underlying100 rfl Tryz.sizePT rfl (by rfl) r1 (by rfl)) rfl ⟨rfl,?_⟩;exact HB2.out.trans (r4 _ (lG _))
 ·rw[e];clear e;obtain⟨T,hT⟩:∃T,T=Mt.yY (Mt.bW Mt.none0 (Mt.zTC p (i+1)) (Mt.zTC p (i+1))) 256:=⟨_,rfl⟩
  rw[<-hT];have HT:Hid (T=Mt.yY (Mt.bW Mt.none0 (Mt.zTC p (i+1)) (Mt.zTC p (i+1))) 256):=hT;clear hT;rcases a0 with a0 | ⟨a0,a0'⟩
  all_goals
   go_enter Tryz.func90,Tryz.ntmps90
   go_wp2_with (first|(go_at_call 84;refine(kG _ _ _ hp).mono ?_;rintro e w' ⟨rfl,rfl⟩)|(go_at_call 125;refine(yJ _ _).mono ?_;rintro e w' ⟨rfl,rfl⟩)|(go_at_call 127;refine(mW _ _).mono ?_;rintro e w' ⟨rfl,rfl⟩))
   have TA:=zDT (w.alloc (.cells (zTQ Mt.pt0) 100)) (Mt.zTC p (i+1)) (Mt.zTC p (i+1)) (i+2);rw[<-HT.out]at TA;refine TA.mono ?_;clear TA;rintro e w2 ⟨rfl,b2⟩;have HZ:Hid (w2.heap[w.heap.size]?=some (.cells (zTQ Mt.pt0) 100 (0,0))/\Below w.heap.size w w2):=⟨(b2.block _ (by simp)).trans (jR w _),((Below.refl _ _).alloc (lG _) _).trans (b2.mono (by simp))⟩
   clear b2;go_wp2_with (refine zM 100 8 Tryz.sizePT (by rfl) (.tmp 4) (.tmp 37) (by rfl) w.heap.size (zTQ ⟨5,i+2,0,0,0,0,0,T⟩) (by rfl) (by rfl) HZ.out.1 (by rfl) (by rfl) (xQ _) ?_;intro w3 r1 r2 r3 r4)
   refine bodyPost_ret (jK 100 8 Tryz.underlying100 rfl Tryz.sizePT rfl (by rfl) r1 (by rfl)) rfl ⟨rfl,?_⟩;exact HZ.out.2.trans (r4 _ (lG _))
 ·rw[e];clear e;rcases a0 with a0 | ⟨a0,a0'⟩
  all_goals
   go_enter Tryz.func90,Tryz.ntmps90
   go_wp2_with (first|(go_at_call 84;refine(kG _ _ _ hp).mono ?_;rintro e w' ⟨rfl,rfl⟩)|(go_at_call 125;refine(yJ _ _).mono ?_;rintro e w' ⟨rfl,rfl⟩)|(go_at_call 127;refine(mW _ _).mono ?_;rintro e w' ⟨rfl,rfl⟩))
   go_returns;exact⟨rfl,by go_grown⟩
theorem zQI(p:ByteArray)(i:Int)(h:Mt.zTC p i=124):Mt.fI p i=(⟨1,i+1,0,0,0,0,0,[]⟩,0):=by
 have e:Mt.jJ p i=(⟨5,i,i+1,0,0,0,[]⟩,0):=by unfold Mt.jJ;rw[if_pos h]
 unfold Mt.fI;rw[e];rfl
theorem zN2(p:ByteArray)(i:Int)(h:Mt.zTC p i=41):Mt.fI p i=(⟨3,i+1,0,0,0,0,0,[]⟩,0):=by
 have e:Mt.jJ p i=(⟨7,i,i+1,0,0,0,[]⟩,0):=by unfold Mt.jJ;rw[if_neg (by omega),if_pos h]
 unfold Mt.fI;rw[e];rfl
theorem zPx(p:ByteArray)(i:Int)(h:Mt.zTC p i=94):Mt.fI p i=(⟨7,i+1,0,0,0,0,0,[]⟩,0):=by
 have e:Mt.jJ p i=(⟨3,i,i+1,0,0,0,[]⟩,0):=by unfold Mt.jJ;rw[if_neg (by omega),if_neg (by omega),if_pos h]
 unfold Mt.fI;rw[e];rfl
theorem zPy(p:ByteArray)(i:Int)(h:Mt.zTC p i=36):Mt.fI p i=(⟨8,i+1,0,0,0,0,0,[]⟩,0):=by
 have e:Mt.jJ p i=(⟨4,i,i+1,0,0,0,[]⟩,0):=by unfold Mt.jJ;rw[if_neg (by omega),if_neg (by omega),if_neg (by omega),if_pos h]
 unfold Mt.fI;rw[e];rfl
theorem zQJ(p:ByteArray)(i:Int)(h:Mt.zTC p i=92):Mt.fI p i=esP p i:=by
 have e:Mt.jJ p i=((Mt.vD p i).1,if(Mt.vD p i).2 then 0 else 2):=by unfold Mt.jJ;rw[if_neg (by omega),if_neg (by omega),if_neg (by omega),if_neg (by omega),if_pos h]
 unfold Mt.fI esP;rw[e];cases(Mt.vD p i).2 <;> rfl
theorem zN3(p:ByteArray)(i:Int)(h:Mt.zTC p i=91):Mt.fI p i=clP p i:=by
 have e:Mt.jJ p i=((Mt.qU p i).1,if(Mt.qU p i).2 then 0 else 3):=by unfold Mt.jJ;rw[if_neg (by omega),if_neg (by omega),if_neg (by omega),if_neg (by omega),if_neg (by omega),if_pos h]
 unfold Mt.fI clP;rw[e];cases(Mt.qU p i).2 <;> rfl
theorem zPz(p:ByteArray)(i:Int)(h:Mt.zTC p i=40):Mt.fI p i=opP p i:=by
 have e:Mt.jJ p i=((Mt.kW p i).1,if(Mt.kW p i).2 then 0 else 5):=by unfold Mt.jJ;rw[if_neg (by omega),if_neg (by omega),if_neg (by omega),if_neg (by omega),if_neg (by omega),if_neg (by omega),if_pos h]
 unfold Mt.fI opP;rw[e];cases(Mt.kW p i).2 <;> rfl
theorem zPA(p:ByteArray)(i:Int)(h:Mt.zTC p i=42):Mt.fI p i=(mY p (i+1) 0 (-1),0):=by
 have r:Mt.jF p i=(⟨8,i,(Mt.fF p (i+1)).2,0,-1,(Mt.fF p (i+1)).1,[]⟩,true):=by unfold Mt.jF;rw[if_neg (by omega),if_neg (by omega),if_neg (by omega)]
 have e:Mt.jJ p i=((Mt.jF p i).1,if(Mt.jF p i).2 then 0 else 4):=by unfold Mt.jJ;rw[if_neg (by omega),if_neg (by omega),if_neg (by omega),if_neg (by omega),if_neg (by omega),if_neg (by omega),if_neg (by omega),if_pos (by omega)]
 unfold Mt.fI;rw[e,r];rfl
theorem zPB(p:ByteArray)(i:Int)(h:Mt.zTC p i=43):Mt.fI p i=(mY p (i+1) 1 (-1),0):=by
 have r:Mt.jF p i=(⟨8,i,(Mt.fF p (i+1)).2,1,-1,(Mt.fF p (i+1)).1,[]⟩,true):=by unfold Mt.jF;rw[if_pos h]
 have e:Mt.jJ p i=((Mt.jF p i).1,if(Mt.jF p i).2 then 0 else 4):=by unfold Mt.jJ;rw[if_neg (by omega),if_neg (by omega),if_neg (by omega),if_neg (by omega),if_neg (by omega),if_neg (by omega),if_neg (by omega),if_pos (by omega)]
 unfold Mt.fI;rw[e,r];rfl
theorem zN4(p:ByteArray)(i:Int)(h:Mt.zTC p i=63):Mt.fI p i=(mY p (i+1) 0 1,0):=by
 have r:Mt.jF p i=(⟨8,i,(Mt.fF p (i+1)).2,0,1,(Mt.fF p (i+1)).1,[]⟩,true):=by unfold Mt.jF;rw[if_neg (by omega),if_pos h]
 have e:Mt.jJ p i=((Mt.jF p i).1,if(Mt.jF p i).2 then 0 else 4):=by unfold Mt.jJ;rw[if_neg (by omega),if_neg (by omega),if_neg (by omega),if_neg (by omega),if_neg (by omega),if_neg (by omega),if_neg (by omega),if_pos (by omega)]
 unfold Mt.fI;rw[e,r];rfl
theorem zN5(p:ByteArray)(i:Int)(h:Mt.zTC p i=123):Mt.fI p i=coP p i:=by
 have e:Mt.jJ p i=((Mt.jF p i).1,if(Mt.jF p i).2 then 0 else 4):=by unfold Mt.jJ;rw[if_neg (by omega),if_neg (by omega),if_neg (by omega),if_neg (by omega),if_neg (by omega),if_neg (by omega),if_neg (by omega),if_pos (by omega)]
 unfold Mt.fI coP;cases hc:(Mt.count p i).2.2.2
 ·have r:Mt.jF p i=(⟨8,i,i+1,0,-1,0,[]⟩,false):=by unfold Mt.jF;rw[if_neg (by omega),if_neg (by omega),if_pos h,hc];rfl
  rw[e,r];rfl
 ·have r:Mt.jF p i=(⟨8,i,(Mt.fF p (Mt.count p i).2.2.1).2,(Mt.count p i).1,(Mt.count p i).2.1,(Mt.fF p (Mt.count p i).2.2.1).1,[]⟩,true):=by unfold Mt.jF;rw[if_neg (by omega),if_neg (by omega),if_pos h,hc];rfl
  rw[e,r];rfl
theorem zQK(p:ByteArray)(i:Int)(h:Mt.zTC p i=46):Mt.fI p i=(⟨5,i+1,0,0,0,0,0,Mt.yY (Mt.bW Mt.none0 0 255) 256⟩,0):=by
 have e:Mt.jJ p i=(⟨1,i,i+1,0,0,0,Mt.all p i i true⟩,0):=by unfold Mt.jJ;rw[if_neg (by omega),if_neg (by omega),if_neg (by omega),if_neg (by omega),if_neg (by omega),if_neg (by omega),if_neg (by omega),if_neg (by omega),if_pos h]
 rw[Mt.zPn p i];unfold Mt.fI;rw[e];rfl
theorem zPC(p:ByteArray)(i:Int)(h0:0<=Mt.zTC p i)(h1:Mt.zTC p i<=255)(h:¬(Mt.zTC p i=124\/Mt.zTC p i=41\/Mt.zTC p i=94\/Mt.zTC p i=36\/Mt.zTC p i=92\/Mt.zTC p i=91\/Mt.zTC p i=40\/Mt.zTC p i=42\/Mt.zTC p i=43\/Mt.zTC p i=63\/Mt.zTC p i=123\/Mt.zTC p i=46)) :
  Mt.fI p i=(⟨5,i+1,0,0,0,0,0,Mt.yY (Mt.bW Mt.none0 (Mt.zTC p i) (Mt.zTC p i)) 256⟩,0):=by
 have e:Mt.jJ p i=(⟨1,i,i+1,0,0,0,[UInt8.ofNat (Mt.zTC p i).toNat]⟩,0):=by unfold Mt.jJ;rw[if_neg (by omega),if_neg (by omega),if_neg (by omega),if_neg (by omega),if_neg (by omega),if_neg (by omega),if_neg (by omega),if_neg (by omega),if_neg (by omega)]
 rw[Mt.zLH _ h0 h1];unfold Mt.fI;rw[e];rfl
theorem zN6(p:ByteArray)(i:Int)(w:World)(hp:p.size<=64)(hi0:0<=i)(hi1:i<=100)(a0:(Mt.zTC p i==-1)=false)(b:(Mt.zTC p i==124)=true) :
  Calls Tryz.prog 55 #[.string p,.int .i64 i] w λe w'=>e=.returned (.tuple #[ptV ((⟨1,i+1,0,0,0,0,0,[]⟩,0):Mt.PT × Int).1,.int .i64 ((⟨1,i+1,0,0,0,0,0,[]⟩,0):Mt.PT × Int).2])/\Below w.heap.size w w':=by
 go_enter Tryz.func55,Tryz.ntmps55
 go_wp2_with (go_at_call 84;refine(kG _ _ _ hp).mono ?_;rintro e w' ⟨rfl,rfl⟩)
 go_returns;exact⟨rfl,by go_grown⟩
theorem zKc(p:ByteArray)(i:Int)(w:World)(hp:p.size<=64)(hi0:0<=i)(hi1:i<=100)(a0:(Mt.zTC p i==-1)=false)(a1:(Mt.zTC p i==124)=false)(a2:(Mt.zTC p i==40)=false)(b:(Mt.zTC p i==41)=true) :
  Calls Tryz.prog 55 #[.string p,.int .i64 i] w λe w'=>e=.returned (.tuple #[ptV ((⟨3,i+1,0,0,0,0,0,[]⟩,0):Mt.PT × Int).1,.int .i64 ((⟨3,i+1,0,0,0,0,0,[]⟩,0):Mt.PT × Int).2])/\Below w.heap.size w w':=by
 go_enter Tryz.func55,Tryz.ntmps55
 go_wp2_with (go_at_call 84;refine(kG _ _ _ hp).mono ?_;rintro e w' ⟨rfl,rfl⟩)
 go_returns;exact⟨rfl,by go_grown⟩
theorem zL1(p:ByteArray)(i:Int)(w:World)(hp:p.size<=64)(hi0:0<=i)(hi1:i<=100)(a0:(Mt.zTC p i==-1)=false)(a1:(Mt.zTC p i==124)=false)(a2:(Mt.zTC p i==40)=false)(a3:(Mt.zTC p i==41)=false)(a4:(Mt.zTC p i==42)=false)(a5:(Mt.zTC p i==43)=false)(a6:(Mt.zTC p i==63)=false)(a7:(Mt.zTC p i==123)=false)(b:(Mt.zTC p i==94)=true) :
  Calls Tryz.prog 55 #[.string p,.int .i64 i] w λe w'=>e=.returned (.tuple #[ptV ((⟨7,i+1,0,0,0,0,0,[]⟩,0):Mt.PT × Int).1,.int .i64 ((⟨7,i+1,0,0,0,0,0,[]⟩,0):Mt.PT × Int).2])/\Below w.heap.size w w':=by
 go_enter Tryz.func55,Tryz.ntmps55
 go_wp2_with (go_at_call 84;refine(kG _ _ _ hp).mono ?_;rintro e w' ⟨rfl,rfl⟩)
 go_returns;exact⟨rfl,by go_grown⟩
theorem zL2(p:ByteArray)(i:Int)(w:World)(hp:p.size<=64)(hi0:0<=i)(hi1:i<=100)(a0:(Mt.zTC p i==-1)=false)(a1:(Mt.zTC p i==124)=false)(a2:(Mt.zTC p i==40)=false)(a3:(Mt.zTC p i==41)=false)(a4:(Mt.zTC p i==42)=false)(a5:(Mt.zTC p i==43)=false)(a6:(Mt.zTC p i==63)=false)(a7:(Mt.zTC p i==123)=false)(a8:(Mt.zTC p i==94)=false)(b:(Mt.zTC p i==36)=true) :
  Calls Tryz.prog 55 #[.string p,.int .i64 i] w λe w'=>e=.returned (.tuple #[ptV ((⟨8,i+1,0,0,0,0,0,[]⟩,0):Mt.PT × Int).1,.int .i64 ((⟨8,i+1,0,0,0,0,0,[]⟩,0):Mt.PT × Int).2])/\Below w.heap.size w w':=by
 go_enter Tryz.func55,Tryz.ntmps55
 go_wp2_with (go_at_call 84;refine(kG _ _ _ hp).mono ?_;rintro e w' ⟨rfl,rfl⟩)
 go_returns;exact⟨rfl,by go_grown⟩
theorem zN7(p:ByteArray)(i:Int)(w:World)(hp:p.size<=64)(hi0:0<=i)(hi1:i<=100)(a0:(Mt.zTC p i==-1)=false)(a1:(Mt.zTC p i==124)=false)(a2:(Mt.zTC p i==40)=false)(a3:(Mt.zTC p i==41)=false)(a4:(Mt.zTC p i==42)=false)(a5:(Mt.zTC p i==43)=false)(a6:(Mt.zTC p i==63)=false)(a7:(Mt.zTC p i==123)=false)(a8:(Mt.zTC p i==94)=false)(a9:(Mt.zTC p i==36)=false)(a10:(Mt.zTC p i==46)=false)(a11:(Mt.zTC p i==91)=false)(b:(Mt.zTC p i==92)=true) :
  Calls Tryz.prog 55 #[.string p,.int .i64 i] w λe w'=>e=.returned (.tuple #[ptV (esP p i).1,.int .i64 (esP p i).2])/\Below w.heap.size w w':=by
 have TA:=zEs p i (w.alloc (.cells (zTQ Mt.pt0) 100)) hp hi0 hi1 (by simpa using b);generalize esP p i=R at *;have HT:Hid (Calls Tryz.prog _ _ _ _):=TA;clear TA;go_enter Tryz.func55,Tryz.ntmps55
 go_wp2_with (go_at_call 84;refine(kG _ _ _ hp).mono ?_;rintro e w' ⟨rfl,rfl⟩)
 refine HT.out.mono ?_;rintro e w2 ⟨rfl,b2⟩;have HZ:Hid (w2.heap[w.heap.size]?=some (.cells (zTQ Mt.pt0) 100 (0,0))/\Below w.heap.size w w2):=⟨(b2.block _ (by simp)).trans (jR w _),((Below.refl _ _).alloc (lG _) _).trans (b2.mono (by simp))⟩
 clear b2;go_wp2_with (refine zM 100 8 Tryz.sizePT (by rfl) (.tmp 4) (.tmp 83) (by rfl) w.heap.size (zTQ R.1) (by rfl) (by rfl) HZ.out.1 (by rfl) (by rfl) (xQ _) ?_;intro w3 r1 r2 r3 r4)
 refine bodyPost_ret (jK 100 8 Tryz.underlying100 rfl Tryz.sizePT rfl (by rfl) r1 (by rfl)) rfl ⟨rfl,?_⟩;exact HZ.out.2.trans (r4 _ (lG _))
theorem zKd(p:ByteArray)(i:Int)(w:World)(hp:p.size<=64)(hi0:0<=i)(hi1:i<=100)(a0:(Mt.zTC p i==-1)=false)(a1:(Mt.zTC p i==124)=false)(a2:(Mt.zTC p i==40)=false)(a3:(Mt.zTC p i==41)=false)(a4:(Mt.zTC p i==42)=false)(a5:(Mt.zTC p i==43)=false)(a6:(Mt.zTC p i==63)=false)(a7:(Mt.zTC p i==123)=false)(a8:(Mt.zTC p i==94)=false)(a9:(Mt.zTC p i==36)=false)(a10:(Mt.zTC p i==46)=false)(b:(Mt.zTC p i==91)=true) :
  Calls Tryz.prog 55 #[.string p,.int .i64 i] w λe w'=>e=.returned (.tuple #[ptV (clP p i).1,.int .i64 (clP p i).2])/\Below w.heap.size w w':=by
 have TA:=zFH p i (w.alloc (.cells (zTQ Mt.pt0) 100)) hp hi0 hi1;generalize clP p i=R at *;have HT:Hid (Calls Tryz.prog _ _ _ _):=TA;clear TA;go_enter Tryz.func55,Tryz.ntmps55
 go_wp2_with (go_at_call 84;refine(kG _ _ _ hp).mono ?_;rintro e w' ⟨rfl,rfl⟩)
 refine HT.out.mono ?_;rintro e w2 ⟨rfl,b2⟩;have HZ:Hid (w2.heap[w.heap.size]?=some (.cells (zTQ Mt.pt0) 100 (0,0))/\Below w.heap.size w w2):=⟨(b2.block _ (by simp)).trans (jR w _),((Below.refl _ _).alloc (lG _) _).trans (b2.mono (by simp))⟩
 clear b2;go_wp2_with (refine zM 100 8 Tryz.sizePT (by rfl) (.tmp 4) (.tmp 76) (by rfl) w.heap.size (zTQ R.1) (by rfl) (by rfl) HZ.out.1 (by rfl) (by rfl) (xQ _) ?_;intro w3 r1 r2 r3 r4)
 refine bodyPost_ret (jK 100 8 Tryz.underlying100 rfl Tryz.sizePT rfl (by rfl) r1 (by rfl)) rfl ⟨rfl,?_⟩;exact HZ.out.2.trans (r4 _ (lG _))
theorem zL3(p:ByteArray)(i:Int)(w:World)(hp:p.size<=64)(hi0:0<=i)(hi1:i<=100)(a0:(Mt.zTC p i==-1)=false)(a1:(Mt.zTC p i==124)=false)(b:(Mt.zTC p i==40)=true) :
  Calls Tryz.prog 55 #[.string p,.int .i64 i] w λe w'=>e=.returned (.tuple #[ptV (opP p i).1,.int .i64 (opP p i).2])/\Below w.heap.size w w':=by
 have TA:=zDV p i (w.alloc (.cells (zTQ Mt.pt0) 100)) hp hi0 hi1;generalize opP p i=R at *;have HT:Hid (Calls Tryz.prog _ _ _ _):=TA;clear TA;go_enter Tryz.func55,Tryz.ntmps55
 go_wp2_with (go_at_call 84;refine(kG _ _ _ hp).mono ?_;rintro e w' ⟨rfl,rfl⟩)
 refine HT.out.mono ?_;rintro e w2 ⟨rfl,b2⟩;have HZ:Hid (w2.heap[w.heap.size]?=some (.cells (zTQ Mt.pt0) 100 (0,0))/\Below w.heap.size w w2):=⟨(b2.block _ (by simp)).trans (jR w _),((Below.refl _ _).alloc (lG _) _).trans (b2.mono (by simp))⟩
 clear b2;go_wp2_with (refine zM 100 8 Tryz.sizePT (by rfl) (.tmp 4) (.tmp 24) (by rfl) w.heap.size (zTQ R.1) (by rfl) (by rfl) HZ.out.1 (by rfl) (by rfl) (xQ _) ?_;intro w3 r1 r2 r3 r4)
 refine bodyPost_ret (jK 100 8 Tryz.underlying100 rfl Tryz.sizePT rfl (by rfl) r1 (by rfl)) rfl ⟨rfl,?_⟩;exact HZ.out.2.trans (r4 _ (lG _))
theorem zKe(p:ByteArray)(i:Int)(w:World)(hp:p.size<=64)(hi0:0<=i)(hi1:i<=100)(a0:(Mt.zTC p i==-1)=false)(a1:(Mt.zTC p i==124)=false)(a2:(Mt.zTC p i==40)=false)(a3:(Mt.zTC p i==41)=false)(a4:(Mt.zTC p i==42)=false)(a5:(Mt.zTC p i==43)=false)(a6:(Mt.zTC p i==63)=false)(b:(Mt.zTC p i==123)=true) :
  Calls Tryz.prog 55 #[.string p,.int .i64 i] w λe w'=>e=.returned (.tuple #[ptV (coP p i).1,.int .i64 (coP p i).2])/\Below w.heap.size w w':=by
 have TA:=zFI p i (w.alloc (.cells (zTQ Mt.pt0) 100)) hp hi0 hi1;generalize coP p i=R at *;have HT:Hid (Calls Tryz.prog _ _ _ _):=TA;clear TA;go_enter Tryz.func55,Tryz.ntmps55
 go_wp2_with (go_at_call 84;refine(kG _ _ _ hp).mono ?_;rintro e w' ⟨rfl,rfl⟩)
 refine HT.out.mono ?_;rintro e w2 ⟨rfl,b2⟩;have HZ:Hid (w2.heap[w.heap.size]?=some (.cells (zTQ Mt.pt0) 100 (0,0))/\Below w.heap.size w w2):=⟨(b2.block _ (by simp)).trans (jR w _),((Below.refl _ _).alloc (lG _) _).trans (b2.mono (by simp))⟩
 clear b2;go_wp2_with (refine zM 100 8 Tryz.sizePT (by rfl) (.tmp 4) (.tmp 54) (by rfl) w.heap.size (zTQ R.1) (by rfl) (by rfl) HZ.out.1 (by rfl) (by rfl) (xQ _) ?_;intro w3 r1 r2 r3 r4)
 refine bodyPost_ret (jK 100 8 Tryz.underlying100 rfl Tryz.sizePT rfl (by rfl) r1 (by rfl)) rfl ⟨rfl,?_⟩;exact HZ.out.2.trans (r4 _ (lG _))
theorem zL4(p:ByteArray)(i:Int)(w:World)(hp:p.size<=64)(hi0:0<=i)(hi1:i<=100)(a0:(Mt.zTC p i==-1)=false)(a1:(Mt.zTC p i==124)=false)(a2:(Mt.zTC p i==40)=false)(a3:(Mt.zTC p i==41)=false)(b:(Mt.zTC p i==42)=true) :
  Calls Tryz.prog 55 #[.string p,.int .i64 i] w λe w'=>e=.returned (.tuple #[ptV ((mY p (i+1) 0 (-1),0):Mt.PT × Int).1,.int .i64 ((mY p (i+1) 0 (-1),0):Mt.PT × Int).2])/\Below w.heap.size w w':=by
 have TA:=mO p (i+1) 0 (-1) (w.alloc (.cells (zTQ Mt.pt0) 100)) hp (by omega) (by omega);generalize mY p (i+1) 0 (-1)=R at *;have HT:Hid (Calls Tryz.prog _ _ _ _):=TA;clear TA;go_enter Tryz.func55,Tryz.ntmps55
 go_wp2_with (go_at_call 84;refine(kG _ _ _ hp).mono ?_;rintro e w' ⟨rfl,rfl⟩)
 refine HT.out.mono ?_;rintro e w2 ⟨rfl,b2⟩;have HZ:Hid (w2.heap[w.heap.size]?=some (.cells (zTQ Mt.pt0) 100 (0,0))/\Below w.heap.size w w2):=⟨(b2.block _ (by simp)).trans (jR w _),((Below.refl _ _).alloc (lG _) _).trans (b2.mono (by simp))⟩
 clear b2;go_wp2_with (refine zM 100 8 Tryz.sizePT (by rfl) (.tmp 4) (.tmp 36) (by rfl) w.heap.size (zTQ R) (by rfl) (by rfl) HZ.out.1 (by rfl) (by rfl) (xQ _) ?_;intro w3 r1 r2 r3 r4)
 refine bodyPost_ret (jK 100 8 Tryz.underlying100 rfl Tryz.sizePT rfl (by rfl) r1 (by rfl)) rfl ⟨rfl,?_⟩;exact HZ.out.2.trans (r4 _ (lG _))
theorem zL5(p:ByteArray)(i:Int)(w:World)(hp:p.size<=64)(hi0:0<=i)(hi1:i<=100)(a0:(Mt.zTC p i==-1)=false)(a1:(Mt.zTC p i==124)=false)(a2:(Mt.zTC p i==40)=false)(a3:(Mt.zTC p i==41)=false)(a4:(Mt.zTC p i==42)=false)(b:(Mt.zTC p i==43)=true) :
  Calls Tryz.prog 55 #[.string p,.int .i64 i] w λe w'=>e=.returned (.tuple #[ptV ((mY p (i+1) 1 (-1),0):Mt.PT × Int).1,.int .i64 ((mY p (i+1) 1 (-1),0):Mt.PT × Int).2])/\Below w.heap.size w w':=by
 have TA:=mO p (i+1) 1 (-1) (w.alloc (.cells (zTQ Mt.pt0) 100)) hp (by omega) (by omega);generalize mY p (i+1) 1 (-1)=R at *;have HT:Hid (Calls Tryz.prog _ _ _ _):=TA;clear TA;go_enter Tryz.func55,Tryz.ntmps55
 go_wp2_with (go_at_call 84;refine(kG _ _ _ hp).mono ?_;rintro e w' ⟨rfl,rfl⟩)
 refine HT.out.mono ?_;rintro e w2 ⟨rfl,b2⟩;have HZ:Hid (w2.heap[w.heap.size]?=some (.cells (zTQ Mt.pt0) 100 (0,0))/\Below w.heap.size w w2):=⟨(b2.block _ (by simp)).trans (jR w _),((Below.refl _ _).alloc (lG _) _).trans (b2.mono (by simp))⟩
 clear b2;go_wp2_with (refine zM 100 8 Tryz.sizePT (by rfl) (.tmp 4) (.tmp 42) (by rfl) w.heap.size (zTQ R) (by rfl) (by rfl) HZ.out.1 (by rfl) (by rfl) (xQ _) ?_;intro w3 r1 r2 r3 r4)
 refine bodyPost_ret (jK 100 8 Tryz.underlying100 rfl Tryz.sizePT rfl (by rfl) r1 (by rfl)) rfl ⟨rfl,?_⟩;exact HZ.out.2.trans (r4 _ (lG _))
theorem zKf(p:ByteArray)(i:Int)(w:World)(hp:p.size<=64)(hi0:0<=i)(hi1:i<=100)(a0:(Mt.zTC p i==-1)=false)(a1:(Mt.zTC p i==124)=false)(a2:(Mt.zTC p i==40)=false)(a3:(Mt.zTC p i==41)=false)(a4:(Mt.zTC p i==42)=false)(a5:(Mt.zTC p i==43)=false)(b:(Mt.zTC p i==63)=true) :
  Calls Tryz.prog 55 #[.string p,.int .i64 i] w λe w'=>e=.returned (.tuple #[ptV ((mY p (i+1) 0 1,0):Mt.PT × Int).1,.int .i64 ((mY p (i+1) 0 1,0):Mt.PT × Int).2])/\Below w.heap.size w w':=by
 have TA:=mO p (i+1) 0 1 (w.alloc (.cells (zTQ Mt.pt0) 100)) hp (by omega) (by omega);generalize mY p (i+1) 0 1=R at *;have HT:Hid (Calls Tryz.prog _ _ _ _):=TA;clear TA;go_enter Tryz.func55,Tryz.ntmps55
 go_wp2_with (go_at_call 84;refine(kG _ _ _ hp).mono ?_;rintro e w' ⟨rfl,rfl⟩)
 refine HT.out.mono ?_;rintro e w2 ⟨rfl,b2⟩;have HZ:Hid (w2.heap[w.heap.size]?=some (.cells (zTQ Mt.pt0) 100 (0,0))/\Below w.heap.size w w2):=⟨(b2.block _ (by simp)).trans (jR w _),((Below.refl _ _).alloc (lG _) _).trans (b2.mono (by simp))⟩
 clear b2;go_wp2_with (refine zM 100 8 Tryz.sizePT (by rfl) (.tmp 4) (.tmp 48) (by rfl) w.heap.size (zTQ R) (by rfl) (by rfl) HZ.out.1 (by rfl) (by rfl) (xQ _) ?_;intro w3 r1 r2 r3 r4)
 refine bodyPost_ret (jK 100 8 Tryz.underlying100 rfl Tryz.sizePT rfl (by rfl) r1 (by rfl)) rfl ⟨rfl,?_⟩;exact HZ.out.2.trans (r4 _ (lG _))
theorem zN8(p:ByteArray)(i:Int)(w:World)(hp:p.size<=64)(hi0:0<=i)(hi1:i<=100)(a0:(Mt.zTC p i==-1)=false)(a1:(Mt.zTC p i==124)=false)(a2:(Mt.zTC p i==40)=false)(a3:(Mt.zTC p i==41)=false)(a4:(Mt.zTC p i==42)=false)(a5:(Mt.zTC p i==43)=false)(a6:(Mt.zTC p i==63)=false)(a7:(Mt.zTC p i==123)=false)(a8:(Mt.zTC p i==94)=false)(a9:(Mt.zTC p i==36)=false)(b:(Mt.zTC p i==46)=true) :
  Calls Tryz.prog 55 #[.string p,.int .i64 i] w λe w'=>e=.returned (.tuple #[ptV ((⟨5,i+1,0,0,0,0,0,Mt.yY (Mt.bW Mt.none0 0 255) 256⟩,0):Mt.PT × Int).1,.int .i64 ((⟨5,i+1,0,0,0,0,0,Mt.yY (Mt.bW Mt.none0 0 255) 256⟩,0):Mt.PT × Int).2])/\Below w.heap.size w w':=by
 have TA:=zDT (w.alloc (.cells (zTQ Mt.pt0) 100)) 0 255 (i+1);generalize Mt.yY (Mt.bW Mt.none0 0 255) 256=R at *;have HT:Hid (Calls Tryz.prog _ _ _ _):=TA;clear TA;go_enter Tryz.func55,Tryz.ntmps55
 go_wp2_with (go_at_call 84;refine(kG _ _ _ hp).mono ?_;rintro e w' ⟨rfl,rfl⟩)
 refine HT.out.mono ?_;rintro e w2 ⟨rfl,b2⟩;have HZ:Hid (w2.heap[w.heap.size]?=some (.cells (zTQ Mt.pt0) 100 (0,0))/\Below w.heap.size w w2):=⟨(b2.block _ (by simp)).trans (jR w _),((Below.refl _ _).alloc (lG _) _).trans (b2.mono (by simp))⟩
 clear b2;go_wp2_with (refine zM 100 8 Tryz.sizePT (by rfl) (.tmp 4) (.tmp 70) (by rfl) w.heap.size (zTQ ⟨5,i+1,0,0,0,0,0,R⟩) (by rfl) (by rfl) HZ.out.1 (by rfl) (by rfl) (xQ _) ?_;intro w3 r1 r2 r3 r4)
 refine bodyPost_ret (jK 100 8 Tryz.underlying100 rfl Tryz.sizePT rfl (by rfl) r1 (by rfl)) rfl ⟨rfl,?_⟩;exact HZ.out.2.trans (r4 _ (lG _))
theorem zL6(p:ByteArray)(i:Int)(w:World)(hp:p.size<=64)(hi0:0<=i)(hi1:i<=100)(a0:(Mt.zTC p i==-1)=false)(a1:(Mt.zTC p i==124)=false)(a2:(Mt.zTC p i==40)=false)(a3:(Mt.zTC p i==41)=false)(a4:(Mt.zTC p i==42)=false)(a5:(Mt.zTC p i==43)=false)(a6:(Mt.zTC p i==63)=false)(a7:(Mt.zTC p i==123)=false)(a8:(Mt.zTC p i==94)=false)(a9:(Mt.zTC p i==36)=false)(a10:(Mt.zTC p i==46)=false)(a11:(Mt.zTC p i==91)=false)(a12:(Mt.zTC p i==92)=false) :
  Calls Tryz.prog 55 #[.string p,.int .i64 i] w λe w'=>e=.returned (.tuple #[ptV ((⟨5,i+1,0,0,0,0,0,Mt.yY (Mt.bW Mt.none0 (Mt.zTC p i) (Mt.zTC p i)) 256⟩,0):Mt.PT × Int).1,.int .i64 ((⟨5,i+1,0,0,0,0,0,Mt.yY (Mt.bW Mt.none0 (Mt.zTC p i) (Mt.zTC p i)) 256⟩,0):Mt.PT × Int).2])/\Below w.heap.size w w':=by
 have TA:=zDT (w.alloc (.cells (zTQ Mt.pt0) 100)) (Mt.zTC p i) (Mt.zTC p i) (i+1);generalize Mt.yY (Mt.bW Mt.none0 (Mt.zTC p i) (Mt.zTC p i)) 256=R at *;have HT:Hid (Calls Tryz.prog _ _ _ _):=TA;clear TA;go_enter Tryz.func55,Tryz.ntmps55
 go_wp2_with (go_at_call 84;refine(kG _ _ _ hp).mono ?_;rintro e w' ⟨rfl,rfl⟩)
 refine HT.out.mono ?_;rintro e w2 ⟨rfl,b2⟩;have HZ:Hid (w2.heap[w.heap.size]?=some (.cells (zTQ Mt.pt0) 100 (0,0))/\Below w.heap.size w w2):=⟨(b2.block _ (by simp)).trans (jR w _),((Below.refl _ _).alloc (lG _) _).trans (b2.mono (by simp))⟩
 clear b2;go_wp2_with (refine zM 100 8 Tryz.sizePT (by rfl) (.tmp 4) (.tmp 89) (by rfl) w.heap.size (zTQ ⟨5,i+1,0,0,0,0,0,R⟩) (by rfl) (by rfl) HZ.out.1 (by rfl) (by rfl) (xQ _) ?_;intro w3 r1 r2 r3 r4)
 refine bodyPost_ret (jK 100 8 Tryz.underlying100 rfl Tryz.sizePT rfl (by rfl) r1 (by rfl)) rfl ⟨rfl,?_⟩;exact HZ.out.2.trans (r4 _ (lG _))
theorem zN9(p:ByteArray)(i:Int)(w:World)(hp:p.size<=64)(hi0:0<=i)(hi1:i<(p.size:Int)) :
  Calls Tryz.prog 55 #[.string p,.int .i64 i] w λe w'=>e=.returned (.tuple #[ptV (Mt.fI p i).1,.int .i64 (Mt.fI p i).2])/\Below w.heap.size w w':=by
 have l1:=Mt.zCs p i;have l0:0<=Mt.zTC p i:=by rw[Mt.zOD p i hi0 hi1];omega
 have yes:∀q:Int,Mt.zTC p i=q->(Mt.zTC p i==q)=true:=λq h=>by simpa using h
 have no:∀q:Int,¬Mt.zTC p i=q->(Mt.zTC p i==q)=false:=λq h=>by simpa using h
 have hi2:i<=100:=by omega
 by_cases zI8:Mt.zTC p i=124
 ·rw[zQI p i zI8];exact zN6 p i w hp hi0 hi2 (no (-1) (by omega)) (yes _ zI8)
 by_cases h40:Mt.zTC p i=40
 ·rw[zPz p i h40];exact zL3 p i w hp hi0 hi2 (no (-1) (by omega)) (no _ zI8) (yes _ h40)
 by_cases h41:Mt.zTC p i=41
 ·rw[zN2 p i h41];exact zKc p i w hp hi0 hi2 (no (-1) (by omega)) (no _ zI8) (no _ h40) (yes _ h41)
 by_cases h42:Mt.zTC p i=42
 ·rw[zPA p i h42];exact zL4 p i w hp hi0 hi2 (no (-1) (by omega)) (no _ zI8) (no _ h40) (no _ h41) (yes _ h42)
 by_cases h43:Mt.zTC p i=43
 ·rw[zPB p i h43];exact zL5 p i w hp hi0 hi2 (no (-1) (by omega)) (no _ zI8) (no _ h40) (no _ h41) (no _ h42) (yes _ h43)
 by_cases h63:Mt.zTC p i=63
 ·rw[zN4 p i h63];exact zKf p i w hp hi0 hi2 (no (-1) (by omega)) (no _ zI8) (no _ h40) (no _ h41) (no _ h42) (no _ h43) (yes _ h63)
 by_cases zOQ:Mt.zTC p i=123
 ·rw[zN5 p i zOQ];exact zKe p i w hp hi0 hi2 (no (-1) (by omega)) (no _ zI8) (no _ h40) (no _ h41) (no _ h42) (no _ h43) (no _ h63) (yes _ zOQ)
 by_cases h94:Mt.zTC p i=94
 ·rw[zPx p i h94];exact zL1 p i w hp hi0 hi2 (no (-1) (by omega)) (no _ zI8) (no _ h40) (no _ h41) (no _ h42) (no _ h43) (no _ h63) (no _ zOQ) (yes _ h94)
 by_cases h36:Mt.zTC p i=36
 ·rw[zPy p i h36];exact zL2 p i w hp hi0 hi2 (no (-1) (by omega)) (no _ zI8) (no _ h40) (no _ h41) (no _ h42) (no _ h43) (no _ h63) (no _ zOQ) (no _ h94) (yes _ h36)
 by_cases h46:Mt.zTC p i=46
 ·rw[zQK p i h46];exact zN8 p i w hp hi0 hi2 (no (-1) (by omega)) (no _ zI8) (no _ h40) (no _ h41) (no _ h42) (no _ h43) (no _ h63) (no _ zOQ) (no _ h94) (no _ h36) (yes _ h46)
 by_cases h91:Mt.zTC p i=91
 ·rw[zN3 p i h91];exact zKd p i w hp hi0 hi2 (no (-1) (by omega)) (no _ zI8) (no _ h40) (no _ h41) (no _ h42) (no _ h43) (no _ h63) (no _ zOQ) (no _ h94) (no _ h36) (no _ h46) (yes _ h91)
 by_cases h92:Mt.zTC p i=92
 ·rw[zQJ p i h92];exact zN7 p i w hp hi0 hi2 (no (-1) (by omega)) (no _ zI8) (no _ h40) (no _ h41) (no _ h42) (no _ h43) (no _ h63) (no _ zOQ) (no _ h94) (no _ h36) (no _ h46) (no _ h91) (yes _ h92)
 rw[zPC p i l0 l1 (by omega)];exact zL6 p i w hp hi0 hi2 (no (-1) (by omega)) (no _ zI8) (no _ h40) (no _ h41) (no _ h42) (no _ h43) (no _ h63) (no _ zOQ) (no _ h94) (no _ h36) (no _ h46) (no _ h91) (no _ h92)
