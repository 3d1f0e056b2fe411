import Derived.Test.YtebpgfodelggoaaGreatC15
import Derived.Test.YtebpgfodelggoaaGreatC16
import Derived.Test.YtebpgfodelggoaaGreatC05
import Derived.Deep.AppendLies
import Derived.Deep.RegionLaw
import Derived.Deep.DeepCutAuto
import Derived.Great.BuildSlice
set_option linter.all false
set_option maxRecDepth 100000
set_option maxHeartbeats 4000000
namespace Go.Proofs.YtebpgfodelggoaaGreat
open Go.RowKit _root_.Go.Proofs.Tryz Mt
theorem zEr p i(h:zI p i=124):dX p i=(⟨1,i+1,0,0,0,0,0,[]⟩,0):=by
 have e:kS p i=(⟨5,i,i+1,0,0,0,[]⟩,0):=by unfold kS;rw[lG h]
 unfold dX;rw[e];rfl
theorem zAT p i(h:zI p i=41):dX p i=(⟨3,i+1,0,0,0,0,0,[]⟩,0):=by
 have e:kS p i=(⟨7,i,i+1,0,0,0,[]⟩,0):=by unfold kS;rw[lC (by omega),lG h]
 unfold dX;rw[e];rfl
theorem zCY p i(h:zI p i=94):dX p i=(⟨7,i+1,0,0,0,0,0,[]⟩,0):=by
 have e:kS p i=(⟨3,i,i+1,0,0,0,[]⟩,0):=by unfold kS;rw[lC (by omega),lC (by omega),lG h]
 unfold dX;rw[e];rfl
theorem zCZ p i(h:zI p i=36):dX p i=(⟨8,i+1,0,0,0,0,0,[]⟩,0):=by
 have e:kS p i=(⟨4,i,i+1,0,0,0,[]⟩,0):=by unfold kS;rw[lC (by omega),lC (by omega),lC (by omega),lG h]
 unfold dX;rw[e];rfl
theorem zEs p i(h:zI p i=92):dX p i=UE p i:=by
 have e:kS p i=((vM p i).1,if(vM p i).2 then 0 else 2):=by unfold kS;rw[lC (by omega),lC (by omega),lC (by omega),lC (by omega),lG h]
 unfold dX UE;rw[e];cases(vM p i).2 <;> rfl
theorem zAU p i(h:zI p i=91):dX p i=Wz p i:=by
 have e:kS p i=((yI p i).1,if(yI p i).2 then 0 else 3):=by unfold kS;rw[lC (by omega),lC (by omega),lC (by omega),lC (by omega),lC (by omega),lG h]
 unfold dX Wz;rw[e];cases(yI p i).2 <;> rfl
theorem zC0 p i(h:zI p i=40):dX p i=WB p i:=by
 have e:kS p i=((kU p i).1,if(kU p i).2 then 0 else 5):=by unfold kS;rw[lC (by omega),lC (by omega),lC (by omega),lC (by omega),lC (by omega),lC (by omega),lG h]
 unfold dX WB;rw[e];cases(kU p i).2 <;> rfl
theorem zC1 p i(h:zI p i=42):dX p i=(tF p (i+1) 0 (-1),0):=by
 have r:jN p i=(⟨8,i,(vY p (i+1)).2,0,-1,(vY p (i+1)).1,[]⟩,true):=by unfold jN;rw[lC (by omega),lC (by omega),lC (by omega)]
 have e:kS p i=((jN p i).1,if(jN p i).2 then 0 else 4):=by unfold kS;rw[lC (by omega),lC (by omega),lC (by omega),lC (by omega),lC (by omega),lC (by omega),lC (by omega),lG (by omega)]
 unfold dX;rw[e,r];rfl
theorem zC2 p i(h:zI p i=43):dX p i=(tF p (i+1) 1 (-1),0):=by
 have r:jN p i=(⟨8,i,(vY p (i+1)).2,1,-1,(vY p (i+1)).1,[]⟩,true):=by unfold jN;rw[lG h]
 have e:kS p i=((jN p i).1,if(jN p i).2 then 0 else 4):=by unfold kS;rw[lC (by omega),lC (by omega),lC (by omega),lC (by omega),lC (by omega),lC (by omega),lC (by omega),lG (by omega)]
 unfold dX;rw[e,r];rfl
theorem zAV p i(h:zI p i=63):dX p i=(tF p (i+1) 0 1,0):=by
 have r:jN p i=(⟨8,i,(vY p (i+1)).2,0,1,(vY p (i+1)).1,[]⟩,true):=by unfold jN;rw[lC (by omega),lG h]
 have e:kS p i=((jN p i).1,if(jN p i).2 then 0 else 4):=by unfold kS;rw[lC (by omega),lC (by omega),lC (by omega),lC (by omega),lC (by omega),lC (by omega),lC (by omega),lG (by omega)]
 unfold dX;rw[e,r];rfl
theorem zAW p i(h:zI p i=123):dX p i=Rh p i:=by
 have e:kS p i=((jN p i).1,if(jN p i).2 then 0 else 4):=by unfold kS;rw[lC (by omega),lC (by omega),lC (by omega),lC (by omega),lC (by omega),lC (by omega),lC (by omega),lG (by omega)]
 unfold dX Rh;cases j:(count p i).2.2.2
 ·have r:jN p i=(⟨8,i,i+1,0,-1,0,[]⟩,false):=by unfold jN;rw[lC (by omega),lC (by omega),lG h,j];rfl
  rw[e,r];rfl
 ·have r:jN p i=(⟨8,i,(vY p (count p i).2.2.1).2,(count p i).1,(count p i).2.1,(vY p (count p i).2.2.1).1,[]⟩,true):=by unfold jN;rw[lC (by omega),lC (by omega),lG h,j];rfl
  rw[e,r];rfl
theorem zEt p i(h:zI p i=46):dX p i=(⟨5,i+1,0,0,0,0,0,yZ (mR none0 0 255) 256⟩,0):=by
 have e:kS p i=(⟨1,i,i+1,0,0,0,all p i i true⟩,0):=by unfold kS;rw[lC (by omega),lC (by omega),lC (by omega),lC (by omega),lC (by omega),lC (by omega),lC (by omega),lC (by omega),lG h]
 rw[zCz p i];unfold dX;rw[e];rfl
theorem zC3 p i(h:0<=zI p i)(j:zI p i<=255)(G:¬(zI p i=124\/zI p i=41\/zI p i=94\/zI p i=36\/zI p i=92\/zI p i=91\/zI p i=40\/zI p i=42\/zI p i=43\/zI p i=63\/zI p i=123\/zI p i=46)):
  dX p i=(⟨5,i+1,0,0,0,0,0,yZ (mR none0 (zI p i) (zI p i)) 256⟩,0):=by
 have e:kS p i=(⟨1,i,i+1,0,0,0,[UInt8.ofNat (zI p i).toNat]⟩,0):=by unfold kS;rw[lC (by omega),lC (by omega),lC (by omega),lC (by omega),lC (by omega),lC (by omega),lC (by omega),lC (by omega),lC (by omega)]
 rw[Wo _ h j];unfold dX;rw[e];rfl
theorem zAX p i w(h:p.size<=64)(G:0<=i)(I:i<=100)(j:(zI p i==-1)=false)(b:(zI p i==124)=true):
  Calls prog 116 #[.string p,.int .i64 i] w λe w'=>e=.returned (.tuple #[jv ((⟨1,i+1,0,0,0,0,0,[]⟩,0):PT × Int).1,.int .i64 ((⟨1,i+1,0,0,0,0,0,[]⟩,0):PT × Int).2])/\Below w.heap.size w w':=by
 go_in
 go_wp2_with (go_at_call 132;refine(kJ _ _ _ h).mono ?_;rintro e w' ⟨rfl,rfl⟩)
 go_returns;exact⟨rfl,by go_grown⟩
theorem UF p i w(h:p.size<=64)(J:0<=i)(O:i<=100)(j:(zI p i==-1)=false)(G:(zI p i==124)=false)(I:(zI p i==40)=false)(b:(zI p i==41)=true):
  Calls prog 116 #[.string p,.int .i64 i] w λe w'=>e=.returned (.tuple #[jv ((⟨3,i+1,0,0,0,0,0,[]⟩,0):PT × Int).1,.int .i64 ((⟨3,i+1,0,0,0,0,0,[]⟩,0):PT × Int).2])/\Below w.heap.size w w':=by
 go_in
 go_wp2_with (go_at_call 132;refine(kJ _ _ _ h).mono ?_;rintro e w' ⟨rfl,rfl⟩)
 go_returns;exact⟨rfl,by go_grown⟩
theorem Ya p i w(h:p.size<=64)(Z:0<=i)(a0:i<=100)(j:(zI p i==-1)=false)(G:(zI p i==124)=false)(I:(zI p i==40)=false)(J:(zI p i==41)=false)(O:(zI p i==42)=false)(U:(zI p i==43)=false)(W:(zI p i==63)=false)(Y:(zI p i==123)=false)(b:(zI p i==94)=true):
  Calls prog 116 #[.string p,.int .i64 i] w λe w'=>e=.returned (.tuple #[jv ((⟨7,i+1,0,0,0,0,0,[]⟩,0):PT × Int).1,.int .i64 ((⟨7,i+1,0,0,0,0,0,[]⟩,0):PT × Int).2])/\Below w.heap.size w w':=by
 go_in
 go_wp2_with (go_at_call 132;refine(kJ _ _ _ h).mono ?_;rintro e w' ⟨rfl,rfl⟩)
 go_returns;exact⟨rfl,by go_grown⟩
theorem Yb p i w(h:p.size<=64)(a0:0<=i)(a1:i<=100)(j:(zI p i==-1)=false)(G:(zI p i==124)=false)(I:(zI p i==40)=false)(J:(zI p i==41)=false)(O:(zI p i==42)=false)(U:(zI p i==43)=false)(W:(zI p i==63)=false)(Y:(zI p i==123)=false)(Z:(zI p i==94)=false)(b:(zI p i==36)=true):
  Calls prog 116 #[.string p,.int .i64 i] w λe w'=>e=.returned (.tuple #[jv ((⟨8,i+1,0,0,0,0,0,[]⟩,0):PT × Int).1,.int .i64 ((⟨8,i+1,0,0,0,0,0,[]⟩,0):PT × Int).2])/\Below w.heap.size w w':=by
 go_in
 go_wp2_with (go_at_call 132;refine(kJ _ _ _ h).mono ?_;rintro e w' ⟨rfl,rfl⟩)
 go_returns;exact⟨rfl,by go_grown⟩
theorem zAY p i w(I:p.size<=64)(O:0<=i)(U:i<=100)(Z:(zI p i==-1)=false)(a0:(zI p i==124)=false)(a3:(zI p i==40)=false)(a4:(zI p i==41)=false)(a5:(zI p i==42)=false)(a6:(zI p i==43)=false)(a7:(zI p i==63)=false)(a8:(zI p i==123)=false)(a9:(zI p i==94)=false)(b0:(zI p i==36)=false)(a1:(zI p i==46)=false)(a2:(zI p i==91)=false)(b:(zI p i==92)=true):
  Calls prog 116 #[.string p,.int .i64 i] w λe w'=>e=.returned (.tuple #[jv (UE p i).1,.int .i64 (UE p i).2])/\Below w.heap.size w w':=by
 have G:=LC p i (w.alloc (.cells (pQ mJ) 174)) I O U (by simpa using b);generalize UE p i=R at *;have J:=hid G;clear G
 go_in
 go_wp2_with (go_at_call 132;refine(kJ _ _ _ I).mono ?_;rintro e w' ⟨rfl,rfl⟩)
 refine J.o.mono ?_;rintro e b3 ⟨rfl,h⟩;have j:=hnd ((h.block _ (by simp)).trans (jP w _)) (((lK _ _).alloc (lF _) _).trans (h.mono (by simp)));clear h;go_wp2_with (refine zN 174 8 qF (by rfl) (.tmp 4) (.tmp 83) (by rfl) w.heap.size (pQ R.1) (by rfl) (by rfl) j.o.1 (by rfl) (by rfl) (pR _) ?_;intro b4 W b1 b2 Y)
 refine lT (qA 174 8 underlying174 rfl qF rfl (by rfl) W (by rfl)) rfl ⟨rfl,?_⟩;exact j.o.2.trans (Y _ (lF _))
theorem UG p i w(I:p.size<=64)(O:0<=i)(U:i<=100)(Z:(zI p i==-1)=false)(a0:(zI p i==124)=false)(a2:(zI p i==40)=false)(a3:(zI p i==41)=false)(a4:(zI p i==42)=false)(a5:(zI p i==43)=false)(a6:(zI p i==63)=false)(a7:(zI p i==123)=false)(a8:(zI p i==94)=false)(a9:(zI p i==36)=false)(a1:(zI p i==46)=false)(b:(zI p i==91)=true):
  Calls prog 116 #[.string p,.int .i64 i] w λe w'=>e=.returned (.tuple #[jv (Wz p i).1,.int .i64 (Wz p i).2])/\Below w.heap.size w w':=by
 have G:=MU p i (w.alloc (.cells (pQ mJ) 174)) I O U;generalize Wz p i=R at *;have J:=hid G;clear G
 go_in
 go_wp2_with (go_at_call 132;refine(kJ _ _ _ I).mono ?_;rintro e w' ⟨rfl,rfl⟩)
 refine J.o.mono ?_;rintro e b2 ⟨rfl,h⟩;have j:=hnd ((h.block _ (by simp)).trans (jP w _)) (((lK _ _).alloc (lF _) _).trans (h.mono (by simp)));clear h;go_wp2_with (refine zN 174 8 qF (by rfl) (.tmp 4) (.tmp 76) (by rfl) w.heap.size (pQ R.1) (by rfl) (by rfl) j.o.1 (by rfl) (by rfl) (pR _) ?_;intro b3 W b0 b1 Y)
 refine lT (qA 174 8 underlying174 rfl qF rfl (by rfl) W (by rfl)) rfl ⟨rfl,?_⟩;exact j.o.2.trans (Y _ (lF _))
theorem Yc p i w(I:p.size<=64)(O:0<=i)(U:i<=100)(Z:(zI p i==-1)=false)(a0:(zI p i==124)=false)(b:(zI p i==40)=true):
  Calls prog 116 #[.string p,.int .i64 i] w λe w'=>e=.returned (.tuple #[jv (WB p i).1,.int .i64 (WB p i).2])/\Below w.heap.size w w':=by
 have G:=JV p i (w.alloc (.cells (pQ mJ) 174)) I O U;generalize WB p i=R at *;have J:=hid G;clear G
 go_in
 go_wp2_with (go_at_call 132;refine(kJ _ _ _ I).mono ?_;rintro e w' ⟨rfl,rfl⟩)
 refine J.o.mono ?_;rintro e a3 ⟨rfl,h⟩;have j:=hnd ((h.block _ (by simp)).trans (jP w _)) (((lK _ _).alloc (lF _) _).trans (h.mono (by simp)));clear h;go_wp2_with (refine zN 174 8 qF (by rfl) (.tmp 4) (.tmp 24) (by rfl) w.heap.size (pQ R.1) (by rfl) (by rfl) j.o.1 (by rfl) (by rfl) (pR _) ?_;intro a4 W a1 a2 Y)
 refine lT (qA 174 8 underlying174 rfl qF rfl (by rfl) W (by rfl)) rfl ⟨rfl,?_⟩;exact j.o.2.trans (Y _ (lF _))
theorem UH p i w(I:p.size<=64)(O:0<=i)(U:i<=100)(Z:(zI p i==-1)=false)(a0:(zI p i==124)=false)(a1:(zI p i==40)=false)(a2:(zI p i==41)=false)(a3:(zI p i==42)=false)(a4:(zI p i==43)=false)(a5:(zI p i==63)=false)(b:(zI p i==123)=true):
  Calls prog 116 #[.string p,.int .i64 i] w λe w'=>e=.returned (.tuple #[jv (Rh p i).1,.int .i64 (Rh p i).2])/\Below w.heap.size w w':=by
 have G:=MV p i (w.alloc (.cells (pQ mJ) 174)) I O U;generalize Rh p i=R at *;have J:=hid G;clear G
 go_in
 go_wp2_with (go_at_call 132;refine(kJ _ _ _ I).mono ?_;rintro e w' ⟨rfl,rfl⟩)
 refine J.o.mono ?_;rintro e a8 ⟨rfl,h⟩;have j:=hnd ((h.block _ (by simp)).trans (jP w _)) (((lK _ _).alloc (lF _) _).trans (h.mono (by simp)));clear h;go_wp2_with (refine zN 174 8 qF (by rfl) (.tmp 4) (.tmp 54) (by rfl) w.heap.size (pQ R.1) (by rfl) (by rfl) j.o.1 (by rfl) (by rfl) (pR _) ?_;intro a9 W a6 a7 Y)
 refine lT (qA 174 8 underlying174 rfl qF rfl (by rfl) W (by rfl)) rfl ⟨rfl,?_⟩;exact j.o.2.trans (Y _ (lF _))
theorem Yd p i w(I:p.size<=64)(a1:0<=i)(a2:i<=100)(W:(zI p i==-1)=false)(Y:(zI p i==124)=false)(Z:(zI p i==40)=false)(a0:(zI p i==41)=false)(b:(zI p i==42)=true):
  Calls prog 116 #[.string p,.int .i64 i] w λe w'=>e=.returned (.tuple #[jv ((tF p (i+1) 0 (-1),0):PT × Int).1,.int .i64 ((tF p (i+1) 0 (-1),0):PT × Int).2])/\Below w.heap.size w w':=by
 have G:=mq p (i+1) 0 (-1) (w.alloc (.cells (pQ mJ) 174)) I (by omega) (by omega);generalize tF p (i+1) 0 (-1)=R at *;have J:=hid G;clear G
 go_in
 go_wp2_with (go_at_call 132;refine(kJ _ _ _ I).mono ?_;rintro e w' ⟨rfl,rfl⟩)
 refine J.o.mono ?_;rintro e a5 ⟨rfl,h⟩;have j:=hnd ((h.block _ (by simp)).trans (jP w _)) (((lK _ _).alloc (lF _) _).trans (h.mono (by simp)));clear h;go_wp2_with (refine zN 174 8 qF (by rfl) (.tmp 4) (.tmp 36) (by rfl) w.heap.size (pQ R) (by rfl) (by rfl) j.o.1 (by rfl) (by rfl) (pR _) ?_;intro a6 O a3 a4 U)
 refine lT (qA 174 8 underlying174 rfl qF rfl (by rfl) O (by rfl)) rfl ⟨rfl,?_⟩;exact j.o.2.trans (U _ (lF _))
theorem Ye p i w(I:p.size<=64)(a2:0<=i)(a3:i<=100)(W:(zI p i==-1)=false)(Y:(zI p i==124)=false)(Z:(zI p i==40)=false)(a0:(zI p i==41)=false)(a1:(zI p i==42)=false)(b:(zI p i==43)=true):
  Calls prog 116 #[.string p,.int .i64 i] w λe w'=>e=.returned (.tuple #[jv ((tF p (i+1) 1 (-1),0):PT × Int).1,.int .i64 ((tF p (i+1) 1 (-1),0):PT × Int).2])/\Below w.heap.size w w':=by
 have G:=mq p (i+1) 1 (-1) (w.alloc (.cells (pQ mJ) 174)) I (by omega) (by omega);generalize tF p (i+1) 1 (-1)=R at *;have J:=hid G;clear G
 go_in
 go_wp2_with (go_at_call 132;refine(kJ _ _ _ I).mono ?_;rintro e w' ⟨rfl,rfl⟩)
 refine J.o.mono ?_;rintro e a6 ⟨rfl,h⟩;have j:=hnd ((h.block _ (by simp)).trans (jP w _)) (((lK _ _).alloc (lF _) _).trans (h.mono (by simp)));clear h;go_wp2_with (refine zN 174 8 qF (by rfl) (.tmp 4) (.tmp 42) (by rfl) w.heap.size (pQ R) (by rfl) (by rfl) j.o.1 (by rfl) (by rfl) (pR _) ?_;intro a7 O a4 a5 U)
 refine lT (qA 174 8 underlying174 rfl qF rfl (by rfl) O (by rfl)) rfl ⟨rfl,?_⟩;exact j.o.2.trans (U _ (lF _))
theorem UJ p i w(I:p.size<=64)(a3:0<=i)(a4:i<=100)(W:(zI p i==-1)=false)(Y:(zI p i==124)=false)(Z:(zI p i==40)=false)(a0:(zI p i==41)=false)(a1:(zI p i==42)=false)(a2:(zI p i==43)=false)(b:(zI p i==63)=true):
  Calls prog 116 #[.string p,.int .i64 i] w λe w'=>e=.returned (.tuple #[jv ((tF p (i+1) 0 1,0):PT × Int).1,.int .i64 ((tF p (i+1) 0 1,0):PT × Int).2])/\Below w.heap.size w w':=by
 have G:=mq p (i+1) 0 1 (w.alloc (.cells (pQ mJ) 174)) I (by omega) (by omega);generalize tF p (i+1) 0 1=R at *;have J:=hid G;clear G
 go_in
 go_wp2_with (go_at_call 132;refine(kJ _ _ _ I).mono ?_;rintro e w' ⟨rfl,rfl⟩)
 refine J.o.mono ?_;rintro e a7 ⟨rfl,h⟩;have j:=hnd ((h.block _ (by simp)).trans (jP w _)) (((lK _ _).alloc (lF _) _).trans (h.mono (by simp)));clear h;go_wp2_with (refine zN 174 8 qF (by rfl) (.tmp 4) (.tmp 48) (by rfl) w.heap.size (pQ R) (by rfl) (by rfl) j.o.1 (by rfl) (by rfl) (pR _) ?_;intro a8 O a5 a6 U)
 refine lT (qA 174 8 underlying174 rfl qF rfl (by rfl) O (by rfl)) rfl ⟨rfl,?_⟩;exact j.o.2.trans (U _ (lF _))
theorem zAZ p i w(J:p.size<=64)(a7:0<=i)(a8:i<=100)(W:(zI p i==-1)=false)(Y:(zI p i==124)=false)(Z:(zI p i==40)=false)(a0:(zI p i==41)=false)(a1:(zI p i==42)=false)(a2:(zI p i==43)=false)(a3:(zI p i==63)=false)(a4:(zI p i==123)=false)(a5:(zI p i==94)=false)(a6:(zI p i==36)=false)(b:(zI p i==46)=true):
  Calls prog 116 #[.string p,.int .i64 i] w λe w'=>e=.returned (.tuple #[jv ((⟨5,i+1,0,0,0,0,0,yZ (mR none0 0 255) 256⟩,0):PT × Int).1,.int .i64 ((⟨5,i+1,0,0,0,0,0,yZ (mR none0 0 255) 256⟩,0):PT × Int).2])/\Below w.heap.size w w':=by
 have G:=Im (w.alloc (.cells (pQ mJ) 174)) 0 255 (i+1);generalize yZ (mR none0 0 255) 256=R at *;have I:=hid G;clear G
 go_in
 go_wp2_with (go_at_call 132;refine(kJ _ _ _ J).mono ?_;rintro e w' ⟨rfl,rfl⟩)
 refine I.o.mono ?_;rintro e b1 ⟨rfl,h⟩;have j:=hnd ((h.block _ (by simp)).trans (jP w _)) (((lK _ _).alloc (lF _) _).trans (h.mono (by simp)));clear h;go_wp2_with (refine zN 174 8 qF (by rfl) (.tmp 4) (.tmp 70) (by rfl) w.heap.size (pQ ⟨5,i+1,0,0,0,0,0,R⟩) (by rfl) (by rfl) j.o.1 (by rfl) (by rfl) (pR _) ?_;intro b2 O a9 b0 U)
 refine lT (qA 174 8 underlying174 rfl qF rfl (by rfl) O (by rfl)) rfl ⟨rfl,?_⟩;exact j.o.2.trans (U _ (lF _))
theorem Yf p i w(J:p.size<=64)(b0:0<=i)(b1:i<=100)(W:(zI p i==-1)=false)(Y:(zI p i==124)=false)(a2:(zI p i==40)=false)(a3:(zI p i==41)=false)(a4:(zI p i==42)=false)(a5:(zI p i==43)=false)(a6:(zI p i==63)=false)(a7:(zI p i==123)=false)(a8:(zI p i==94)=false)(a9:(zI p i==36)=false)(Z:(zI p i==46)=false)(a0:(zI p i==91)=false)(a1:(zI p i==92)=false):
  Calls prog 116 #[.string p,.int .i64 i] w λe w'=>e=.returned (.tuple #[jv ((⟨5,i+1,0,0,0,0,0,yZ (mR none0 (zI p i) (zI p i)) 256⟩,0):PT × Int).1,.int .i64 ((⟨5,i+1,0,0,0,0,0,yZ (mR none0 (zI p i) (zI p i)) 256⟩,0):PT × Int).2])/\Below w.heap.size w w':=by
 have G:=Im (w.alloc (.cells (pQ mJ) 174)) (zI p i) (zI p i) (i+1);generalize yZ (mR none0 (zI p i) (zI p i)) 256=R at *;have I:=hid G;clear G
 go_in
 go_wp2_with (go_at_call 132;refine(kJ _ _ _ J).mono ?_;rintro e w' ⟨rfl,rfl⟩)
 refine I.o.mono ?_;rintro e b4 ⟨rfl,h⟩;have j:=hnd ((h.block _ (by simp)).trans (jP w _)) (((lK _ _).alloc (lF _) _).trans (h.mono (by simp)));clear h;go_wp2_with (refine zN 174 8 qF (by rfl) (.tmp 4) (.tmp 89) (by rfl) w.heap.size (pQ ⟨5,i+1,0,0,0,0,0,R⟩) (by rfl) (by rfl) j.o.1 (by rfl) (by rfl) (pR _) ?_;intro b5 O b2 b3 U)
 refine lT (qA 174 8 underlying174 rfl qF rfl (by rfl) O (by rfl)) rfl ⟨rfl,?_⟩;exact j.o.2.trans (U _ (lF _))
theorem zA0(p:BA) i w(J:p.size<=64)(j:0<=i)(a7:i<(p.size:Int)):
  CT 116 #[.string p,.int .i64 i] w λe w'=>e=.returned (.tuple #[jv (dX p i).1,.int .i64 (dX p i).2])/\Below w.heap.size w w':=by
 have a9:=BI p i;have a8:0<=zI p i:=by rw[KC p i j a7];omega
 have U:∀q:Int,zI p i=q->(zI p i==q)=true:=λq a5=>by simpa using a5
 have no:∀q:Int,¬zI p i=q->(zI p i==q)=false:=λq a5=>by simpa using a5
 have I:i<=100:=by omega
 by_cases h:zI p i=124
 ·rw[zEr p i h];exact zAX p i w J j I (no (-1) (by omega)) (U _ h)
 by_cases G:zI p i=40
 ·rw[zC0 p i G];exact Yc p i w J j I (no (-1) (by omega)) (no _ h) (U _ G)
 by_cases O:zI p i=41
 ·rw[zAT p i O];exact UF p i w J j I (no (-1) (by omega)) (no _ h) (no _ G) (U _ O)
 by_cases W:zI p i=42
 ·rw[zC1 p i W];exact Yd p i w J j I (no (-1) (by omega)) (no _ h) (no _ G) (no _ O) (U _ W)
 by_cases Y:zI p i=43
 ·rw[zC2 p i Y];exact Ye p i w J j I (no (-1) (by omega)) (no _ h) (no _ G) (no _ O) (no _ W) (U _ Y)
 by_cases Z:zI p i=63
 ·rw[zAV p i Z];exact UJ p i w J j I (no (-1) (by omega)) (no _ h) (no _ G) (no _ O) (no _ W) (no _ Y) (U _ Z)
 by_cases a0:zI p i=123
 ·rw[zAW p i a0];exact UH p i w J j I (no (-1) (by omega)) (no _ h) (no _ G) (no _ O) (no _ W) (no _ Y) (no _ Z) (U _ a0)
 by_cases a1:zI p i=94
 ·rw[zCY p i a1];exact Ya p i w J j I (no (-1) (by omega)) (no _ h) (no _ G) (no _ O) (no _ W) (no _ Y) (no _ Z) (no _ a0) (U _ a1)
 by_cases a2:zI p i=36
 ·rw[zCZ p i a2];exact Yb p i w J j I (no (-1) (by omega)) (no _ h) (no _ G) (no _ O) (no _ W) (no _ Y) (no _ Z) (no _ a0) (no _ a1) (U _ a2)
 by_cases a3:zI p i=46
 ·rw[zEt p i a3];exact zAZ p i w J j I (no (-1) (by omega)) (no _ h) (no _ G) (no _ O) (no _ W) (no _ Y) (no _ Z) (no _ a0) (no _ a1) (no _ a2) (U _ a3)
 by_cases a4:zI p i=91
 ·rw[zAU p i a4];exact UG p i w J j I (no (-1) (by omega)) (no _ h) (no _ G) (no _ O) (no _ W) (no _ Y) (no _ Z) (no _ a0) (no _ a1) (no _ a2) (no _ a3) (U _ a4)
 by_cases a6:zI p i=92
 ·rw[zEs p i a6];exact zAY p i w J j I (no (-1) (by omega)) (no _ h) (no _ G) (no _ O) (no _ W) (no _ Y) (no _ Z) (no _ a0) (no _ a1) (no _ a2) (no _ a3) (no _ a4) (U _ a6)
 rw[zC3 p i a8 a9 (by omega)];exact Yf p i w J j I (no (-1) (by omega)) (no _ h) (no _ G) (no _ O) (no _ W) (no _ Y) (no _ Z) (no _ a0) (no _ a1) (no _ a2) (no _ a3) (no _ a4) (no _ a6)
def UK(s:PS):List Value:=[.int .i64 s.first,.int .i64 s.next]
def WC(t:PT):List Value:=[.int .i64 t.kind,.int .i64 t.en,.int .i64 t.group,.int .i64 t.number,.int .i64 t.least,.int .i64 t.most,.int .i64 t.vY,.string ⟨t.set.toArray⟩]
def pU(a:PA):List Value:=WC a.tok++.int .i64 a.num::(WC a.rep++[.int .i64 a.body,.int .i64 a.home,.int .i64 a.next])
def PK(l:List Nat):List Value:=l.map λk:Nat=>Value.int .i64 (k:Int)
def bA(b:PB)(so ao oo:Option Addr)(sc ac oc:Nat):Array Value:=
 (.slice so b.zK.length sc::.slice ao b.zC.length ac::.int .i64 b.seq::.int .i64 b.last::.slice oo b.opn.length oc::.int .i64 b.kG::b.BH.map Value.bool).toArray
def blk(o:Option Addr):Option Nat:=o.map (·.block)
structure bO (L:Nat) (w:World) (g:Nat) (b:PB) (so ao oo:Option Addr) (sc ac oc:Nat):Prop where
 cell:w.heap[g]?=some (.cells (bA b so ao oo sc ac oc) 171 (0,0))
 lo:L<=g
 zK:w.ownsRow L 183 2 (.slice so b.zK.length sc) b.zK.length (b.zK.flatMap UK)
 zC:w.ownsRow L 200 20 (.slice ao b.zC.length ac) b.zC.length (b.zC.flatMap pU)
 opn:w.ownsRow L 3 1 (.slice oo b.opn.length oc) b.opn.length (PK b.opn)
 ap:blk so≠some g/\blk ao≠some g/\blk oo≠some g/\(∀q,blk so=some q->blk ao≠some q/\blk oo≠some q)/\(∀q,blk ao=some q->blk oo≠some q)
 cl:b.BH.length=10
def own(g:Nat)(so ao oo:Option Addr)(k:Nat):Prop:=k=g\/blk so=some k\/blk ao=some k\/blk oo=some k
structure yC (g:Nat) (so ao oo bf nR jl:Option Addr) (w w':World):Prop where
 os:w'.os=w.os
 tape:w'.tape=w.tape
 output:w'.output=w.output
 size:w.heap.size<=w'.heap.size
 block:∀k,k<w.heap.size->¬own g so ao oo k->w'.heap[k]?=w.heap[k]?
 sub:∀k,k<w.heap.size->own g bf nR jl k->own g so ao oo k
theorem yC.refl g so ao oo w:yC g so ao oo so ao oo w w:=⟨rfl,rfl,rfl,lF _,λ_ _ _=>rfl,λ_ _ h=>h⟩
theorem yC.trans{g so ao oo bf nR jl U I O a b c}(h:yC g so ao oo bf nR jl a b)(k:yC g bf nR jl U I O b c):yC g so ao oo U I O a c:=
 ⟨k.os.trans h.os,k.tape.trans h.tape,k.output.trans h.output,gX h.size k.size,
 λi j J=>(k.block i (rF j h.size) (λG=>J (h.sub i j G))).trans (h.block i j J),
 λi j G=>h.sub i j (k.sub i (rF j h.size) G)⟩
theorem yC.below{g so ao oo a b}(h:Below a.heap.size a b):yC g so ao oo so ao oo a b:=
 ⟨h.os,h.tape,h.output,h.size,λi j _=>h.block i j,λ_ _ h=>h⟩
theorem yC.alloc{g so ao oo bf nR jl a w}(h:yC g so ao oo bf nR jl a w) o:yC g so ao oo bf nR jl a (w.alloc o):=
 h.trans (yC.below ((lK _ _).alloc (lF _) o))
theorem yC.drew{g so ao oo bf nR jl a w}(h:yC g so ao oo bf nR jl a w):yC g so ao oo bf nR jl a w.drew:=h.trans (yC.below (lK _ _).drew)
theorem yC.set{g so ao oo bf nR jl a w}(h:yC g so ao oo bf nR jl a w){p}(G:own g bf nR jl p.block) u:yC g so ao oo bf nR jl a (w.setCell p u):=
 h.trans ⟨rfl,rfl,rfl,by simp[World.setCell],λi I j=>lS _ _ _ _ (λe=>j (by rw[e];exact G)),λ_ _ h=>h⟩
section
variable {L:Nat} {w:World} {g:Nat} {b:PB} {so ao oo:Option Addr} {sc ac oc:Nat}
theorem zR{w':World}{e}{s n cap}{o}{xs}(j:w.ownsRow L e s (.slice o n cap) n xs)(U:∀q,blk o=some q->w'.heap[q]?=w.heap[q]?):w'.ownsRow L e s (.slice o n cap) n xs:=by
 refine⟨j.1,?_⟩;rcases j.2 with J | ⟨h,Z,I,G,O,W,Y⟩
 ·exact .inl J
 ·simp only[oD]at G;obtain⟨rfl,_,rfl⟩:=G;exact .inr ⟨h,cap,I,rfl,O,by rw[U h rfl];exact W,Y⟩
theorem bO.keep{w'}(h:bO L w g b so ao oo sc ac oc)(G:∀k,own g so ao oo k->w'.heap[k]?=w.heap[k]?):bO L w' g b so ao oo sc ac oc:=
 ⟨by rw[G g (gG rfl)];exact h.cell,h.lo,zR h.zK (λq j=>G q (lZ (gG j))),zR h.zC (λq j=>G q (lZ (lZ (gG j)))),zR h.opn (λq j=>G q (lZ (lZ (lZ j)))),h.ap,h.cl⟩
theorem bO.lt(j:bO L w g b so ao oo sc ac oc):∀k,own g so ao oo k->L<=k/\k<w.heap.size:=by
 rintro k (rfl | h | h | h)
 ·exact⟨j.lo,(lM.1 j.cell).1⟩
 ·exact lY j.zK k (by cases so with | none=>simp[blk]at h | some a=>simpa[blk,Value.ownBlock]using h)
 ·exact lY j.zC k (by cases ao with | none=>simp[blk]at h | some a=>simpa[blk,Value.ownBlock]using h)
 ·exact lY j.opn k (by cases oo with | none=>simp[blk]at h | some a=>simpa[blk,Value.ownBlock]using h)
theorem bO.below{w'}(h:bO L w g b so ao oo sc ac oc)(j:Below w.heap.size w w'):bO L w' g b so ao oo sc ac oc:=
 h.keep (λk G=>j.block k (h.lt k G).2)
theorem yC.low{bf nR jl w'}(j:bO L w g b so ao oo sc ac oc)(h:yC g so ao oo bf nR jl w w')(I:L<=w.heap.size):Below L w w':=
 ⟨h.os,h.tape,h.output,h.size,λk J=>h.block k (by omega) (λG=>by have:=(j.lt k G).1;omega)⟩
theorem bO.cells(j:bO L w g b so ao oo sc ac oc):w.cell? ⟨g,0,none⟩=some (.slice so b.zK.length sc)/\w.cell? ⟨g,1,none⟩=some (.slice ao b.zC.length ac)/\w.cell? ⟨g,2,none⟩=some (.int .i64 b.seq)/\w.cell? ⟨g,3,none⟩=some (.int .i64 b.last)/\w.cell? ⟨g,4,none⟩=some (.slice oo b.opn.length oc)/\w.cell? ⟨g,5,none⟩=some (.int .i64 b.kG)/\
  (∀k,k<10->w.cell? ⟨g,6+k,none⟩=some (.bool (b.BH.getD k false)))/\(∀k,w.frozen? ⟨g,k,none⟩=false):=by
 have h:=zB j.cell;refine⟨h.1 0,h.1 1,h.1 2,h.1 3,h.1 4,h.1 5,λk G=>?_,h.2⟩;rw[h.1];unfold bA;rw[oI,show 6+k=k+1+1+1+1+1+1 by omega];simp only[gI,gN];rw[lH,lN (by rw[j.cl];exact G)];rfl
theorem bO.field{b'}{bf nR jl}{sc' AY Ey k}{v}(j:bO L w g b so ao oo sc ac oc)(W:(bA b so ao oo sc ac oc).setIfInBounds k v=bA b' bf nR jl sc' AY Ey)
  (I:w.ownsRow L 183 2 (.slice bf b'.zK.length sc') b'.zK.length (b'.zK.flatMap UK)) (J:w.ownsRow L 200 20 (.slice nR b'.zC.length AY) b'.zC.length (b'.zC.flatMap pU)) (O:w.ownsRow L 3 1 (.slice jl b'.opn.length Ey) b'.opn.length (PK b'.opn))
  (hap:blk bf≠some g/\blk nR≠some g/\blk jl≠some g/\(∀q,blk bf=some q->blk nR≠some q/\blk jl≠some q)/\(∀q,blk nR=some q->blk jl≠some q)) (U:b'.BH.length=10):
  bO L (w.setCell ⟨g,k,none⟩ v) g b' bf nR jl sc' AY Ey:=by
 have G:=lX w g k _ _ v j.cell;rw[W]at G;have o:∀q,q≠g->(w.setCell ⟨g,k,none⟩ v).heap[q]?=w.heap[q]?:=λq h=>lS _ _ _ _ h
 exact⟨G,j.lo,zR I (λq h=>o q (λe=>hap.1 (by rw[<-e];exact h))),zR J (λq h=>o q (λe=>hap.2.1 (by rw[<-e];exact h))),zR O (λq h=>o q (λe=>hap.2.2.1 (by rw[<-e];exact h))),hap,U⟩
end
end Go.Proofs.YtebpgfodelggoaaGreat
namespace Mt
def PB.newSeq(b:PB):PB:={ b with zK:=b.zK++[ps0] }
end Mt
namespace Go.Proofs.YtebpgfodelggoaaGreat
open Go.RowKit _root_.Go.Proofs.Tryz Mt
theorem zC4:(prog.info? 183).map (λi=>(i.zero,i.size,i.bytes))=some (some (.agg #[.int .i64 0,.int .i64 0]),2,16):=by kernel_rfl
theorem zC5{g so ao oo q}{w:World}(h:blk so=some q\/q=w.heap.size)(G:∀k,own g so ao oo k->k<w.heap.size)(j:blk so≠some g/\blk ao≠some g/\blk oo≠some g/\(∀q,blk so=some q->blk ao≠some q/\blk oo≠some q)/\(∀q,blk ao=some q->blk oo≠some q)):
  q≠g/\blk ao≠some q/\blk oo≠some q:=by
 rcases h with h | h
 ·exact⟨λe=>j.1 (by rw[h,e]),(j.2.2.2.1 q h).1,(j.2.2.2.1 q h).2⟩
 ·subst h;exact⟨λe=>by have:=G g (gG rfl);omega,λe=>by have:=G _ (lZ (lZ (gG e)));omega,λe=>by have:=G _ (lZ (lZ (lZ e)));omega⟩
theorem uo q o:blk (some ⟨q,o,none⟩)=some q:=rfl
theorem jC o n c:(Value.slice o n c).ownBlock=blk o:=by cases o <;> rfl
theorem bO.grown{L w w0 w1 g b so ao oo sc ac oc r}(j:bO L w g b so ao oo sc ac oc)(h:Below w.heap.size w w0)(G:w0.grownBy w1 r) k(I:own g so ao oo k)(O:some k≠r):w1.heap[k]?=w.heap[k]?:=by
 have J:=(j.lt k I).2;rw[G.block k (by have:=h.size;omega) O,h.block k J]
theorem UL{L}{w w0 w1}{g}{b}{so ao oo}{sc ac oc q cap}(j:bO L w g b so ao oo sc ac oc)(G:Below w.heap.size w w0)(a8:w.heap.size<w0.heap.size)(I:w0.grownBy w1 (blk so))(J:blk so=some q\/q=w0.heap.size)
  (a1:w1.ownsRow L 183 2 (.slice (some ⟨q,0,none⟩) (b.zK.length+1) cap) (b.zK.length+1) (b.zK.flatMap UK++[.int .i64 (-1),.int .i64 (-1)])):
  bO L (w1.setCell ⟨g,0,none⟩ (.slice (some ⟨q,0,none⟩) (b.zK.length+1) cap)) g b.newSeq (some ⟨q,0,none⟩) ao oo cap ac oc/\yC g so ao oo (some ⟨q,0,none⟩) ao oo w (w1.setCell ⟨g,0,none⟩ (.slice (some ⟨q,0,none⟩) (b.zK.length+1) cap)):=by
 have Z:∀k,own g so ao oo k->k<w0.heap.size:=λk h=>by have:=(j.lt k h).2;omega
 obtain⟨a5,a6,a7⟩:=zC5 (g:=g) (ao:=ao) (oo:=oo) J Z j.ap;have a3:=j.grown G I g (gG rfl) (λe=>j.ap.1 e.symm);have a2:∀k,blk ao=some k->w1.heap[k]?=w.heap[k]?:=λk h=>j.grown G I k (lZ (lZ (gG h))) (λe=>(j.ap.2.2.2.1 k e.symm).1 h)
 have a4:∀k,blk oo=some k->w1.heap[k]?=w.heap[k]?:=λk h=>j.grown G I k (lZ (lZ (lZ h))) (λe=>(j.ap.2.2.2.1 k e.symm).2 h)
 have hap:blk (some ⟨q,0,none⟩)≠some g/\blk ao≠some g/\blk oo≠some g/\(∀k,blk (some ⟨q,0,none⟩)=some k->blk ao≠some k/\blk oo≠some k)/\(∀k,blk ao=some k->blk oo≠some k):=
  ⟨λe=>a5 (by simpa[blk]using e),j.ap.2.1,j.ap.2.2.1,λk h=>by simp[blk]at h;subst h;exact⟨a6,a7⟩,j.ap.2.2.2.2⟩
 have o:∀k,k≠g->(w1.setCell ⟨g,0,none⟩ (.slice (some ⟨q,0,none⟩) (b.zK.length+1) cap)).heap[k]?=w1.heap[k]?:=λk h=>lS _ _ _ _ h
 refine⟨⟨?_,j.lo,?_,?_,?_,hap,j.cl⟩,?_⟩
 ·have Y:=lX w1 g 0 _ _ (.slice (some ⟨q,0,none⟩) (b.zK.length+1) cap) (by rw[a3];exact j.cell);rw[Y];unfold bA PB.newSeq;simp
 ·have U:b.newSeq.zK.length=b.zK.length+1:=by simp[PB.newSeq]
  have W:b.newSeq.zK.flatMap UK=b.zK.flatMap UK++[.int .i64 (-1),.int .i64 (-1)]:=by simp[PB.newSeq,UK,ps0]
  rw[U,W];exact zR a1 (λk h=>o k (by simp[blk]at h;omega))
 ·exact zR j.zC (λk h=>by rw[o k (λe=>j.ap.2.1 (by rw[<-e];exact h)),a2 k h])
 ·exact zR j.opn (λk h=>by rw[o k (λe=>j.ap.2.2.1 (by rw[<-e];exact h)),a4 k h])
 ·refine⟨I.os.trans G.os,I.tape.trans G.tape,I.output.trans G.output,?_,λk h O=>?_,λk h a0=>?_⟩
  ·have:=I.size;have:=G.size;simp[World.setCell];omega
  ·rw[o k (λe=>O (gG e)),I.block k (by have:=G.size;omega) (λe=>O (lZ (gG e.symm))),G.block k h]
  ·rcases a0 with e | e | e | e
   ·exact gG e
   ·simp[blk]at e;subst e;rcases J with J | J
    ·exact lZ (gG J)
    ·omega
   ·exact lZ (lZ (gG e))
   ·exact lZ (lZ (lZ e))
section
variable {L:Nat} {w:World} {g gs ga go:Nat} {b:PB} {so ao oo:Option Addr} {sc ac oc:Nat}
theorem PL s:(UK s).length=2:=rfl
theorem Ez a:(pU a).length=20:=rfl
theorem WE{b b' so ao oo sc ac oc}(h:b'.zK.length=b.zK.length)(j:b'.zC.length=b.zC.length)(G:b'.seq=b.seq)(I:b'.last=b.last)(J:b'.opn=b.opn)(O:b'.kG=b.kG)(U:b'.BH=b.BH):bA b' so ao oo sc ac oc=bA b so ao oo sc ac oc:=by
 unfold bA;rw[h,j,G,I,J,O,U]
theorem bO.zA1(h:bO L w g b (some ⟨gs,0,none⟩) ao oo sc ac oc)(i j)(v)(s')(O:i<b.zK.length)(U:j<2)(J:UK s'=(UK (b.xQ i)).set j v):
  bO L (w.setCell ⟨gs,i*2+j,none⟩ v) g { b with zK:=b.zK.set i s' } (some ⟨gs,0,none⟩) ao oo sc ac oc:=by
 have o:∀k,k≠gs->(w.setCell ⟨gs,i*2+j,none⟩ v).heap[k]?=w.heap[k]?:=λk G=>lS _ _ _ _ G
 have W:gs≠g:=λe=>h.ap.1 (by rw[uo,e])
 refine⟨?_,h.lo,?_,zR h.zC (λk G=>o k (λe=>(h.ap.2.2.2.1 gs rfl).1 (by rw[<-e];exact G))),zR h.opn (λk G=>o k (λe=>(h.ap.2.2.2.1 gs rfl).2 (by rw[<-e];exact G))),h.ap,h.cl⟩
 ·have e:bA { b with zK:=b.zK.set i s' } (some ⟨gs,0,none⟩) ao oo sc ac oc=bA b (some ⟨gs,0,none⟩) ao oo sc ac oc:=WE (by simp) rfl rfl rfl rfl rfl rfl;rw[o g (iB W),e];exact h.cell
 ·have r:=(uU h.zK (i*2+j) v).1;rw[RX UK 2 PL b.zK i j v s' O U (λa I=>by rw[J];unfold PB.xQ;rw[lH,I];rfl)]at r;simpa using r
theorem bO.Gs(h:bO L w g b so (some ⟨ga,0,none⟩) oo sc ac oc)(i G)(j)(J)(W:i<b.zC.length)(Y:G+j.length<=20)(U:pU J=setMany (pU (b.qI i)) G j):
  bO L (w.setCells ga (i*20+G) j) g { b with zC:=b.zC.set i J } so (some ⟨ga,0,none⟩) oo sc ac oc:=by
 have o:∀k,k≠ga->(w.setCells ga (i*20+G) j).heap[k]?=w.heap[k]?:=λk I=>vG ga j _ w k I
 have Z:ga≠g:=λe=>h.ap.2.1 (by rw[uo,e])
 refine⟨?_,h.lo,zR h.zK (λk I=>o k (λe=>(h.ap.2.2.2.1 k I).1 (by rw[e];rfl))),?_,zR h.opn (λk I=>o k (λe=>h.ap.2.2.2.2 ga rfl (by rw[<-e];exact I))),h.ap,h.cl⟩
 ·have e:bA { b with zC:=b.zC.set i J } so (some ⟨ga,0,none⟩) oo sc ac oc=bA b so (some ⟨ga,0,none⟩) oo sc ac oc:=WE rfl (by simp) rfl rfl rfl rfl rfl;rw[o g (iB Z),e];exact h.cell
 ·have r:=Cm j (i*20+G) w _ h.zC;rw[Gp pU 20 Ez b.zC i G j J W Y (λa O=>by rw[U];unfold PB.qI;rw[lH,O];rfl)]at r;simpa using r
theorem bO.WG(j:bO L w g b so ao oo sc ac oc)(I:0<b.zK.length):∃gs,so=some ⟨gs,0,none⟩/\gs≠g/\gs<w.heap.size/\b.zK.length<=sc:=by
 obtain⟨gs,cap,h,_,G⟩:=World.ownsRow.form j.zK I;simp only[oD]at h;obtain⟨rfl,_,rfl⟩:=h;rcases j.zK.2 with ⟨e,_⟩ | ⟨U,J,O,h,_,_,W,_⟩
 ·simp at e
 ·simp only[oD]at h;exact⟨gs,rfl,λe=>j.ap.1 (by rw[uo,e]),G,by omega⟩
theorem bO.Bv(j:bO L w g b so ao oo sc ac oc)(I:0<b.zC.length):∃ga,ao=some ⟨ga,0,none⟩/\ga≠g/\ga<w.heap.size/\b.zC.length<=ac:=by
 obtain⟨gs,cap,h,_,G⟩:=World.ownsRow.form j.zC I;simp only[oD]at h;obtain⟨rfl,_,rfl⟩:=h;rcases j.zC.2 with ⟨e,_⟩ | ⟨U,J,O,h,_,_,W,_⟩
 ·simp at e
 ·simp only[oD]at h;exact⟨gs,rfl,λe=>j.ap.2.1 (by rw[uo,e]),G,by omega⟩
theorem bO.zC6(j:bO L w g b so ao oo sc ac oc)(I:0<b.opn.length):∃go,oo=some ⟨go,0,none⟩/\go≠g/\go<w.heap.size/\b.opn.length<=oc:=by
 obtain⟨gs,cap,h,_,G⟩:=World.ownsRow.form j.opn I;simp only[oD]at h;obtain⟨rfl,_,rfl⟩:=h;rcases j.opn.2 with ⟨e,_⟩ | ⟨U,J,O,h,_,_,W,_⟩
 ·simp at e
 ·simp only[oD]at h;exact⟨gs,rfl,λe=>j.ap.2.2.1 (by rw[uo,e]),G,by omega⟩
theorem flat_get{α:Type}(f:α->List Value)(k)(G:∀a,(f a).length=k)(d):∀(l:List α) (i j),i<l.length->j<k->(l.flatMap f)[i*k+j]?=(f (l.getD i d))[j]?
 | [],i,j,h,_=>by simp at h
 | x::r,0,j,_,hj=>by
  rw[gT,gK (by rw[G];omega)];simp
 | x::r,i+1,j,hi,hj=>by
  have e:(i+1)*k+j=k+(i*k+j):=by rw[oV];omega
  rw[gT,e,gL (by rw[G];omega),G,show k+(i*k+j)-k=i*k+j by omega,flat_get f k G d r i j (by simpa using hi) hj];simp
theorem bO.xq(j:bO L w g b (some ⟨gs,0,none⟩) ao oo sc ac oc)(i h)(G:i<b.zK.length)(I:h<2):w.cell? ⟨gs,i*2+h,none⟩=(UK (b.xQ i))[h]?/\w.frozen? ⟨gs,i*2+h,none⟩=false:=
 ⟨by rw[gU j.zK _ (by omega),flat_get UK 2 PL ps0 _ _ _ G I];rfl,rA j.zK _⟩
theorem bO.zy(j:bO L w g b so (some ⟨ga,0,none⟩) oo sc ac oc)(i h)(G:i<b.zC.length)(I:h<20):w.cell? ⟨ga,i*20+h,none⟩=(pU (b.qI i))[h]?/\w.frozen? ⟨ga,i*20+h,none⟩=false:=
 ⟨by rw[gU j.zC _ (by omega),flat_get pU 20 Ez pa0 _ _ _ G I];rfl,rA j.zC _⟩
theorem bO.zC7(h:bO L w g b so ao (some ⟨go,0,none⟩) sc ac oc)(i)(j:i<b.opn.length):w.cell? ⟨go,i,none⟩=some (.int .i64 (b.opn.getD i 0:Nat)):=by
 rw[gU h.opn _ (by omega)];unfold PK;rw[gN,lH,lN j];rfl
theorem bO.drew(h:bO L w g b so ao oo sc ac oc):bO L w.drew g b so ao oo sc ac oc:=h.keep (λ_ _=>rfl)
end
theorem dx{L w g b so ao oo sc ac oc}(h:bO L w g b so ao oo sc ac oc)(b4:b.zK.length<=1000):
  Calls prog 115 #[.pointer (some ⟨g,0,none⟩)] w λe w'=>e=.returned (.int .i64 b.zK.length)/\∃bf sc',bO L w' g b.newSeq bf ao oo sc' ac oc/\yC g so ao oo bf ao oo w w':=by
 obtain⟨a9,a5,a6,a7,a8⟩:=sK zC4;have G:=hid h;obtain⟨a2,_,_,_,_,_,_,Z⟩:=h.cells;have a3:=Z 0;have b3:=(h.lt g (gG rfl)).2;have b2:L<=w.heap.size:=by have:=h.lo;omega
 have Y:=h.zK;clear h Z;generalize a4:b.zK.length=N at *
 go_in
 go_wp2_with (at_builtin;refine wpList_append_lies _ rfl (.tmp 8) (.tmp 10) 104 rfl L 183 a9 _ 2 16 underlying104 a5 a6 a7 a8 rfl (by decide) _ _ _ rfl (Y.alloc _) ⟨w.heap.size,0,none⟩ 1 1 [.int .i64 (-1),.int .i64 (-1)] rfl rfl ?c1 ?c2 (by decide) ?c3 ?c4 ?c5 (w.heap.size+1) ?c6 ?_)
 case c1=>exact World.news_of_block (cs:=#[.int .i64 (-1),.int .i64 (-1)]) (gF _ _)
 case c2=>intro u a1;simp at a1;subst a1;rfl
 case c3=>unfold maxLen;omega
 case c4=>omega
 case c5=>simp;omega
 case c6=>simp
 ·intro q cap w1 a0 j J b5;rw[jC]at j J;have I:Below w.heap.size w (w.alloc (.cells #[.int .i64 (-1),.int .i64 (-1)] 183)):=(lK _ _).alloc (lF _) _;subst a4;have U:=UL G.o I (by simp) j (by simpa using J) a0;have O:=G.o.grown I j g (gG rfl) (λe=>G.o.ap.1 e.symm);have b0:=(gH (a:=⟨g,0,none⟩) O).trans a2;have b1:=(rC (a:=⟨g,0,none⟩) O).trans a3;have W:=hid U;clear U a0 j J O I Y;go_wp2_with fail
  go_returns;refine⟨?_,some ⟨q,0,none⟩,cap,W.o.1,W.o.2⟩
  go_num
end Go.Proofs.YtebpgfodelggoaaGreat
namespace Mt
def PB.bX(b:PB)(t:PT):PB:={ b with zC:=b.zC++[⟨t,0,mJ,-1,b.seq,-1⟩] }
end Mt
namespace Go.Proofs.YtebpgfodelggoaaGreat
open Go.RowKit _root_.Go.Proofs.Tryz Mt
theorem zC8:(prog.info? 200).map (λi=>(i.zero,i.size,i.bytes))=some (some (.agg (pU ⟨mJ,0,mJ,0,0,0⟩).toArray),20,176):=by kernel_rfl
theorem UM t k z:(Instr.build 200 #[(0,.agg (pQ t)),(3,.int .i64 (-1)),(4,.int .i64 k),(5,.int .i64 (-1))]).run prog z=.ok (.agg (pU ⟨t,0,mJ,-1,k,-1⟩).toArray) z:=by
 unfold pQ pU WC;kernel_rfl
theorem Ob x{h:TypeInfo}(j:h.size=20):Instr.fill (λi=>some (i*h.size,h.size)) ((Array.range (1*h.size)).map ((Value.agg (pU ⟨mJ,0,mJ,0,0,0⟩).toArray).cells[· % (Value.agg (pU ⟨mJ,0,mJ,0,0,0⟩).toArray).cells.size]!)) [(0,.agg (pU x).toArray)]=some (pU x).toArray:=by
 rw[j];unfold pU WC;kernel_rfl
theorem UN{P:Program}{j:Array Oper}{o:Oper}{a:Act}{w:World}{K:Act->World->Prop}{Q:Exit->Act->World->Prop}{E:Prop}(J:o.guard=none)(t e:TypeId)(len:Nat)(parts:Array (Nat × Operand))(U:o.op=.buildSlice t len parts)
  (cells:Array Value) (h:TypeInfo) (z:Value) (Z:P.underlying t=some (.slice e)) (O:P.info? e=some h) (hz:h.zero=some z) (Y:¬len*h.size>2 ^ 24) (W:¬len*h.size=0)
  (I:Instr.fill (λi=>some (i*h.size,h.size)) ((Array.range (len*h.size)).map (z.cells[· % z.cells.size]!)) (parts.map λ(i,x)=>(i,a.eval x)).toList=some cells)
  (G:K (a.put o.dst (.slice (some ⟨w.heap.size,0,none⟩) len len)) (w.alloc (.cells cells e))):if Region.wanted o (yielded j a.tmps)=true then Oper.wp P o a w K Q else E:=by
 have a0:Region.wanted o (yielded j a.tmps)=true:=by simp[Region.wanted,J]
 rw[lG a0];exact wp_buildSlice t e len parts U cells h z Z O hz Y W I G
theorem mK{P}{a0}{o}{a}{w}{K}{Q}{E}(I:o.guard=none)(t e)(x)(O:o.op=.buildSlice t 1 #[(0,x)])
  (cells) (h) (z v) (Y:P.underlying t=some (.slice e)) (J:P.info? e=some h) (hz:h.zero=some z) (W:¬1*h.size>2 ^ 24) (U:¬1*h.size=0) (Z:a.eval x=v)
  (G:Instr.fill (λi=>some (i*h.size,h.size)) ((Array.range (1*h.size)).map (z.cells[· % z.cells.size]!)) [(0,v)]=some cells)
  (j:K (a.put o.dst (.slice (some ⟨w.heap.size,0,none⟩) 1 1)) (w.alloc (.cells cells e))):if Region.wanted o (yielded a0 a.tmps)=true then Oper.wp P o a w K Q else E:=
 UN I t e 1 #[(0,x)] O cells h z Y J hz W U (by subst Z;simp only[rU,oZ,sO];exact G) j
theorem UO{L}{w w1}{g}{b}{so ao oo}{sc ac oc}{T E}{G U}{n c}(h:bO L w g b so ao oo sc ac oc)(j:(((w.alloc (.cells T G)).drew).alloc (.cells E U)).grownBy w1 (Value.slice ao n c).ownBlock):
  w1.heap[w.heap.size]?=some (.cells T G (0,0))/\(∀o,w1.cell? ⟨g,o,none⟩=w.cell? ⟨g,o,none⟩)/\(∀o,w1.frozen? ⟨g,o,none⟩=w.frozen? ⟨g,o,none⟩):=by
 rw[jC]at j;have O:=(h.lt g (gG rfl)).2
 have J:w1.heap[w.heap.size]?=some (.cells T G (0,0)):=by
  rw[j.block _ (by simp;omega) (λe=>by have:=(h.lt _ (lZ (lZ (gG e.symm)))).2;omega),kQ _ _ _ (by simp)];exact gF _ _
 have I:w1.heap[g]?=w.heap[g]?:=by
  rw[j.block _ (by simp;omega) (λe=>h.ap.2.1 e.symm),kQ _ _ _ (by simp;omega)];exact kQ _ _ _ O
 exact⟨J,λo=>gH (a:=⟨g,o,none⟩) I,λo=>rC (a:=⟨g,o,none⟩) I⟩
theorem Sb{L}{w w0 w1}{g}{b}{so ao oo}{sc ac oc q cap}{t}(j:bO L w g b so ao oo sc ac oc)(G:Below w.heap.size w w0)(a8:w.heap.size<w0.heap.size)(I:w0.grownBy w1 (blk ao))(J:blk ao=some q\/q=w0.heap.size)
  (a1:w1.ownsRow L 200 20 (.slice (some ⟨q,0,none⟩) (b.zC.length+1) cap) (b.zC.length+1) (b.zC.flatMap pU++pU ⟨t,0,mJ,-1,b.seq,-1⟩)):
  bO L (w1.setCell ⟨g,1,none⟩ (.slice (some ⟨q,0,none⟩) (b.zC.length+1) cap)) g (b.bX t) so (some ⟨q,0,none⟩) oo sc cap oc/\yC g so ao oo so (some ⟨q,0,none⟩) oo w (w1.setCell ⟨g,1,none⟩ (.slice (some ⟨q,0,none⟩) (b.zC.length+1) cap)):=by
 have O:∀k,own g so ao oo k->k<w0.heap.size:=λk h=>by have:=(j.lt k h).2;omega
 have n:q≠g/\blk so≠some q/\blk oo≠some q:=by
  rcases J with e | e
  ·exact⟨λx=>j.ap.2.1 (by rw[e,x]),λx=>(j.ap.2.2.2.1 q x).1 e,j.ap.2.2.2.2 q e⟩
  ·subst e;exact⟨λe=>by have:=O g (gG rfl);omega,λe=>by have:=O _ (lZ (gG e));omega,λe=>by have:=O _ (lZ (lZ (lZ e)));omega⟩
 obtain⟨a5,a6,a7⟩:=n;have a2:=j.grown G I g (gG rfl) (λe=>j.ap.2.1 e.symm);have a4:∀k,blk so=some k->w1.heap[k]?=w.heap[k]?:=λk h=>j.grown G I k (lZ (gG h)) (λe=>(j.ap.2.2.2.1 k h).1 e.symm)
 have a3:∀k,blk oo=some k->w1.heap[k]?=w.heap[k]?:=λk h=>j.grown G I k (lZ (lZ (lZ h))) (λe=>j.ap.2.2.2.2 k e.symm h)
 have hap:blk so≠some g/\blk (some ⟨q,0,none⟩)≠some g/\blk oo≠some g/\(∀k,blk so=some k->blk (some ⟨q,0,none⟩)≠some k/\blk oo≠some k)/\(∀k,blk (some ⟨q,0,none⟩)=some k->blk oo≠some k):=
  ⟨j.ap.1,λe=>a5 (by simpa[blk]using e),j.ap.2.2.1,λk h=>⟨λe=>a6 (by simp[blk]at e;rw[h,e]),(j.ap.2.2.2.1 k h).2⟩,λk h=>by simp[blk]at h;subst h;exact a7⟩
 have o:∀k,k≠g->(w1.setCell ⟨g,1,none⟩ (.slice (some ⟨q,0,none⟩) (b.zC.length+1) cap)).heap[k]?=w1.heap[k]?:=λk h=>lS _ _ _ _ h
 refine⟨⟨?_,j.lo,?_,?_,?_,hap,j.cl⟩,?_⟩
 ·have Z:=lX w1 g 1 _ _ (.slice (some ⟨q,0,none⟩) (b.zC.length+1) cap) (by rw[a2];exact j.cell);rw[Z];unfold bA PB.bX;simp
 ·exact zR j.zK (λk h=>by rw[o k (λe=>j.ap.1 (by rw[<-e];exact h)),a4 k h])
 ·have W:(b.bX t).zC.length=b.zC.length+1:=by simp[PB.bX]
  have Y:(b.bX t).zC.flatMap pU=b.zC.flatMap pU++pU ⟨t,0,mJ,-1,b.seq,-1⟩:=by simp[PB.bX]
  rw[W,Y];exact zR a1 (λk h=>o k (by simp[blk]at h;omega))
 ·exact zR j.opn (λk h=>by rw[o k (λe=>j.ap.2.2.1 (by rw[<-e];exact h)),a3 k h])
 ·refine⟨I.os.trans G.os,I.tape.trans G.tape,I.output.trans G.output,?_,λk h U=>?_,λk h a0=>?_⟩
  ·have:=I.size;have:=G.size;simp[World.setCell];omega
  ·rw[o k (λe=>U (gG e)),I.block k (by have:=G.size;omega) (λe=>U (lZ (lZ (gG e.symm)))),G.block k h]
  ·rcases a0 with e | e | e | e
   ·exact gG e
   ·exact lZ (gG e)
   ·simp[blk]at e;subst e;rcases J with J | J
    ·exact lZ (lZ (gG J))
    ·omega
   ·exact lZ (lZ (lZ e))
theorem xu{L w g b so ao oo sc ac oc} t(h:bO L w g b so ao oo sc ac oc)(g2:b.zC.length<=1000)(c8:b.seq<b.zK.length)(e0:b.last=-1\/∃k:Nat,b.last=k/\k<b.zC.length):
  Calls prog 144 #[.pointer (some ⟨g,0,none⟩),jv t] w λe w'=>e=.returned (.tuple #[])/\∃nR AY,bO L w' g (b.zO t) so nR oo sc AY oc/\yC g so ao oo so nR oo w w':=by
 obtain⟨b6,b2,b5,Z,d1⟩:=sK zC8;have c0:=hid h;obtain⟨f2,d5,c4,f3,_,_,_,c6⟩:=h.cells;have d6:=c6 1;have d9:=(h.lt g (gG rfl)).2;have f8:L<=w.heap.size:=by have:=h.lo;omega
 have d4:=hid h.zC;clear h c6;unfold jv
 go_in
 go_upto_region 2 with fail
 go_cut [] (λd3=>∃q cap,bO L d3 g (b.bX t) so (some ⟨q,0,none⟩) oo sc cap oc/\yC g so ao oo so (some ⟨q,0,none⟩) oo w d3)
 case first =>
  have G:∀z:World,(z.heap[w.heap.size]?=some (.cells (pQ t) 174 (0,0))/\z.cell? ⟨g,2,none⟩=some (.int .i64 b.seq))->z.cell? ⟨g,2,none⟩=some (.int .i64 b.seq):=λz hz=>hz.2
  have J:∀z:World,(z.heap[w.heap.size]?=some (.cells (pQ t) 174 (0,0))/\z.cell? ⟨g,2,none⟩=some (.int .i64 b.seq))->z.rangeAt w.heap.size 0 (pQ t).toList:=λz hz=>yE hz.1
  have S0:(w.alloc (.cells (pQ t) 174)).heap[w.heap.size]?=some (.cells (pQ t) 174 (0,0))/\(w.alloc (.cells (pQ t) 174)).cell? ⟨g,2,none⟩=some (.int .i64 b.seq):=⟨gF _ _,by rw[gH (a:=⟨g,2,none⟩) (kQ w _ g d9)];exact c4⟩
  refine wp_region_held_drew (S:=λz:World=>z.heap[w.heap.size]?=some (.cells (pQ t) 174 (0,0))/\z.cell? ⟨g,2,none⟩=some (.int .i64 b.seq)) (by kernel_rfl) S0 (λO=>?_);refine qJ 0 11 (.pointer (some ⟨g,0,none⟩)) rfl (by kernel_rfl) (λ_ _ _ h=>h) (λz hz=>by clear O hz G J S0;go_simp) (by assumption) ?_;simp only[Act.put,lD,lJ,lI];refine qJ 1 12 (.pointer (some ⟨g,0,none⟩)) rfl (by kernel_rfl) (λ_ _ _ h=>h) (λz hz=>by clear O hz G J S0;go_simp) (by assumption) ?_;simp only[Act.put,lD,lJ,lI];refine qJ 2 13 (.pointer (some ⟨g,0,none⟩)) rfl (by kernel_rfl) (λ_ _ _ h=>h) (λz hz=>by clear O hz G J S0;go_simp) (by assumption) ?_;simp only[Act.put,lD,lJ,lI];refine qJ 3 14 (.pointer (some ⟨g,0,none⟩)) rfl (by kernel_rfl) (λ_ _ _ h=>h) (λz hz=>by clear O hz G J S0;go_simp) (by assumption) ?_;simp only[Act.put,lD,lJ,lI];refine qJ 4 15 (.pointer (some ⟨g,1,none⟩)) rfl (by kernel_rfl) (λ_ _ _ h=>h) (λz hz=>by clear O hz G J S0;go_simp) (by assumption) ?_;simp only[Act.put,lD,lJ,lI];refine MN 6 17 (.agg (pQ t)) rfl (by kernel_rfl) (λ_ _ _ h=>h) (yieldsIf_load_mid (by rfl) _ _ rfl _ _ rfl _ _ J underlying174 rfl (by rw[qF];rfl)) (by assumption) ?_;simp only[Act.put,lD,lJ,lI];refine qJ 7 18 (.pointer (some ⟨g,0,none⟩)) rfl (by kernel_rfl) (λ_ _ _ h=>h) (λz hz=>by clear O hz G J S0;go_simp) (by assumption) ?_;simp only[Act.put,lD,lJ,lI];refine qJ 8 19 (.pointer (some ⟨g,0,none⟩)) rfl (by kernel_rfl) (λ_ _ _ h=>h) (λz hz=>by clear O hz G J S0;go_simp) (by assumption) ?_;simp only[Act.put,lD,lJ,lI];refine qJ 9 20 (.pointer (some ⟨g,2,none⟩)) rfl (by kernel_rfl) (λ_ _ _ h=>h) (λz hz=>by clear O hz G J S0;go_simp) (by assumption) ?_;simp only[Act.put,lD,lJ,lI];refine qJ 10 21 (.int .i64 b.seq) rfl (by kernel_rfl) (λ_ _ _ h=>h) (λz hz=>by have d1:=G z hz;clear O hz G J S0;go_simp) (by assumption) ?_;simp only[Act.put,lD,lJ,lI];refine qJ 11 22 (.agg (pU ⟨t,0,mJ,-1,b.seq,-1⟩).toArray) rfl (by kernel_rfl) (λ_ _ _ h=>h) (λz hz=>by refine DJ (t:=200) (parts:=#[(0,.tmp 17),(3,.const (.int .i64 (-1))),(4,.tmp 21),(5,.const (.int .i64 (-1)))]) rfl ?_;simp only[rU,oZ,sO];exact UM t b.seq z) (by assumption) ?_;simp only[Act.put,lD,lJ,lI]
  have S1:((w.alloc (.cells (pQ t) 174)).drew.alloc (.cells (pU ⟨t,0,mJ,-1,b.seq,-1⟩).toArray 200)).heap[w.heap.size]?=some (.cells (pQ t) 174 (0,0))/\((w.alloc (.cells (pQ t) 174)).drew.alloc (.cells (pU ⟨t,0,mJ,-1,b.seq,-1⟩).toArray 200)).cell? ⟨g,2,none⟩=some (.int .i64 b.seq):=
   ⟨(kQ _ _ _ (by simp)).trans S0.1,(gH (a:=⟨g,2,none⟩) (kQ (w.alloc (.cells (pQ t) 174)).drew _ g (by simp;omega))).trans S0.2⟩
  have c9:(w.alloc (.cells (pQ t) 174)).drew.heap.size=w.heap.size+1:=by simp
  have e1:((w.alloc (.cells (pQ t) 174)).drew.alloc (.cells (pU ⟨t,0,mJ,-1,b.seq,-1⟩).toArray 200)).heap[w.heap.size+1]?=some (.cells (pU ⟨t,0,mJ,-1,b.seq,-1⟩).toArray 200 (0,0)):=by
   rw[<-c9];exact gF _ _
  refine wpAnyH_ready (rs:=[5,12]) (by kernel_rfl) (by simp) ?_;refine AllReadyH.cons rfl (λK j=>?_) (AllReadyH.cons rfl (λK j=>?_) AllReadyH.nil)
  all_goals
   first
   | (
     refine mK rfl 105 200 (.tmp 22) rfl (pU ⟨t,0,mJ,-1,b.seq,-1⟩).toArray b6 _ (.agg (pU ⟨t,0,mJ,-1,b.seq,-1⟩).toArray) underlying105 b2 b5 (by rw[Z];decide) (by rw[Z];decide) (by rfl) (Ob _ Z) ?_;refine j.out _ _ S1 (λd8=>?_);clear j K;simp only[Act.put,lD,lJ,lI];refine wpAnyH_ready (rs:=[5]) (by kernel_rfl) (by simp) ?_;refine AllReadyH.cons rfl (λK j=>?_) AllReadyH.nil;try clear O
     try clear J
     go_simp
     refine j.out _ _ S1 (λc5=>?_);clear j K
     )
   | (
     try clear O
     try clear J
     go_simp
     refine j.out _ _ S0 (λc5=>?_);clear j K;refine wpAnyH_ready (rs:=[12]) (by kernel_rfl) (by simp) ?_;refine AllReadyH.cons rfl (λK j=>?_) AllReadyH.nil;refine mK rfl 105 200 (.tmp 22) rfl (pU ⟨t,0,mJ,-1,b.seq,-1⟩).toArray b6 _ (.agg (pU ⟨t,0,mJ,-1,b.seq,-1⟩).toArray) underlying105 b2 b5 (by rw[Z];decide) (by rw[Z];decide) (by rfl) (Ob _ Z) ?_;refine j.out _ _ S1 (λd8=>?_);clear j K;simp only[Act.put,lD,lJ,lI,c9]
     )
  all_goals
   refine wpAnyH_ready (rs:=[13]) (by kernel_rfl) (by simp) ?_;refine AllReadyH.cons rfl (λK j=>?_) AllReadyH.nil;refine step_append_lies _ rfl (.tmp 16) (.tmp 23) 105 rfl L 200 b6 _ 20 176 underlying105 b2 b5 Z d1 rfl (by decide) (.slice ao b.zC.length ac) b.zC.length (b.zC.flatMap pU) (by rfl) (oM (w:=(w.alloc (.cells (pQ t) 174)).drew) (d4.o.alloc _) _) ⟨w.heap.size+1,0,none⟩ 1 1 (pU ⟨t,0,mJ,-1,b.seq,-1⟩) (by rfl) (by rfl) (World.news_of_block (cs:=(pU ⟨t,0,mJ,-1,b.seq,-1⟩).toArray) e1) (by intro u d0;simp[pU,WC]at d0;rcases d0 with h | h | h | h | h | h | h | h | h | h | h | h | h | h | h | h | h | h | h | h <;> subst h <;> rfl) (by decide) (by unfold maxLen;omega) (by omega) (by simp;omega) (w.heap.size+2) (by simp) ?_;intro q cap w1 c7 a4 b3 g4;obtain⟨a5,a6,b9⟩:=UO c0.o a4;refine j.out _ _ ⟨a5,(a6 2).trans c4⟩ (λb0=>?_);clear j K;have f4:=(a6 1).trans d5;have f5:=(b9 1).trans d6
   have a7:Hid (bO L (w1.setCell ⟨g,1,none⟩ (.slice (some ⟨q,0,none⟩) (b.zC.length+1) cap)) g (b.bX t) so (some ⟨q,0,none⟩) oo sc cap oc/\yC g so ao oo so (some ⟨q,0,none⟩) oo w (w1.setCell ⟨g,1,none⟩ (.slice (some ⟨q,0,none⟩) (b.zC.length+1) cap))):=
    Sb c0.o (w0:=(w.alloc (.cells (pQ t) 174)).drew.alloc (.cells (pU ⟨t,0,mJ,-1,b.seq,-1⟩).toArray 200)) ((((lK _ _).alloc (lF _) _).drew).alloc (by simp) _) (by simp;omega) (by rw[jC]at a4;exact a4) (by rw[jC]at b3;simpa using b3) c7
   have e9:=(lM.1 a5).1
   have a2:(w1.setCell ⟨g,1,none⟩ (.slice (some ⟨q,0,none⟩) (b.zC.length+1) cap)).heap[w.heap.size]?=some (.cells (pQ t) 174 (0,0))/\(w1.setCell ⟨g,1,none⟩ (.slice (some ⟨q,0,none⟩) (b.zC.length+1) cap)).cell? ⟨g,2,none⟩=some (.int .i64 b.seq):=
    ⟨(lS _ _ _ _ (by show w.heap.size≠g;omega)).trans a5,a7.o.1.cells.2.2.1⟩
   clear a6 b9 a4 c7 b3 S0 S1;simp only[Act.put,lD,lJ,lI];refine qJ 14 25 (.pointer (some ⟨g,0,none⟩)) rfl (by kernel_rfl) (λ_ _ _ h=>h) (λz hz=>by clear b0 hz G a2;go_simp) (by assumption) ?_;simp only[Act.put,lD,lJ,lI];refine qJ 15 26 (.pointer (some ⟨g,0,none⟩)) rfl (by kernel_rfl) (λ_ _ _ h=>h) (λz hz=>by clear b0 hz G a2;go_simp) (by assumption) ?_;simp only[Act.put,lD,lJ,lI];refine qJ 16 27 (.pointer (some ⟨g,1,none⟩)) rfl (by kernel_rfl) (λ_ _ _ h=>h) (λz hz=>by clear b0 hz G a2;go_simp) (by assumption) ?_;simp only[Act.put,lD,lJ,lI];refine wpAnyH_ready (rs:=[17]) (by kernel_rfl) (by simp) ?_;refine AllReadyH.cons rfl (λK j=>?_) AllReadyH.nil;clear G
   go_simp
   refine j.out _ _ a2 (λc5=>?_);clear j K;refine rP (by kernel_rfl) ?_ _;go_wp2_with fail
   go_meet
   case rel=>exact⟨q,cap,a7.o.1,a7.o.2⟩
 case rest =>
  obtain⟨q,cap,U,b1⟩:=hcut;have c1:=hid U;have c2:=hid b1;obtain⟨e6,e7,e8,b8,_,_,_,b4⟩:=U.cells;have g6:=b4 3;obtain⟨gs,e2,f6,f7,d7⟩:=U.WG (by show 0<b.zK.length;omega);subst e2;have e4:(b.bX t).zC.length=b.zC.length+1:=by simp[PB.bX]
  have g5:b.zC.length+1<=cap:=by
   obtain⟨_,_,_,_,g0⟩:=U.Bv (by omega);omega
  have g3:q≠g:=λe=>U.ap.2.1 (by rw[uo,e])
  have f9:=(U.lt g (gG rfl)).2;rw[e4]at e7;change wc.cell? ⟨g,0,none⟩=some (.slice (some ⟨gs,0,none⟩) b.zK.length sc)at e6;change wc.cell? ⟨g,2,none⟩=some (.int .i64 b.seq)at e8;change wc.cell? ⟨g,3,none⟩=some (.int .i64 b.last)at b8;change b.zK.length<=sc at d7;rcases e0 with Y | ⟨k,Y,g1⟩
  ·have b7:=U.xq b.seq 0 c8 (by decide);have d2:=b7.1;have e5:=b7.2;rw[show b.seq*2+0=b.seq*2 by omega]at d2 e5;change wc.cell? ⟨gs,b.seq*2,none⟩=some (.int .i64 (b.xQ b.seq).first)at d2;rw[Y]at b8;have W:=hid Y;clear U b1 b4 b7 Y;go_wp2_with fail
   go_region
   go_wp2_with fail
   go_returns;have a1:=c1.o.zA1 b.seq 0 (.int .i64 b.zC.length) ⟨b.zC.length,(b.xQ b.seq).next⟩ c8 (by decide) rfl;rw[show b.seq*2+0=b.seq*2 by omega]at a1;have I:=a1.drew;have a8:=I.field (k:=3) (v:=.int .i64 b.zC.length) (b':=b.zO t) (bf:=some ⟨gs,0,none⟩) (nR:=some ⟨q,0,none⟩) (jl:=oo) (sc':=sc) (AY:=cap) (Ey:=oc) (by unfold bA PB.zO PB.bX;rw[lG W.o];simp) (by unfold PB.zO;rw[lG W.o];exact I.zK) (by unfold PB.zO;rw[lG W.o];exact I.zC) (by unfold PB.zO;rw[lG W.o];exact I.opn) I.ap (by unfold PB.zO;rw[lG W.o];exact I.cl);refine⟨rfl,some ⟨q,0,none⟩,cap,a8,?_⟩;exact((c2.o.set (p:=⟨gs,b.seq*2,none⟩) (lZ (gG rfl)) _).drew).set (p:=⟨g,3,none⟩) (gG rfl) _
  ·have a9:=U.zy k 19 (by omega) (by decide);have c3:=a9.1;have f0:=a9.2
   have a3:(b.bX t).qI k=b.qI k:=by
    unfold PB.qI PB.bX;dsimp only;rw[yB,lC (by omega)]
   rw[a3]at c3;change wc.cell? ⟨q,k*20+19,none⟩=some (.int .i64 (b.qI k).next)at c3;rw[Y]at b8;have W:=hid Y;have f1:((k:Int)==-1)=false:=by simp
   clear U b1 b4 a9 Y a3;go_wp2_with fail
   go_region
   go_wp2_with fail
   go_returns
   have a1:=c1.o.Gs k 19 [.int .i64 b.zC.length] { b.qI k with next:=b.zC.length } (by omega) (by simp) (by
    have a3:(b.bX t).qI k=b.qI k:=by
     unfold PB.qI PB.bX;dsimp only;rw[yB,lC (by omega)]
    rw[a3];rfl)
   have I:=a1.drew;have a0:¬b.last=-1:=by rw[W.o];omega
   have e3:b.last.toNat=k:=by rw[W.o];simp
   have a8:=I.field (k:=3) (v:=.int .i64 b.zC.length) (b':=b.zO t) (bf:=some ⟨gs,0,none⟩) (nR:=some ⟨q,0,none⟩) (jl:=oo) (sc':=sc) (AY:=cap) (Ey:=oc) (by unfold bA PB.zO PB.bX;rw[lC a0];simp) (by unfold PB.zO;rw[lC a0];exact I.zK) (by unfold PB.zO;rw[lC a0];dsimp only;rw[e3];exact I.zC) (by unfold PB.zO;rw[lC a0];exact I.opn) I.ap (by unfold PB.zO;rw[lC a0];exact I.cl);refine⟨rfl,some ⟨q,0,none⟩,cap,a8,?_⟩;exact((c2.o.set (p:=⟨q,k*20+19,none⟩) (lZ (lZ (gG rfl))) _).drew).set (p:=⟨g,3,none⟩) (gG rfl) _
theorem Qs{L w g b so ao oo sc ac oc}(W:bO L w g b so ao oo sc ac oc)(a7:b.zK.length<=1000)(b6:b.seq<b.zK.length):
  Calls prog 139 #[.pointer (some ⟨g,0,none⟩)] w λe w'=>e=.returned (.tuple #[])/\∃bf sc',bO L w' g b.bar bf ao oo sc' ac oc/\yC g so ao oo bf ao oo w w':=by
 have a0:=hid (dx W a7);clear W
 go_in
 go_wp2_with fail
 refine a0.o.mono ?_;rintro e w1 ⟨rfl,b8,I,G,Y⟩;have a9:b.newSeq.zK.length=b.zK.length+1:=by simp[PB.newSeq]
 obtain⟨gs,a8,b3,b4,a6⟩:=G.WG (by omega);subst a8;obtain⟨b0,b9,b1,b2,_,_,_,O⟩:=G.cells;have c0:=O 2;have c1:=O 3;have b5:g<w1.heap.size:=(G.lt g (gG rfl)).2;have U:=G.xq b.seq 1 (by omega) (by decide);have Z:=U.1;have b7:=U.2
 have J:b.newSeq.xQ b.seq=b.xQ b.seq:=by
  unfold PB.xQ PB.newSeq;dsimp only;rw[yB,lC (by omega)]
 rw[J]at Z;rw[a9]at b0 a6;change w1.cell? ⟨gs,b.seq*2+1,none⟩=some (.int .i64 (b.xQ b.seq).next)at Z;change w1.cell? ⟨g,2,none⟩=some (.int .i64 b.seq)at b1;change w1.cell? ⟨g,3,none⟩=some (.int .i64 b.last)at b2;have a2:Hid (bO L w1 g b.newSeq (some ⟨gs,0,none⟩) ao oo I ac oc):=G;have a3:Hid (yC g so ao oo (some ⟨gs,0,none⟩) ao oo w w1):=Y;have a1:Hid (b.newSeq.xQ b.seq=b.xQ b.seq):=J;clear G Y O U J;go_wp2_with fail
 go_region
 go_wp2_with fail
 go_returns;have a4:=a2.o.zA1 b.seq 1 (.int .i64 b.zK.length) ⟨(b.xQ b.seq).first,b.zK.length⟩ (by omega) (by decide) (by rw[a1.o];rfl);have h:=a4.drew;have j:=h.field (k:=2) (v:=.int .i64 b.zK.length) (b':={ b.bar with last:=b.last }) (bf:=some ⟨gs,0,none⟩) (nR:=ao) (jl:=oo) (sc':=I) (AY:=ac) (Ey:=oc) (by unfold bA PB.bar PB.newSeq;simp) h.zK h.zC h.opn h.ap h.cl;have a5:=j.field (k:=3) (v:=.int .i64 (-1)) (b':=b.bar) (bf:=some ⟨gs,0,none⟩) (nR:=ao) (jl:=oo) (sc':=I) (AY:=ac) (Ey:=oc) (by unfold bA PB.bar;simp) j.zK j.zC j.opn j.ap j.cl;refine⟨rfl,some ⟨gs,0,none⟩,I,a5,?_⟩;exact(((a3.o.set (p:=⟨gs,b.seq*2+1,none⟩) (lZ (gG rfl)) _).drew).set (p:=⟨g,2,none⟩) (gG rfl) _).set (p:=⟨g,3,none⟩) (gG rfl) _
theorem Nh{L w g b so ao oo sc ac oc}(t:PT)(G:bO L w g b so ao oo sc ac oc)(b2:b.zC.length<=1000)(b3:b.seq<b.zK.length)(b1:b.last=-1\/∃k:Nat,b.last=k/\k<b.zC.length)(n:Nat)(I:t.number=n)(c0:n<=9) E(h:E=if(b.kG:Int)<t.number\/b.BH.getD t.number.toNat false=false then 6 else 0):
  Calls prog 143 #[.pointer (some ⟨g,0,none⟩),jv t] w λe w'=>e=.returned (.int .i64 E)/\(E=0->∃nR AY,bO L w' g (b.zO t) so nR oo sc AY oc/\yC g so ao oo so nR oo w w')/\Below L w w':=by
 have a4:=hid G;obtain⟨_,_,_,_,_,b5,Z,_⟩:=G.cells;have b6:=Z n (by omega);have b9:(n:Int)<10:=by omega
 have b8:=(G.lt g (gG rfl)).2;have W:L<=w.heap.size:=by have:=G.lo;omega
 have a5:Hid (∀J:World,Below w.heap.size w J->CT 144 #[.pointer (some ⟨g,0,none⟩),jv t] J λe w'=>e=.returned (.tuple #[])/\∃nR AY,bO L w' g (b.zO t) so nR oo sc AY oc/\yC g so ao oo so nR oo J w'):=λJ b0=>xu t (G.below b0) b2 b3 b1
 have a3:t.number.toNat=n:=by rw[I];simp
 rw[a3]at h;generalize b7:b.BH.getD n false=a9 at *;clear G Z a3;rw[I]at h;have b4:=hid I;cases a2:decide (b.kG<n)
 ·have O:¬b.kG<n:=by simpa using a2
  cases a9
  ·have j:Hid (E=6):=by show _=_;rw[h,lG (lZ rfl)]
   clear h O;unfold jv pQ;rw[I]
   go_in
   go_wp2_with fail
   go_quiet (fail)
   go_wp2_with fail
   go_returns;exact⟨by rw[j.o];rfl,λe=>by have:=j.o;omega,(below_drewN ((lK _ _).alloc (lF _) _) _).mono W⟩
  ·have j:Hid (E=0):=by show _=_;rw[h,lC (by simp;omega)]
   have Y:Hid (jv t=.agg #[.int .i64 t.kind,.int .i64 t.en,.int .i64 t.group,.int .i64 n,.int .i64 t.least,.int .i64 t.most,.int .i64 t.vY,.string ⟨t.set.toArray⟩]):=by show _=_;unfold jv pQ;rw[I]
   have U:=a5.o;simp only[Y.o]at U;have a6:=hid U;clear h O U;rw[Y.o]
   go_in
   go_wp2_with fail
   go_quiet (fail)
   go_wp2_with fail
   refine(a6.o _ (by exact below_drewN ((lK _ _).alloc (lF _) _) _)).mono ?_;rintro e w1 ⟨rfl,a8,a7,a0,a1⟩;have R:=hnd a0 ((yC.below (below_drewN ((lK _ _).alloc (lF _) _) _)).trans a1);clear a0 a1;go_wp2_with fail
   go_returns;exact⟨by rw[j.o];rfl,λ_=>⟨a8,a7,R.o.1,R.o.2⟩,R.o.2.low a4.o W⟩
 ·have O:b.kG<n:=by simpa using a2
  have j:Hid (E=6):=by show _=_;rw[h,lG (gG (by omega))]
  clear h O;unfold jv pQ;rw[I]
  go_in
  go_wp2_with fail
  go_quiet (fail)
  go_wp2_with fail
  go_returns;exact⟨by rw[j.o];rfl,λe=>by have:=j.o;omega,(below_drewN ((lK _ _).alloc (lF _) _) _).mono W⟩
