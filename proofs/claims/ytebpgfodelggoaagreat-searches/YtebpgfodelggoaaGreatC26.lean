import Derived.Test.YtebpgfodelggoaaGreatC25
set_option linter.unusedVariables false
set_option linter.unusedSimpArgs false
set_option maxRecDepth 100000
set_option maxHeartbeats 1000000
namespace Go.Proofs.YtebpgfodelggoaaGreat
open Go.RowKit
theorem zRF (p:ByteArray) (i:Int) (h:Mt.atB p i=124):Mt.xV p i=(⟨1,i+1,0,0,0,0,0,[]⟩,0):=by
 have e:Mt.kK p i=(⟨5,i,i+1,0,0,0,[]⟩,0):=by unfold Mt.kK;rw [if_pos h]
 unfold Mt.xV;rw [e];rfl
theorem zOL (p:ByteArray) (i:Int) (h:Mt.atB p i=41):Mt.xV p i=(⟨3,i+1,0,0,0,0,0,[]⟩,0):=by
 have e:Mt.kK p i=(⟨7,i,i+1,0,0,0,[]⟩,0):=by unfold Mt.kK;rw [if_neg (by omega),if_pos h]
 unfold Mt.xV;rw [e];rfl
theorem zQs (p:ByteArray) (i:Int) (h:Mt.atB p i=94):Mt.xV p i=(⟨7,i+1,0,0,0,0,0,[]⟩,0):=by
 have e:Mt.kK p i=(⟨3,i,i+1,0,0,0,[]⟩,0):=by unfold Mt.kK;rw [if_neg (by omega),if_neg (by omega),if_pos h]
 unfold Mt.xV;rw [e];rfl
theorem zQt (p:ByteArray) (i:Int) (h:Mt.atB p i=36):Mt.xV p i=(⟨8,i+1,0,0,0,0,0,[]⟩,0):=by
 have e:Mt.kK p i=(⟨4,i,i+1,0,0,0,[]⟩,0):=by unfold Mt.kK;rw [if_neg (by omega),if_neg (by omega),if_neg (by omega),if_pos h]
 unfold Mt.xV;rw [e];rfl
theorem zRG (p:ByteArray) (i:Int) (h:Mt.atB p i=92):Mt.xV p i=esP p i:=by
 have e:Mt.kK p i=((Mt.escape p i).1,if (Mt.escape p i).2 then 0 else 2):=by unfold Mt.kK;rw [if_neg (by omega),if_neg (by omega),if_neg (by omega),if_neg (by omega),if_pos h]
 unfold Mt.xV esP;rw [e]
 cases (Mt.escape p i).2 <;> rfl
theorem zOM (p:ByteArray) (i:Int) (h:Mt.atB p i=91):Mt.xV p i=clP p i:=by
 have e:Mt.kK p i=((Mt.jM p i).1,if (Mt.jM p i).2 then 0 else 3):=by unfold Mt.kK;rw [if_neg (by omega),if_neg (by omega),if_neg (by omega),if_neg (by omega),if_neg (by omega),if_pos h]
 unfold Mt.xV clP;rw [e]
 cases (Mt.jM p i).2 <;> rfl
theorem zQu (p:ByteArray) (i:Int) (h:Mt.atB p i=40):Mt.xV p i=opP p i:=by
 have e:Mt.kK p i=((Mt.opening p i).1,if (Mt.opening p i).2 then 0 else 5):=by unfold Mt.kK;rw [if_neg (by omega),if_neg (by omega),if_neg (by omega),if_neg (by omega),if_neg (by omega),if_neg (by omega),if_pos h]
 unfold Mt.xV opP;rw [e]
 cases (Mt.opening p i).2 <;> rfl
theorem zQv (p:ByteArray) (i:Int) (h:Mt.atB p i=42):Mt.xV p i=(zAY p (i+1) 0 (-1),0):=by
 have r:Mt.kI p i=(⟨8,i,(Mt.xR p (i+1)).2,0,-1,(Mt.xR p (i+1)).1,[]⟩,true):=by unfold Mt.kI;rw [if_neg (by omega),if_neg (by omega),if_neg (by omega)]
 have e:Mt.kK p i=((Mt.kI p i).1,if (Mt.kI p i).2 then 0 else 4):=by unfold Mt.kK;rw [if_neg (by omega),if_neg (by omega),if_neg (by omega),if_neg (by omega),if_neg (by omega),if_neg (by omega),if_neg (by omega),if_pos (by omega)]
 unfold Mt.xV;rw [e,r];rfl
theorem zQw (p:ByteArray) (i:Int) (h:Mt.atB p i=43):Mt.xV p i=(zAY p (i+1) 1 (-1),0):=by
 have r:Mt.kI p i=(⟨8,i,(Mt.xR p (i+1)).2,1,-1,(Mt.xR p (i+1)).1,[]⟩,true):=by unfold Mt.kI;rw [if_pos h]
 have e:Mt.kK p i=((Mt.kI p i).1,if (Mt.kI p i).2 then 0 else 4):=by unfold Mt.kK;rw [if_neg (by omega),if_neg (by omega),if_neg (by omega),if_neg (by omega),if_neg (by omega),if_neg (by omega),if_neg (by omega),if_pos (by omega)]
 unfold Mt.xV;rw [e,r];rfl
theorem zON (p:ByteArray) (i:Int) (h:Mt.atB p i=63):Mt.xV p i=(zAY p (i+1) 0 1,0):=by
 have r:Mt.kI p i=(⟨8,i,(Mt.xR p (i+1)).2,0,1,(Mt.xR p (i+1)).1,[]⟩,true):=by unfold Mt.kI;rw [if_neg (by omega),if_pos h]
 have e:Mt.kK p i=((Mt.kI p i).1,if (Mt.kI p i).2 then 0 else 4):=by unfold Mt.kK;rw [if_neg (by omega),if_neg (by omega),if_neg (by omega),if_neg (by omega),if_neg (by omega),if_neg (by omega),if_neg (by omega),if_pos (by omega)]
 unfold Mt.xV;rw [e,r];rfl
theorem zOO (p:ByteArray) (i:Int) (h:Mt.atB p i=123):Mt.xV p i=coP p i:=by
 have e:Mt.kK p i=((Mt.kI p i).1,if (Mt.kI p i).2 then 0 else 4):=by unfold Mt.kK;rw [if_neg (by omega),if_neg (by omega),if_neg (by omega),if_neg (by omega),if_neg (by omega),if_neg (by omega),if_neg (by omega),if_pos (by omega)]
 unfold Mt.xV coP
 cases hc:(Mt.count p i).2.2.2
 ·have r:Mt.kI p i=(⟨8,i,i+1,0,-1,0,[]⟩,false):=by unfold Mt.kI;rw [if_neg (by omega),if_neg (by omega),if_pos h,hc];rfl
  rw [e,r];rfl
 ·have r:Mt.kI p i=(⟨8,i,(Mt.xR p (Mt.count p i).2.2.1).2,(Mt.count p i).1,(Mt.count p i).2.1,(Mt.xR p (Mt.count p i).2.2.1).1,[]⟩,true):=by unfold Mt.kI;rw [if_neg (by omega),if_neg (by omega),if_pos h,hc];rfl
  rw [e,r];rfl
theorem zRH (p:ByteArray) (i:Int) (h:Mt.atB p i=46):Mt.xV p i=(⟨5,i+1,0,0,0,0,0,Mt.qK (Mt.zAB Mt.none0 0 255) 256⟩,0):=by
 have e:Mt.kK p i=(⟨1,i,i+1,0,0,0,Mt.all p i i true⟩,0):=by unfold Mt.kK;rw [if_neg (by omega),if_neg (by omega),if_neg (by omega),if_neg (by omega),if_neg (by omega),if_neg (by omega),if_neg (by omega),if_neg (by omega),if_pos h]
 rw [Mt.zQp p i];unfold Mt.xV;rw [e];rfl
theorem zQx (p:ByteArray) (i:Int) (h0:0≤Mt.atB p i) (h1:Mt.atB p i≤255) (h:¬ (Mt.atB p i=124∨Mt.atB p i=41∨Mt.atB p i=94∨Mt.atB p i=36∨Mt.atB p i=92∨Mt.atB p i=91∨Mt.atB p i=40∨Mt.atB p i=42∨Mt.atB p i=43∨Mt.atB p i=63∨Mt.atB p i=123∨Mt.atB p i=46)) :
  Mt.xV p i=(⟨5,i+1,0,0,0,0,0,Mt.qK (Mt.zAB Mt.none0 (Mt.atB p i) (Mt.atB p i)) 256⟩,0):=by
 have e:Mt.kK p i=(⟨1,i,i+1,0,0,0,[UInt8.ofNat (Mt.atB p i).toNat]⟩,0):=by unfold Mt.kK;rw [if_neg (by omega),if_neg (by omega),if_neg (by omega),if_neg (by omega),if_neg (by omega),if_neg (by omega),if_neg (by omega),if_neg (by omega),if_neg (by omega)]
 rw [Mt.zMN _ h0 h1];unfold Mt.xV;rw [e];rfl
theorem zOP (p:ByteArray) (i:Int) (w:World) (hp:p.size≤64) (hi0:0≤i) (hi1:i≤100) (a0:(Mt.atB p i==-1)=false) (b:(Mt.atB p i==124)=true) :
  Calls Tryz.prog 116 #[.string p,.int .i64 i] w fun e w'=>e=.returned (.tuple #[ptV ((⟨1,i+1,0,0,0,0,0,[]⟩,0):Mt.PT × Int).1,.int .i64 ((⟨1,i+1,0,0,0,0,0,[]⟩,0):Mt.PT × Int).2])∧Below w.heap.size w w':=by
 go_enter Tryz.func116,Tryz.ntmps116
 go_wp2_with (go_at_call 132;refine (zO _ _ _ hp).mono ?_;rintro e w' ⟨rfl,rfl⟩)
 go_returns
 exact ⟨rfl,by go_grown⟩
theorem zLk (p:ByteArray) (i:Int) (w:World) (hp:p.size≤64) (hi0:0≤i) (hi1:i≤100) (a0:(Mt.atB p i==-1)=false) (a1:(Mt.atB p i==124)=false) (a2:(Mt.atB p i==40)=false) (b:(Mt.atB p i==41)=true) :
  Calls Tryz.prog 116 #[.string p,.int .i64 i] w fun e w'=>e=.returned (.tuple #[ptV ((⟨3,i+1,0,0,0,0,0,[]⟩,0):Mt.PT × Int).1,.int .i64 ((⟨3,i+1,0,0,0,0,0,[]⟩,0):Mt.PT × Int).2])∧Below w.heap.size w w':=by
 go_enter Tryz.func116,Tryz.ntmps116
 go_wp2_with (go_at_call 132;refine (zO _ _ _ hp).mono ?_;rintro e w' ⟨rfl,rfl⟩)
 go_returns
 exact ⟨rfl,by go_grown⟩
theorem zMX (p:ByteArray) (i:Int) (w:World) (hp:p.size≤64) (hi0:0≤i) (hi1:i≤100) (a0:(Mt.atB p i==-1)=false) (a1:(Mt.atB p i==124)=false) (a2:(Mt.atB p i==40)=false) (a3:(Mt.atB p i==41)=false) (a4:(Mt.atB p i==42)=false) (a5:(Mt.atB p i==43)=false) (a6:(Mt.atB p i==63)=false) (a7:(Mt.atB p i==123)=false) (b:(Mt.atB p i==94)=true) :
  Calls Tryz.prog 116 #[.string p,.int .i64 i] w fun e w'=>e=.returned (.tuple #[ptV ((⟨7,i+1,0,0,0,0,0,[]⟩,0):Mt.PT × Int).1,.int .i64 ((⟨7,i+1,0,0,0,0,0,[]⟩,0):Mt.PT × Int).2])∧Below w.heap.size w w':=by
 go_enter Tryz.func116,Tryz.ntmps116
 go_wp2_with (go_at_call 132;refine (zO _ _ _ hp).mono ?_;rintro e w' ⟨rfl,rfl⟩)
 go_returns
 exact ⟨rfl,by go_grown⟩
theorem zMY (p:ByteArray) (i:Int) (w:World) (hp:p.size≤64) (hi0:0≤i) (hi1:i≤100) (a0:(Mt.atB p i==-1)=false) (a1:(Mt.atB p i==124)=false) (a2:(Mt.atB p i==40)=false) (a3:(Mt.atB p i==41)=false) (a4:(Mt.atB p i==42)=false) (a5:(Mt.atB p i==43)=false) (a6:(Mt.atB p i==63)=false) (a7:(Mt.atB p i==123)=false) (a8:(Mt.atB p i==94)=false) (b:(Mt.atB p i==36)=true) :
  Calls Tryz.prog 116 #[.string p,.int .i64 i] w fun e w'=>e=.returned (.tuple #[ptV ((⟨8,i+1,0,0,0,0,0,[]⟩,0):Mt.PT × Int).1,.int .i64 ((⟨8,i+1,0,0,0,0,0,[]⟩,0):Mt.PT × Int).2])∧Below w.heap.size w w':=by
 go_enter Tryz.func116,Tryz.ntmps116
 go_wp2_with (go_at_call 132;refine (zO _ _ _ hp).mono ?_;rintro e w' ⟨rfl,rfl⟩)
 go_returns
 exact ⟨rfl,by go_grown⟩
theorem zOQ (p:ByteArray) (i:Int) (w:World) (hp:p.size≤64) (hi0:0≤i) (hi1:i≤100) (a0:(Mt.atB p i==-1)=false) (a1:(Mt.atB p i==124)=false) (a2:(Mt.atB p i==40)=false) (a3:(Mt.atB p i==41)=false) (a4:(Mt.atB p i==42)=false) (a5:(Mt.atB p i==43)=false) (a6:(Mt.atB p i==63)=false) (a7:(Mt.atB p i==123)=false) (a8:(Mt.atB p i==94)=false) (a9:(Mt.atB p i==36)=false) (a10:(Mt.atB p i==46)=false) (a11:(Mt.atB p i==91)=false) (b:(Mt.atB p i==92)=true) :
  Calls Tryz.prog 116 #[.string p,.int .i64 i] w fun e w'=>e=.returned (.tuple #[ptV (esP p i).1,.int .i64 (esP p i).2])∧Below w.heap.size w w':=by
 have TA:=zF1 p i (w.alloc (.cells (ptA Mt.pt0) 174)) hp hi0 hi1 (by simpa using b)
 generalize esP p i=R at *
 have HT:Hid (Calls Tryz.prog _ _ _ _):=TA
 clear TA
 go_enter Tryz.func116,Tryz.ntmps116
 go_wp2_with (go_at_call 132;refine (zO _ _ _ hp).mono ?_;rintro e w' ⟨rfl,rfl⟩)
 refine HT.out.mono ?_
 rintro e w2 ⟨rfl,b2⟩
 have HZ:Hid (w2.heap[w.heap.size]?=some (.cells (ptA Mt.pt0) 174 (0,0))∧Below w.heap.size w w2):=⟨(b2.block _ (by simp)).trans (jE w _),((Below.refl _ _).alloc (Nat.le_refl _) _).trans (b2.mono (by simp))⟩
 clear b2
 go_wp2_with (refine zI 174 8 Tryz.sizePT (by rfl) (.tmp 4) (.tmp 83) (by rfl) w.heap.size (ptA R.1) (by rfl) (by rfl) HZ.out.1 (by rfl) (by rfl) (yT _) ?_;intro w3 r1 r2 r3 r4)
 refine bodyPost_ret (kL 174 8 Tryz.underlying174 rfl Tryz.sizePT rfl (by rfl) r1 (by rfl)) rfl ⟨rfl,?_⟩
 exact HZ.out.2.trans (r4 _ (Nat.le_refl _))
theorem zLl (p:ByteArray) (i:Int) (w:World) (hp:p.size≤64) (hi0:0≤i) (hi1:i≤100) (a0:(Mt.atB p i==-1)=false) (a1:(Mt.atB p i==124)=false) (a2:(Mt.atB p i==40)=false) (a3:(Mt.atB p i==41)=false) (a4:(Mt.atB p i==42)=false) (a5:(Mt.atB p i==43)=false) (a6:(Mt.atB p i==63)=false) (a7:(Mt.atB p i==123)=false) (a8:(Mt.atB p i==94)=false) (a9:(Mt.atB p i==36)=false) (a10:(Mt.atB p i==46)=false) (b:(Mt.atB p i==91)=true) :
  Calls Tryz.prog 116 #[.string p,.int .i64 i] w fun e w'=>e=.returned (.tuple #[ptV (clP p i).1,.int .i64 (clP p i).2])∧Below w.heap.size w w':=by
 have TA:=zG1 p i (w.alloc (.cells (ptA Mt.pt0) 174)) hp hi0 hi1
 generalize clP p i=R at *
 have HT:Hid (Calls Tryz.prog _ _ _ _):=TA
 clear TA
 go_enter Tryz.func116,Tryz.ntmps116
 go_wp2_with (go_at_call 132;refine (zO _ _ _ hp).mono ?_;rintro e w' ⟨rfl,rfl⟩)
 refine HT.out.mono ?_
 rintro e w2 ⟨rfl,b2⟩
 have HZ:Hid (w2.heap[w.heap.size]?=some (.cells (ptA Mt.pt0) 174 (0,0))∧Below w.heap.size w w2):=⟨(b2.block _ (by simp)).trans (jE w _),((Below.refl _ _).alloc (Nat.le_refl _) _).trans (b2.mono (by simp))⟩
 clear b2
 go_wp2_with (refine zI 174 8 Tryz.sizePT (by rfl) (.tmp 4) (.tmp 76) (by rfl) w.heap.size (ptA R.1) (by rfl) (by rfl) HZ.out.1 (by rfl) (by rfl) (yT _) ?_;intro w3 r1 r2 r3 r4)
 refine bodyPost_ret (kL 174 8 Tryz.underlying174 rfl Tryz.sizePT rfl (by rfl) r1 (by rfl)) rfl ⟨rfl,?_⟩
 exact HZ.out.2.trans (r4 _ (Nat.le_refl _))
theorem zMZ (p:ByteArray) (i:Int) (w:World) (hp:p.size≤64) (hi0:0≤i) (hi1:i≤100) (a0:(Mt.atB p i==-1)=false) (a1:(Mt.atB p i==124)=false) (b:(Mt.atB p i==40)=true) :
  Calls Tryz.prog 116 #[.string p,.int .i64 i] w fun e w'=>e=.returned (.tuple #[ptV (opP p i).1,.int .i64 (opP p i).2])∧Below w.heap.size w w':=by
 have TA:=zFr p i (w.alloc (.cells (ptA Mt.pt0) 174)) hp hi0 hi1
 generalize opP p i=R at *
 have HT:Hid (Calls Tryz.prog _ _ _ _):=TA
 clear TA
 go_enter Tryz.func116,Tryz.ntmps116
 go_wp2_with (go_at_call 132;refine (zO _ _ _ hp).mono ?_;rintro e w' ⟨rfl,rfl⟩)
 refine HT.out.mono ?_
 rintro e w2 ⟨rfl,b2⟩
 have HZ:Hid (w2.heap[w.heap.size]?=some (.cells (ptA Mt.pt0) 174 (0,0))∧Below w.heap.size w w2):=⟨(b2.block _ (by simp)).trans (jE w _),((Below.refl _ _).alloc (Nat.le_refl _) _).trans (b2.mono (by simp))⟩
 clear b2
 go_wp2_with (refine zI 174 8 Tryz.sizePT (by rfl) (.tmp 4) (.tmp 24) (by rfl) w.heap.size (ptA R.1) (by rfl) (by rfl) HZ.out.1 (by rfl) (by rfl) (yT _) ?_;intro w3 r1 r2 r3 r4)
 refine bodyPost_ret (kL 174 8 Tryz.underlying174 rfl Tryz.sizePT rfl (by rfl) r1 (by rfl)) rfl ⟨rfl,?_⟩
 exact HZ.out.2.trans (r4 _ (Nat.le_refl _))
theorem zLm (p:ByteArray) (i:Int) (w:World) (hp:p.size≤64) (hi0:0≤i) (hi1:i≤100) (a0:(Mt.atB p i==-1)=false) (a1:(Mt.atB p i==124)=false) (a2:(Mt.atB p i==40)=false) (a3:(Mt.atB p i==41)=false) (a4:(Mt.atB p i==42)=false) (a5:(Mt.atB p i==43)=false) (a6:(Mt.atB p i==63)=false) (b:(Mt.atB p i==123)=true) :
  Calls Tryz.prog 116 #[.string p,.int .i64 i] w fun e w'=>e=.returned (.tuple #[ptV (coP p i).1,.int .i64 (coP p i).2])∧Below w.heap.size w w':=by
 have TA:=zG2 p i (w.alloc (.cells (ptA Mt.pt0) 174)) hp hi0 hi1
 generalize coP p i=R at *
 have HT:Hid (Calls Tryz.prog _ _ _ _):=TA
 clear TA
 go_enter Tryz.func116,Tryz.ntmps116
 go_wp2_with (go_at_call 132;refine (zO _ _ _ hp).mono ?_;rintro e w' ⟨rfl,rfl⟩)
 refine HT.out.mono ?_
 rintro e w2 ⟨rfl,b2⟩
 have HZ:Hid (w2.heap[w.heap.size]?=some (.cells (ptA Mt.pt0) 174 (0,0))∧Below w.heap.size w w2):=⟨(b2.block _ (by simp)).trans (jE w _),((Below.refl _ _).alloc (Nat.le_refl _) _).trans (b2.mono (by simp))⟩
 clear b2
 go_wp2_with (refine zI 174 8 Tryz.sizePT (by rfl) (.tmp 4) (.tmp 54) (by rfl) w.heap.size (ptA R.1) (by rfl) (by rfl) HZ.out.1 (by rfl) (by rfl) (yT _) ?_;intro w3 r1 r2 r3 r4)
 refine bodyPost_ret (kL 174 8 Tryz.underlying174 rfl Tryz.sizePT rfl (by rfl) r1 (by rfl)) rfl ⟨rfl,?_⟩
 exact HZ.out.2.trans (r4 _ (Nat.le_refl _))
theorem zM0 (p:ByteArray) (i:Int) (w:World) (hp:p.size≤64) (hi0:0≤i) (hi1:i≤100) (a0:(Mt.atB p i==-1)=false) (a1:(Mt.atB p i==124)=false) (a2:(Mt.atB p i==40)=false) (a3:(Mt.atB p i==41)=false) (b:(Mt.atB p i==42)=true) :
  Calls Tryz.prog 116 #[.string p,.int .i64 i] w fun e w'=>e=.returned (.tuple #[ptV ((zAY p (i+1) 0 (-1),0):Mt.PT × Int).1,.int .i64 ((zAY p (i+1) 0 (-1),0):Mt.PT × Int).2])∧Below w.heap.size w w':=by
 have TA:=zAQ p (i+1) 0 (-1) (w.alloc (.cells (ptA Mt.pt0) 174)) hp (by omega) (by omega)
 generalize zAY p (i+1) 0 (-1)=R at *
 have HT:Hid (Calls Tryz.prog _ _ _ _):=TA
 clear TA
 go_enter Tryz.func116,Tryz.ntmps116
 go_wp2_with (go_at_call 132;refine (zO _ _ _ hp).mono ?_;rintro e w' ⟨rfl,rfl⟩)
 refine HT.out.mono ?_
 rintro e w2 ⟨rfl,b2⟩
 have HZ:Hid (w2.heap[w.heap.size]?=some (.cells (ptA Mt.pt0) 174 (0,0))∧Below w.heap.size w w2):=⟨(b2.block _ (by simp)).trans (jE w _),((Below.refl _ _).alloc (Nat.le_refl _) _).trans (b2.mono (by simp))⟩
 clear b2
 go_wp2_with (refine zI 174 8 Tryz.sizePT (by rfl) (.tmp 4) (.tmp 36) (by rfl) w.heap.size (ptA R) (by rfl) (by rfl) HZ.out.1 (by rfl) (by rfl) (yT _) ?_;intro w3 r1 r2 r3 r4)
 refine bodyPost_ret (kL 174 8 Tryz.underlying174 rfl Tryz.sizePT rfl (by rfl) r1 (by rfl)) rfl ⟨rfl,?_⟩
 exact HZ.out.2.trans (r4 _ (Nat.le_refl _))
theorem zM1 (p:ByteArray) (i:Int) (w:World) (hp:p.size≤64) (hi0:0≤i) (hi1:i≤100) (a0:(Mt.atB p i==-1)=false) (a1:(Mt.atB p i==124)=false) (a2:(Mt.atB p i==40)=false) (a3:(Mt.atB p i==41)=false) (a4:(Mt.atB p i==42)=false) (b:(Mt.atB p i==43)=true) :
  Calls Tryz.prog 116 #[.string p,.int .i64 i] w fun e w'=>e=.returned (.tuple #[ptV ((zAY p (i+1) 1 (-1),0):Mt.PT × Int).1,.int .i64 ((zAY p (i+1) 1 (-1),0):Mt.PT × Int).2])∧Below w.heap.size w w':=by
 have TA:=zAQ p (i+1) 1 (-1) (w.alloc (.cells (ptA Mt.pt0) 174)) hp (by omega) (by omega)
 generalize zAY p (i+1) 1 (-1)=R at *
 have HT:Hid (Calls Tryz.prog _ _ _ _):=TA
 clear TA
 go_enter Tryz.func116,Tryz.ntmps116
 go_wp2_with (go_at_call 132;refine (zO _ _ _ hp).mono ?_;rintro e w' ⟨rfl,rfl⟩)
 refine HT.out.mono ?_
 rintro e w2 ⟨rfl,b2⟩
 have HZ:Hid (w2.heap[w.heap.size]?=some (.cells (ptA Mt.pt0) 174 (0,0))∧Below w.heap.size w w2):=⟨(b2.block _ (by simp)).trans (jE w _),((Below.refl _ _).alloc (Nat.le_refl _) _).trans (b2.mono (by simp))⟩
 clear b2
 go_wp2_with (refine zI 174 8 Tryz.sizePT (by rfl) (.tmp 4) (.tmp 42) (by rfl) w.heap.size (ptA R) (by rfl) (by rfl) HZ.out.1 (by rfl) (by rfl) (yT _) ?_;intro w3 r1 r2 r3 r4)
 refine bodyPost_ret (kL 174 8 Tryz.underlying174 rfl Tryz.sizePT rfl (by rfl) r1 (by rfl)) rfl ⟨rfl,?_⟩
 exact HZ.out.2.trans (r4 _ (Nat.le_refl _))
theorem zLn (p:ByteArray) (i:Int) (w:World) (hp:p.size≤64) (hi0:0≤i) (hi1:i≤100) (a0:(Mt.atB p i==-1)=false) (a1:(Mt.atB p i==124)=false) (a2:(Mt.atB p i==40)=false) (a3:(Mt.atB p i==41)=false) (a4:(Mt.atB p i==42)=false) (a5:(Mt.atB p i==43)=false) (b:(Mt.atB p i==63)=true) :
  Calls Tryz.prog 116 #[.string p,.int .i64 i] w fun e w'=>e=.returned (.tuple #[ptV ((zAY p (i+1) 0 1,0):Mt.PT × Int).1,.int .i64 ((zAY p (i+1) 0 1,0):Mt.PT × Int).2])∧Below w.heap.size w w':=by
 have TA:=zAQ p (i+1) 0 1 (w.alloc (.cells (ptA Mt.pt0) 174)) hp (by omega) (by omega)
 generalize zAY p (i+1) 0 1=R at *
 have HT:Hid (Calls Tryz.prog _ _ _ _):=TA
 clear TA
 go_enter Tryz.func116,Tryz.ntmps116
 go_wp2_with (go_at_call 132;refine (zO _ _ _ hp).mono ?_;rintro e w' ⟨rfl,rfl⟩)
 refine HT.out.mono ?_
 rintro e w2 ⟨rfl,b2⟩
 have HZ:Hid (w2.heap[w.heap.size]?=some (.cells (ptA Mt.pt0) 174 (0,0))∧Below w.heap.size w w2):=⟨(b2.block _ (by simp)).trans (jE w _),((Below.refl _ _).alloc (Nat.le_refl _) _).trans (b2.mono (by simp))⟩
 clear b2
 go_wp2_with (refine zI 174 8 Tryz.sizePT (by rfl) (.tmp 4) (.tmp 48) (by rfl) w.heap.size (ptA R) (by rfl) (by rfl) HZ.out.1 (by rfl) (by rfl) (yT _) ?_;intro w3 r1 r2 r3 r4)
 refine bodyPost_ret (kL 174 8 Tryz.underlying174 rfl Tryz.sizePT rfl (by rfl) r1 (by rfl)) rfl ⟨rfl,?_⟩
 exact HZ.out.2.trans (r4 _ (Nat.le_refl _))
theorem zOR (p:ByteArray) (i:Int) (w:World) (hp:p.size≤64) (hi0:0≤i) (hi1:i≤100) (a0:(Mt.atB p i==-1)=false) (a1:(Mt.atB p i==124)=false) (a2:(Mt.atB p i==40)=false) (a3:(Mt.atB p i==41)=false) (a4:(Mt.atB p i==42)=false) (a5:(Mt.atB p i==43)=false) (a6:(Mt.atB p i==63)=false) (a7:(Mt.atB p i==123)=false) (a8:(Mt.atB p i==94)=false) (a9:(Mt.atB p i==36)=false) (b:(Mt.atB p i==46)=true) :
  Calls Tryz.prog 116 #[.string p,.int .i64 i] w fun e w'=>e=.returned (.tuple #[ptV ((⟨5,i+1,0,0,0,0,0,Mt.qK (Mt.zAB Mt.none0 0 255) 256⟩,0):Mt.PT × Int).1,.int .i64 ((⟨5,i+1,0,0,0,0,0,Mt.qK (Mt.zAB Mt.none0 0 255) 256⟩,0):Mt.PT × Int).2])∧Below w.heap.size w w':=by
 have TA:=zFp (w.alloc (.cells (ptA Mt.pt0) 174)) 0 255 (i+1)
 generalize Mt.qK (Mt.zAB Mt.none0 0 255) 256=R at *
 have HT:Hid (Calls Tryz.prog _ _ _ _):=TA
 clear TA
 go_enter Tryz.func116,Tryz.ntmps116
 go_wp2_with (go_at_call 132;refine (zO _ _ _ hp).mono ?_;rintro e w' ⟨rfl,rfl⟩)
 refine HT.out.mono ?_
 rintro e w2 ⟨rfl,b2⟩
 have HZ:Hid (w2.heap[w.heap.size]?=some (.cells (ptA Mt.pt0) 174 (0,0))∧Below w.heap.size w w2):=⟨(b2.block _ (by simp)).trans (jE w _),((Below.refl _ _).alloc (Nat.le_refl _) _).trans (b2.mono (by simp))⟩
 clear b2
 go_wp2_with (refine zI 174 8 Tryz.sizePT (by rfl) (.tmp 4) (.tmp 70) (by rfl) w.heap.size (ptA ⟨5,i+1,0,0,0,0,0,R⟩) (by rfl) (by rfl) HZ.out.1 (by rfl) (by rfl) (yT _) ?_;intro w3 r1 r2 r3 r4)
 refine bodyPost_ret (kL 174 8 Tryz.underlying174 rfl Tryz.sizePT rfl (by rfl) r1 (by rfl)) rfl ⟨rfl,?_⟩
 exact HZ.out.2.trans (r4 _ (Nat.le_refl _))
theorem zM2 (p:ByteArray) (i:Int) (w:World) (hp:p.size≤64) (hi0:0≤i) (hi1:i≤100) (a0:(Mt.atB p i==-1)=false) (a1:(Mt.atB p i==124)=false) (a2:(Mt.atB p i==40)=false) (a3:(Mt.atB p i==41)=false) (a4:(Mt.atB p i==42)=false) (a5:(Mt.atB p i==43)=false) (a6:(Mt.atB p i==63)=false) (a7:(Mt.atB p i==123)=false) (a8:(Mt.atB p i==94)=false) (a9:(Mt.atB p i==36)=false) (a10:(Mt.atB p i==46)=false) (a11:(Mt.atB p i==91)=false) (a12:(Mt.atB p i==92)=false) :
  Calls Tryz.prog 116 #[.string p,.int .i64 i] w fun e w'=>e=.returned (.tuple #[ptV ((⟨5,i+1,0,0,0,0,0,Mt.qK (Mt.zAB Mt.none0 (Mt.atB p i) (Mt.atB p i)) 256⟩,0):Mt.PT × Int).1,.int .i64 ((⟨5,i+1,0,0,0,0,0,Mt.qK (Mt.zAB Mt.none0 (Mt.atB p i) (Mt.atB p i)) 256⟩,0):Mt.PT × Int).2])∧Below w.heap.size w w':=by
 have TA:=zFp (w.alloc (.cells (ptA Mt.pt0) 174)) (Mt.atB p i) (Mt.atB p i) (i+1)
 generalize Mt.qK (Mt.zAB Mt.none0 (Mt.atB p i) (Mt.atB p i)) 256=R at *
 have HT:Hid (Calls Tryz.prog _ _ _ _):=TA
 clear TA
 go_enter Tryz.func116,Tryz.ntmps116
 go_wp2_with (go_at_call 132;refine (zO _ _ _ hp).mono ?_;rintro e w' ⟨rfl,rfl⟩)
 refine HT.out.mono ?_
 rintro e w2 ⟨rfl,b2⟩
 have HZ:Hid (w2.heap[w.heap.size]?=some (.cells (ptA Mt.pt0) 174 (0,0))∧Below w.heap.size w w2):=⟨(b2.block _ (by simp)).trans (jE w _),((Below.refl _ _).alloc (Nat.le_refl _) _).trans (b2.mono (by simp))⟩
 clear b2
 go_wp2_with (refine zI 174 8 Tryz.sizePT (by rfl) (.tmp 4) (.tmp 89) (by rfl) w.heap.size (ptA ⟨5,i+1,0,0,0,0,0,R⟩) (by rfl) (by rfl) HZ.out.1 (by rfl) (by rfl) (yT _) ?_;intro w3 r1 r2 r3 r4)
 refine bodyPost_ret (kL 174 8 Tryz.underlying174 rfl Tryz.sizePT rfl (by rfl) r1 (by rfl)) rfl ⟨rfl,?_⟩
 exact HZ.out.2.trans (r4 _ (Nat.le_refl _))
theorem zOS (p:ByteArray) (i:Int) (w:World) (hp:p.size≤64) (hi0:0≤i) (hi1:i<(p.size:Int)) :
  Calls Tryz.prog 116 #[.string p,.int .i64 i] w fun e w'=>e=.returned (.tuple #[ptV (Mt.xV p i).1,.int .i64 (Mt.xV p i).2])∧Below w.heap.size w w':=by
 have l1:=Mt.zEa p i
 have l0:0≤Mt.atB p i:=by rw [Mt.zPC p i hi0 hi1];omega
 have yes:∀ q:Int,Mt.atB p i=q→(Mt.atB p i==q)=true:=fun q h=>by simpa using h
 have no:∀ q:Int,¬ Mt.atB p i=q→(Mt.atB p i==q)=false:=fun q h=>by simpa using h
 have hi2:i≤100:=by omega
 by_cases zKh:Mt.atB p i=124
 ·rw [zRF p i zKh];exact zOP p i w hp hi0 hi2 (no (-1) (by omega)) (yes _ zKh)
 by_cases h40:Mt.atB p i=40
 ·rw [zQu p i h40];exact zMZ p i w hp hi0 hi2 (no (-1) (by omega)) (no _ zKh) (yes _ h40)
 by_cases h41:Mt.atB p i=41
 ·rw [zOL p i h41];exact zLk p i w hp hi0 hi2 (no (-1) (by omega)) (no _ zKh) (no _ h40) (yes _ h41)
 by_cases h42:Mt.atB p i=42
 ·rw [zQv p i h42];exact zM0 p i w hp hi0 hi2 (no (-1) (by omega)) (no _ zKh) (no _ h40) (no _ h41) (yes _ h42)
 by_cases h43:Mt.atB p i=43
 ·rw [zQw p i h43];exact zM1 p i w hp hi0 hi2 (no (-1) (by omega)) (no _ zKh) (no _ h40) (no _ h41) (no _ h42) (yes _ h43)
 by_cases h63:Mt.atB p i=63
 ·rw [zON p i h63];exact zLn p i w hp hi0 hi2 (no (-1) (by omega)) (no _ zKh) (no _ h40) (no _ h41) (no _ h42) (no _ h43) (yes _ h63)
 by_cases zPO:Mt.atB p i=123
 ·rw [zOO p i zPO];exact zLm p i w hp hi0 hi2 (no (-1) (by omega)) (no _ zKh) (no _ h40) (no _ h41) (no _ h42) (no _ h43) (no _ h63) (yes _ zPO)
 by_cases h94:Mt.atB p i=94
 ·rw [zQs p i h94];exact zMX p i w hp hi0 hi2 (no (-1) (by omega)) (no _ zKh) (no _ h40) (no _ h41) (no _ h42) (no _ h43) (no _ h63) (no _ zPO) (yes _ h94)
 by_cases h36:Mt.atB p i=36
 ·rw [zQt p i h36];exact zMY p i w hp hi0 hi2 (no (-1) (by omega)) (no _ zKh) (no _ h40) (no _ h41) (no _ h42) (no _ h43) (no _ h63) (no _ zPO) (no _ h94) (yes _ h36)
 by_cases h46:Mt.atB p i=46
 ·rw [zRH p i h46];exact zOR p i w hp hi0 hi2 (no (-1) (by omega)) (no _ zKh) (no _ h40) (no _ h41) (no _ h42) (no _ h43) (no _ h63) (no _ zPO) (no _ h94) (no _ h36) (yes _ h46)
 by_cases h91:Mt.atB p i=91
 ·rw [zOM p i h91];exact zLl p i w hp hi0 hi2 (no (-1) (by omega)) (no _ zKh) (no _ h40) (no _ h41) (no _ h42) (no _ h43) (no _ h63) (no _ zPO) (no _ h94) (no _ h36) (no _ h46) (yes _ h91)
 by_cases h92:Mt.atB p i=92
 ·rw [zRG p i h92];exact zOQ p i w hp hi0 hi2 (no (-1) (by omega)) (no _ zKh) (no _ h40) (no _ h41) (no _ h42) (no _ h43) (no _ h63) (no _ zPO) (no _ h94) (no _ h36) (no _ h46) (no _ h91) (yes _ h92)
 rw [zQx p i l0 l1 (by omega)]
 exact zM2 p i w hp hi0 hi2 (no (-1) (by omega)) (no _ zKh) (no _ h40) (no _ h41) (no _ h42) (no _ h43) (no _ h63) (no _ zPO) (no _ h94) (no _ h36) (no _ h46) (no _ h91) (no _ h92)
end Go.Proofs.YtebpgfodelggoaaGreat
