import Derived.Test.YtebpgfodelggoabC25
set_option linter.unusedVariables false
set_option linter.unusedSimpArgs false
set_option maxRecDepth 100000
set_option maxHeartbeats 1000000
namespace Go.Proofs.Ytebpgfodelggoab
open Go.RowKit
theorem rd_bar (p:ByteArray) (i:Int) (h:Mt.atB p i=124):Mt.readP p i=(⟨1,i+1,0,0,0,0,0,[]⟩,0):=by
 have e:Mt.nextT p i=(⟨5,i,i+1,0,0,0,[]⟩,0):=by unfold Mt.nextT;rw [if_pos h]
 unfold Mt.readP;rw [e];rfl
theorem rd_close (p:ByteArray) (i:Int) (h:Mt.atB p i=41):Mt.readP p i=(⟨3,i+1,0,0,0,0,0,[]⟩,0):=by
 have e:Mt.nextT p i=(⟨7,i,i+1,0,0,0,[]⟩,0):=by unfold Mt.nextT;rw [if_neg (by omega),if_pos h]
 unfold Mt.readP;rw [e];rfl
theorem rd_head (p:ByteArray) (i:Int) (h:Mt.atB p i=94):Mt.readP p i=(⟨7,i+1,0,0,0,0,0,[]⟩,0):=by
 have e:Mt.nextT p i=(⟨3,i,i+1,0,0,0,[]⟩,0):=by unfold Mt.nextT;rw [if_neg (by omega),if_neg (by omega),if_pos h]
 unfold Mt.readP;rw [e];rfl
theorem rd_tail (p:ByteArray) (i:Int) (h:Mt.atB p i=36):Mt.readP p i=(⟨8,i+1,0,0,0,0,0,[]⟩,0):=by
 have e:Mt.nextT p i=(⟨4,i,i+1,0,0,0,[]⟩,0):=by unfold Mt.nextT;rw [if_neg (by omega),if_neg (by omega),if_neg (by omega),if_pos h]
 unfold Mt.readP;rw [e];rfl
theorem rd_esc (p:ByteArray) (i:Int) (h:Mt.atB p i=92):Mt.readP p i=esP p i:=by
 have e:Mt.nextT p i=((Mt.escape p i).1,if (Mt.escape p i).2 then 0 else 2):=by unfold Mt.nextT;rw [if_neg (by omega),if_neg (by omega),if_neg (by omega),if_neg (by omega),if_pos h]
 unfold Mt.readP esP;rw [e]
 cases (Mt.escape p i).2 <;> rfl
theorem rd_class (p:ByteArray) (i:Int) (h:Mt.atB p i=91):Mt.readP p i=clP p i:=by
 have e:Mt.nextT p i=((Mt.classT p i).1,if (Mt.classT p i).2 then 0 else 3):=by unfold Mt.nextT;rw [if_neg (by omega),if_neg (by omega),if_neg (by omega),if_neg (by omega),if_neg (by omega),if_pos h]
 unfold Mt.readP clP;rw [e]
 cases (Mt.classT p i).2 <;> rfl
theorem rd_open (p:ByteArray) (i:Int) (h:Mt.atB p i=40):Mt.readP p i=opP p i:=by
 have e:Mt.nextT p i=((Mt.opening p i).1,if (Mt.opening p i).2 then 0 else 5):=by unfold Mt.nextT;rw [if_neg (by omega),if_neg (by omega),if_neg (by omega),if_neg (by omega),if_neg (by omega),if_neg (by omega),if_pos h]
 unfold Mt.readP opP;rw [e]
 cases (Mt.opening p i).2 <;> rfl
theorem rd_star (p:ByteArray) (i:Int) (h:Mt.atB p i=42):Mt.readP p i=(moodP p (i+1) 0 (-1),0):=by
 have r:Mt.repeatT p i=(⟨8,i,(Mt.mood p (i+1)).2,0,-1,(Mt.mood p (i+1)).1,[]⟩,true):=by unfold Mt.repeatT;rw [if_neg (by omega),if_neg (by omega),if_neg (by omega)]
 have e:Mt.nextT p i=((Mt.repeatT p i).1,if (Mt.repeatT p i).2 then 0 else 4):=by unfold Mt.nextT;rw [if_neg (by omega),if_neg (by omega),if_neg (by omega),if_neg (by omega),if_neg (by omega),if_neg (by omega),if_neg (by omega),if_pos (by omega)]
 unfold Mt.readP;rw [e,r];rfl
theorem rd_plus (p:ByteArray) (i:Int) (h:Mt.atB p i=43):Mt.readP p i=(moodP p (i+1) 1 (-1),0):=by
 have r:Mt.repeatT p i=(⟨8,i,(Mt.mood p (i+1)).2,1,-1,(Mt.mood p (i+1)).1,[]⟩,true):=by unfold Mt.repeatT;rw [if_pos h]
 have e:Mt.nextT p i=((Mt.repeatT p i).1,if (Mt.repeatT p i).2 then 0 else 4):=by unfold Mt.nextT;rw [if_neg (by omega),if_neg (by omega),if_neg (by omega),if_neg (by omega),if_neg (by omega),if_neg (by omega),if_neg (by omega),if_pos (by omega)]
 unfold Mt.readP;rw [e,r];rfl
theorem rd_quest (p:ByteArray) (i:Int) (h:Mt.atB p i=63):Mt.readP p i=(moodP p (i+1) 0 1,0):=by
 have r:Mt.repeatT p i=(⟨8,i,(Mt.mood p (i+1)).2,0,1,(Mt.mood p (i+1)).1,[]⟩,true):=by unfold Mt.repeatT;rw [if_neg (by omega),if_pos h]
 have e:Mt.nextT p i=((Mt.repeatT p i).1,if (Mt.repeatT p i).2 then 0 else 4):=by unfold Mt.nextT;rw [if_neg (by omega),if_neg (by omega),if_neg (by omega),if_neg (by omega),if_neg (by omega),if_neg (by omega),if_neg (by omega),if_pos (by omega)]
 unfold Mt.readP;rw [e,r];rfl
theorem rd_count (p:ByteArray) (i:Int) (h:Mt.atB p i=123):Mt.readP p i=coP p i:=by
 have e:Mt.nextT p i=((Mt.repeatT p i).1,if (Mt.repeatT p i).2 then 0 else 4):=by unfold Mt.nextT;rw [if_neg (by omega),if_neg (by omega),if_neg (by omega),if_neg (by omega),if_neg (by omega),if_neg (by omega),if_neg (by omega),if_pos (by omega)]
 unfold Mt.readP coP
 cases hc:(Mt.count p i).2.2.2
 ·have r:Mt.repeatT p i=(⟨8,i,i+1,0,-1,0,[]⟩,false):=by unfold Mt.repeatT;rw [if_neg (by omega),if_neg (by omega),if_pos h,hc];rfl
  rw [e,r];rfl
 ·have r:Mt.repeatT p i=(⟨8,i,(Mt.mood p (Mt.count p i).2.2.1).2,(Mt.count p i).1,(Mt.count p i).2.1,(Mt.mood p (Mt.count p i).2.2.1).1,[]⟩,true):=by unfold Mt.repeatT;rw [if_neg (by omega),if_neg (by omega),if_pos h,hc];rfl
  rw [e,r];rfl
theorem rd_dot (p:ByteArray) (i:Int) (h:Mt.atB p i=46):Mt.readP p i=(⟨5,i+1,0,0,0,0,0,Mt.setTo (Mt.addR Mt.none0 0 255) 256⟩,0):=by
 have e:Mt.nextT p i=(⟨1,i,i+1,0,0,0,Mt.all p i i true⟩,0):=by unfold Mt.nextT;rw [if_neg (by omega),if_neg (by omega),if_neg (by omega),if_neg (by omega),if_neg (by omega),if_neg (by omega),if_neg (by omega),if_neg (by omega),if_pos h]
 rw [Mt.set_any p i];unfold Mt.readP;rw [e];rfl
theorem rd_byte (p:ByteArray) (i:Int) (h0:0≤Mt.atB p i) (h1:Mt.atB p i≤255) (h:¬ (Mt.atB p i=124∨Mt.atB p i=41∨Mt.atB p i=94∨Mt.atB p i=36∨Mt.atB p i=92∨Mt.atB p i=91∨Mt.atB p i=40∨Mt.atB p i=42∨Mt.atB p i=43∨Mt.atB p i=63∨Mt.atB p i=123∨Mt.atB p i=46)) :
  Mt.readP p i=(⟨5,i+1,0,0,0,0,0,Mt.setTo (Mt.addR Mt.none0 (Mt.atB p i) (Mt.atB p i)) 256⟩,0):=by
 have e:Mt.nextT p i=(⟨1,i,i+1,0,0,0,[UInt8.ofNat (Mt.atB p i).toNat]⟩,0):=by unfold Mt.nextT;rw [if_neg (by omega),if_neg (by omega),if_neg (by omega),if_neg (by omega),if_neg (by omega),if_neg (by omega),if_neg (by omega),if_neg (by omega),if_neg (by omega)]
 rw [Mt.set_one _ h0 h1];unfold Mt.readP;rw [e];rfl
theorem read_bar (p:ByteArray) (i:Int) (w:World) (hp:p.size≤64) (hi0:0≤i) (hi1:i≤100) (a0:(Mt.atB p i==-1)=false) (b:(Mt.atB p i==124)=true) :
  Calls Try.prog 61 #[.string p,.int .i64 i] w fun e w'=>e=.returned (.tuple #[ptV ((⟨1,i+1,0,0,0,0,0,[]⟩,0):Mt.PT × Int).1,.int .i64 ((⟨1,i+1,0,0,0,0,0,[]⟩,0):Mt.PT × Int).2])∧Below w.heap.size w w':=by
 go_enter Try.func61,Try.ntmps61
 go_wp2_with (go_at_call 73;refine (byteAt_any _ _ _ hp).mono ?_;rintro e w' ⟨rfl,rfl⟩)
 go_returns
 exact ⟨rfl,by go_grown⟩
theorem read_close (p:ByteArray) (i:Int) (w:World) (hp:p.size≤64) (hi0:0≤i) (hi1:i≤100) (a0:(Mt.atB p i==-1)=false) (a1:(Mt.atB p i==124)=false) (a2:(Mt.atB p i==40)=false) (b:(Mt.atB p i==41)=true) :
  Calls Try.prog 61 #[.string p,.int .i64 i] w fun e w'=>e=.returned (.tuple #[ptV ((⟨3,i+1,0,0,0,0,0,[]⟩,0):Mt.PT × Int).1,.int .i64 ((⟨3,i+1,0,0,0,0,0,[]⟩,0):Mt.PT × Int).2])∧Below w.heap.size w w':=by
 go_enter Try.func61,Try.ntmps61
 go_wp2_with (go_at_call 73;refine (byteAt_any _ _ _ hp).mono ?_;rintro e w' ⟨rfl,rfl⟩)
 go_returns
 exact ⟨rfl,by go_grown⟩
theorem read_head (p:ByteArray) (i:Int) (w:World) (hp:p.size≤64) (hi0:0≤i) (hi1:i≤100) (a0:(Mt.atB p i==-1)=false) (a1:(Mt.atB p i==124)=false) (a2:(Mt.atB p i==40)=false) (a3:(Mt.atB p i==41)=false) (a4:(Mt.atB p i==42)=false) (a5:(Mt.atB p i==43)=false) (a6:(Mt.atB p i==63)=false) (a7:(Mt.atB p i==123)=false) (b:(Mt.atB p i==94)=true) :
  Calls Try.prog 61 #[.string p,.int .i64 i] w fun e w'=>e=.returned (.tuple #[ptV ((⟨7,i+1,0,0,0,0,0,[]⟩,0):Mt.PT × Int).1,.int .i64 ((⟨7,i+1,0,0,0,0,0,[]⟩,0):Mt.PT × Int).2])∧Below w.heap.size w w':=by
 go_enter Try.func61,Try.ntmps61
 go_wp2_with (go_at_call 73;refine (byteAt_any _ _ _ hp).mono ?_;rintro e w' ⟨rfl,rfl⟩)
 go_returns
 exact ⟨rfl,by go_grown⟩
theorem read_tail (p:ByteArray) (i:Int) (w:World) (hp:p.size≤64) (hi0:0≤i) (hi1:i≤100) (a0:(Mt.atB p i==-1)=false) (a1:(Mt.atB p i==124)=false) (a2:(Mt.atB p i==40)=false) (a3:(Mt.atB p i==41)=false) (a4:(Mt.atB p i==42)=false) (a5:(Mt.atB p i==43)=false) (a6:(Mt.atB p i==63)=false) (a7:(Mt.atB p i==123)=false) (a8:(Mt.atB p i==94)=false) (b:(Mt.atB p i==36)=true) :
  Calls Try.prog 61 #[.string p,.int .i64 i] w fun e w'=>e=.returned (.tuple #[ptV ((⟨8,i+1,0,0,0,0,0,[]⟩,0):Mt.PT × Int).1,.int .i64 ((⟨8,i+1,0,0,0,0,0,[]⟩,0):Mt.PT × Int).2])∧Below w.heap.size w w':=by
 go_enter Try.func61,Try.ntmps61
 go_wp2_with (go_at_call 73;refine (byteAt_any _ _ _ hp).mono ?_;rintro e w' ⟨rfl,rfl⟩)
 go_returns
 exact ⟨rfl,by go_grown⟩
theorem read_esc (p:ByteArray) (i:Int) (w:World) (hp:p.size≤64) (hi0:0≤i) (hi1:i≤100) (a0:(Mt.atB p i==-1)=false) (a1:(Mt.atB p i==124)=false) (a2:(Mt.atB p i==40)=false) (a3:(Mt.atB p i==41)=false) (a4:(Mt.atB p i==42)=false) (a5:(Mt.atB p i==43)=false) (a6:(Mt.atB p i==63)=false) (a7:(Mt.atB p i==123)=false) (a8:(Mt.atB p i==94)=false) (a9:(Mt.atB p i==36)=false) (a10:(Mt.atB p i==46)=false) (a11:(Mt.atB p i==91)=false) (b:(Mt.atB p i==92)=true) :
  Calls Try.prog 61 #[.string p,.int .i64 i] w fun e w'=>e=.returned (.tuple #[ptV (esP p i).1,.int .i64 (esP p i).2])∧Below w.heap.size w w':=by
 have TA:=readEscape_any p i (w.alloc (.cells (ptA Mt.pt0) 121)) hp hi0 hi1 (by simpa using b)
 generalize esP p i=R at *
 have HT:Hid (Calls Try.prog _ _ _ _):=TA
 clear TA
 go_enter Try.func61,Try.ntmps61
 go_wp2_with (go_at_call 73;refine (byteAt_any _ _ _ hp).mono ?_;rintro e w' ⟨rfl,rfl⟩)
 refine HT.out.mono ?_
 rintro e w2 ⟨rfl,b2⟩
 have HZ:Hid (w2.heap[w.heap.size]?=some (.cells (ptA Mt.pt0) 121 (0,0))∧Below w.heap.size w w2):=⟨(b2.block _ (by simp)).trans (heap_b1 w _),((Below.refl _ _).alloc (Nat.le_refl _) _).trans (b2.mono (by simp))⟩
 clear b2
 go_wp2_with (refine store_blk 121 8 Try.sizePT (by rfl) (.tmp 4) (.tmp 83) (by rfl) w.heap.size (ptA R.1) (by rfl) (by rfl) HZ.out.1 (by rfl) (by rfl) (ptA_all _) ?_;intro w3 r1 r2 r3 r4)
 refine bodyPost_ret (ret_blk2 121 8 Try.underlying121 rfl Try.sizePT rfl (by rfl) r1 (by rfl)) rfl ⟨rfl,?_⟩
 exact HZ.out.2.trans (r4 _ (Nat.le_refl _))
theorem read_class (p:ByteArray) (i:Int) (w:World) (hp:p.size≤64) (hi0:0≤i) (hi1:i≤100) (a0:(Mt.atB p i==-1)=false) (a1:(Mt.atB p i==124)=false) (a2:(Mt.atB p i==40)=false) (a3:(Mt.atB p i==41)=false) (a4:(Mt.atB p i==42)=false) (a5:(Mt.atB p i==43)=false) (a6:(Mt.atB p i==63)=false) (a7:(Mt.atB p i==123)=false) (a8:(Mt.atB p i==94)=false) (a9:(Mt.atB p i==36)=false) (a10:(Mt.atB p i==46)=false) (b:(Mt.atB p i==91)=true) :
  Calls Try.prog 61 #[.string p,.int .i64 i] w fun e w'=>e=.returned (.tuple #[ptV (clP p i).1,.int .i64 (clP p i).2])∧Below w.heap.size w w':=by
 have TA:=readClass_any p i (w.alloc (.cells (ptA Mt.pt0) 121)) hp hi0 hi1
 generalize clP p i=R at *
 have HT:Hid (Calls Try.prog _ _ _ _):=TA
 clear TA
 go_enter Try.func61,Try.ntmps61
 go_wp2_with (go_at_call 73;refine (byteAt_any _ _ _ hp).mono ?_;rintro e w' ⟨rfl,rfl⟩)
 refine HT.out.mono ?_
 rintro e w2 ⟨rfl,b2⟩
 have HZ:Hid (w2.heap[w.heap.size]?=some (.cells (ptA Mt.pt0) 121 (0,0))∧Below w.heap.size w w2):=⟨(b2.block _ (by simp)).trans (heap_b1 w _),((Below.refl _ _).alloc (Nat.le_refl _) _).trans (b2.mono (by simp))⟩
 clear b2
 go_wp2_with (refine store_blk 121 8 Try.sizePT (by rfl) (.tmp 4) (.tmp 76) (by rfl) w.heap.size (ptA R.1) (by rfl) (by rfl) HZ.out.1 (by rfl) (by rfl) (ptA_all _) ?_;intro w3 r1 r2 r3 r4)
 refine bodyPost_ret (ret_blk2 121 8 Try.underlying121 rfl Try.sizePT rfl (by rfl) r1 (by rfl)) rfl ⟨rfl,?_⟩
 exact HZ.out.2.trans (r4 _ (Nat.le_refl _))
theorem read_open (p:ByteArray) (i:Int) (w:World) (hp:p.size≤64) (hi0:0≤i) (hi1:i≤100) (a0:(Mt.atB p i==-1)=false) (a1:(Mt.atB p i==124)=false) (b:(Mt.atB p i==40)=true) :
  Calls Try.prog 61 #[.string p,.int .i64 i] w fun e w'=>e=.returned (.tuple #[ptV (opP p i).1,.int .i64 (opP p i).2])∧Below w.heap.size w w':=by
 have TA:=readOpening_any p i (w.alloc (.cells (ptA Mt.pt0) 121)) hp hi0 hi1
 generalize opP p i=R at *
 have HT:Hid (Calls Try.prog _ _ _ _):=TA
 clear TA
 go_enter Try.func61,Try.ntmps61
 go_wp2_with (go_at_call 73;refine (byteAt_any _ _ _ hp).mono ?_;rintro e w' ⟨rfl,rfl⟩)
 refine HT.out.mono ?_
 rintro e w2 ⟨rfl,b2⟩
 have HZ:Hid (w2.heap[w.heap.size]?=some (.cells (ptA Mt.pt0) 121 (0,0))∧Below w.heap.size w w2):=⟨(b2.block _ (by simp)).trans (heap_b1 w _),((Below.refl _ _).alloc (Nat.le_refl _) _).trans (b2.mono (by simp))⟩
 clear b2
 go_wp2_with (refine store_blk 121 8 Try.sizePT (by rfl) (.tmp 4) (.tmp 24) (by rfl) w.heap.size (ptA R.1) (by rfl) (by rfl) HZ.out.1 (by rfl) (by rfl) (ptA_all _) ?_;intro w3 r1 r2 r3 r4)
 refine bodyPost_ret (ret_blk2 121 8 Try.underlying121 rfl Try.sizePT rfl (by rfl) r1 (by rfl)) rfl ⟨rfl,?_⟩
 exact HZ.out.2.trans (r4 _ (Nat.le_refl _))
theorem read_count (p:ByteArray) (i:Int) (w:World) (hp:p.size≤64) (hi0:0≤i) (hi1:i≤100) (a0:(Mt.atB p i==-1)=false) (a1:(Mt.atB p i==124)=false) (a2:(Mt.atB p i==40)=false) (a3:(Mt.atB p i==41)=false) (a4:(Mt.atB p i==42)=false) (a5:(Mt.atB p i==43)=false) (a6:(Mt.atB p i==63)=false) (b:(Mt.atB p i==123)=true) :
  Calls Try.prog 61 #[.string p,.int .i64 i] w fun e w'=>e=.returned (.tuple #[ptV (coP p i).1,.int .i64 (coP p i).2])∧Below w.heap.size w w':=by
 have TA:=readCount_any p i (w.alloc (.cells (ptA Mt.pt0) 121)) hp hi0 hi1
 generalize coP p i=R at *
 have HT:Hid (Calls Try.prog _ _ _ _):=TA
 clear TA
 go_enter Try.func61,Try.ntmps61
 go_wp2_with (go_at_call 73;refine (byteAt_any _ _ _ hp).mono ?_;rintro e w' ⟨rfl,rfl⟩)
 refine HT.out.mono ?_
 rintro e w2 ⟨rfl,b2⟩
 have HZ:Hid (w2.heap[w.heap.size]?=some (.cells (ptA Mt.pt0) 121 (0,0))∧Below w.heap.size w w2):=⟨(b2.block _ (by simp)).trans (heap_b1 w _),((Below.refl _ _).alloc (Nat.le_refl _) _).trans (b2.mono (by simp))⟩
 clear b2
 go_wp2_with (refine store_blk 121 8 Try.sizePT (by rfl) (.tmp 4) (.tmp 54) (by rfl) w.heap.size (ptA R.1) (by rfl) (by rfl) HZ.out.1 (by rfl) (by rfl) (ptA_all _) ?_;intro w3 r1 r2 r3 r4)
 refine bodyPost_ret (ret_blk2 121 8 Try.underlying121 rfl Try.sizePT rfl (by rfl) r1 (by rfl)) rfl ⟨rfl,?_⟩
 exact HZ.out.2.trans (r4 _ (Nat.le_refl _))
theorem read_star (p:ByteArray) (i:Int) (w:World) (hp:p.size≤64) (hi0:0≤i) (hi1:i≤100) (a0:(Mt.atB p i==-1)=false) (a1:(Mt.atB p i==124)=false) (a2:(Mt.atB p i==40)=false) (a3:(Mt.atB p i==41)=false) (b:(Mt.atB p i==42)=true) :
  Calls Try.prog 61 #[.string p,.int .i64 i] w fun e w'=>e=.returned (.tuple #[ptV ((moodP p (i+1) 0 (-1),0):Mt.PT × Int).1,.int .i64 ((moodP p (i+1) 0 (-1),0):Mt.PT × Int).2])∧Below w.heap.size w w':=by
 have TA:=readMood_any p (i+1) 0 (-1) (w.alloc (.cells (ptA Mt.pt0) 121)) hp (by omega) (by omega)
 generalize moodP p (i+1) 0 (-1)=R at *
 have HT:Hid (Calls Try.prog _ _ _ _):=TA
 clear TA
 go_enter Try.func61,Try.ntmps61
 go_wp2_with (go_at_call 73;refine (byteAt_any _ _ _ hp).mono ?_;rintro e w' ⟨rfl,rfl⟩)
 refine HT.out.mono ?_
 rintro e w2 ⟨rfl,b2⟩
 have HZ:Hid (w2.heap[w.heap.size]?=some (.cells (ptA Mt.pt0) 121 (0,0))∧Below w.heap.size w w2):=⟨(b2.block _ (by simp)).trans (heap_b1 w _),((Below.refl _ _).alloc (Nat.le_refl _) _).trans (b2.mono (by simp))⟩
 clear b2
 go_wp2_with (refine store_blk 121 8 Try.sizePT (by rfl) (.tmp 4) (.tmp 36) (by rfl) w.heap.size (ptA R) (by rfl) (by rfl) HZ.out.1 (by rfl) (by rfl) (ptA_all _) ?_;intro w3 r1 r2 r3 r4)
 refine bodyPost_ret (ret_blk2 121 8 Try.underlying121 rfl Try.sizePT rfl (by rfl) r1 (by rfl)) rfl ⟨rfl,?_⟩
 exact HZ.out.2.trans (r4 _ (Nat.le_refl _))
theorem read_plus (p:ByteArray) (i:Int) (w:World) (hp:p.size≤64) (hi0:0≤i) (hi1:i≤100) (a0:(Mt.atB p i==-1)=false) (a1:(Mt.atB p i==124)=false) (a2:(Mt.atB p i==40)=false) (a3:(Mt.atB p i==41)=false) (a4:(Mt.atB p i==42)=false) (b:(Mt.atB p i==43)=true) :
  Calls Try.prog 61 #[.string p,.int .i64 i] w fun e w'=>e=.returned (.tuple #[ptV ((moodP p (i+1) 1 (-1),0):Mt.PT × Int).1,.int .i64 ((moodP p (i+1) 1 (-1),0):Mt.PT × Int).2])∧Below w.heap.size w w':=by
 have TA:=readMood_any p (i+1) 1 (-1) (w.alloc (.cells (ptA Mt.pt0) 121)) hp (by omega) (by omega)
 generalize moodP p (i+1) 1 (-1)=R at *
 have HT:Hid (Calls Try.prog _ _ _ _):=TA
 clear TA
 go_enter Try.func61,Try.ntmps61
 go_wp2_with (go_at_call 73;refine (byteAt_any _ _ _ hp).mono ?_;rintro e w' ⟨rfl,rfl⟩)
 refine HT.out.mono ?_
 rintro e w2 ⟨rfl,b2⟩
 have HZ:Hid (w2.heap[w.heap.size]?=some (.cells (ptA Mt.pt0) 121 (0,0))∧Below w.heap.size w w2):=⟨(b2.block _ (by simp)).trans (heap_b1 w _),((Below.refl _ _).alloc (Nat.le_refl _) _).trans (b2.mono (by simp))⟩
 clear b2
 go_wp2_with (refine store_blk 121 8 Try.sizePT (by rfl) (.tmp 4) (.tmp 42) (by rfl) w.heap.size (ptA R) (by rfl) (by rfl) HZ.out.1 (by rfl) (by rfl) (ptA_all _) ?_;intro w3 r1 r2 r3 r4)
 refine bodyPost_ret (ret_blk2 121 8 Try.underlying121 rfl Try.sizePT rfl (by rfl) r1 (by rfl)) rfl ⟨rfl,?_⟩
 exact HZ.out.2.trans (r4 _ (Nat.le_refl _))
theorem read_quest (p:ByteArray) (i:Int) (w:World) (hp:p.size≤64) (hi0:0≤i) (hi1:i≤100) (a0:(Mt.atB p i==-1)=false) (a1:(Mt.atB p i==124)=false) (a2:(Mt.atB p i==40)=false) (a3:(Mt.atB p i==41)=false) (a4:(Mt.atB p i==42)=false) (a5:(Mt.atB p i==43)=false) (b:(Mt.atB p i==63)=true) :
  Calls Try.prog 61 #[.string p,.int .i64 i] w fun e w'=>e=.returned (.tuple #[ptV ((moodP p (i+1) 0 1,0):Mt.PT × Int).1,.int .i64 ((moodP p (i+1) 0 1,0):Mt.PT × Int).2])∧Below w.heap.size w w':=by
 have TA:=readMood_any p (i+1) 0 1 (w.alloc (.cells (ptA Mt.pt0) 121)) hp (by omega) (by omega)
 generalize moodP p (i+1) 0 1=R at *
 have HT:Hid (Calls Try.prog _ _ _ _):=TA
 clear TA
 go_enter Try.func61,Try.ntmps61
 go_wp2_with (go_at_call 73;refine (byteAt_any _ _ _ hp).mono ?_;rintro e w' ⟨rfl,rfl⟩)
 refine HT.out.mono ?_
 rintro e w2 ⟨rfl,b2⟩
 have HZ:Hid (w2.heap[w.heap.size]?=some (.cells (ptA Mt.pt0) 121 (0,0))∧Below w.heap.size w w2):=⟨(b2.block _ (by simp)).trans (heap_b1 w _),((Below.refl _ _).alloc (Nat.le_refl _) _).trans (b2.mono (by simp))⟩
 clear b2
 go_wp2_with (refine store_blk 121 8 Try.sizePT (by rfl) (.tmp 4) (.tmp 48) (by rfl) w.heap.size (ptA R) (by rfl) (by rfl) HZ.out.1 (by rfl) (by rfl) (ptA_all _) ?_;intro w3 r1 r2 r3 r4)
 refine bodyPost_ret (ret_blk2 121 8 Try.underlying121 rfl Try.sizePT rfl (by rfl) r1 (by rfl)) rfl ⟨rfl,?_⟩
 exact HZ.out.2.trans (r4 _ (Nat.le_refl _))
theorem read_dot (p:ByteArray) (i:Int) (w:World) (hp:p.size≤64) (hi0:0≤i) (hi1:i≤100) (a0:(Mt.atB p i==-1)=false) (a1:(Mt.atB p i==124)=false) (a2:(Mt.atB p i==40)=false) (a3:(Mt.atB p i==41)=false) (a4:(Mt.atB p i==42)=false) (a5:(Mt.atB p i==43)=false) (a6:(Mt.atB p i==63)=false) (a7:(Mt.atB p i==123)=false) (a8:(Mt.atB p i==94)=false) (a9:(Mt.atB p i==36)=false) (b:(Mt.atB p i==46)=true) :
  Calls Try.prog 61 #[.string p,.int .i64 i] w fun e w'=>e=.returned (.tuple #[ptV ((⟨5,i+1,0,0,0,0,0,Mt.setTo (Mt.addR Mt.none0 0 255) 256⟩,0):Mt.PT × Int).1,.int .i64 ((⟨5,i+1,0,0,0,0,0,Mt.setTo (Mt.addR Mt.none0 0 255) 256⟩,0):Mt.PT × Int).2])∧Below w.heap.size w w':=by
 have TA:=letBy_any (w.alloc (.cells (ptA Mt.pt0) 121)) 0 255 (i+1)
 generalize Mt.setTo (Mt.addR Mt.none0 0 255) 256=R at *
 have HT:Hid (Calls Try.prog _ _ _ _):=TA
 clear TA
 go_enter Try.func61,Try.ntmps61
 go_wp2_with (go_at_call 73;refine (byteAt_any _ _ _ hp).mono ?_;rintro e w' ⟨rfl,rfl⟩)
 refine HT.out.mono ?_
 rintro e w2 ⟨rfl,b2⟩
 have HZ:Hid (w2.heap[w.heap.size]?=some (.cells (ptA Mt.pt0) 121 (0,0))∧Below w.heap.size w w2):=⟨(b2.block _ (by simp)).trans (heap_b1 w _),((Below.refl _ _).alloc (Nat.le_refl _) _).trans (b2.mono (by simp))⟩
 clear b2
 go_wp2_with (refine store_blk 121 8 Try.sizePT (by rfl) (.tmp 4) (.tmp 70) (by rfl) w.heap.size (ptA ⟨5,i+1,0,0,0,0,0,R⟩) (by rfl) (by rfl) HZ.out.1 (by rfl) (by rfl) (ptA_all _) ?_;intro w3 r1 r2 r3 r4)
 refine bodyPost_ret (ret_blk2 121 8 Try.underlying121 rfl Try.sizePT rfl (by rfl) r1 (by rfl)) rfl ⟨rfl,?_⟩
 exact HZ.out.2.trans (r4 _ (Nat.le_refl _))
theorem read_byte (p:ByteArray) (i:Int) (w:World) (hp:p.size≤64) (hi0:0≤i) (hi1:i≤100) (a0:(Mt.atB p i==-1)=false) (a1:(Mt.atB p i==124)=false) (a2:(Mt.atB p i==40)=false) (a3:(Mt.atB p i==41)=false) (a4:(Mt.atB p i==42)=false) (a5:(Mt.atB p i==43)=false) (a6:(Mt.atB p i==63)=false) (a7:(Mt.atB p i==123)=false) (a8:(Mt.atB p i==94)=false) (a9:(Mt.atB p i==36)=false) (a10:(Mt.atB p i==46)=false) (a11:(Mt.atB p i==91)=false) (a12:(Mt.atB p i==92)=false) :
  Calls Try.prog 61 #[.string p,.int .i64 i] w fun e w'=>e=.returned (.tuple #[ptV ((⟨5,i+1,0,0,0,0,0,Mt.setTo (Mt.addR Mt.none0 (Mt.atB p i) (Mt.atB p i)) 256⟩,0):Mt.PT × Int).1,.int .i64 ((⟨5,i+1,0,0,0,0,0,Mt.setTo (Mt.addR Mt.none0 (Mt.atB p i) (Mt.atB p i)) 256⟩,0):Mt.PT × Int).2])∧Below w.heap.size w w':=by
 have TA:=letBy_any (w.alloc (.cells (ptA Mt.pt0) 121)) (Mt.atB p i) (Mt.atB p i) (i+1)
 generalize Mt.setTo (Mt.addR Mt.none0 (Mt.atB p i) (Mt.atB p i)) 256=R at *
 have HT:Hid (Calls Try.prog _ _ _ _):=TA
 clear TA
 go_enter Try.func61,Try.ntmps61
 go_wp2_with (go_at_call 73;refine (byteAt_any _ _ _ hp).mono ?_;rintro e w' ⟨rfl,rfl⟩)
 refine HT.out.mono ?_
 rintro e w2 ⟨rfl,b2⟩
 have HZ:Hid (w2.heap[w.heap.size]?=some (.cells (ptA Mt.pt0) 121 (0,0))∧Below w.heap.size w w2):=⟨(b2.block _ (by simp)).trans (heap_b1 w _),((Below.refl _ _).alloc (Nat.le_refl _) _).trans (b2.mono (by simp))⟩
 clear b2
 go_wp2_with (refine store_blk 121 8 Try.sizePT (by rfl) (.tmp 4) (.tmp 89) (by rfl) w.heap.size (ptA ⟨5,i+1,0,0,0,0,0,R⟩) (by rfl) (by rfl) HZ.out.1 (by rfl) (by rfl) (ptA_all _) ?_;intro w3 r1 r2 r3 r4)
 refine bodyPost_ret (ret_blk2 121 8 Try.underlying121 rfl Try.sizePT rfl (by rfl) r1 (by rfl)) rfl ⟨rfl,?_⟩
 exact HZ.out.2.trans (r4 _ (Nat.le_refl _))
theorem Read_any (p:ByteArray) (i:Int) (w:World) (hp:p.size≤64) (hi0:0≤i) (hi1:i<(p.size:Int)) :
  Calls Try.prog 61 #[.string p,.int .i64 i] w fun e w'=>e=.returned (.tuple #[ptV (Mt.readP p i).1,.int .i64 (Mt.readP p i).2])∧Below w.heap.size w w':=by
 have l1:=Mt.atB_hi p i
 have l0:0≤Mt.atB p i:=by rw [Mt.atB_in p i hi0 hi1];omega
 have yes:∀ q:Int,Mt.atB p i=q→(Mt.atB p i==q)=true:=fun q h=>by simpa using h
 have no:∀ q:Int,¬ Mt.atB p i=q→(Mt.atB p i==q)=false:=fun q h=>by simpa using h
 have hi2:i≤100:=by omega
 by_cases h124:Mt.atB p i=124
 ·rw [rd_bar p i h124];exact read_bar p i w hp hi0 hi2 (no (-1) (by omega)) (yes _ h124)
 by_cases h40:Mt.atB p i=40
 ·rw [rd_open p i h40];exact read_open p i w hp hi0 hi2 (no (-1) (by omega)) (no _ h124) (yes _ h40)
 by_cases h41:Mt.atB p i=41
 ·rw [rd_close p i h41];exact read_close p i w hp hi0 hi2 (no (-1) (by omega)) (no _ h124) (no _ h40) (yes _ h41)
 by_cases h42:Mt.atB p i=42
 ·rw [rd_star p i h42];exact read_star p i w hp hi0 hi2 (no (-1) (by omega)) (no _ h124) (no _ h40) (no _ h41) (yes _ h42)
 by_cases h43:Mt.atB p i=43
 ·rw [rd_plus p i h43];exact read_plus p i w hp hi0 hi2 (no (-1) (by omega)) (no _ h124) (no _ h40) (no _ h41) (no _ h42) (yes _ h43)
 by_cases h63:Mt.atB p i=63
 ·rw [rd_quest p i h63];exact read_quest p i w hp hi0 hi2 (no (-1) (by omega)) (no _ h124) (no _ h40) (no _ h41) (no _ h42) (no _ h43) (yes _ h63)
 by_cases h123:Mt.atB p i=123
 ·rw [rd_count p i h123];exact read_count p i w hp hi0 hi2 (no (-1) (by omega)) (no _ h124) (no _ h40) (no _ h41) (no _ h42) (no _ h43) (no _ h63) (yes _ h123)
 by_cases h94:Mt.atB p i=94
 ·rw [rd_head p i h94];exact read_head p i w hp hi0 hi2 (no (-1) (by omega)) (no _ h124) (no _ h40) (no _ h41) (no _ h42) (no _ h43) (no _ h63) (no _ h123) (yes _ h94)
 by_cases h36:Mt.atB p i=36
 ·rw [rd_tail p i h36];exact read_tail p i w hp hi0 hi2 (no (-1) (by omega)) (no _ h124) (no _ h40) (no _ h41) (no _ h42) (no _ h43) (no _ h63) (no _ h123) (no _ h94) (yes _ h36)
 by_cases h46:Mt.atB p i=46
 ·rw [rd_dot p i h46];exact read_dot p i w hp hi0 hi2 (no (-1) (by omega)) (no _ h124) (no _ h40) (no _ h41) (no _ h42) (no _ h43) (no _ h63) (no _ h123) (no _ h94) (no _ h36) (yes _ h46)
 by_cases h91:Mt.atB p i=91
 ·rw [rd_class p i h91];exact read_class p i w hp hi0 hi2 (no (-1) (by omega)) (no _ h124) (no _ h40) (no _ h41) (no _ h42) (no _ h43) (no _ h63) (no _ h123) (no _ h94) (no _ h36) (no _ h46) (yes _ h91)
 by_cases h92:Mt.atB p i=92
 ·rw [rd_esc p i h92];exact read_esc p i w hp hi0 hi2 (no (-1) (by omega)) (no _ h124) (no _ h40) (no _ h41) (no _ h42) (no _ h43) (no _ h63) (no _ h123) (no _ h94) (no _ h36) (no _ h46) (no _ h91) (yes _ h92)
 rw [rd_byte p i l0 l1 (by omega)]
 exact read_byte p i w hp hi0 hi2 (no (-1) (by omega)) (no _ h124) (no _ h40) (no _ h41) (no _ h42) (no _ h43) (no _ h63) (no _ h123) (no _ h94) (no _ h36) (no _ h46) (no _ h91) (no _ h92)
end Go.Proofs.Ytebpgfodelggoab
