import Derived.Test.YtebpgfodelggoaaGreatC11
set_option linter.unusedVariables false
set_option linter.unusedSimpArgs false
set_option maxRecDepth 100000
set_option maxHeartbeats 4000000
namespace Go.Proofs.YtebpgfodelggoaaGreat
open Go.RowKit
theorem zOp {w:World} {wb gc gi ga gk cc ci ca ck:Nat} {c:List Mt.Ins} {text:ByteArray} {inn:List Bool} {ar:List Int} {budget:Int} {kn:List Bool} {room used:Int} {over:Bool}
  (h:zM w wb gc gi ga gk cc ci ca ck c text inn ar budget kn room used over) (s:List Int) (x:Mt.Ins) (pc pos:Nat) (h0:s[0]?=some (pc:Int)) (h1:s[1]?=some (pos:Int)) (hs:s.length=44) (hpc:pc≤300) (hpos:pos≤text.size) (ht:text.size≤60)
  (o1:(x.op==1)=false) (o3:(x.op==3)=false) (o4:(x.op==4)=false) (o5:(x.op==5)=false) (o6:(x.op==6)=false) (o7:(x.op==7)=false) (o8:(x.op==8)=false) (o9:(x.op==9)=true) :
  Calls Tryz.prog 77 #[.pointer (some ⟨wb,0,none⟩),stV s,zCH x] w fun e w'=>e=.returned (.tuple #[stV (s.set 0 ((pc:Int)+1)),.bool ((pos:Int)==0)])∧Below w.heap.size w w':=by
 have HS:Hid (s.length=44):=hs
 have hcb:=zA h.cell
 have hwb:wb<w.heap.size:=(Array.getElem?_eq_some_iff.1 h.cell).1
 have c1:w.cell? ⟨wb,1,none⟩=some (.string text):=hcb.1 1
 clear hs h hcb
 unfold stV zCH
 have hz:=vJ
 go_enter Tryz.func77,Tryz.ntmps77
 go_wp2_with (first | (refine zG (by rfl) (.tmp 4) (by rfl) w.heap.size (by rfl) (by exact zA0 _ _ _ _) (by simp [HS.out]) ?_) | (refine zF (by rfl) (.tmp 6) (.tmp 121) (by rfl) (w.heap.size+1+1) _ (by rfl) (by rfl) (by exact zCc _ _ _ _) (by rfl) (by simp [HS.out]) (by simp only [jD];exact jC _) ?_;intro w2 r1 r2 r3 r4))
 have hB:Below w.heap.size w w2:=((((Below.refl _ _).alloc (Nat.le_refl _) _).alloc (by simp) _).alloc (by simp;omega) _).trans (r4 _ (by omega))
 clear r2 r3 r4
 refine bodyPost_ret (vO rfl (by rfl) r1 (by simp [HS.out])) rfl ⟨?_,hB⟩
 simp only [jD]
 rfl
theorem zOq {w:World} {wb gc gi ga gk cc ci ca ck:Nat} {c:List Mt.Ins} {text:ByteArray} {inn:List Bool} {ar:List Int} {budget:Int} {kn:List Bool} {room used:Int} {over:Bool}
  (h:zM w wb gc gi ga gk cc ci ca ck c text inn ar budget kn room used over) (s:List Int) (x:Mt.Ins) (pc pos:Nat) (h0:s[0]?=some (pc:Int)) (h1:s[1]?=some (pos:Int)) (hs:s.length=44) (hpc:pc≤300) (hpos:pos≤text.size) (ht:text.size≤60)
  (o1:(x.op==1)=false) (o3:(x.op==3)=false) (o4:(x.op==4)=false) (o5:(x.op==5)=false) (o6:(x.op==6)=false) (o7:(x.op==7)=false) (o8:(x.op==8)=false) (o9:(x.op==9)=false) (o10:(x.op==10)=false) :
  Calls Tryz.prog 77 #[.pointer (some ⟨wb,0,none⟩),stV s,zCH x] w fun e w'=>e=.returned (.tuple #[stV (s.set 0 ((pc:Int)+1)),.bool true])∧Below w.heap.size w w':=by
 have HS:Hid (s.length=44):=hs
 have hcb:=zA h.cell
 have hwb:wb<w.heap.size:=(Array.getElem?_eq_some_iff.1 h.cell).1
 have c1:w.cell? ⟨wb,1,none⟩=some (.string text):=hcb.1 1
 clear hs h hcb
 unfold stV zCH
 have hz:=vJ
 go_enter Tryz.func77,Tryz.ntmps77
 go_wp2_with (first | (refine zG (by rfl) (.tmp 4) (by rfl) w.heap.size (by rfl) (by exact zA0 _ _ _ _) (by simp [HS.out]) ?_) | (refine zF (by rfl) (.tmp 6) (.tmp 121) (by rfl) (w.heap.size+1+1) _ (by rfl) (by rfl) (by exact zCc _ _ _ _) (by rfl) (by simp [HS.out]) (by simp only [jD];exact jC _) ?_;intro w2 r1 r2 r3 r4))
 have hB:Below w.heap.size w w2:=((((Below.refl _ _).alloc (Nat.le_refl _) _).alloc (by simp) _).alloc (by simp;omega) _).trans (r4 _ (by omega))
 clear r2 r3 r4
 refine bodyPost_ret (vO rfl (by rfl) r1 (by simp [HS.out])) rfl ⟨?_,hB⟩
 simp only [jD]
 rfl
theorem zOr {w:World} {wb gc gi ga gk cc ci ca ck:Nat} {c:List Mt.Ins} {text:ByteArray} {inn:List Bool} {ar:List Int} {budget:Int} {kn:List Bool} {room used:Int} {over:Bool}
  (h:zM w wb gc gi ga gk cc ci ca ck c text inn ar budget kn room used over) (s:List Int) (x:Mt.Ins) (pc pos:Nat) (h0:s[0]?=some (pc:Int)) (h1:s[1]?=some (pos:Int)) (hs:s.length=44) (hpc:pc≤300) (hpos:pos≤text.size) (ht:text.size≤60)
  (o1:(x.op==1)=false) (o3:(x.op==3)=false) (o4:(x.op==4)=true) (x0:0≤x.x) (x1:x.x<12) :
  Calls Tryz.prog 77 #[.pointer (some ⟨wb,0,none⟩),stV s,zCH x] w fun e w'=>e=.returned (.tuple #[stV ((s.set (32+x.x.toNat) (pos:Int)).set 0 ((pc:Int)+1)),.bool true])∧Below w.heap.size w w':=by
 have HS:Hid (s.length=44):=hs
 have hcb:=zA h.cell
 have hwb:wb<w.heap.size:=(Array.getElem?_eq_some_iff.1 h.cell).1
 have c1:w.cell? ⟨wb,1,none⟩=some (.string text):=hcb.1 1
 have hmk:s[32+x.x.toNat]?=some (Mt.gt s (32+x.x.toNat)):=by unfold Mt.gt;rw [List.getD_eq_getElem?_getD,List.getElem?_eq_getElem (by omega)];rfl
 clear hs h hcb
 unfold stV zCH
 have hz:=vJ
 go_enter Tryz.func77,Tryz.ntmps77
 go_wp2_with (first | (refine zG (by rfl) (.tmp 4) (by rfl) w.heap.size (by rfl) (by exact zA0 _ _ _ _) (by simp [HS.out]) ?_) | (refine zF (by rfl) (.tmp 6) (.tmp 121) (by rfl) (w.heap.size+1+1) _ (by rfl) (by rfl) (by exact zCc _ _ _ _) (by rfl) (by simp [HS.out]) (by simp only [jD];exact jC _) ?_;intro w2 r1 r2 r3 r4))
 have hB:Below w.heap.size w w2:=((((Below.refl _ _).alloc (Nat.le_refl _) _).alloc (by simp) _).alloc (by simp;omega) _).trans (r4 _ (by omega))
 clear r2 r3 r4
 refine bodyPost_ret (vO rfl (by rfl) r1 (by simp [HS.out])) rfl ⟨?_,hB⟩
 simp only [jD]
 rfl
theorem zOs {w:World} {wb gc gi ga gk cc ci ca ck:Nat} {c:List Mt.Ins} {text:ByteArray} {inn:List Bool} {ar:List Int} {budget:Int} {kn:List Bool} {room used:Int} {over:Bool}
  (h:zM w wb gc gi ga gk cc ci ca ck c text inn ar budget kn room used over) (s:List Int) (x:Mt.Ins) (pc pos:Nat) (h0:s[0]?=some (pc:Int)) (h1:s[1]?=some (pos:Int)) (hs:s.length=44) (hpc:pc≤300) (hpos:pos≤text.size) (ht:text.size≤60)
  (o1:(x.op==1)=false) (o3:(x.op==3)=false) (o4:(x.op==4)=false) (o5:(x.op==5)=false) (o6:(x.op==6)=true) (x0:0≤x.x) (x1:x.x<10) :
  Calls Tryz.prog 77 #[.pointer (some ⟨wb,0,none⟩),stV s,zCH x] w fun e w'=>e=.returned (.tuple #[stV ((s.set (22+x.x.toNat) (pos:Int)).set 0 ((pc:Int)+1)),.bool true])∧Below w.heap.size w w':=by
 have HS:Hid (s.length=44):=hs
 have hcb:=zA h.cell
 have hwb:wb<w.heap.size:=(Array.getElem?_eq_some_iff.1 h.cell).1
 have c1:w.cell? ⟨wb,1,none⟩=some (.string text):=hcb.1 1
 have hmk:s[22+x.x.toNat]?=some (Mt.gt s (22+x.x.toNat)):=by unfold Mt.gt;rw [List.getD_eq_getElem?_getD,List.getElem?_eq_getElem (by omega)];rfl
 have zPI:wb<w.heap.size+1:=by omega
 have zRt:wb<w.heap.size+1+1:=by omega
 have hdn:∀ (W:World) (n:Nat) (a:Addr) (v:Value),(W.drewN n).setCell a v=(W.setCell a v).drewN n:=fun _ _ _ _=>rfl
 clear hs h hcb
 unfold stV zCH
 have hz:=vJ
 go_enter Tryz.func77,Tryz.ntmps77
 go_wp2_with (first | (refine zG (by rfl) (.tmp 4) (by rfl) w.heap.size (by rfl) (by exact zA0 _ _ _ _) (by simp [HS.out]) ?_) | (refine zF (by rfl) (.tmp 6) (.tmp 121) (by rfl) (w.heap.size+1+1) _ (by rfl) (by rfl) (by exact zCc _ _ _ _) (by rfl) (by simp [HS.out]) (by simp only [jD];exact jC _) ?_;intro w2 r1 r2 r3 r4))
 have hB:Below w.heap.size w w2:=((((Below.refl _ _).alloc (Nat.le_refl _) _).alloc (by simp) _).alloc (by simp;omega) _).trans (r4 _ (by omega))
 clear r2 r3 r4
 refine bodyPost_ret (vO rfl (by rfl) r1 (by simp [HS.out])) rfl ⟨?_,hB⟩
 simp only [jD]
 rfl
theorem zOt {w:World} {wb gc gi ga gk cc ci ca ck:Nat} {c:List Mt.Ins} {text:ByteArray} {inn:List Bool} {ar:List Int} {budget:Int} {kn:List Bool} {room used:Int} {over:Bool}
  (h:zM w wb gc gi ga gk cc ci ca ck c text inn ar budget kn room used over) (s:List Int) (x:Mt.Ins) (pc pos:Nat) (h0:s[0]?=some (pc:Int)) (h1:s[1]?=some (pos:Int)) (hs:s.length=44) (hpc:pc≤300) (hpos:pos≤text.size) (ht:text.size≤60)
  (o1:(x.op==1)=false) (o3:(x.op==3)=false) (o4:(x.op==4)=false) (o5:(x.op==5)=false) (o6:(x.op==6)=false) (o7:(x.op==7)=false) (o8:(x.op==8)=false) (o9:(x.op==9)=false) (o10:(x.op==10)=true) :
  Calls Tryz.prog 77 #[.pointer (some ⟨wb,0,none⟩),stV s,zCH x] w fun e w'=>e=.returned (.tuple #[stV (s.set 0 ((pc:Int)+1)),.bool ((pos:Int)==(text.size:Int))])∧Below w.heap.size w w':=by
 have HS:Hid (s.length=44):=hs
 have hcb:=zA h.cell
 have hwb:wb<w.heap.size:=(Array.getElem?_eq_some_iff.1 h.cell).1
 have c1:w.cell? ⟨wb,1,none⟩=some (.string text):=hcb.1 1
 have zPI:wb<w.heap.size+1:=by omega
 have zRt:wb<w.heap.size+1+1:=by omega
 have hdn:∀ (W:World) (n:Nat) (a:Addr) (v:Value),(W.drewN n).setCell a v=(W.setCell a v).drewN n:=fun _ _ _ _=>rfl
 clear hs h hcb
 unfold stV zCH
 have hz:=vJ
 go_enter Tryz.func77,Tryz.ntmps77
 go_wp2_with fail
 go_quiet (fail)
 go_wp2_with (first | (refine zG (by rfl) (.tmp 4) (by rfl) w.heap.size (by rfl) (by exact zA0 _ _ _ _) (by simp [HS.out]) ?_) | (refine zF (by rfl) (.tmp 6) (.tmp 121) (by rfl) (w.heap.size+1+1) _ (by rfl) (by rfl) (by exact zCc _ _ _ _) (by rfl) (by simp [HS.out]) (by simp only [jD];exact jC _) ?_;intro w2 r1 r2 r3 r4))
 have hB:Below w.heap.size w w2:=(below_drewN ((((Below.refl _ _).alloc (Nat.le_refl _) _).alloc (by simp) _).alloc (by simp;omega) _) _).trans (r4 _ (by omega))
 clear r2 r3 r4
 refine bodyPost_ret (vO rfl (by rfl) r1 (by simp [HS.out])) rfl ⟨?_,hB⟩
 simp only [jD]
 rfl
theorem zMu {w:World} {wb gc gi ga gk cc ci ca ck:Nat} {c:List Mt.Ins} {text:ByteArray} {inn:List Bool} {ar:List Int} {budget:Int} {kn:List Bool} {room used:Int} {over:Bool}
  (h:zM w wb gc gi ga gk cc ci ca ck c text inn ar budget kn room used over) (s:List Int) (x:Mt.Ins) (pc pos:Nat) (h0:s[0]?=some (pc:Int)) (h1:s[1]?=some (pos:Int)) (hs:s.length=44) (hpc:pc≤300) (hpos:pos≤text.size) (ht:text.size≤60)
  (o1:(x.op==1)=false) (o3:(x.op==3)=false) (o4:(x.op==4)=false) (o5:(x.op==5)=true) (x0:0≤x.y) (x1:x.y<12) :
  Calls Tryz.prog 77 #[.pointer (some ⟨wb,0,none⟩),stV s,zCH x] w fun e w'=>e=.returned (.tuple #[stV (s.set 0 x.x),.bool (Mt.gt s (32+x.y.toNat) != (pos:Int))])∧Below w.heap.size w w':=by
 have HS:Hid (s.length=44):=hs
 have hcb:=zA h.cell
 have hwb:wb<w.heap.size:=(Array.getElem?_eq_some_iff.1 h.cell).1
 have c1:w.cell? ⟨wb,1,none⟩=some (.string text):=hcb.1 1
 have hmk:s[32+x.y.toNat]?=some (Mt.gt s (32+x.y.toNat)):=by unfold Mt.gt;rw [List.getD_eq_getElem?_getD,List.getElem?_eq_getElem (by omega)];rfl
 have zPI:wb<w.heap.size+1:=by omega
 have zRt:wb<w.heap.size+1+1:=by omega
 have hdn:∀ (W:World) (n:Nat) (a:Addr) (v:Value),(W.drewN n).setCell a v=(W.setCell a v).drewN n:=fun _ _ _ _=>rfl
 clear hs h hcb
 unfold stV zCH
 have hz:=vJ
 go_enter Tryz.func77,Tryz.ntmps77
 go_wp2_with fail
 go_quiet (fail)
 go_wp2_with (first | (refine zG (by rfl) (.tmp 4) (by rfl) w.heap.size (by rfl) (by exact zA0 _ _ _ _) (by simp [HS.out]) ?_) | (refine zF (by rfl) (.tmp 6) (.tmp 63) (by rfl) (w.heap.size+1+1) _ (by rfl) (by rfl) (by exact zCc _ _ _ _) (by rfl) (by simp [HS.out]) (by simp only [jD];exact jC _) ?_;intro w2 r1 r2 r3 r4))
 have hB:Below w.heap.size w w2:=(below_drewN ((((Below.refl _ _).alloc (Nat.le_refl _) _).alloc (by simp) _).alloc (by simp;omega) _) _).trans (r4 _ (by omega))
 clear r2 r3 r4
 refine bodyPost_ret (vO rfl (by rfl) r1 (by simp [HS.out])) rfl ⟨?_,hB⟩
 simp only [jD]
 rfl
theorem zMv {w:World} {wb gc gi ga gk cc ci ca ck:Nat} {c:List Mt.Ins} {text:ByteArray} {inn:List Bool} {ar:List Int} {budget:Int} {kn:List Bool} {room used:Int} {over:Bool}
  (h:zM w wb gc gi ga gk cc ci ca ck c text inn ar budget kn room used over) (s:List Int) (x:Mt.Ins) (pc pos:Nat) (h0:s[0]?=some (pc:Int)) (h1:s[1]?=some (pos:Int)) (hs:s.length=44) (hpc:pc≤300) (hpos:pos≤text.size) (ht:text.size≤60)
  (o1:(x.op==1)=false) (o3:(x.op==3)=false) (o4:(x.op==4)=false) (o5:(x.op==5)=false) (o6:(x.op==6)=false) (o7:(x.op==7)=true) (x0:0≤x.x) (x1:x.x<10) :
  Calls Tryz.prog 77 #[.pointer (some ⟨wb,0,none⟩),stV s,zCH x] w fun e w'=>e=.returned (.tuple #[stV (((s.set (2+(2*x.x).toNat) (Mt.gt s (22+x.x.toNat))).set (2+(2*x.x+1).toNat) (pos:Int)).set 0 ((pc:Int)+1)),.bool true])∧Below w.heap.size w w':=by
 have HS:Hid (s.length=44):=hs
 have hcb:=zA h.cell
 have hwb:wb<w.heap.size:=(Array.getElem?_eq_some_iff.1 h.cell).1
 have c1:w.cell? ⟨wb,1,none⟩=some (.string text):=hcb.1 1
 have hmk:s[22+x.x.toNat]?=some (Mt.gt s (22+x.x.toNat)):=by unfold Mt.gt;rw [List.getD_eq_getElem?_getD,List.getElem?_eq_getElem (by omega)];rfl
 have zTY:s[2+(2*x.x).toNat]?=some (Mt.gt s (2+(2*x.x).toNat)):=by unfold Mt.gt;rw [List.getD_eq_getElem?_getD,List.getElem?_eq_getElem (by omega)];rfl
 have zTk:s[2+(2*x.x+1).toNat]?=some (Mt.gt s (2+(2*x.x+1).toNat)):=by unfold Mt.gt;rw [List.getD_eq_getElem?_getD,List.getElem?_eq_getElem (by omega)];rfl
 have q1:((s.map (Value.int .i64)).set (2+(2*x.x).toNat) (.int .i64 (Mt.gt s (22+x.x.toNat))))[1]?=some (.int .i64 (pos:Int)):=by
  rw [List.getElem?_set_ne (by omega),List.getElem?_map,h1];rfl
 have q2:((s.map (Value.int .i64)).set (2+(2*x.x).toNat) (.int .i64 (Mt.gt s (22+x.x.toNat))))[2+(2*x.x+1).toNat]?=some (.int .i64 (Mt.gt s (2+(2*x.x+1).toNat))):=by
  rw [List.getElem?_set_ne (by omega),List.getElem?_map,zTk];rfl
 have q3:(((s.map (Value.int .i64)).set (2+(2*x.x).toNat) (.int .i64 (Mt.gt s (22+x.x.toNat)))).set (2+(2*x.x+1).toNat) (.int .i64 (pos:Int)))[0]?=some (.int .i64 (pc:Int)):=by
  rw [List.getElem?_set_ne (by omega),List.getElem?_set_ne (by omega),List.getElem?_map,h0];rfl
 have zPI:wb<w.heap.size+1:=by omega
 have zRt:wb<w.heap.size+1+1:=by omega
 have hdn:∀ (W:World) (n:Nat) (a:Addr) (v:Value),(W.drewN n).setCell a v=(W.setCell a v).drewN n:=fun _ _ _ _=>rfl
 clear hs h hcb
 unfold stV zCH
 have hz:=vJ
 go_enter Tryz.func77,Tryz.ntmps77
 go_wp2_with fail
 go_region
 go_wp2_with (first | (refine zG (by rfl) (.tmp 4) (by rfl) w.heap.size (by rfl) (by exact zA0 _ _ _ _) (by simp [HS.out]) ?_) | (refine zF (by rfl) (.tmp 6) (.tmp 121) (by rfl) (w.heap.size+1+1) _ (by rfl) (by rfl) (by exact zCc _ _ _ _) (by rfl) (by simp [HS.out]) (by simp only [jD];exact jC _) ?_;intro w2 r1 r2 r3 r4))
 have hB:Below w.heap.size w w2:=(((((Below.refl _ _).alloc (Nat.le_refl _) _).alloc (by simp) _).alloc (by simp;omega) _).drew).trans (r4 _ (by omega))
 clear r2 r3 r4
 refine bodyPost_ret (vO rfl (by rfl) r1 (by simp [HS.out])) rfl ⟨?_,hB⟩
 simp only [jD]
 rfl
theorem zJa {P:Program} {f:FuncId} {args:Array Value} {X:World} {a b:Nat} {v:Value} (h:Calls P f args (X.drewN (a+b)) fun e w'=>e=.returned v∧w'=X.drewN (a+b)) :
  Calls P f args (X.drewN (a+b)) fun e w''=>e=.returned v∧∃ n,w''=X.drewN (a+n):=h.mono fun _ _ hh=>⟨hh.1,b,hh.2⟩
theorem zOu {w:World} {wb gc gi ga gk cc ci ca ck:Nat} {c:List Mt.Ins} {text:ByteArray} {inn:List Bool} {ar:List Int} {budget:Int} {kn:List Bool} {room used:Int} {over:Bool}
  (h:zM w wb gc gi ga gk cc ci ca ck c text inn ar budget kn room used over) (s:List Int) (x:Mt.Ins) (pc pos:Nat) (h0:s[0]?=some (pc:Int)) (h1:s[1]?=some (pos:Int)) (hs:s.length=44) (hpc:pc≤300) (hpos:pos≤text.size) (ht:text.size≤60)
  (o1:(x.op==1)=true) (hp:¬ pos<text.size) :
  Calls Tryz.prog 77 #[.pointer (some ⟨wb,0,none⟩),stV s,zCH x] w fun e w'=>e=.returned (.tuple #[stV ((s.set 1 ((pos:Int)+1)).set 0 ((pc:Int)+1)),.bool false])∧Below w.heap.size w w':=by
 have HS:Hid (s.length=44):=hs
 have hcb:=zA h.cell
 have hwb:wb<w.heap.size:=(Array.getElem?_eq_some_iff.1 h.cell).1
 have c1:w.cell? ⟨wb,1,none⟩=some (.string text):=hcb.1 1
 have zPI:wb<w.heap.size+1:=by omega
 have zRt:wb<w.heap.size+1+1:=by omega
 have hdn:∀ (W:World) (n:Nat) (a:Addr) (v:Value),(W.drewN n).setCell a v=(W.setCell a v).drewN n:=fun _ _ _ _=>rfl
 clear hs h hcb
 unfold stV zCH
 have hz:=vJ
 go_enter Tryz.func77,Tryz.ntmps77
 go_wp2_with fail
 go_quiet (fail)
 go_wp2_with (first | (refine zG (by rfl) (.tmp 4) (by rfl) w.heap.size (by rfl) (by exact zA0 _ _ _ _) (by simp [HS.out]) ?_) | (refine zF (by rfl) (.tmp 6) (.tmp 121) (by rfl) (w.heap.size+1+1) _ (by rfl) (by rfl) (by exact zCc _ _ _ _) (by rfl) (by simp [HS.out]) (by simp only [jD];exact jC _) ?_;intro w2 r1 r2 r3 r4))
 have hB:Below w.heap.size w w2:=(below_drewN ((((Below.refl _ _).alloc (Nat.le_refl _) _).alloc (by simp) _).alloc (by simp;omega) _) _).trans (r4 _ (by omega))
 clear r2 r3 r4
 refine bodyPost_ret (vO rfl (by rfl) r1 (by simp [HS.out])) rfl ⟨?_,hB⟩
 simp only [jD]
 rfl
theorem one_byte {w:World} {wb gc gi ga gk cc ci ca ck:Nat} {c:List Mt.Ins} {text:ByteArray} {inn:List Bool} {ar:List Int} {budget:Int} {kn:List Bool} {room used:Int} {over:Bool}
  (h:zM w wb gc gi ga gk cc ci ca ck c text inn ar budget kn room used over) (s:List Int) (x:Mt.Ins) (pc pos:Nat) (h0:s[0]?=some (pc:Int)) (h1:s[1]?=some (pos:Int)) (hs:s.length=44) (hpc:pc≤300) (hpos:pos≤text.size) (ht:text.size≤60)
  (o1:(x.op==1)=true) (hp:pos<text.size) (hset:x.set.length≤256) :
  Calls Tryz.prog 77 #[.pointer (some ⟨wb,0,none⟩),stV s,zCH x] w fun e w'=>e=.returned (.tuple #[stV ((s.set 1 ((pos:Int)+1)).set 0 ((pc:Int)+1)),.bool (Mt.hasB ⟨x.set.toArray⟩ ((text[pos]'hp).toNat:Int))])∧Below w.heap.size w w':=by
 have HS:Hid (s.length=44):=hs
 have hcb:=zA h.cell
 have hwb:wb<w.heap.size:=(Array.getElem?_eq_some_iff.1 h.cell).1
 have c1:w.cell? ⟨wb,1,none⟩=some (.string text):=hcb.1 1
 have hbb:=(text[pos]'hp).toNat_lt
 have KH:Hid (∀ z:World,Calls Tryz.prog 105 #[.string ⟨x.set.toArray⟩,.int .u8 ((text[pos]'hp).toNat:Int)] z fun e w'=>e=.returned (.bool (Mt.hasB ⟨x.set.toArray⟩ ((text[pos]'hp).toNat:Int)))∧w'=z):=fun z=>(zP9 ⟨x.set.toArray⟩ _ z (by show x.set.toArray.size≤1000;simp;omega) (by omega) (by omega)).mono (fun e w' hh=>⟨hh.1,hh.2.symm⟩)
 have zPI:wb<w.heap.size+1:=by omega
 have zRt:wb<w.heap.size+1+1:=by omega
 have hdn:∀ (W:World) (n:Nat) (a:Addr) (v:Value),(W.drewN n).setCell a v=(W.setCell a v).drewN n:=fun _ _ _ _=>rfl
 clear hs h hcb
 unfold stV zCH
 have hz:=vJ
 go_enter Tryz.func77,Tryz.ntmps77
 go_wp2_with fail
 go_quiet (fail)
 go_wp2_with fail
 go_quiet ((go_at_call 105;exact zJa (KH.out _)))
 go_wp2_with (first | (refine zG (by rfl) (.tmp 4) (by rfl) w.heap.size (by rfl) (by exact zA0 _ _ _ _) (by simp [HS.out]) ?_) | (refine zF (by rfl) (.tmp 6) (.tmp 121) (by rfl) (w.heap.size+1+1) _ (by rfl) (by rfl) (by exact zCc _ _ _ _) (by rfl) (by simp [HS.out]) (by simp only [jD];exact jC _) ?_;intro w2 r1 r2 r3 r4))
 have hB:Below w.heap.size w w2:=(below_drewN ((((Below.refl _ _).alloc (Nat.le_refl _) _).alloc (by simp) _).alloc (by simp;omega) _) _).trans (r4 _ (by omega))
 clear r2 r3 r4
 refine bodyPost_ret (vO rfl (by rfl) r1 (by simp [HS.out])) rfl ⟨?_,hB⟩
 simp only [jD]
 rfl
theorem zBv (w:World) (A C:Obj):((w.alloc A).alloc C).heap[w.heap.size]?=some A:=by
 rw [zX _ _ _ (by simp),heap_alloc_new]
theorem zAV (w:World) (A C:Obj):((w.alloc A).alloc C).heap[w.heap.size+1]?=some C:=by
 have:(w.alloc A).heap.size=w.heap.size+1:=by simp
 rw [← this,heap_alloc_new]
theorem zMw {w:World} {wb gc gi ga gk cc ci ca ck:Nat} {c:List Mt.Ins} {text:ByteArray} {inn:List Bool} {ar:List Int} {budget:Int} {kn:List Bool} {room used:Int} {over:Bool}
  (h:zM w wb gc gi ga gk cc ci ca ck c text inn ar budget kn room used over) (s:List Int) (k:Int) (pc pos:Nat) (h0:s[0]?=some (pc:Int)) (h1:s[1]?=some (pos:Int)) (hs:s.length=44) (hpc:pc≤300) (hpos:pos≤text.size) (ht:text.size≤60) (x0:0≤k) (x1:k<10)
  (a b:Int) (ha:s[2+(2*k).toNat]?=some a) (hb:s[2+(2*k+1).toNat]?=some b) (han:decide (a<0)=true) :
  Calls Tryz.prog 106 #[.pointer (some ⟨wb,0,none⟩),stV s,.int .i64 k] w fun e w'=>e=.returned (.tuple #[stV (s),.bool false])∧Below w.heap.size w w':=by
 have HS:Hid (s.length=44):=hs
 have hcb:=zA h.cell
 have hwb:wb<w.heap.size:=(Array.getElem?_eq_some_iff.1 h.cell).1
 have c1:w.cell? ⟨wb,1,none⟩=some (.string text):=hcb.1 1
 have zPI:wb<w.heap.size+1:=by omega
 have hdn:∀ (W:World) (n:Nat) (a:Addr) (v:Value),(W.drewN n).setCell a v=(W.setCell a v).drewN n:=fun _ _ _ _=>rfl
 clear hs h hcb
 unfold stV
 have hz:=vJ
 go_enter Tryz.func106,Tryz.ntmps106
 go_wp2_with fail
 go_quiet (fail)
 go_wp2_with (first | (refine zG (by rfl) (.tmp 4) (by rfl) w.heap.size (by rfl) (by exact zBv _ _ _) (by simp [HS.out]) ?_) | (refine zF (by rfl) (.tmp 6) (.tmp 38) (by rfl) (w.heap.size+1) _ (by rfl) (by rfl) (by exact zAV _ _ _) (by rfl) (by simp [HS.out]) (by first | exact jC _ | (simp only [jD];exact jC _)) ?_;intro w2 r1 r2 r3 r4))
 have hB:Below w.heap.size w w2:=(below_drewN (((Below.refl _ _).alloc (Nat.le_refl _) _).alloc (by simp) _) _).trans (r4 _ (by omega))
 clear r2 r3 r4
 refine bodyPost_ret (vO rfl (by rfl) r1 (by simp [HS.out])) rfl ⟨?_,hB⟩
 try simp only [jD]
 rfl
theorem zMx {w:World} {wb gc gi ga gk cc ci ca ck:Nat} {c:List Mt.Ins} {text:ByteArray} {inn:List Bool} {ar:List Int} {budget:Int} {kn:List Bool} {room used:Int} {over:Bool}
  (h:zM w wb gc gi ga gk cc ci ca ck c text inn ar budget kn room used over) (s:List Int) (k:Int) (pc pos:Nat) (h0:s[0]?=some (pc:Int)) (h1:s[1]?=some (pos:Int)) (hs:s.length=44) (hpc:pc≤300) (hpos:pos≤text.size) (ht:text.size≤60) (x0:0≤k) (x1:k<10)
  (a b:Nat) (ha:s[2+(2*k).toNat]?=some (a:Int)) (hb:s[2+(2*k+1).toNat]?=some (b:Int)) (hab:a≤b) (hbT:b≤text.size) (hlong:text.size<pos+(b-a)) :
  Calls Tryz.prog 106 #[.pointer (some ⟨wb,0,none⟩),stV s,.int .i64 k] w fun e w'=>e=.returned (.tuple #[stV (s),.bool false])∧Below w.heap.size w w':=by
 have HS:Hid (s.length=44):=hs
 have hcb:=zA h.cell
 have hwb:wb<w.heap.size:=(Array.getElem?_eq_some_iff.1 h.cell).1
 have c1:w.cell? ⟨wb,1,none⟩=some (.string text):=hcb.1 1
 have zPI:wb<w.heap.size+1:=by omega
 have hdn:∀ (W:World) (n:Nat) (a:Addr) (v:Value),(W.drewN n).setCell a v=(W.setCell a v).drewN n:=fun _ _ _ _=>rfl
 clear hs h hcb
 unfold stV
 have hz:=vJ
 go_enter Tryz.func106,Tryz.ntmps106
 have q0:decide ((a:Int)<0)=false:=by simp
 go_wp2_with fail
 go_quiet (fail)
 go_wp2_with (first | (refine zG (by rfl) (.tmp 4) (by rfl) w.heap.size (by rfl) (by exact zBv _ _ _) (by simp [HS.out]) ?_) | (refine zF (by rfl) (.tmp 6) (.tmp 38) (by rfl) (w.heap.size+1) _ (by rfl) (by rfl) (by exact zAV _ _ _) (by rfl) (by simp [HS.out]) (by first | exact jC _ | (simp only [jD];exact jC _)) ?_;intro w2 r1 r2 r3 r4))
 have hB:Below w.heap.size w w2:=(below_drewN (((Below.refl _ _).alloc (Nat.le_refl _) _).alloc (by simp) _) _).trans (r4 _ (by omega))
 clear r2 r3 r4
 refine bodyPost_ret (vO rfl (by rfl) r1 (by simp [HS.out])) rfl ⟨?_,hB⟩
 try simp only [jD]
 rfl
theorem zMy {w:World} {wb gc gi ga gk cc ci ca ck:Nat} {c:List Mt.Ins} {text:ByteArray} {inn:List Bool} {ar:List Int} {budget:Int} {kn:List Bool} {room used:Int} {over:Bool}
  (h:zM w wb gc gi ga gk cc ci ca ck c text inn ar budget kn room used over) (s:List Int) (k:Int) (pc pos:Nat) (h0:s[0]?=some (pc:Int)) (h1:s[1]?=some (pos:Int)) (hs:s.length=44) (hpc:pc≤300) (hpos:pos≤text.size) (ht:text.size≤60) (x0:0≤k) (x1:k<10)
  (a b:Nat) (ha:s[2+(2*k).toNat]?=some (a:Int)) (hb:s[2+(2*k+1).toNat]?=some (b:Int)) (hab:a≤b) (hbT:b≤text.size) (hfit:pos+(b-a)≤text.size) :
  Calls Tryz.prog 106 #[.pointer (some ⟨wb,0,none⟩),stV s,.int .i64 k] w fun e w'=>e=.returned (.tuple #[stV ((s.set 1 ((pos:Int)+b-a)).set 0 ((pc:Int)+1)),.bool ((text.extract a b).toList==(text.extract pos (pos+b-a)).toList)])∧Below w.heap.size w w':=by
 have HS:Hid (s.length=44):=hs
 have hcb:=zA h.cell
 have hwb:wb<w.heap.size:=(Array.getElem?_eq_some_iff.1 h.cell).1
 have c1:w.cell? ⟨wb,1,none⟩=some (.string text):=hcb.1 1
 have zPI:wb<w.heap.size+1:=by omega
 have hdn:∀ (W:World) (n:Nat) (a:Addr) (v:Value),(W.drewN n).setCell a v=(W.setCell a v).drewN n:=fun _ _ _ _=>rfl
 clear hs h hcb
 unfold stV
 have hz:=vJ
 go_enter Tryz.func106,Tryz.ntmps106
 have q0:decide ((a:Int)<0)=false:=by simp
 go_wp2_with fail
 go_quiet (fail)
 go_wp2_with fail
 go_quiet (fail)
 go_wp2_with (first | (refine zG (by rfl) (.tmp 4) (by rfl) w.heap.size (by rfl) (by exact zBv _ _ _) (by simp [HS.out]) ?_) | (refine zF (by rfl) (.tmp 6) (.tmp 71) (by rfl) (w.heap.size+1) _ (by rfl) (by rfl) (by exact zAV _ _ _) (by rfl) (by simp [HS.out]) (by first | exact jC _ | (simp only [jD];exact jC _)) ?_;intro w2 r1 r2 r3 r4))
 have hB:Below w.heap.size w w2:=(below_drewN (((Below.refl _ _).alloc (Nat.le_refl _) _).alloc (by simp) _) _).trans (r4 _ (by omega))
 clear r2 r3 r4
 refine bodyPost_ret (vO rfl (by rfl) r1 (by simp [HS.out])) rfl ⟨?_,hB⟩
 try simp only [jD]
 rfl
theorem zOv {w:World} {wb gc gi ga gk cc ci ca ck:Nat} {c:List Mt.Ins} {text:ByteArray} {inn:List Bool} {ar:List Int} {budget:Int} {kn:List Bool} {room used:Int} {over:Bool}
  (h:zM w wb gc gi ga gk cc ci ca ck c text inn ar budget kn room used over) (s s':List Int) (ok:Bool) (x:Mt.Ins) (pc pos:Nat) (h0:s[0]?=some (pc:Int)) (h1:s[1]?=some (pos:Int)) (hs:s.length=44) (hs':s'.length=44) (hpc:pc≤300) (hpos:pos≤text.size) (ht:text.size≤60)
  (KB:Hid (∀ z:World,zM z wb gc gi ga gk cc ci ca ck c text inn ar budget kn room used over→Calls Tryz.prog 106 #[.pointer (some ⟨wb,0,none⟩),stV s,.int .i64 x.x] z fun e w'=>e=.returned (.tuple #[stV s',.bool ok])∧Below z.heap.size z w'))
  (o1:(x.op==1)=false) (o3:(x.op==3)=false) (o4:(x.op==4)=false) (o5:(x.op==5)=false) (o6:(x.op==6)=false) (o7:(x.op==7)=false) (o8:(x.op==8)=true) :
  Calls Tryz.prog 77 #[.pointer (some ⟨wb,0,none⟩),stV s,zCH x] w fun e w'=>e=.returned (.tuple #[stV s',.bool ok])∧Below w.heap.size w w':=by
 have HS:Hid (s.length=44):=hs
 have HS':Hid (s'.length=44):=hs'
 have HW:Hid (zM w wb gc gi ga gk cc ci ca ck c text inn ar budget kn room used over):=h
 clear hs h hs'
 unfold stV zCH
 have hz:=vJ
 go_enter Tryz.func77,Tryz.ntmps77
 go_wp2_with (first | (refine zG (by rfl) (.tmp 4) (by rfl) w.heap.size (by rfl) (by exact zA0 _ _ _ _) (by simp [HS.out]) ?_) | fail)
 refine (KB.out _ (HW.out.below (((((Below.refl _ _).alloc (Nat.le_refl _) _).alloc (by simp) _).alloc (by simp;omega) _)))).mono ?_
 rintro e w1 ⟨rfl,hb1⟩
 have hA:w1.heap[w.heap.size+1+1]?=some zCZ:=by rw [hb1.block _ (by simp)];exact zCc _ _ _ _
 have hB1:Below w.heap.size w w1:=(((((Below.refl _ _).alloc (Nat.le_refl _) _).alloc (by simp) _).alloc (by simp;omega) _)).trans (hb1.mono (by simp;omega))
 have HA:Hid (w1.heap[w.heap.size+1+1]?=some zCZ):=hA
 clear hA hb1
 go_wp2_with (refine zF (by rfl) (.tmp 6) (.tmp 100) (by rfl) (w.heap.size+1+1) (s'.map (Value.int .i64)).toArray (by rfl) (by rfl) (by exact HA.out) (by rfl) (by simp [HS'.out]) (jC _) ?_;intro w2 r1 r2 r3 r4)
 have hB:Below w.heap.size w w2:=hB1.trans (r4 _ (by omega))
 clear r2 r3 r4
 refine bodyPost_ret (vO rfl (by rfl) r1 (by simp [HS'.out])) rfl ⟨rfl,hB⟩
def zNZ (k:Nat):Array Value:=(List.replicate k (Value.int .i64 (-1))++List.replicate (20-k) (Value.int .i64 0)).toArray
theorem Tryz.size55:(Tryz.prog.info? 27).map (·.size)=some 20:=by kernel_rfl
theorem zFU {ops:Array Oper} {rest:List Oper} {op:Oper} {a:Act} {w:World} {Q:Exit→Act→World→Prop} (hgd:op.guard=none) (x:Operand) (ho:op.op=.load 27 x)
  (b:Nat) (hx:a.eval x=.pointer (some ⟨b,0,none⟩)) {t:TypeId} {A:Array Value} (hA:w.heap[b]?=some (.cells A t (0,0))) (hs:A.size=20)
  (h:wpList Tryz.prog ops Q rest (a.put op.dst (.agg A)) w):wpList Tryz.prog ops Q (op::rest) a w :=
 wpList_load_mid hgd _ x ho b 0 hx A.toList _ (qY hA) Tryz.underlying27 rfl (by rw [Tryz.size55];simp [hs]) h
theorem zE6 {ops:Array Oper} {rest:List Oper} {op:Oper} {a:Act} {w:World} {Q:Exit→Act→World→Prop} (hgd:op.guard=none) (x y:Operand) (ho:op.op=.store 27 x y)
  (b:Nat) (cs:Array Value) (hx:a.eval x=.pointer (some ⟨b,0,none⟩)) (hy:a.eval y=.agg cs) {t:TypeId} {B:Array Value} (hB:w.heap[b]?=some (.cells B t (0,0))) (hs:B.size=20) (hc:cs.size=20) (h1:cs.all (·.oneCell')=true)
  (h:∀ w2:World,w2.heap[b]?=some (.cells cs t (0,0))→(∀ k,k≠b→w2.heap[k]?=w.heap[k]?)→w2.heap.size=w.heap.size→(∀ L,L≤b→Below L w w2)→wpList Tryz.prog ops Q rest (a.put op.dst undef) w2):wpList Tryz.prog ops Q (op::rest) a w:=by
 have hb:=zA hB
 refine wpList_store_mid hgd _ x y ho b 0 cs hx hy (jN hb.1 hb.2 _ (by omega)) (by rw [Tryz.size55,hc]) h1 ?_
 exact h _ (qI hB cs (by omega)) (fun k hk=>kZ b _ 0 w k hk) (below_setCells b _ 0 w 0 (Nat.zero_le _)).2 (fun L hL=>(below_setCells b _ 0 w L hL).1)
theorem zQc:(zNZ 20).all (·.oneCell')=true:=by
 unfold zNZ;rw [List.all_toArray];simp [Value.oneCell']
theorem zEi {fn:Func} {p:Tmp} {ty:TypeId} (h:fn.results=#[.cell p ty]) (tmps:Array Value) (P:Program) (w:World) :
  (results fn tmps).run P w=((asAddr (tmps.getD p undef)).run P w).andThen fun a w₁=>((loadVar ty a).run P w₁).andThen fun v w₂=>.ok v w₂:=by
 simp only [results,h]
 simp [Sem.run_bind,Result.andThen]
 cases Sem.run P (asAddr (tmps[p]?.getD undef)) w with
 | ok a w1=>dsimp only;cases Sem.run P (loadVar ty a) w1 <;> rfl
 | halt h w1=>rfl
theorem zRu {fn:Func} {p:Tmp} (hr:fn.results=#[.cell p 27]) {tmps:Array Value} {w:World} {b:Nat} {t:TypeId} {A:Array Value} (hp:tmps.getD p undef=.pointer (some ⟨b,0,none⟩)) (hA:w.heap[b]?=some (.cells A t (0,0))) (hs:A.size=20) :
  (results fn tmps).run Tryz.prog w=.ok (.agg A) w:=by
 rw [zEi hr,hp]
 have:=run_loadVar_mid (P:=Tryz.prog) w b 0 27 A.toList _ (qY hA) Tryz.underlying27 rfl (by rw [Tryz.size55];simp [hs])
 simp [asAddr,Result.andThen,this]
theorem zMz (k:Nat) (h:k<20):(zNZ k).setIfInBounds k (.int .i64 (-1))=zNZ (k+1):=by
 unfold zNZ
 have e:20-k=(20-(k+1))+1:=by omega
 rw [List.setIfInBounds_toArray,e,List.replicate_succ,List.set_append_right _ _ (by simp)]
 simp [List.replicate_succ',List.append_assoc]
theorem zE7 (w:World) :
  Calls Tryz.prog 25 #[] w fun e w'=>e=.returned (.agg ((List.replicate 20 (-1:Int)).map (Value.int .i64)).toArray)∧Below w.heap.size w w':=by
 go_enter Tryz.func25,Tryz.ntmps25
 go_wp2_with fail
 go_loopw [2] (fun i wr=>∃ k:Nat,k≤20∧i=.int .i64 k∧wr.heap[w.heap.size+1]?=some (.cells (zNZ k) 27 (0,0))∧wr.heap[w.heap.size]?=some (.cells (zNZ 0) 27 (0,0))∧w.heap.size+1<wr.heap.size∧Below w.heap.size w wr) (fun i _=>20-(intOf i).toNat)
 case atStart=>exact ⟨0,by omega,rfl,zAV _ _ _,zBv _ _ _,by simp,by go_grown⟩
 case round =>
  obtain ⟨k,hk,rfl,hblk,zSl,hlt,hB⟩:=hrel
  have HB:Hid (wr.heap[w.heap.size+1]?=some (.cells (zNZ k) 27 (0,0))):=hblk
  have HB0:Hid (wr.heap[w.heap.size]?=some (.cells (zNZ 0) 27 (0,0))):=zSl
  have HBB:Hid (Below w.heap.size w wr):=hB
  by_cases hl:k<20
  ·have zz:wr.cell? ⟨w.heap.size+1,k,none⟩=some (.int .i64 0):=by
    rw [(zA hblk).1];unfold zNZ;rw [List.getElem?_toArray,List.getElem?_append_right (by simp)];simp only [List.length_replicate,Nat.sub_self];rw [List.getElem?_replicate,if_pos (by omega)]
   have z2:=(zA hblk).2 k
   clear hblk zSl hB
   go_wp2_with fail
   go_roundw
   case rel =>
    refine ⟨k+1,by omega,by go_num,?_,?_,by simpa [World.setCell] using hlt,HBB.out.setCell (p:=⟨w.heap.size+1,k,none⟩) (by simp) _⟩
    ·rw [← zMz k hl];exact Go.heap_setCell_same wr _ k _ _ _ HB.out
    ·rw [Below.heap_setCell _ _ _ _ (by show w.heap.size≠w.heap.size+1;omega)];exact HB0.out
   case measure=>simp [intOf];omega
  ·have e:k=20:=by omega
   subst e
   clear hblk zSl hB
   go_wp2_with (first | (refine zFU (by rfl) (.tmp 1) (by rfl) (w.heap.size+1) (by rfl) HB.out (by rfl) ?_) | (refine zE6 (by rfl) (.tmp 0) (.tmp 9) (by rfl) w.heap.size _ (by rfl) (by rfl) HB0.out (by rfl) (by rfl) zQc ?_;intro w2 r1 r2 r3 r4))
   refine bodyPost_ret (zRu rfl (by rfl) r1 (by rfl)) rfl ⟨rfl,?_⟩
   exact HBB.out.trans (r4 _ (Nat.le_refl _))
end Go.Proofs.YtebpgfodelggoaaGreat
