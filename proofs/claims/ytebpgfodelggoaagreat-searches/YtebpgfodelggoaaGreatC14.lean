import Derived.Test.YtebpgfodelggoaaGreatC13
import Derived.Test.YtebpgfodelggoaaGreatC12
set_option linter.unusedVariables false
set_option linter.unusedSimpArgs false
set_option maxRecDepth 100000
set_option maxHeartbeats 4000000
namespace Go.Proofs.YtebpgfodelggoaaGreat
open Go.RowKit
theorem zJc {w:World} {wb gc gi ga gk cc ci ca ck:Nat} {c:List Mt.Ins} {text:ByteArray} {inn:List Bool} {ar:List Int} {budget:Int} {kn kn':List Bool} {room used room' used':Int} {over:Bool}
  (h:zM w wb gc gi ga gk cc ci ca ck c text inn ar budget kn room used over) (s r:List Int) (ok:Bool) (x:Mt.Ins) (pc:Nat) (h0:s[0]?=some (pc:Int)) (hs:s.length=44) (hr:r.length=44) (hpc:pc≤300) (o0:(x.x==0)=false) (o1:(x.x==1)=true)
  (KL:Hid (∀ z:World,zM z wb gc gi ga gk cc ci ca ck c text inn ar budget kn room used over→Calls Tryz.prog 47 #[.pointer (some ⟨wb,0,none⟩),stV (s.set 0 ((pc:Int)+1))] z fun e w'=>e=.returned (.tuple #[stV r,.bool ok])∧Keep wb gk z w'∧zM w' wb gc gi ga gk cc ci ca ck c text inn ar budget kn' room' used' false)) :
  Calls Tryz.prog 76 #[.pointer (some ⟨wb,0,none⟩),stV s,zCH x] w fun e w'=>e=.returned (.tuple #[stV ((Mt.zCl s r).set 0 x.y),.bool ok])∧Keep wb gk w w'∧zM w' wb gc gi ga gk cc ci ca ck c text inn ar budget kn' room' used' false:=by
 have HS:Hid (s.length=44):=hs
 have HR:Hid (r.length=44):=hr
 have HW:Hid (zM w wb gc gi ga gk cc ci ca ck c text inn ar budget kn room used over):=h
 have hlt:=h.lt
 have lwb:wb<w.heap.size:=hlt.1
 have lgk:gk<w.heap.size:=hlt.2.2.2.2
 have HLT:Hid (wb<w.heap.size∧gc<w.heap.size∧gi<w.heap.size∧ga<w.heap.size∧gk<w.heap.size):=hlt
 clear hs h hr hlt
 unfold stV zCH
 have hz:=vJ
 go_enter Tryz.func76,Tryz.ntmps76
 go_wp2_with (first | (refine zG (by rfl) (.tmp 4) (by rfl) w.heap.size (by rfl) (by exact zA0 _ _ _ _) (by simp [HS.out]) ?_) | (refine zF (by rfl) (.tmp 8) (.tmp 11) (by rfl) (w.heap.size+1+1+1) _ (by rfl) (by rfl) (by exact zJ6 _ _ _ _ _) (by rfl) (by simp [HS.out]) (jC _) ?_;intro w2 r1 r2 r3 r4;have c0:w2.cell? ⟨w.heap.size+1+1+1,0,none⟩=some (.int .i64 (pc:Int)):=(vK r1 0 _ h0);have z0:=(vS r1 0);have R1:Hid (w2.heap[w.heap.size+1+1+1]?=some (.cells (s.map (Value.int .i64)).toArray 93 (0,0))):=(r1);have r3':w2.heap.size=w.heap.size+1+1+1+1:=(by simpa using r3);have R2:Hid (w2.heap[w.heap.size]?=some (.cells (s.map (Value.int .i64)).toArray 93 (0,0))∧w2.heap[w.heap.size+1+1]?=some zCZ):=(⟨(r2 _ (by omega)).trans (zGO _ _ _ _ _),(r2 _ (by omega)).trans (zGQ _ _ _ _ _)⟩);have R5:Hid (w2.heap[w.heap.size+1]?=some (.cells #[.int .i64 x.op,.int .i64 x.x,.int .i64 x.y,.string ⟨x.set.toArray⟩] 112 (0,0))):=((r2 _ (by omega)).trans (zGP _ _ _ _ _));have hB:Below w.heap.size w w2:=((zJ7 _ _ _ _ _).trans (r4 _ (by omega)));clear r1 r2 r3 r4) | (refine zG (by rfl) (.tmp 8) (by rfl) (w.heap.size+1+1+1) (by rfl) (by exact qJ R1.out 0 _) (by simp [HS.out]) ?_) | fail)
 generalize hw3:w2.setCell ⟨w.heap.size+1+1+1,0,none⟩ (.int .i64 ((pc:Int)+1))=w3 at *
 have hB3:Below w.heap.size w w3:=by rw [← hw3];exact hB.setCell (p:=⟨w.heap.size+1+1+1,0,none⟩) (by show w.heap.size≤w.heap.size+1+1+1;omega) _
 have o3:∀ k,k≠w.heap.size+1+1+1→w3.heap[k]?=w2.heap[k]?:=fun k hk=>by rw [← hw3];exact Below.heap_setCell _ _ _ _ hk
 have s3:w3.heap.size=w.heap.size+1+1+1+1:=by rw [← hw3];simpa [World.setCell] using r3'
 have q0:w3.heap[w.heap.size]?=some (.cells (s.map (Value.int .i64)).toArray 93 (0,0)):=(o3 _ (by omega)).trans R2.out.1
 have q2:w3.heap[w.heap.size+1+1]?=some zCZ:=(o3 _ (by omega)).trans R2.out.2
 have q1:w3.heap[w.heap.size+1]?=some (.cells #[.int .i64 x.op,.int .i64 x.x,.int .i64 x.y,.string ⟨x.set.toArray⟩] 112 (0,0)):=(o3 _ (by omega)).trans R5.out
 clear hw3 o3 R1 R2 R5 c0 z0 hB r3' w2
 rw [jD]
 refine (KL.out w3 (HW.out.below hB3)).mono ?_
 rintro e w4 ⟨rfl,hk4,hW4⟩
 have s4:w.heap.size+1+1+1+1≤w4.heap.size:=by rw [← s3];exact hk4.size
 have Q0:Hid (w4.heap[w.heap.size]?=some (.cells (s.map (Value.int .i64)).toArray 93 (0,0))):=(hk4.blk _ (by omega) (by omega) (by omega)).trans q0
 have Q2:Hid (w4.heap[w.heap.size+1+1]?=some zCZ):=(hk4.blk _ (by omega) (by omega) (by omega)).trans q2
 have Q1:Hid (w4.heap[w.heap.size+1]?=some (.cells #[.int .i64 x.op,.int .i64 x.x,.int .i64 x.y,.string ⟨x.set.toArray⟩] 112 (0,0))):=(hk4.blk _ (by omega) (by omega) (by omega)).trans q1
 have K4:Hid (Keep wb gk w w4):=(Keep.below hB3).trans hk4
 have W4:Hid (zM w4 wb gc gi ga gk cc ci ca ck c text inn ar budget kn' room' used' false):=hW4
 clear KL HW hB3 s3 q0 q1 q2 hk4 hW4
 go_wp2_with (first | (refine zF (by rfl) (.tmp 9) (.tmp 20) (by rfl) w4.heap.size (r.map (Value.int .i64)).toArray (by rfl) (by rfl) (by exact heap_alloc_new _ _) (by rfl) (by simp [HR.out]) (jC _) ?_;intro w5 r1 r2 r3 r4;have hB5:Below w4.heap.size w4 w5:=(((Below.refl _ _).alloc (Nat.le_refl _) _).trans (r4 _ (Nat.le_refl _)));have c8:w5.cell? ⟨wb,8,none⟩=some (.bool false):=((zA (W4.out.below hB5).cell).1 8);have y1:=(zA ((hB5.block _ (by omega)).trans Q1.out)).1;have P0:Hid (w5.heap[w.heap.size]?=some (.cells (s.map (Value.int .i64)).toArray 93 (0,0))):=((hB5.block _ (by omega)).trans Q0.out);have P2:Hid (w5.heap[w.heap.size+1+1]?=some zCZ):=((hB5.block _ (by omega)).trans Q2.out);have R1:Hid (w5.heap[w4.heap.size]?=some (.cells (r.map (Value.int .i64)).toArray 93 (0,0))):=(r1);have s5:w5.heap.size=w4.heap.size+1:=(by simpa using r3);have l5:wb<w5.heap.size:=(by omega);have l6:w.heap.size+1<w5.heap.size:=(by omega);have l7:w4.heap.size<w5.heap.size:=(by omega);have l8:w.heap.size<w5.heap.size:=(by omega);have B5:Hid (Below w4.heap.size w4 w5):=(hB5);have hr0:r[0]?=some (Mt.gt r 0):=(by unfold Mt.gt;rw [List.getD_eq_getElem?_getD,List.getElem?_eq_getElem (by rw [HR.out];omega)];rfl);have c90:=(vK R1.out 0 _ hr0);have z90:=(vS R1.out 0);have c00:=(vK P0.out 0 _ h0);have z00:=(vS P0.out 0);clear r1 r2 r3 r4 hB5) | (refine zFV (by rfl) (.tmp 38) (by rfl) w4.heap.size (by rfl) r HR.out R1.out ?_) | (refine zE9 (by rfl) (.tmp 40) (.tmp 39) (by rfl) w.heap.size s r HS.out HR.out (by rfl) (by rfl) (by exact P0.out) ?_;intro w8 r1 r2 r3 r4;have V0:Hid (w8.heap[w.heap.size]?=some (.cells ((Mt.zCl s r).map (Value.int .i64)).toArray 93 (0,0))):=(r1);have V2:Hid (w8.heap[w.heap.size+1+1]?=some zCZ):=((r2 _ (by omega)).trans P2.out);have y8:=(zA (((r2 _ (by omega)).trans (B5.out.block _ (by omega))).trans Q1.out)).1;have hw0:(Mt.zCl s r)[0]?=some (pc:Int):=(by have:=Mt.zBz s r HS.out HR.out 0;rw [if_neg (by omega)] at this;unfold Mt.gt at this;rw [List.getD_eq_getElem?_getD,List.getD_eq_getElem?_getD,h0] at this;rw [List.getElem?_eq_getElem (by rw [Mt.xE s r HS.out HR.out];omega)] at this ⊢;simpa using this);have c80:=(vK r1 0 _ hw0);have z80:=(vS r1 0);have l88:w.heap.size<w8.heap.size:=(by omega);have l89:w.heap.size+1<w8.heap.size:=(by omega);have E8:Hid (w8.heap.size=w5.heap.size∧(∀ k,k≠w.heap.size→w8.heap[k]?=w5.heap[k]?)∧Below w.heap.size w5 w8):=(⟨r3,r2,r4 _ (Nat.le_refl _)⟩);clear r1 r2 r3 r4) | (refine zG (by rfl) (.tmp 4) (by rfl) w.heap.size (by rfl) (by exact qJ V0.out 0 _) (by simp [Mt.xE s r HS.out HR.out]) ?_) | (refine zF (by rfl) (.tmp 6) (.tmp 44) (by rfl) (w.heap.size+1+1) _ (by rfl) (by rfl) (by exact (Below.heap_setCell _ _ _ _ (by show w.heap.size+1+1≠w.heap.size;omega)).trans V2.out) (by rfl) (by simp [Mt.xE s r HS.out HR.out]) (by simp only [jD];exact jC _) ?_;intro w6 r1 r2 r3 r4) | fail)
 have s6:w.heap.size≤w6.heap.size:=by
  have:=E8.out.1
  rw [r3];simp [World.setCell];omega
 have o6:∀ k,k<w.heap.size→w6.heap[k]?=w5.heap[k]?:=fun k hk=>by
  rw [r2 k (by omega),Below.heap_setCell _ _ _ _ (by show k≠w.heap.size;omega)];exact E8.out.2.1 k (by omega)
 have hK:Keep wb gk w w6:=by
  have k5:=K4.out.trans (Keep.below B5.out)
  have b6:=r4 w.heap.size (by omega)
  have e8:=E8.out.2.2
  exact ⟨(b6.os.trans e8.os).trans k5.os,(b6.tape.trans e8.tape).trans k5.tape,(b6.output.trans e8.output).trans k5.output,s6,fun i hi h1 h2=>(o6 i hi).trans (k5.block i hi h1 h2)⟩
 have hW:zM w6 wb gc gi ga gk cc ci ca ck c text inn ar budget kn' room' used' false:=by
  have w5W:=W4.out.below B5.out
  have hx:=HLT.out
  exact w5W.mem (o6 _ (by omega)) (o6 _ (by omega)) (o6 _ (by omega)) (o6 _ (by omega)) (o6 _ (by omega))
 refine bodyPost_ret (vO rfl (by rfl) r1 (by simp [Mt.xE s r HS.out HR.out])) rfl ⟨?_,hK,hW⟩
 simp only [jD]
 rfl
theorem zJd {w:World} {wb gc gi ga gk cc ci ca ck:Nat} {c:List Mt.Ins} {text:ByteArray} {inn:List Bool} {ar:List Int} {budget:Int} {kn kn':List Bool} {room used room' used':Int} {over:Bool}
  (h:zM w wb gc gi ga gk cc ci ca ck c text inn ar budget kn room used over) (s r:List Int) (ok:Bool) (x:Mt.Ins) (pc:Nat) (h0:s[0]?=some (pc:Int)) (hs:s.length=44) (hr:r.length=44) (hpc:pc≤300) (o0:(x.x==0)=false) (o1:(x.x==1)=false)
  (KL:Hid (∀ z:World,zM z wb gc gi ga gk cc ci ca ck c text inn ar budget kn room used over→Calls Tryz.prog 47 #[.pointer (some ⟨wb,0,none⟩),stV (s.set 0 ((pc:Int)+1))] z fun e w'=>e=.returned (.tuple #[stV r,.bool ok])∧Keep wb gk z w'∧zM w' wb gc gi ga gk cc ci ca ck c text inn ar budget kn' room' used' false)) :
  Calls Tryz.prog 76 #[.pointer (some ⟨wb,0,none⟩),stV s,zCH x] w fun e w'=>e=.returned (.tuple #[stV (s.set 0 x.y),.bool (!ok)])∧Keep wb gk w w'∧zM w' wb gc gi ga gk cc ci ca ck c text inn ar budget kn' room' used' false:=by
 have HS:Hid (s.length=44):=hs
 have HR:Hid (r.length=44):=hr
 have HW:Hid (zM w wb gc gi ga gk cc ci ca ck c text inn ar budget kn room used over):=h
 have hlt:=h.lt
 have lwb:wb<w.heap.size:=hlt.1
 have lgk:gk<w.heap.size:=hlt.2.2.2.2
 have HLT:Hid (wb<w.heap.size∧gc<w.heap.size∧gi<w.heap.size∧ga<w.heap.size∧gk<w.heap.size):=hlt
 clear hs h hr hlt
 unfold stV zCH
 have hz:=vJ
 go_enter Tryz.func76,Tryz.ntmps76
 go_wp2_with (first | (refine zG (by rfl) (.tmp 4) (by rfl) w.heap.size (by rfl) (by exact zA0 _ _ _ _) (by simp [HS.out]) ?_) | (refine zF (by rfl) (.tmp 8) (.tmp 11) (by rfl) (w.heap.size+1+1+1) _ (by rfl) (by rfl) (by exact zJ6 _ _ _ _ _) (by rfl) (by simp [HS.out]) (jC _) ?_;intro w2 r1 r2 r3 r4;have c0:w2.cell? ⟨w.heap.size+1+1+1,0,none⟩=some (.int .i64 (pc:Int)):=(vK r1 0 _ h0);have z0:=(vS r1 0);have R1:Hid (w2.heap[w.heap.size+1+1+1]?=some (.cells (s.map (Value.int .i64)).toArray 93 (0,0))):=(r1);have r3':w2.heap.size=w.heap.size+1+1+1+1:=(by simpa using r3);have R2:Hid (w2.heap[w.heap.size]?=some (.cells (s.map (Value.int .i64)).toArray 93 (0,0))∧w2.heap[w.heap.size+1+1]?=some zCZ):=(⟨(r2 _ (by omega)).trans (zGO _ _ _ _ _),(r2 _ (by omega)).trans (zGQ _ _ _ _ _)⟩);have R5:Hid (w2.heap[w.heap.size+1]?=some (.cells #[.int .i64 x.op,.int .i64 x.x,.int .i64 x.y,.string ⟨x.set.toArray⟩] 112 (0,0))):=((r2 _ (by omega)).trans (zGP _ _ _ _ _));have hB:Below w.heap.size w w2:=((zJ7 _ _ _ _ _).trans (r4 _ (by omega)));clear r1 r2 r3 r4) | (refine zG (by rfl) (.tmp 8) (by rfl) (w.heap.size+1+1+1) (by rfl) (by exact qJ R1.out 0 _) (by simp [HS.out]) ?_) | fail)
 generalize hw3:w2.setCell ⟨w.heap.size+1+1+1,0,none⟩ (.int .i64 ((pc:Int)+1))=w3 at *
 have hB3:Below w.heap.size w w3:=by rw [← hw3];exact hB.setCell (p:=⟨w.heap.size+1+1+1,0,none⟩) (by show w.heap.size≤w.heap.size+1+1+1;omega) _
 have o3:∀ k,k≠w.heap.size+1+1+1→w3.heap[k]?=w2.heap[k]?:=fun k hk=>by rw [← hw3];exact Below.heap_setCell _ _ _ _ hk
 have s3:w3.heap.size=w.heap.size+1+1+1+1:=by rw [← hw3];simpa [World.setCell] using r3'
 have q0:w3.heap[w.heap.size]?=some (.cells (s.map (Value.int .i64)).toArray 93 (0,0)):=(o3 _ (by omega)).trans R2.out.1
 have q2:w3.heap[w.heap.size+1+1]?=some zCZ:=(o3 _ (by omega)).trans R2.out.2
 have q1:w3.heap[w.heap.size+1]?=some (.cells #[.int .i64 x.op,.int .i64 x.x,.int .i64 x.y,.string ⟨x.set.toArray⟩] 112 (0,0)):=(o3 _ (by omega)).trans R5.out
 clear hw3 o3 R1 R2 R5 c0 z0 hB r3' w2
 rw [jD]
 refine (KL.out w3 (HW.out.below hB3)).mono ?_
 rintro e w4 ⟨rfl,hk4,hW4⟩
 have s4:w.heap.size+1+1+1+1≤w4.heap.size:=by rw [← s3];exact hk4.size
 have Q0:Hid (w4.heap[w.heap.size]?=some (.cells (s.map (Value.int .i64)).toArray 93 (0,0))):=(hk4.blk _ (by omega) (by omega) (by omega)).trans q0
 have Q2:Hid (w4.heap[w.heap.size+1+1]?=some zCZ):=(hk4.blk _ (by omega) (by omega) (by omega)).trans q2
 have Q1:Hid (w4.heap[w.heap.size+1]?=some (.cells #[.int .i64 x.op,.int .i64 x.x,.int .i64 x.y,.string ⟨x.set.toArray⟩] 112 (0,0))):=(hk4.blk _ (by omega) (by omega) (by omega)).trans q1
 have K4:Hid (Keep wb gk w w4):=(Keep.below hB3).trans hk4
 have W4:Hid (zM w4 wb gc gi ga gk cc ci ca ck c text inn ar budget kn' room' used' false):=hW4
 clear KL HW hB3 s3 q0 q1 q2 hk4 hW4
 go_wp2_with (first | (refine zF (by rfl) (.tmp 9) (.tmp 20) (by rfl) w4.heap.size (r.map (Value.int .i64)).toArray (by rfl) (by rfl) (by exact heap_alloc_new _ _) (by rfl) (by simp [HR.out]) (jC _) ?_;intro w5 r1 r2 r3 r4;have hB5:Below w4.heap.size w4 w5:=(((Below.refl _ _).alloc (Nat.le_refl _) _).trans (r4 _ (Nat.le_refl _)));have c8:w5.cell? ⟨wb,8,none⟩=some (.bool false):=((zA (W4.out.below hB5).cell).1 8);have y1:=(zA ((hB5.block _ (by omega)).trans Q1.out)).1;have P0:Hid (w5.heap[w.heap.size]?=some (.cells (s.map (Value.int .i64)).toArray 93 (0,0))):=((hB5.block _ (by omega)).trans Q0.out);have P2:Hid (w5.heap[w.heap.size+1+1]?=some zCZ):=((hB5.block _ (by omega)).trans Q2.out);have R1:Hid (w5.heap[w4.heap.size]?=some (.cells (r.map (Value.int .i64)).toArray 93 (0,0))):=(r1);have s5:w5.heap.size=w4.heap.size+1:=(by simpa using r3);have l5:wb<w5.heap.size:=(by omega);have l6:w.heap.size+1<w5.heap.size:=(by omega);have l7:w4.heap.size<w5.heap.size:=(by omega);have l8:w.heap.size<w5.heap.size:=(by omega);have B5:Hid (Below w4.heap.size w4 w5):=(hB5);have hr0:r[0]?=some (Mt.gt r 0):=(by unfold Mt.gt;rw [List.getD_eq_getElem?_getD,List.getElem?_eq_getElem (by rw [HR.out];omega)];rfl);have c90:=(vK R1.out 0 _ hr0);have z90:=(vS R1.out 0);have c00:=(vK P0.out 0 _ h0);have z00:=(vS P0.out 0);clear r1 r2 r3 r4 hB5) | (refine zG (by rfl) (.tmp 4) (by rfl) w.heap.size (by rfl) (by exact qJ P0.out 0 _) (by simp [HS.out]) ?_) | (refine zF (by rfl) (.tmp 6) (.tmp 49) (by rfl) (w.heap.size+1+1) _ (by rfl) (by rfl) (by exact (Below.heap_setCell _ _ _ _ (by show w.heap.size+1+1≠w.heap.size;omega)).trans P2.out) (by rfl) (by simp [HS.out]) (by simp only [jD];exact jC _) ?_;intro w6 r1 r2 r3 r4) | fail)
 have s6:w.heap.size≤w6.heap.size:=by
  rw [r3];simp [World.setCell];omega
 have o6:∀ k,k<w.heap.size→w6.heap[k]?=w5.heap[k]?:=fun k hk=>by
  rw [r2 k (by omega),Below.heap_setCell _ _ _ _ (by show k≠w.heap.size;omega)]
 have hK:Keep wb gk w w6:=by
  have k5:=K4.out.trans (Keep.below B5.out)
  have b6:=r4 w.heap.size (by omega)
  exact ⟨b6.os.trans k5.os,b6.tape.trans k5.tape,b6.output.trans k5.output,s6,fun i hi h1 h2=>(o6 i hi).trans (k5.block i hi h1 h2)⟩
 have hW:zM w6 wb gc gi ga gk cc ci ca ck c text inn ar budget kn' room' used' false:=by
  have w5W:=W4.out.below B5.out
  have hx:=HLT.out
  exact w5W.mem (o6 _ (by omega)) (o6 _ (by omega)) (o6 _ (by omega)) (o6 _ (by omega)) (o6 _ (by omega))
 refine bodyPost_ret (vO rfl (by rfl) r1 (by simp [HS.out])) rfl ⟨?_,hK,hW⟩
 simp only [jD]
 rfl
structure zFW (c:List Mt.Ins) (text:ByteArray) (ar:List Int):Prop where
 l:c.length≤300
 t:text.size≤60
 ok:Mt.codeOk c
 ar0:∀ p,p<c.length→0≤ar.getD p 0∧ar.getD p 0≤300
 ar1:∀ p,p+1=c.length→ar.getD p 0≤11
theorem zC8 {s:List Int} (h:s.length=44) (i:Nat) (hi:i<44):s[i]?=some (Mt.gt s i):=by
 unfold Mt.gt;rw [List.getD_eq_getElem?_getD,List.getElem?_eq_getElem (by omega)];rfl
theorem zGR {L T:Nat} {s:List Int} (h:Mt.Good L T s):s[0]?=some ((Mt.kY s:Nat):Int)∧s[1]?=some ((Mt.posOf s:Nat):Int)∧((Mt.kY s:Nat):Int)=Mt.gt s 0∧((Mt.posOf s:Nat):Int)=Mt.gt s 1∧Mt.kY s<L∧Mt.posOf s≤T:=by
 have h0:=h.pc0
 have h1:=h.pc1
 have h2:=h.zOw
 have h3:=h.pos1
 have e0:((Mt.kY s:Nat):Int)=Mt.gt s 0:=by unfold Mt.kY;omega
 have e1:((Mt.posOf s:Nat):Int)=Mt.gt s 1:=by unfold Mt.posOf;omega
 exact ⟨by rw [e0];exact zC8 h.len 0 (by omega),by rw [e1];exact zC8 h.len 1 (by omega),e0,e1,by omega,by omega⟩
section
variable {w:World} {wb gc gi ga gk cc ci ca ck:Nat} {c:List Mt.Ins} {text:ByteArray} {inn:List Bool} {ar:List Int} {budget:Int} {kn:List Bool} {room used:Int} {over:Bool}
theorem zOz (h:zM w wb gc gi ga gk cc ci ca ck c text inn ar budget kn room used over) (hE:zFW c text ar) (s:List Int) (hs:Mt.Good c.length text.size s) (hkn:kn.length=c.length*(text.size+1)*12) (hr:0≤room∧room≤5000) :
  Calls Tryz.prog 75 #[.pointer (some ⟨wb,0,none⟩),stV s] w fun e w'=>e=.returned (.bool (Mt.Env.dead ⟨c,text,inn,ar⟩ s kn))∧Keep wb gk w w'∧zM w' wb gc gi ga gk cc ci ca ck c text inn ar budget (Mt.Env.kn' ⟨c,text,inn,ar⟩ s kn room) (Mt.Env.room' ⟨c,text,inn,ar⟩ s kn room) used over:=by
 obtain ⟨h0,h1,e0,e1,l0,l1⟩:=zGR hs
 have ha:=hE.ar0 _ l0
 cases hin:inn.getD (Mt.kY s) false with
 | false =>
  refine (zOl h s _ h0 l0 hE.l hin).mono ?_
  rintro e w' ⟨rfl,hk,hb⟩
  have hi:Mt.Env.isIn ⟨c,text,inn,ar⟩ s=false:=hin
  refine ⟨?_,hk,?_⟩
  ·unfold Mt.Env.dead;rw [hi];rfl
  ·unfold Mt.Env.kn' Mt.Env.room';rw [hi];exact h.below hb
 | true =>
  refine (zQa h s _ _ (ar.getD (Mt.kY s) 0).toNat h0 h1 hs.len l0 l1 hE.l hE.t hin (by omega) (by omega) (fun e=>by have:=hE.ar1 _ e;omega) hkn hr.1 hr.2).mono ?_
  rintro e w' ⟨rfl,hk,hb⟩
  have hi:Mt.Env.isIn ⟨c,text,inn,ar⟩ s=true:=hin
  refine ⟨?_,hk,?_⟩
  ·unfold Mt.Env.dead;rw [hi];rfl
  ·unfold Mt.Env.kn' Mt.Env.room';rw [hi];exact hb
theorem zQf (h:zM w wb gc gi ga gk cc ci ca ck c text inn ar budget kn room used over) (hE:zFW c text ar) (s:List Int) (hs:Mt.Good c.length text.size s) (x:Mt.Ins) (hx:Mt.zK1 c (Mt.kY s) x) :
  Calls Tryz.prog 77 #[.pointer (some ⟨wb,0,none⟩),stV s,zCH x] w fun e w'=>e=.returned (.tuple #[stV (Mt.qU text s x).1,.bool (Mt.qU text s x).2])∧Below w.heap.size w w':=by
 obtain ⟨h0,h1,e0,e1,l0,l1⟩:=zGR hs
 obtain ⟨i2,i3,i4,i5,i6,i11,i13,iS⟩:=hx
 have hl:=hE.l
 have ht:=hE.t
 by_cases o1:x.op=1
 ·have b1:(x.op==1)=true:=by simpa using o1
  unfold Mt.qU
  rw [if_pos o1]
  dsimp only
  rw [← e0,← e1]
  by_cases hp:Mt.posOf s<text.size
  ·have hb:Mt.byI text ((Mt.posOf s:Nat):Int).toNat=((text[Mt.posOf s]'hp).toNat:Int):=by unfold Mt.byI;rw [dif_pos (by omega)];rfl
   rw [if_pos (by omega),hb]
   exact one_byte h s x _ _ h0 h1 hs.len (by omega) l1 ht b1 hp iS
  ·rw [if_neg (by omega)]
   exact zOu h s x _ _ h0 h1 hs.len (by omega) l1 ht b1 hp
 have b1:(x.op==1)=false:=by simpa using o1
 by_cases o3:x.op=3
 ·have b3:(x.op==3)=true:=by simpa using o3
  unfold Mt.qU
  rw [if_neg o1,if_pos o3]
  exact zOo h s x _ _ h0 h1 hs.len b1 b3
 have b3:(x.op==3)=false:=by simpa using o3
 by_cases o4:x.op=4
 ·have b4:(x.op==4)=true:=by simpa using o4
  unfold Mt.qU
  rw [if_neg o1,if_neg o3,if_pos o4]
  dsimp only
  rw [← e0,← e1]
  have:=i4 o4
  exact zOr h s x _ _ h0 h1 hs.len (by omega) l1 ht b1 b3 b4 this.1 this.2
 have b4:(x.op==4)=false:=by simpa using o4
 by_cases o5:x.op=5
 ·have b5:(x.op==5)=true:=by simpa using o5
  unfold Mt.qU
  rw [if_neg o1,if_neg o3,if_neg o4,if_pos o5]
  dsimp only
  rw [← e1]
  have:=i5 o5
  exact zMu h s x _ _ h0 h1 hs.len (by omega) l1 ht b1 b3 b4 b5 this.2.2.1 this.2.2.2
 have b5:(x.op==5)=false:=by simpa using o5
 by_cases o6:x.op=6
 ·have b6:(x.op==6)=true:=by simpa using o6
  unfold Mt.qU
  rw [if_neg o1,if_neg o3,if_neg o4,if_neg o5,if_pos o6]
  dsimp only
  rw [← e0,← e1]
  have:=i6 (.inl o6)
  exact zOs h s x _ _ h0 h1 hs.len (by omega) l1 ht b1 b3 b4 b5 b6 this.1 this.2
 have b6:(x.op==6)=false:=by simpa using o6
 by_cases o7:x.op=7
 ·have b7:(x.op==7)=true:=by simpa using o7
  unfold Mt.qU
  rw [if_neg o1,if_neg o3,if_neg o4,if_neg o5,if_neg o6,if_pos o7]
  dsimp only
  rw [← e0,← e1]
  have:=i6 (.inr (.inl o7))
  exact zMv h s x _ _ h0 h1 hs.len (by omega) l1 ht b1 b3 b4 b5 b6 b7 this.1 this.2
 have b7:(x.op==7)=false:=by simpa using o7
 by_cases o8:x.op=8
 ·have b8:(x.op==8)=true:=by simpa using o8
  have hk:=i6 (.inr (.inr o8))
  have hoP:Mt.qU text s x=Mt.zBT text s x.x:=by
   unfold Mt.qU
   rw [if_neg o1,if_neg o3,if_neg o4,if_neg o5,if_neg o6,if_neg o7,if_pos o8]
  have hlen:(Mt.zBT text s x.x).1.length=44:=by rw [← hoP,Mt.zGN];exact hs.len
  rw [hoP]
  refine zOv h s _ _ x _ _ h0 h1 hs.len hlen (by omega) l1 ht ?_ b1 b3 b4 b5 b6 b7 b8
  intro z hz
  have hpl:=hs.place x.x.toNat (by omega)
  rw [show 2*x.x.toNat=(2*x.x).toNat by omega] at hpl
  rw [show (2*x.x).toNat+1=(2*x.x+1).toNat by omega] at hpl
  have ga:=zC8 hs.len (2+(2*x.x).toNat) (by omega)
  have gb:=zC8 hs.len (2+(2*x.x+1).toNat) (by omega)
  unfold Mt.zBT
  by_cases hneg:Mt.gt s (2+(2*x.x).toNat)<0
  ·rw [if_pos hneg]
   exact zMw hz s x.x _ _ h0 h1 hs.len (by omega) l1 ht hk.1 hk.2 _ _ ga gb (by simpa using hneg)
  ·rw [if_neg hneg]
   have hpl':=hpl.resolve_left hneg
   have ea:(((Mt.gt s (2+(2*x.x).toNat)).toNat:Nat):Int)=Mt.gt s (2+(2*x.x).toNat):=by omega
   have eb:(((Mt.gt s (2+(2*x.x+1).toNat)).toNat:Nat):Int)=Mt.gt s (2+(2*x.x+1).toNat):=by omega
   have ga':s[2+(2*x.x).toNat]?=some (((Mt.gt s (2+(2*x.x).toNat)).toNat:Nat):Int):=by rw [ea];exact ga
   have gb':s[2+(2*x.x+1).toNat]?=some (((Mt.gt s (2+(2*x.x+1).toNat)).toNat:Nat):Int):=by rw [eb];exact gb
   by_cases hlong:(text.size:Int)<Mt.gt s 1+(Mt.gt s (2+(2*x.x+1).toNat)-Mt.gt s (2+(2*x.x).toNat))
   ·rw [if_pos hlong]
    exact zMx hz s x.x _ _ h0 h1 hs.len (by omega) l1 ht hk.1 hk.2 _ _ ga' gb' (by omega) (by omega) (by omega)
   ·rw [if_neg hlong]
    have:=zMy hz s x.x _ _ h0 h1 hs.len (by omega) l1 ht hk.1 hk.2 _ _ ga' gb' (by omega) (by omega) (by omega)
    rw [ea,eb,e0,e1] at this
    have e1':(Mt.gt s 1).toNat=Mt.posOf s:=rfl
    dsimp only
    rw [e1']
    exact this
 have b8:(x.op==8)=false:=by simpa using o8
 by_cases o9:x.op=9
 ·have b9:(x.op==9)=true:=by simpa using o9
  unfold Mt.qU
  rw [if_neg o1,if_neg o3,if_neg o4,if_neg o5,if_neg o6,if_neg o7,if_neg o8,if_pos o9]
  dsimp only
  rw [← e0,← e1]
  exact zOp h s x _ _ h0 h1 hs.len (by omega) l1 ht b1 b3 b4 b5 b6 b7 b8 b9
 have b9:(x.op==9)=false:=by simpa using o9
 by_cases o10:x.op=10
 ·have b10:(x.op==10)=true:=by simpa using o10
  unfold Mt.qU
  rw [if_neg o1,if_neg o3,if_neg o4,if_neg o5,if_neg o6,if_neg o7,if_neg o8,if_neg o9,if_pos o10]
  dsimp only
  rw [← e0,← e1]
  exact zOt h s x _ _ h0 h1 hs.len (by omega) l1 ht b1 b3 b4 b5 b6 b7 b8 b9 b10
 have b10:(x.op==10)=false:=by simpa using o10
 unfold Mt.qU
 rw [if_neg o1,if_neg o3,if_neg o4,if_neg o5,if_neg o6,if_neg o7,if_neg o8,if_neg o9,if_neg o10]
 dsimp only
 rw [← e0]
 exact zOq h s x _ _ h0 h1 hs.len (by omega) l1 ht b1 b3 b4 b5 b6 b7 b8 b9 b10
theorem zMA {kn':List Bool} {room' used':Int} {ov:Bool} (h:zM w wb gc gi ga gk cc ci ca ck c text inn ar budget kn room used over) (hE:zFW c text ar) (s r s':List Int) (ok b':Bool) (x:Mt.Ins) (hs:Mt.Good c.length text.size s) (hr:r.length=44)
  (h1:ov=true→s'=s∧b'=false) (h2:ov=false→(s',b')=Mt.qP s x r ok)
  (KL:∀ z:World,zM z wb gc gi ga gk cc ci ca ck c text inn ar budget kn room used over→Calls Tryz.prog 47 #[.pointer (some ⟨wb,0,none⟩),stV (s.set 0 (Mt.gt s 0+1))] z fun e w'=>e=.returned (.tuple #[stV r,.bool ok])∧Keep wb gk z w'∧zM w' wb gc gi ga gk cc ci ca ck c text inn ar budget kn' room' used' ov) :
  Calls Tryz.prog 76 #[.pointer (some ⟨wb,0,none⟩),stV s,zCH x] w fun e w'=>e=.returned (.tuple #[stV s',.bool b'])∧Keep wb gk w w'∧zM w' wb gc gi ga gk cc ci ca ck c text inn ar budget kn' room' used' ov:=by
 obtain ⟨h0,_,e0,e1,l0,l1⟩:=zGR hs
 have hl:=hE.l
 rw [← e0] at KL
 cases ov with
 | true =>
  obtain ⟨rfl,rfl⟩:=h1 rfl
  exact zK4 h _ r ok x _ h0 hs.len hr (by omega) KL
 | false =>
  have h3:=h2 rfl
  unfold Mt.qP at h3
  by_cases o0:x.x=0
  ·rw [if_pos o0] at h3
   obtain ⟨rfl,rfl⟩:=Prod.mk.inj h3
   exact zHY h s r b' x _ h0 hs.len hr (by omega) (by simpa using o0) KL
  rw [if_neg o0] at h3
  by_cases o1:x.x=1
  ·rw [if_pos o1] at h3
   obtain ⟨rfl,rfl⟩:=Prod.mk.inj h3
   exact zJc h s r b' x _ h0 hs.len hr (by omega) (by simpa using o0) (by simpa using o1) KL
  rw [if_neg o1] at h3
  obtain ⟨rfl,rfl⟩:=Prod.mk.inj h3
  exact zJd h s r ok x _ h0 hs.len hr (by omega) (by simpa using o0) (by simpa using o1) KL
end
end Go.Proofs.YtebpgfodelggoaaGreat
