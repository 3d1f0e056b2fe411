import Derived.Test.YtebpgfodelggoabC37
import Derived.Deep.LoopGhost
set_option linter.unusedVariables false
set_option linter.unusedSimpArgs false
set_option maxRecDepth 100000
set_option maxHeartbeats 8000000
namespace Go.Proofs.Ytebpgfodelggoab
open Go.RowKit
def LookDone (k:Pk) (wo:Option Addr) (P:Told) (w:World) (q:List Int) (x:Mt.Ins) (steps:Int) (hd:List Bool) (room:Int) (W:List (List Int)) (b:Bool) (w':World):Prop :=
 (x.op=2→b=false∧Waits k wo w steps hd room ((W++[q.set 0 x.y])++[q.set 0 x.x]) w') ∧
 (x.op=12∨x.op=13→b=true∧Waits k wo w steps hd room W w') ∧
 (x.op=11→b=false∧SubDone k wo P w q x w') ∧
 (x.op≠2→x.op≠11→x.op≠12→x.op≠13→b=false∧Waits k wo w steps hd room (addIf W (Mt.oneP k.t q x).2 (Mt.oneP k.t q x).1) w')
section
variable {k:Pk} {w:World} {steps:Int} {hd:List Bool} {room:Int} {wo:Option Addr} {wc:Nat} {W:List (List Int)}
theorem PlayAt.codeAt (h:PlayAt k w steps hd room wo wc W) (p j:Nat) (hp:p<k.c.length) (hj:j<4):w.cell? ⟨k.gc,p*4+j,none⟩=(insCells (k.c.getD p Mt.ins0))[j]?:=by
 have hc:=h.code
 unfold ownIns at hc
 rw [World.ownsRow.cellAt hc (p*4+j) (by omega),ins_flat_at k.c p j hp hj]
structure LookMem (k:Pk) (wo:Option Addr) (wc:Nat) (w:World) (n:Nat) (q:List Int) (x:Mt.Ins) (steps:Int) (hd:List Bool) (room:Int) (W:List (List Int)) (w2:World):Prop where
 s:w2.heap[n]?=some (.cells (stA q) 100 (0,0))
 i:w2.heap[n+1]?=some (.cells (insA x) 70 (0,0))
 b:Below n w w2
 z:w2.heap.size=n+2
 hn:n=w.heap.size
 p:PlayAt k w steps hd room wo wc W
section
variable {n:Nat} {q:List Int} {x:Mt.Ins} {w2:World}
theorem LookMem.wait (h:LookMem k wo wc w n q x steps hd room W w2) (u:List Int) (z:World) (y:Int) (hu:u.length=43) (hz:Below n w2 z) (hl:W.length≤100000) :
  Calls Try.prog 57 #[.pointer (some ⟨k.g,0,none⟩),.agg (stA u),.int .i64 y] z fun e w'=>e=.returned (.tuple #[])∧Waits k wo w steps hd room (W++[u.set 0 y]) w'∧(∀ j,n≤j→j<z.heap.size→w'.heap[j]?=z.heap[j]?)∧z.heap.size≤w'.heap.size:=by
 have hb:Below w.heap.size w z:=by rw [← h.hn];exact h.b.trans hz
 have hp:=h.p.below hb
 have hlt:=h.p.lt
 have hn:=h.hn
 refine (wait_prog u y hu hp (by omega)).mono ?_
 rintro e w' ⟨rfl,wo',wc',hP,hS⟩
 refine ⟨rfl,⟨wo',wc',hP,(PStep.below hb).trans hS⟩,fun j h1 h2=>hS.block j h2 (by omega) (by omega) (fun e=>by have:=(hlt.2.2.2.2.2 j e).2;omega),hS.size⟩
theorem LookMem.set (h:LookMem k wo wc w n q x steps hd room W w2) (hq:q.length=43) (j:Nat) (v:Int):(w2.setCell ⟨n,j,none⟩ (.int .i64 v)).heap[n]?=some (.cells (stA (q.set j v)) 100 (0,0))∧Below n w2 (w2.setCell ⟨n,j,none⟩ (.int .i64 v))∧(w2.setCell ⟨n,j,none⟩ (.int .i64 v)).heap[n+1]?=some (.cells (insA x) 70 (0,0)):=by
 refine ⟨?_,(Below.refl _ _).setCell (p:=⟨n,j,none⟩) (Nat.le_refl _) _,?_⟩
 ·rw [← stA_set q hq];exact Go.heap_setCell_same w2 n j _ _ _ h.s
 ·exact (Below.heap_setCell _ _ _ _ (by show n+1≠n;omega)).trans h.i
end
theorem look_prog (h:PlayAt k w steps hd room wo wc W) (q:List Int) (hq:q.length=43) (pc pos:Nat) (hp0:Mt.gt q 0=pc) (hp1:Mt.gt q 1=pos) (hpc:pc<k.c.length) (hc:k.c.length≤300) (hpos:pos≤60) (hW:W.length≤90000) (P:Told) (x:Mt.Ins) (hx:k.c.getD pc Mt.ins0=x)
  (m4:x.op=4→0≤x.x∧x.x<11) (m5:x.op=5→0≤x.y∧x.y<11) (m6:x.op=6∨x.op=7→0≤x.x∧x.x<10) (m1:1≤x.op∧x.op≤13)
  (hcmp:∀ z:World,PlayAt k z steps hd room wo wc W→(x.op=1∨x.op=8∨x.op=9∨x.op=10)→Calls Try.prog 72 #[.pointer (some ⟨k.g,0,none⟩),.agg (stA q),.agg (insA x)] z fun e w'=>e=.returned (.tuple #[])∧Waits k wo z steps hd room (addIf W (Mt.oneP k.t q x).2 (Mt.oneP k.t q x).1) w')
  (hsub:∀ z:World,PlayAt k z steps hd room wo wc W→x.op=11→Calls Try.prog 71 #[.pointer (some ⟨k.g,0,none⟩),.agg (stA q),.agg (insA x)] z fun e w'=>e=.returned (.tuple #[])∧SubDone k wo P z q x w') :
  Calls Try.prog 59 #[.pointer (some ⟨k.g,0,none⟩),.agg (stA q)] w fun e w'=>∃ b,e=.returned (.bool b)∧LookDone k wo P w q x steps hd room W b w':=by
 have c0:=h.cells.1
 have j0:=h.codeAt pc 0 hpc (by omega)
 have j1:=h.codeAt pc 1 hpc (by omega)
 have j2:=h.codeAt pc 2 hpc (by omega)
 have j3:=h.codeAt pc 3 hpc (by omega)
 rw [hx] at j0 j1 j2 j3
 have hg:k.g<w.heap.size:=h.lt.1
 have hgc:k.gc<w.heap.size:=h.lt.2.1
 have HP0:Hid (PlayAt k w steps hd room wo wc W):=h
 have hpc':(pc:Int)<(k.c.length:Int):=by omega
 have HX4:Hid ((x.op=4→0≤x.x∧x.x<11)∧(x.op=5→0≤x.y∧x.y<11)∧(x.op=6∨x.op=7→0≤x.x∧x.x<10)∧(1≤x.op∧x.op≤13)):=⟨m4,m5,m6,m1⟩
 have HCMP:Hid (∀ z:World,PlayAt k z steps hd room wo wc W→(x.op=1∨x.op=8∨x.op=9∨x.op=10)→Calls Try.prog 72 #[.pointer (some ⟨k.g,0,none⟩),.agg (stA q),.agg (insA x)] z fun e w'=>e=.returned (.tuple #[])∧Waits k wo z steps hd room (addIf W (Mt.oneP k.t q x).2 (Mt.oneP k.t q x).1) w'):=hcmp
 have HSUB:Hid (∀ z:World,PlayAt k z steps hd room wo wc W→x.op=11→Calls Try.prog 71 #[.pointer (some ⟨k.g,0,none⟩),.agg (stA q),.agg (insA x)] z fun e w'=>e=.returned (.tuple #[])∧SubDone k wo P z q x w'):=hsub
 clear h m4 m5 m6 m1 hcmp hsub hx
 generalize hgg:k.g=g at *
 generalize k.gc=gc at *
 generalize k.c.length=CL at *
 generalize k.cc=ccc at *
 go_enter Try.func59,Try.ntmps59
 go_upto_region 1 with fail
 generalize hW1:w.alloc (.cells (stA q) 100)=W1 at *
 have B1:Below w.heap.size w W1:=by rw [← hW1];exact (Below.refl _ _).alloc (Nat.le_refl _) _
 have T1:W1.heap[w.heap.size]?=some (.cells (stA q) 100 (0,0)):=by rw [← hW1];exact heap_alloc_new _ _
 have Z1:W1.heap.size=w.heap.size+1:=by rw [← hW1];simp
 have x0:W1.cell? ⟨w.heap.size,0,none⟩=some (.int .i64 pc):=by rw [(cell_block T1).1 0,← hp0];exact stA_at q 0 (by omega)
 have o:∀ b j,b<w.heap.size→W1.cell? ⟨b,j,none⟩=w.cell? ⟨b,j,none⟩:=fun b j hb=>World.cell?_of_block (a:=⟨b,j,none⟩) (B1.block b hb)
 rw [← o _ _ hg] at c0
 rw [← o _ _ hgc] at j0 j1 j2 j3
 have k0:W1.cell? ⟨gc,pc*4,none⟩=some (.int .i64 x.op):=j0
 have k1:W1.cell? ⟨gc,pc*4+1,none⟩=some (.int .i64 x.x):=j1
 have k2:W1.cell? ⟨gc,pc*4+2,none⟩=some (.int .i64 x.y):=j2
 have k3:W1.cell? ⟨gc,pc*4+3,none⟩=some (.string ⟨x.set.toArray⟩):=j3
 clear o j0 j1 j2 j3 hW1
 generalize hnn:w.heap.size=n at *
 go_region
 have HM:LookMem k wo wc w n q x steps hd room W (W1.alloc (.cells (insA x) 70)).drew:=by
  refine ⟨?_,?_,?_,by simp [Z1],hnn.symm,HP0.out⟩
  ·show (W1.alloc _).heap[n]?=_
   rw [heap_old _ _ _ (by omega)];exact T1
  ·show (W1.alloc _).heap[n+1]?=_
   rw [← Z1];exact heap_alloc_new _ _
  ·exact (B1.alloc (by omega) _).drew
 have hw2:(W1.alloc (.cells (insA x) 70)).drew=(W1.alloc (.cells #[.int .i64 x.op,.int .i64 x.x,.int .i64 x.y,.string ⟨x.set.toArray⟩] 70)).drew:=rfl
 rw [hw2] at HM
 clear hw2
 generalize (W1.alloc (.cells #[.int .i64 x.op,.int .i64 x.x,.int .i64 x.y,.string ⟨x.set.toArray⟩] 70)).drew=w2 at *
 have S2:=HM.s
 have hcS:=cell_block S2
 have hcI:=cell_block HM.i
 have i0:w2.cell? ⟨n+1,0,none⟩=some (.int .i64 x.op):=hcI.1 0
 have i1:w2.cell? ⟨n+1,1,none⟩=some (.int .i64 x.x):=hcI.1 1
 have i2:w2.cell? ⟨n+1,2,none⟩=some (.int .i64 x.y):=hcI.1 2
 have s0:w2.cell? ⟨n,0,none⟩=some (.int .i64 pc):=by rw [hcS.1 0,← hp0];exact stA_at q 0 (by omega)
 have s1:w2.cell? ⟨n,1,none⟩=some (.int .i64 pos):=by rw [hcS.1 1,← hp1];exact stA_at q 1 (by omega)
 have HSJ:Hid (∀ j,j<43→w2.cell? ⟨n,j,none⟩=some (.int .i64 (Mt.gt q j))∧w2.frozen? ⟨n,j,none⟩=false):=fun j hj=>⟨by rw [hcS.1 j];exact stA_at q j hj,hcS.2 j⟩
 have HMH:Hid (LookMem k wo wc w n q x steps hd room W w2):=HM
 have HWT:Hid (∀ (u:List Int) (z:World) (y:Int),u.length=43→Below n w2 z→Calls Try.prog 57 #[.pointer (some ⟨g,0,none⟩),.agg (stA u),.int .i64 y] z fun e w'=>e=.returned (.tuple #[])∧Waits k wo w steps hd room (W++[u.set 0 y]) w'∧(∀ j,n≤j→j<z.heap.size→w'.heap[j]?=z.heap[j]?)∧z.heap.size≤w'.heap.size):=fun u z y hu hz=>by
  rw [← hgg];exact HM.wait u z y hu hz (by omega)
 have HPZ:Hid (PlayAt k w2 steps hd room wo wc W):=HM.p.below (by rw [hnn];exact HM.b)
 have Z2:=HM.z
 have HB2:Hid (Below n w w2):=HM.b
 have HX5:=HX4.out
 clear hcS hcI HM x0 c0 k0 k1 k2 k3 T1 Z1 B1
 have HOP:Hid (((x.op==2)=true)∨((x.op==2)=false∧(x.op==3)=true)∨((x.op==2)=false∧(x.op==3)=false∧(x.op==4)=true)∨((x.op==2)=false∧(x.op==3)=false∧(x.op==4)=false∧(x.op==5)=true)
  ∨ ((x.op==2)=false∧(x.op==3)=false∧(x.op==4)=false∧(x.op==5)=false∧(x.op==6)=true)∨((x.op==2)=false∧(x.op==3)=false∧(x.op==4)=false∧(x.op==5)=false∧(x.op==6)=false∧(x.op==7)=true)
  ∨ ((x.op==2)=false∧(x.op==3)=false∧(x.op==4)=false∧(x.op==5)=false∧(x.op==6)=false∧(x.op==7)=false∧(x.op==11)=true)
  ∨ ((x.op==2)=false∧(x.op==3)=false∧(x.op==4)=false∧(x.op==5)=false∧(x.op==6)=false∧(x.op==7)=false∧(x.op==11)=false∧(x.op==12)=true)
  ∨ ((x.op==2)=false∧(x.op==3)=false∧(x.op==4)=false∧(x.op==5)=false∧(x.op==6)=false∧(x.op==7)=false∧(x.op==11)=false∧(x.op==12)=false∧(x.op==13)=true)
  ∨ ((x.op==2)=false∧(x.op==3)=false∧(x.op==4)=false∧(x.op==5)=false∧(x.op==6)=false∧(x.op==7)=false∧(x.op==11)=false∧(x.op==12)=false∧(x.op==13)=false)):=by
  show _∨_
  simp only [beq_iff_eq,beq_eq_false_iff_ne]
  omega
 obtain ⟨m4,m5,m6,m1⟩:=HX5
 rcases HOP.out with e2 | ⟨e2,e3⟩ | ⟨e2,e3,e4⟩ | ⟨e2,e3,e4,e5⟩ | ⟨e2,e3,e4,e5,e6⟩ | ⟨e2,e3,e4,e5,e6,e7⟩ | ⟨e2,e3,e4,e5,e6,e7,e11⟩ | ⟨e2,e3,e4,e5,e6,e7,e11,e12⟩ | ⟨e2,e3,e4,e5,e6,e7,e11,e12,e13⟩ | ⟨e2,e3,e4,e5,e6,e7,e11,e12,e13⟩
 ·have HO:Hid (x.op=2):=by show _=_;simpa using e2
  clear m4 m5 m6 m1
  go_wp2_with (refine load_blk 100 43 Try.underlying100 rfl Try.sizeSt (by rfl) (.tmp 3) (by rfl) n (by rfl) S2 (stA_size _) ?_)
  refine (HWT.out q w2 x.y hq (Below.refl _ _)).mono ?_
  rintro e w3 ⟨rfl,hWt,hO,hz3⟩
  obtain ⟨wo',wc',hP,hS⟩:=hWt
  have S3:w3.heap[n]?=some (.cells (stA q) 100 (0,0)):=(hO n (Nat.le_refl _) (by omega)).trans S2
  have I3:=(hO (n+1) (by omega) (by omega)).trans HMH.out.i
  have v1:w3.cell? ⟨n+1,1,none⟩=some (.int .i64 x.x):=(cell_block I3).1 1
  have H2:=wait_prog q x.x hq hP (by simp;omega)
  rw [hgg] at H2
  have H2H:Hid (Calls Try.prog 57 #[.pointer (some ⟨g,0,none⟩),.agg (stA q),.int .i64 x.x] w3 _):=H2
  have HSS:Hid (PStep k wo wo' w w3):=hS
  clear hO I3 hP hS H2 i0 i1 i2 s0 s1 S2
  go_wp2_with (refine load_blk 100 43 Try.underlying100 rfl Try.sizeSt (by rfl) (.tmp 3) (by rfl) n (by rfl) S3 (stA_size _) ?_)
  refine H2H.out.mono ?_
  rintro e w4 ⟨rfl,wo2,wc2,hP2,hS2⟩
  have HF:Hid (Waits k wo w steps hd room ((W++[q.set 0 x.y])++[q.set 0 x.x]) w4):=⟨wo2,wc2,hP2,HSS.out.trans hS2⟩
  clear hP2 hS2
  go_wp2_with fail
  go_ret
  have ho:=HO.out
  exact ⟨false,rfl,fun _=>⟨rfl,HF.out⟩,fun h=>by omega,fun h=>by omega,fun h=>by omega⟩
 ·have HO:Hid (x.op=3):=by show _=_;simpa using e3
  clear m4 m5 m6 m1
  go_wp2_with (refine load_blk 100 43 Try.underlying100 rfl Try.sizeSt (by rfl) (.tmp 3) (by rfl) n (by rfl) S2 (stA_size _) ?_)
  refine (HWT.out q w2 x.x hq (Below.refl _ _)).mono ?_
  rintro e w3 ⟨rfl,hWt,_,_⟩
  have HF:Hid (Waits k wo w steps hd room (W++[q.set 0 x.x]) w3):=hWt
  clear hWt
  go_wp2_with fail
  go_ret
  have ho:=HO.out
  refine ⟨false,rfl,fun h=>by omega,fun h=>by omega,fun h=>by omega,fun _ _ _ _=>⟨rfl,?_⟩⟩
  have:Mt.oneP k.t q x=(q.set 0 x.x,true):=by unfold Mt.oneP;rw [if_neg (by omega),if_pos ho]
  rw [this,addIf_yes];exact HF.out
 ·have HO:Hid (x.op=4):=by show _=_;simpa using e4
  have h4:=m4 HO.out
  obtain ⟨X,hX⟩:∃ X:Nat,x.x=(X:Int):=⟨x.x.toNat,by omega⟩
  have hX11:X<11:=by omega
  have hX11':(X:Int)<11:=by omega
  rw [hX] at i1
  obtain ⟨sm,fm⟩:=HSJ.out (32+X) (by omega)
  obtain ⟨S3,B3,_⟩:=HMH.out.set hq (32+X) (pos:Int)
  have HB3:Hid (Below n w2 (w2.setCell ⟨n,32+X,none⟩ (.int .i64 (pos:Int)))):=B3
  have HXX:Hid (x.x=(X:Int)):=hX
  clear m4 m5 m6 m1 S2 B3 h4 hX
  go_wp2_with (refine load_blk 100 43 Try.underlying100 rfl Try.sizeSt (by rfl) (.tmp 3) (by rfl) n (by rfl) S3 (stA_size _) ?_)
  refine (HWT.out _ _ _ (by simp [hq]) HB3.out).mono ?_
  rintro e w3 ⟨rfl,hWt,_,_⟩
  have HF:Hid (Waits k wo w steps hd room (W++[(q.set (32+X) (pos:Int)).set 0 ((pc:Int)+1)]) w3):=hWt
  clear hWt
  go_wp2_with fail
  go_ret
  have ho:=HO.out
  refine ⟨false,rfl,fun h=>by omega,fun h=>by omega,fun h=>by omega,fun _ _ _ _=>⟨rfl,?_⟩⟩
  have:Mt.oneP k.t q x=((q.set (32+X) (pos:Int)).set 0 ((pc:Int)+1),true):=by unfold Mt.oneP;rw [if_neg (by omega),if_neg (by omega),if_pos ho,HXX.out,hp0,hp1];rfl
  rw [this,addIf_yes];exact HF.out
 ·have HO:Hid (x.op=5):=by show _=_;simpa using e5
  have h5:=m5 HO.out
  obtain ⟨X,hX⟩:∃ X:Nat,x.y=(X:Int):=⟨x.y.toNat,by omega⟩
  have hX11:X<11:=by omega
  have hX11':(X:Int)<11:=by omega
  rw [hX] at i2
  obtain ⟨sm,fm⟩:=HSJ.out (32+X) (by omega)
  have HXX:Hid (x.y=(X:Int)):=hX
  have HON:Hid (Mt.oneP k.t q x=(q.set 0 x.x,Mt.gt q (32+X) != (pos:Int))):=by
   show _=_
   have ho:=HO.out
   unfold Mt.oneP;rw [if_neg (by omega),if_neg (by omega),if_neg (by omega),if_pos ho,hX,hp1];rfl
  have S3:w2.drew.heap[n]?=some (.cells (stA q) 100 (0,0)):=S2
  clear m4 m5 m6 m1 S2 h5 hX fm
  cases hmk:(Mt.gt q (32+X) != (pos:Int))
  ·go_wp2_with fail
   go_region
   go_wp2_with fail
   go_ret
   have ho:=HO.out
   refine ⟨false,rfl,fun h=>by omega,fun h=>by omega,fun h=>by omega,fun _ _ _ _=>⟨rfl,?_⟩⟩
   rw [HON.out,hmk,addIf_no]
   exact waits_none HP0.out (by rw [hnn];exact HB2.out.drew)
  ·go_wp2_with fail
   go_region
   go_wp2_with (refine load_blk 100 43 Try.underlying100 rfl Try.sizeSt (by rfl) (.tmp 3) (by rfl) n (by rfl) S3 (stA_size _) ?_)
   refine (HWT.out q w2.drew x.x hq (Below.refl _ _).drew).mono ?_
   rintro e w3 ⟨rfl,hWt,_,_⟩
   have HF:Hid (Waits k wo w steps hd room (W++[q.set 0 x.x]) w3):=hWt
   clear hWt
   go_wp2_with fail
   go_ret
   have ho:=HO.out
   refine ⟨false,rfl,fun h=>by omega,fun h=>by omega,fun h=>by omega,fun _ _ _ _=>⟨rfl,?_⟩⟩
   rw [HON.out,hmk,addIf_yes];exact HF.out
 ·have HO:Hid (x.op=6):=by show _=_;simpa using e6
  have h6:=m6 (Or.inl HO.out)
  obtain ⟨X,hX⟩:∃ X:Nat,x.x=(X:Int):=⟨x.x.toNat,by omega⟩
  have hX10:X<10:=by omega
  have hX10':(X:Int)<10:=by omega
  rw [hX] at i1
  obtain ⟨sm,fm⟩:=HSJ.out (22+X) (by omega)
  obtain ⟨S3,B3,_⟩:=HMH.out.set hq (22+X) (pos:Int)
  have HB3:Hid (Below n w2 (w2.setCell ⟨n,22+X,none⟩ (.int .i64 (pos:Int)))):=B3
  have HXX:Hid (x.x=(X:Int)):=hX
  clear m4 m5 m6 m1 S2 B3 h6 hX
  go_wp2_with (refine load_blk 100 43 Try.underlying100 rfl Try.sizeSt (by rfl) (.tmp 3) (by rfl) n (by rfl) S3 (stA_size _) ?_)
  refine (HWT.out _ _ _ (by simp [hq]) HB3.out).mono ?_
  rintro e w3 ⟨rfl,hWt,_,_⟩
  have HF:Hid (Waits k wo w steps hd room (W++[(q.set (22+X) (pos:Int)).set 0 ((pc:Int)+1)]) w3):=hWt
  clear hWt
  go_wp2_with fail
  go_ret
  have ho:=HO.out
  refine ⟨false,rfl,fun h=>by omega,fun h=>by omega,fun h=>by omega,fun _ _ _ _=>⟨rfl,?_⟩⟩
  have:Mt.oneP k.t q x=((q.set (22+X) (pos:Int)).set 0 ((pc:Int)+1),true):=by unfold Mt.oneP;rw [if_neg (by omega),if_neg (by omega),if_neg (by omega),if_neg (by omega),if_pos ho,HXX.out,hp0,hp1];rfl
  rw [this,addIf_yes];exact HF.out
 ·have HO:Hid (x.op=7):=by show _=_;simpa using e7
  have h7:=m6 (Or.inr HO.out)
  obtain ⟨X,hX⟩:∃ X:Nat,x.x=(X:Int):=⟨x.x.toNat,by omega⟩
  have hX10:X<10:=by omega
  rw [hX] at i1
  have HXX:Hid (x.x=(X:Int)):=hX
  have HCG:Hid (Calls Try.prog 70 #[.pointer (some ⟨n,0,none⟩),.int .i64 (X:Nat)] w2 _):=closeGroup_prog w2 n q hq S2 X hX10
  clear m4 m5 m6 m1 S2 h7 hX
  go_wp2_with fail
  refine HCG.out.mono ?_
  rintro e w3 ⟨rfl,S3,b3,o3,z3⟩
  have HB3:Hid (Below n w2 w3):=b3 n (Nat.le_refl _)
  clear b3 o3 i0 i1 i2 s0 s1
  go_wp2_with (refine load_blk 100 43 Try.underlying100 rfl Try.sizeSt (by rfl) (.tmp 3) (by rfl) n (by rfl) S3 (stA_size _) ?_)
  refine (HWT.out _ _ _ (by simp [hq]) HB3.out).mono ?_
  rintro e w4 ⟨rfl,hWt,_,_⟩
  have HF:Hid (Waits k wo w steps hd room (W++[((q.set (2+2*X) (Mt.gt q (22+X))).set (2+(2*X+1)) (pos:Int)).set 0 ((pc:Int)+1)]) w4):=hWt
  clear hWt
  go_wp2_with fail
  go_ret
  have ho:=HO.out
  refine ⟨false,rfl,fun h=>by omega,fun h=>by omega,fun h=>by omega,fun _ _ _ _=>⟨rfl,?_⟩⟩
  have:Mt.oneP k.t q x=(((q.set (2+2*X) (Mt.gt q (22+X))).set (2+(2*X+1)) (pos:Int)).set 0 ((pc:Int)+1),true):=by
   have hxx:=HXX.out
   unfold Mt.oneP
   rw [if_neg (by omega),if_neg (by omega),if_neg (by omega),if_neg (by omega),if_neg (by omega),if_pos ho,hp0,hp1,show (2*x.x).toNat=2*X by omega,show (2*x.x+1).toNat=2*X+1 by omega,show x.x.toNat=X by omega]
  rw [this,addIf_yes];exact HF.out
 ·have HO:Hid (x.op=11):=by show _=_;simpa using e11
  have HI2:w2.heap[n+1]?=some (.cells (insA x) 70 (0,0)):=HMH.out.i
  have HSB:Hid (Calls Try.prog 71 #[.pointer (some ⟨g,0,none⟩),.agg (stA q),.agg (insA x)] w2 fun e w'=>e=.returned (.tuple #[])∧SubDone k wo P w2 q x w'):=HSUB.out w2 HPZ.out HO.out
  clear m4 m5 m6 m1
  go_wp2_with (first | (refine load_blk 100 43 Try.underlying100 rfl Try.sizeSt (by rfl) (.tmp 3) (by rfl) n (by rfl) S2 (stA_size _) ?_) | (refine load_blk 70 4 Try.underlying70 rfl Try.sizeIn (by rfl) (.tmp 5) (by rfl) (n+1) (by rfl) HI2 (by rfl) ?_))
  refine HSB.out.mono ?_
  rintro e w3 ⟨rfl,hSD⟩
  have HF:Hid (SubDone k wo P w q x w3):=by
   obtain ⟨q',b,st',hd',room',wo',wc',W',d1,d2,d3,d4⟩:=hSD
   exact ⟨q',b,st',hd',room',wo',wc',W',d1,d2,d3,(PStep.below (by rw [hnn];exact HB2.out)).trans d4⟩
  clear hSD
  go_wp2_with fail
  go_ret
  have ho:=HO.out
  exact ⟨false,rfl,fun h=>by omega,fun h=>by omega,fun _=>⟨rfl,HF.out⟩,fun _ h=>absurd ho h⟩
 ·have HO:Hid (x.op=12):=by show _=_;simpa using e12
  clear m4 m5 m6 m1
  go_wp2_with fail
  go_ret
  have ho:=HO.out
  exact ⟨true,rfl,fun h=>by omega,fun _=>⟨rfl,waits_none HP0.out (by rw [hnn];exact HB2.out)⟩,fun h=>by omega,fun _ _ h=>absurd ho h⟩
 ·have HO:Hid (x.op=13):=by show _=_;simpa using e13
  clear m4 m5 m6 m1
  go_wp2_with fail
  go_ret
  have ho:=HO.out
  exact ⟨true,rfl,fun h=>by omega,fun _=>⟨rfl,waits_none HP0.out (by rw [hnn];exact HB2.out)⟩,fun h=>by omega,fun _ _ _ h=>absurd ho h⟩
 ·have HO:Hid (x.op=1∨x.op=8∨x.op=9∨x.op=10):=by
   show _∨_
   simp only [beq_eq_false_iff_ne] at *
   omega
  have HI2:w2.heap[n+1]?=some (.cells (insA x) 70 (0,0)):=HMH.out.i
  have HSB:Hid (Calls Try.prog 72 #[.pointer (some ⟨g,0,none⟩),.agg (stA q),.agg (insA x)] w2 fun e w'=>e=.returned (.tuple #[])∧Waits k wo w2 steps hd room (addIf W (Mt.oneP k.t q x).2 (Mt.oneP k.t q x).1) w'):=HCMP.out w2 HPZ.out HO.out
  clear m4 m5 m6 m1
  go_wp2_with (first | (refine load_blk 100 43 Try.underlying100 rfl Try.sizeSt (by rfl) (.tmp 3) (by rfl) n (by rfl) S2 (stA_size _) ?_) | (refine load_blk 70 4 Try.underlying70 rfl Try.sizeIn (by rfl) (.tmp 5) (by rfl) (n+1) (by rfl) HI2 (by rfl) ?_))
  refine HSB.out.mono ?_
  rintro e w3 ⟨rfl,hSD⟩
  have HF:Hid (Waits k wo w steps hd room (addIf W (Mt.oneP k.t q x).2 (Mt.oneP k.t q x).1) w3):=by
   obtain ⟨wo',wc',d3,d4⟩:=hSD
   exact ⟨wo',wc',d3,(PStep.below (by rw [hnn];exact HB2.out)).trans d4⟩
  clear hSD
  go_wp2_with fail
  go_ret
  have ho:=HO.out
  exact ⟨false,rfl,fun h=>by omega,fun h=>by omega,fun h=>by omega,fun _ _ _ _=>⟨rfl,HF.out⟩⟩
end
inductive Pairs (k:Pk) (A:Int→Mt.Att):List (List Int)→List (List Int)→Prop
 | nil:Pairs k A [] []
 | cons {s q:List Int} {ss qs:List (List Int)}:Fine k A s q→Pairs k A ss qs→Pairs k A (s::ss) (qs++[q])
theorem Pairs.len {k:Pk} {A:Int→Mt.Att} {ss qs:List (List Int)} (h:Pairs k A ss qs):ss.length=qs.length:=by
 induction h with
 | nil=>rfl
 | cons _ _ ih=>simp [ih]
theorem Pairs.out {k:Pk} {A:Int→Mt.Att} {ss qs:List (List Int)} (h:Pairs k A ss qs) (hn:0<qs.length):∃ s q ss' qs',ss=s::ss'∧qs=qs'++[q]∧Fine k A s q∧Pairs k A ss' qs':=by
 cases h with
 | nil=>simp at hn
 | cons h1 h2=>exact ⟨_,_,_,_,rfl,rfl,h1,h2⟩
theorem Fine.lq {k:Pk} {A:Int→Mt.Att} {s q:List Int} (h:Fine k A s q):q.length=43:=Mt.SimAt.lq h.sim
theorem Fine.pc {k:Pk} {A:Int→Mt.Att} {s q:List Int} (h:Fine k A s q):Mt.gt q 0=(Mt.pcOf s:Nat)∧Mt.gt q 1=(Mt.posOf s:Nat)∧Mt.pcOf s<k.c.length∧Mt.posOf s≤k.t.size:=by
 have h0:=Mt.SimAt.low h.sim 0 (by omega)
 have h1:=Mt.SimAt.low h.sim 1 (by omega)
 have g0:=h.good.pc0
 have g1:=h.good.pc1
 have g2:=h.good.pos0
 have g3:=h.good.pos1
 unfold Mt.pcOf Mt.posOf
 omega
section
variable {k:Pk} {E:Mt.Env} {A:Int→Mt.Att} {w:World} {steps:Int} {hd kn:List Bool} {room:Int} {wo:Option Addr} {wc:Nat} {W:List (List Int)}
theorem compare_any (hx:Ctx k E A) {s q:List Int} (hf:Fine k A s q) (h:PlayAt k w steps hd room wo wc W) (hW:W.length≤90000) (ho:(k.c.getD (Mt.pcOf s) Mt.ins0).op=1∨(k.c.getD (Mt.pcOf s) Mt.ins0).op=8∨(k.c.getD (Mt.pcOf s) Mt.ins0).op=9∨(k.c.getD (Mt.pcOf s) Mt.ins0).op=10) :
  Calls Try.prog 72 #[.pointer (some ⟨k.g,0,none⟩),.agg (stA q),.agg (insA (k.c.getD (Mt.pcOf s) Mt.ins0))] w fun e w'=>e=.returned (.tuple #[])∧Waits k wo w steps hd room (addIf W (Mt.oneP k.t q (k.c.getD (Mt.pcOf s) Mt.ins0)).2 (Mt.oneP k.t q (k.c.getD (Mt.pcOf s) Mt.ins0)).1) w':=by
 obtain ⟨p0,p1,p2,p3⟩:=hf.pc
 have hl:=hx.known.len
 have h60:=hx.t60
 have hi:=hx.known.ok (Mt.pcOf s) p2
 generalize k.c.getD (Mt.pcOf s) Mt.ins0=x at *
 rcases ho with o | o | o | o
 ·exact compare_one h q hf.lq _ _ p0 p1 (by omega) p3 h60 (by omega) x (by rw [o];rfl) hi.2.2.2.2.2.2.2
 ·have i8:=hi.2.2.2.2.1 (Or.inr (Or.inr o))
  obtain ⟨X,hX⟩:∃ X:Nat,x.x=(X:Int):=⟨x.x.toNat,by omega⟩
  have la:=Mt.SimAt.low hf.sim (2+2*X) (by omega)
  have lb:=Mt.SimAt.low hf.sim (2+(2*X+1)) (by omega)
  have pl:=hf.good.place X (by omega)
  have ng:=hf.neg X (by omega)
  by_cases hneg:Mt.gt s (2+2*X)<0
  ·have ea:Mt.gt q (2+2*X)=-1∧Mt.gt q (2+(2*X+1))=-1:=by rcases ng with ng | ng <;> omega
   rw [Mt.back_no k.t q x X o hX ea.1,addIf_no]
   exact compare_back0 h q hf.lq x X (by rw [o];rfl) (by rw [o];rfl) hX (by omega) (-1) (by omega) ea.1 ea.2
  ·obtain ⟨a,ha⟩:∃ a:Nat,Mt.gt s (2+2*X)=(a:Int):=⟨(Mt.gt s (2+2*X)).toNat,by omega⟩
   obtain ⟨b,hb⟩:∃ b:Nat,Mt.gt s (2+(2*X+1))=(b:Int):=⟨(Mt.gt s (2+(2*X+1))).toNat,by omega⟩
   exact compare_back1 h q hf.lq _ _ p0 p1 (by omega) p3 h60 (by omega) x X (by rw [o];rfl) (by rw [o];rfl) hX (by omega) a b (by omega) (by omega) (by omega) (by omega)
 ·exact compare_head h q hf.lq _ _ p0 p1 (by omega) p3 h60 (by omega) x (by rw [o];rfl) (by rw [o];rfl) (by rw [o];rfl)
 ·exact compare_tail h q hf.lq _ _ p0 p1 (by omega) p3 h60 (by omega) x (by rw [o];rfl) (by rw [o];rfl) (by rw [o];rfl) (by rw [o];rfl)
end
def NowAt (k:Pk) (E:Mt.Env) (A:Int→Mt.Att) (R:Mt.Res) (m:Nat) (W:List (List Int)) (wo1:Option Addr) (w1:World) (gn:Nat) (wr:World):Prop :=
 (1≤gn∧gn≤m∧∃ hd kn room wo' wc' ss qs,PlayAt k wr (k.budget+1-gn) hd room wo' wc' (W++qs)∧PStep k wo1 wo' w1 wr∧Mt.Tab E hd kn∧kn.length=E.c.length*(E.t.size+1)*12∧(0≤room∧room≤5000)∧Pairs k A ss qs∧Mt.lookS E (gn-1) ss kn room=R∧qs.length+3*gn≤3*m+1)
 ∨ (gn=0∧R.over=true∧OverAt k wo1 w1 wr (W.length+3*m+1))
def EndsAt (k:Pk) (E:Mt.Env) (A:Int→Mt.Att) (R:Mt.Res) (m:Nat) (W qs:List (List Int)) (wo1:Option Addr) (w1:World) (q:List Int) (w':World):Prop :=
 ∃ st hd room wo' wc',PlayAt k w' st hd room wo' wc' (W++qs)∧PStep k wo1 wo' w1 w'∧qs.length≤3*m+1∧((R.over=true∧st=k.budget+1)∨(R.over=false∧R.ok=true∧Mt.Sim A R.st q∧st=k.budget-R.n∧room=R.room∧Mt.Tab E hd R.kn))
def SubTold (k:Pk) (E:Mt.Env) (A:Int→Mt.Att) (r:Mt.Res) (bound:Nat) (W:List (List Int)):Told:=fun q' b st' hd' room' W' =>
 (r.over=true∧st'=k.budget+1∧W'.length≤bound)∨(r.over=false∧st'=k.budget-r.n∧b=r.ok∧(r.ok=true→Mt.Sim A r.st q')∧room'=r.room∧Mt.Tab E hd' r.kn∧W'=W)
section
variable {k:Pk} {E:Mt.Env} {A:Int→Mt.Att} {R:Mt.Res} {m:Nat} {W:List (List Int)} {wo1:Option Addr} {w1:World}
theorem now_over {gw:List (List Int)} {hd:List Bool} {room:Int} {wo':Option Addr} {wc':Nat} {w':World} (hR:R.over=true) (h:PlayAt k w' (k.budget+1) hd room wo' wc' gw) (hs:PStep k wo1 wo' w1 w') (hl:gw.length≤W.length+3*m+1):NowAt k E A R m W wo1 w1 0 w' :=
 Or.inr ⟨rfl,hR,hd,room,wo',wc',gw,h,hs,hl⟩
theorem now_at {ss qs:List (List Int)} {hd kn:List Bool} {room:Int} {wo':Option Addr} {wc':Nat} {w':World} {n:Nat} {s:List Int} {st:List (List Int)} {kn0:List Bool} {room0:Int} (hn:n≤m) (h:PlayAt k w' (k.budget+1-n) hd room wo' wc' (W++qs)) (hs:PStep k wo1 wo' w1 w') (ht:Mt.Tab E hd kn) (hk:kn.length=E.c.length*(E.t.size+1)*12) (hr:0≤room∧room≤5000) (hp:Pairs k A ss qs)
  (hR:Mt.lookS E n (s::st) kn0 room0=R) (hl:∀ j,n=j+1→Mt.lookS E n (s::st) kn0 room0=Mt.lookS E j ss kn room) (hq:qs.length+3*n≤3*m+1):NowAt k E A R m W wo1 w1 n w':=by
 cases n with
 | zero =>
  have e:R.over=true:=by rw [← hR,Mt.lookS_zero]
  refine now_over e (gw:=W++qs) (by simpa using h) hs (by rw [List.length_append];omega)
 | succ j=>exact Or.inl ⟨by omega,hn,hd,kn,room,wo',wc',ss,qs,h,hs,ht,hk,hr,hp,by rw [← hR,hl j rfl];rfl,hq⟩
theorem Fine.jump {s q:List Int} (hx:Ctx k E A) (h:Fine k A s q) (v:Int) (h0:0≤v) (h1:v<k.c.length) (e:A v=A (Mt.gt s 0)):Fine k A (s.set 0 v) (q.set 0 v) :=
 ⟨h.good.at_pc v h0 h1,h.sim.jump e,h.neg.set 0 v (by omega)⟩
theorem after_look (hx:Ctx k E A) {s q:List Int} {ss' qs':List (List Int)} {wo:Option Addr} {w w':World} {hd kn:List Bool} {room:Int} {b:Bool} {n:Nat} (hf:Fine k A s q) (hp:Pairs k A ss' qs') (hn:n+1≤m)
  (ht:Mt.Tab E hd (E.kn' s kn room)) (hk:kn.length=E.c.length*(E.t.size+1)*12) (hr:0≤room∧room≤5000) (hD:E.dead s kn=false) (hR:Mt.lookS E n (s::ss') kn room=R) (hq:qs'.length+1+3*(n+1)≤3*m+1) (hs:PStep k wo1 wo w1 w)
  (h:LookDone k wo (SubTold k E A (Mt.look E (n-1) (s.set 0 (Mt.gt s 0+1)) (E.kn' s kn room) (E.room' s kn room)) ((W++qs').length+3*n+1) (W++qs')) w q (E.ins s) (k.budget+1-n) hd (E.room' s kn room) (W++qs') b w') :
  (b=true∧EndsAt k E A R m W qs' wo1 w1 q w')∨(b=false∧∃ gn',gn'<n+1∧NowAt k E A R m W wo1 w1 gn' w'):=by
 obtain ⟨h2,h12,h11,h1⟩:=h
 have hkn:(E.kn' s kn room).length=E.c.length*(E.t.size+1)*12:=by rw [E.kn'_len];exact hk
 have hrm:=E.room'_in s kn room hr
 have hg:Mt.Good E.c.length E.t.size s:=by rw [hx.ec,hx.et];exact hf.good
 have hK:Mt.Known E.c A:=by rw [hx.ec];exact hx.known
 have hpc:((Mt.pcOf s:Nat):Int)=Mt.gt s 0:=by have:=hf.good.pc0;unfold Mt.pcOf;omega
 have hpc0:=hf.good.pc0
 have hi:=hK.ok (Mt.pcOf s) hg.pcOf_lt
 by_cases o12:(E.ins s).op=12∨(E.ins s).op=13
 ·left
  obtain ⟨e,wo',wc',hP,hS⟩:=h12 o12
  refine ⟨e,_,_,_,wo',wc',hP,hs.trans hS,by omega,?_⟩
  cases n with
  | zero =>
   left
   refine ⟨by rw [← hR,Mt.lookS_zero],by simp⟩
  | succ j =>
   right
   have hl:=Mt.lookS_end E j s ss' kn room hD o12.symm
   rw [hR] at hl
   rw [hl]
   exact ⟨rfl,rfl,hf.sim,by dsimp only;omega,rfl,ht⟩
 have n12:(E.ins s).op≠12:=fun e=>o12 (Or.inl e)
 have n13:(E.ins s).op≠13:=fun e=>o12 (Or.inr e)
 obtain ⟨hn1,hru⟩:=Mt.known_att hK hg.pcOf_lt n13
 rw [hpc] at hru
 right
 by_cases o2:(E.ins s).op=2
 ·obtain ⟨e,wo',wc',hP,hS⟩:=h2 o2
  have i2:=hi.1 o2
  rw [hx.ec] at i2
  obtain ⟨a1,a2⟩:=hru.2.1 o2
  refine ⟨e,n,by omega,now_at (by omega) (qs:=(qs'++[q.set 0 (E.ins s).y])++[q.set 0 (E.ins s).x]) (by simpa using hP) (hs.trans hS) ht hkn hrm (Pairs.cons (hf.jump hx _ (by have:=i2.1;rw [← hx.ec] at this;exact this) (by have:=i2.2.1;rw [← hx.ec] at this ⊢;exact this) a1) (Pairs.cons (hf.jump hx _ (by have:=i2.2.2.1;rw [← hx.ec] at this;exact this) (by have:=i2.2.2.2;rw [← hx.ec] at this ⊢;exact this) a2) hp)) hR ?_ (by simp;omega)⟩
  rintro j rfl
  exact Mt.lookS_split E j s ss' kn room hD o2
 by_cases o11:(E.ins s).op=11
 ·obtain ⟨e,q',b',st',hd',room',wo',wc',W',d1,d2,d3,d4⟩:=h11 o11
  have i11:=hi.2.2.2.2.2.1 o11
  have gs:=hg.at_pc (Mt.gt s 0+1) (by omega) (by omega)
  have g1:=Mt.look_good E hK.ok (n-1) (n-1) (s.set 0 (Mt.gt s 0+1)) (E.kn' s kn room) (E.room' s kn room) (by omega) gs hrm
  have k1:=Mt.look_keeps E A hK (n-1) (n-1) (s.set 0 (Mt.gt s 0+1)) (E.kn' s kn room) (E.room' s kn room) (by omega) gs hrm
  have k2:=Mt.look_neg E hK.ok (n-1) (n-1) (s.set 0 (Mt.gt s 0+1)) (E.kn' s kn room) (E.room' s kn room) (by omega) gs hrm (hf.neg.set 0 _ (by omega))
  have n1:=Mt.look_n E (n-1) (s.set 0 (Mt.gt s 0+1)) (E.kn' s kn room) (E.room' s kn room)
  have hls:∀ j,n=j+1→_:=fun j (_:n=j+1)=>Mt.lookS_sub E j s ss' kn room hD o11
  have hlen:=hf.good.len
  have p0:Mt.gt (s.set 0 (Mt.gt s 0+1)) 0=Mt.gt s 0+1:=Mt.gt_set_same _ _ _ (by omega)
  have pk:∀ t:Int,Mt.gt (s.set 0 (Mt.gt s 0+1)) (22+t.toNat)=Mt.gt s (22+t.toNat):=fun t=>Mt.gt_set_ne _ _ _ _ (by omega)
  rcases d2 with ⟨ov,rfl,hW'⟩ | ⟨ov,est,eb,esim,erm,etab,eW⟩
  ·
   have hRo:R.over=true:=by
    cases n with
    | zero=>rw [← hR,Mt.lookS_zero]
    | succ j =>
     have:=hls j rfl
     rw [show j+1-1=j by omega] at ov
     rw [hR] at this
     rw [this,if_pos ov]
   refine ⟨e,0,by omega,now_over hRo d3 (hs.trans d4) ?_⟩
   unfold addIf
   rw [List.length_append]
   rw [List.length_append] at hW'
   split
   ·simp only [List.length_cons,List.length_nil];omega
   ·simp only [List.length_nil];omega
  ·
   cases n with
   | zero=>rw [show (0:Nat)-1=0 from rfl,Mt.look_zero] at ov;cases ov
   | succ j =>
    rw [show j+1-1=j by omega] at *
    have hls:=hls j rfl
    rw [if_neg (by rw [ov];exact Bool.false_ne_true)] at hls
    generalize hr0:Mt.look E j (s.set 0 (Mt.gt s 0+1)) (E.kn' s kn room) (E.room' s kn room)=r at *
    subst est
    subst eb
    subst erm
    subst eW
    have hfl:(Mt.apartP s (E.ins s) r.st r.ok).2=flagQ (E.ins s) r.ok:=by
     unfold Mt.apartP flagQ
     split
     ·rfl
     split
     ·rfl
     ·rfl
    have est2:k.budget-(r.n:Int)=k.budget+1-((r.n+1:Nat):Int):=by omega
    refine ⟨e,r.n+1,by omega,?_⟩
    have hknr:r.kn.length=E.c.length*(E.t.size+1)*12:=by rw [g1.2.1];exact hkn
    cases hfg:flagQ (E.ins s) r.ok with
    | false =>
     rw [hfg,addIf_no,est2] at d3
     rw [hfl,hfg,if_neg Bool.false_ne_true,List.nil_append] at hls
     exact Or.inl ⟨by omega,by omega,hd',r.kn,r.room,wo',wc',ss',qs',d3,hs.trans d4,etab,hknr,g1.2.2.1,hp,by rw [show r.n+1-1=r.n by omega,← hls];exact hR,by omega⟩
    | true =>
     rw [hfg,addIf_yes,est2] at d3
     rw [hfl,hfg,if_pos rfl] at hls
     have hap:(Mt.apartP s (E.ins s) r.st r.ok).2=true:=by rw [hfl,hfg]
     have gd:=Mt.apartP_good hg g1.1 (E.ins s) i11.1 i11.2.1 hap
     have sm:=Mt.apart_sim (E:=E) (A:=A) (e:=q') hK hg hf.sim o11 g1.1 esim g1.2.2.2.1 (fun hok=>by
      obtain ⟨u1,u2,u3⟩:=k1 hok
      rw [p0] at u1 u2
      exact ⟨u1,fun t ht=>(u2 t ht).trans (pk t),u3⟩) hap
     have ng:=Mt.apartP_neg hlen g1.2.2.2.1 hf.neg k2 hap
     rw [hx.ec,hx.et] at gd
     refine Or.inl ⟨by omega,by omega,hd',r.kn,r.room,wo',wc',(Mt.apartP s (E.ins s) r.st r.ok).1::ss',qs'++[Mt.apartQ q (E.ins s) q'],by rw [← List.append_assoc];exact d3,hs.trans d4,etab,hknr,g1.2.2.1,Pairs.cons ⟨gd,sm,ng⟩ hp,by rw [show r.n+1-1=r.n by omega];rw [← hR,hls];rfl,by simp;omega⟩
 ·obtain ⟨e,wo',wc',hP,hS⟩:=h1 o2 o11 n12 n13
  refine ⟨e,n,by omega,?_⟩
  have hsim:=Mt.oneP_sim (t:=E.t) hK hg hf.sim o2 o11 n12 n13
  have hok:(Mt.oneP k.t q (E.ins s)).2=(Mt.oneP E.t s (E.ins s)).2:=by rw [← hx.et];exact hsim.1
  rw [hok] at hP
  cases hfl:(Mt.oneP E.t s (E.ins s)).2 with
  | false =>
   rw [hfl,addIf_no] at hP
   refine now_at (by omega) hP (hs.trans hS) ht hkn hrm hp hR ?_ (by omega)
   rintro j rfl
   have:=Mt.lookS_go E j s ss' kn room hD o2 o11 n12 n13
   rw [hfl,if_neg Bool.false_ne_true,List.nil_append] at this
   exact this
  | true =>
   rw [hfl,addIf_yes] at hP
   have gd:=Mt.oneP_good hK.ok hg (t:=E.t) o2 o11 n13 hfl
   rw [hx.ec,hx.et] at gd
   have ng:=Mt.oneP_neg (t:=E.t) hf.good hf.neg (x:=E.ins s) (fun e=>hi.2.2.2.2.1 e)
   have sm:=hsim.2 hfl
   have gd':Mt.Good k.c.length k.t.size (Mt.oneP E.t s (E.ins s)).1:=by
    have e1:E.ins s=k.c.getD (Mt.pcOf s) Mt.ins0:=by unfold Mt.Env.ins;rw [hx.ec]
    rw [e1,hx.et];exact gd
   refine now_at (by omega) (qs:=qs'++[(Mt.oneP k.t q (E.ins s)).1]) (by rw [← List.append_assoc];exact hP) (hs.trans hS) ht hkn hrm (Pairs.cons (s:=(Mt.oneP E.t s (E.ins s)).1) ⟨gd',by rw [← hx.et];exact sm,ng⟩ hp) hR ?_ (by simp;omega)
   rintro j rfl
   have:=Mt.lookS_go E j s ss' kn room hD o2 o11 n12 n13
   rw [hfl,if_pos rfl] at this
   exact this
theorem look_turns {wo:Option Addr} {P:Told} {w:World} {q:List Int} {x:Mt.Ins} {steps:Int} {hd:List Bool} {room:Int} {V:List (List Int)} {b:Bool} {w':World} (h:LookDone k wo P w q x steps hd room V b w'):∃ wo',PStep k wo wo' w w':=by
 obtain ⟨h2,h12,h11,h1⟩:=h
 by_cases o2:x.op=2
 ·obtain ⟨_,wo',_,_,hS⟩:=h2 o2;exact ⟨wo',hS⟩
 by_cases o12:x.op=12∨x.op=13
 ·obtain ⟨_,wo',_,_,hS⟩:=h12 o12;exact ⟨wo',hS⟩
 by_cases o11:x.op=11
 ·obtain ⟨_,_,_,_,_,_,wo',_,_,_,_,_,hS⟩:=h11 o11;exact ⟨wo',hS⟩
 ·obtain ⟨_,wo',_,_,hS⟩:=h1 o2 o11 (fun e=>o12 (Or.inl e)) (fun e=>o12 (Or.inr e));exact ⟨wo',hS⟩
end
section
variable {k:Pk} {E:Mt.Env} {A:Int→Mt.Att}
theorem dead_same (hx:Ctx k E A) {s q:List Int} (hf:Fine k A s q) (kn:List Bool) (room:Int):E.dead q kn=E.dead s kn∧E.kn' q kn room=E.kn' s kn room∧E.room' q kn room=E.room' s kn room:=by
 obtain ⟨h1,h2⟩:=Mt.key_sim (E:=E) (A:=A) (by rw [hx.ec];exact hx.known) (fun p hp=>by rw [hx.ec] at hp ⊢;exact hx.ar p hp) (by rw [hx.ec,hx.et];exact hf.good) hf.sim
 unfold Mt.Env.dead Mt.Env.kn' Mt.Env.room'
 rw [h1,h2];exact ⟨rfl,rfl,rfl⟩
theorem lookP_any (hx:Ctx k E A) {s q:List Int} (hf:Fine k A s q) {n:Nat} (ih:RunK k E A n) {w:World} {hd kn:List Bool} {room:Int} {wo:Option Addr} {wc:Nat} {V:List (List Int)} (h:PlayAt k w (k.budget+1-n) hd room wo wc V) (ht:Mt.Tab E hd kn) (hk:kn.length=E.c.length*(E.t.size+1)*12) (hr:0≤room∧room≤5000) (hl:V.length+3*n+1≤50000) (hnb:(n:Int)≤k.budget+1) :
  Calls Try.prog 59 #[.pointer (some ⟨k.g,0,none⟩),.agg (stA q)] w fun e w'=>∃ b,e=.returned (.bool b)∧LookDone k wo (SubTold k E A (Mt.look E (n-1) (s.set 0 (Mt.gt s 0+1)) kn room) (V.length+3*n+1) V) w q (E.ins s) (k.budget+1-n) hd room V b w':=by
 obtain ⟨p0,p1,p2,p3⟩:=hf.pc
 have hcl:=hx.known.len
 have h60:=hx.t60
 have hi:=hx.known.ok (Mt.pcOf s) p2
 have e1:E.ins s=k.c.getD (Mt.pcOf s) Mt.ins0:=by unfold Mt.Env.ins;rw [hx.ec]
 have hpc:((Mt.pcOf s:Nat):Int)=Mt.gt s 0:=by have:=hf.good.pc0;unfold Mt.pcOf;omega
 have hrule:(k.c.getD (Mt.pcOf s) Mt.ins0).op≠13→Mt.Rule A (Mt.pcOf s:Nat) (k.c.getD (Mt.pcOf s) Mt.ins0)∧Mt.pcOf s+1<k.c.length:=fun h13=>by
  obtain ⟨a,b⟩:=Mt.known_att hx.known p2 h13;exact ⟨b,a⟩
 have hop:1≤(k.c.getD (Mt.pcOf s) Mt.ins0).op∧(k.c.getD (Mt.pcOf s) Mt.ins0).op≤13:=by
  by_cases h13:(k.c.getD (Mt.pcOf s) Mt.ins0).op=13
  ·omega
  ·have:=(hrule h13).1.2.2.2.2.2.2.2.2.2.2.2.2;omega
 rw [e1]
 refine look_prog h q hf.lq _ _ p0 p1 p2 hcl (by omega) (by omega) _ _ rfl ?_ ?_ ?_ hop ?_ ?_
 ·intro o
  have:=((hrule (by omega)).1.2.2.2.1 o).2.2
  have:=hi.2.2.1 o
  omega
 ·intro o
  have:=((hrule (by omega)).1.2.2.2.2.1 o).2.2
  omega
 ·intro o
  have:=hi.2.2.2.2.1 (by omega)
  omega
 ·intro z hz ho
  exact compare_any hx hf hz (by omega) ho
 ·intro z hz ho
  obtain ⟨hru,hn1⟩:=hrule (by omega)
  rw [hpc] at hru
  have h11:=hru.2.2.2.2.2.2.2.1 ho
  have i11:=hi.2.2.2.2.2.1 ho
  have gs:=hf.good.at_pc (Mt.gt s 0+1) (by have:=hf.good.pc0;omega) (by omega)
  have fs:Fine k A (s.set 0 (Mt.gt s 0+1)) (q.set 0 (Mt.gt s 0+1)):=by
   refine ⟨gs,?_,hf.neg.set 0 _ (by omega)⟩
   refine Mt.SimAt.to ?_
   rw [h11.1]
   exact Mt.SimAt.less hf.sim (fun t ht=>ht) (Int.le_refl _)
  refine playSub_prog hz q hf.lq _ _ p0 (by omega) _ ?_ ?_
  ·intro z2 hz2
   have:=ih z2 hd kn room wo wc V _ _ hz2 ht hk hr fs hl hnb
   rw [hpc]
   refine this.mono ?_
   rintro e w' ⟨q',b,rfl,hq',hpost⟩
   refine ⟨q',b,rfl,?_⟩
   rcases hpost with ⟨ov,hd',room',wo',wc',W',a1,a2,a3⟩ | ⟨ov,eb,esim,hd',wo',wc',a1,a2,a3⟩
   ·exact ⟨_,hd',room',wo',wc',W',hq',a1,a2,by omega,Or.inl ⟨ov,rfl,a3⟩⟩
   ·exact ⟨_,hd',_,wo',wc',V,hq',a1,a2,by omega,Or.inr ⟨ov,rfl,eb,esim,rfl,a3,rfl⟩⟩
  ·simp only [beq_iff_eq,beq_eq_false_iff_ne]
   omega
end
end Go.Proofs.Ytebpgfodelggoab
