import Derived.Test.YtebpgfodelggoaaGreatC41
set_option linter.unusedVariables false
set_option linter.unusedSimpArgs false
set_option maxRecDepth 100000
set_option maxHeartbeats 8000000
namespace Go.Proofs.YtebpgfodelggoaaGreat
open Go.RowKit
abbrev Told:=List Int→Bool→Int→List Bool→Int→List (List Int)→Prop
def zHk (k:Pk) (wo:Option Addr) (P:Told) (z:World) (q':List Int) (b:Bool) (w':World):Prop:=∃ st' hd' room' wo' wc' W',q'.length=43∧zL k w' st' hd' room' wo' wc' W'∧kW k wo wo' z w'∧W'.length≤99999∧P q' b st' hd' room' W'
def zEA (x:Mt.Ins) (b:Bool):Bool:=if x.x=0 then b else if x.x=1 then b else !b
def zBi (k:Pk) (wo:Option Addr) (P:Told) (w:World) (q:List Int) (x:Mt.Ins) (w':World):Prop:=∃ q' b st' hd' room' wo' wc' W',q'.length=43∧P q' b st' hd' room' W'∧zL k w' st' hd' room' wo' wc' (zCV W' (zEA x b) (Mt.zEo q x q'))∧kW k wo wo' w w'
section
variable {k:Pk} {w:World} {steps:Int} {hd:List Bool} {room:Int} {wo:Option Addr} {wc:Nat} {W:List (List Int)}
structure zRQ (k:Pk) (wo:Option Addr) (P:Told) (w:World) (n m:Nat) (q:List Int) (x:Mt.Ins) (q':List Int) (b:Bool) (w5:World):Prop where
 s:w5.heap[n]?=some (.cells (stA q) 83 (0,0))
 i:w5.heap[n+1]?=some (.cells (qG x) 112 (0,0))
 e:w5.heap[m]?=some (.cells (stA q') 83 (0,0))
 nm:n<m∧n≠m
 done:∃ st' hd' room' wo' wc' W',q'.length=43∧zL k w5 st' hd' room' wo' wc' W'∧kW k wo wo' w w5∧W'.length≤99999∧P q' b st' hd' room' W'∧(k.g<n∧k.gc<n∧k.gl<n∧k.gs<n∧k.gh<n)∧(∀ z,blk wo'=some z→z≠n)
 hn:n=w.heap.size
theorem zIw (h:zL k w steps hd room wo wc W) (q:List Int) (hq:q.length=43) (x:Mt.Ins) (pc:Nat) (hp0:Mt.gt q 0=pc) (hpc:pc≤300) (P:Told)
  (hrun:∀ z:World,zL k z steps hd room wo wc W→Calls Tryz.prog 40 #[.pointer (some ⟨k.g,0,none⟩),.agg (stA (q.set 0 ((pc:Int)+1)))] z fun e w'=>∃ q' b,e=.returned (.tuple #[.agg (stA q'),.bool b])∧zHk k wo P z q' b w')
  (hxx:(x.x==0)=true∨((x.x==0)=false∧(x.x==1)=true)∨((x.x==0)=false∧(x.x==1)=false∧(x.x==2)=true)) :
  Calls Tryz.prog 99 #[.pointer (some ⟨k.g,0,none⟩),.agg (stA q),.agg (qG x)] w fun e w'=>e=.returned (.tuple #[])∧zBi k wo P w q x w':=by
 obtain ⟨W1,hW1,B1,T1,U1,Z1⟩:=zBJ w q x
 have HP0:Hid (zL k w steps hd room wo wc W):=h
 have HR:Hid (∀ z:World,zL k z steps hd room wo wc W→Calls Tryz.prog 40 #[.pointer (some ⟨k.g,0,none⟩),.agg (stA (q.set 0 ((pc:Int)+1)))] z fun e w'=>∃ q' b,e=.returned (.tuple #[.agg (stA q'),.bool b])∧zHk k wo P z q' b w'):=hrun
 have HXX:Hid ((x.x==0)=true∨((x.x==0)=false∧(x.x==1)=true)∨((x.x==0)=false∧(x.x==1)=false∧(x.x==2)=true)):=hxx
 have HU1:Hid (W1.heap[w.heap.size+1]?=some (.cells (qG x) 112 (0,0))):=U1
 have HB1:Hid (Below w.heap.size w W1):=B1
 have HZ1:Hid (W1.heap.size=w.heap.size+2):=Z1
 obtain ⟨hlt⟩:Nonempty (k.g<w.heap.size):=⟨h.lt.1⟩
 clear h hrun hxx U1 B1 Z1
 generalize hgg:k.g=g at *
 go_enter Tryz.func99,Tryz.ntmps99
 go_upto_region 1 with fail
 rw [← hW1]
 clear hW1
 generalize hnn:w.heap.size=n at *
 have HT1:Hid (W1.heap[n]?=some (.cells (stA q) 83 (0,0))):=T1
 go_upto_region 2 with (first | (refine zZ 83 43 Tryz.underlying83 rfl Tryz.sizeSt (by rfl) (.tmp 4) (by rfl) n (by rfl) T1 (zQ _) ?_) | (refine zI 83 43 Tryz.sizeSt (by rfl) (.tmp 6) (.tmp 9) (by rfl) W1.heap.size (stA q) (by rfl) (by rfl) (by exact jE _ _) (by rfl) (zQ _) (zAM _) ?_;intro w2 r1 r2 r3 r4))
 have S2:w2.heap[n]?=some (.cells (stA q) 83 (0,0)):=by rw [r2 n (by have:=HZ1.out;omega),zX _ _ _ (by have:=HZ1.out;omega)];exact T1
 have I2:w2.heap[n+1]?=some (.cells (qG x) 112 (0,0)):=by rw [r2 (n+1) (by have:=HZ1.out;omega),zX _ _ _ (by have:=HZ1.out;omega)];exact HU1.out
 have B2:Below n w w2:=(HB1.out.alloc (by have:=HZ1.out;omega) _).trans (r4 n (by have:=HZ1.out;omega))
 rw [HZ1.out] at r1
 have Z2:w2.heap.size=n+3:=by rw [r3];simp [HZ1.out]
 have x0:w2.cell? ⟨n,0,none⟩=some (.int .i64 pc):=by rw [(zA S2).1 0,← hp0];exact qF q 0 (by omega)
 have y0:w2.cell? ⟨n+2,0,none⟩=some (.int .i64 (Mt.gt q 0)):=by rw [(zA r1).1 0];exact qF q 0 (by omega)
 have f0:w2.frozen? ⟨n+2,0,none⟩=false:=(zA r1).2 0
 have F3:(w2.setCell ⟨n+2,0,none⟩ (.int .i64 ((pc:Int)+1))).heap[n+2]?=some (.cells (stA (q.set 0 ((pc:Int)+1))) 83 (0,0)):=by
  rw [← zBh q hq];exact Go.heap_setCell_same w2 (n+2) 0 _ _ _ r1
 have S3:(w2.setCell ⟨n+2,0,none⟩ (.int .i64 ((pc:Int)+1))).heap[n]?=some (.cells (stA q) 83 (0,0)):=(Below.heap_setCell _ _ _ _ (by show n≠n+2;omega)).trans S2
 have I3:(w2.setCell ⟨n+2,0,none⟩ (.int .i64 ((pc:Int)+1))).heap[n+1]?=some (.cells (qG x) 112 (0,0)):=(Below.heap_setCell _ _ _ _ (by show n+1≠n+2;omega)).trans I2
 have B3:Below n w (w2.setCell ⟨n+2,0,none⟩ (.int .i64 ((pc:Int)+1))):=B2.setCell (p:=⟨n+2,0,none⟩) (by show n≤n+2;omega) _
 have Z3:(w2.setCell ⟨n+2,0,none⟩ (.int .i64 ((pc:Int)+1))).heap.size=n+3:=by simp [World.setCell,Z2]
 have HZ:W1.heap.size=n+2:=HZ1.out
 rw [HZ]
 clear r1 r2 r3 r4 T1 S2 I2 B2 Z2 HT1 HU1 HB1 HZ1
 go_upto_region 3 with fail
 clear x0 y0 f0
 generalize w2.setCell ⟨n+2,0,none⟩ (.int .i64 ((pc:Int)+1))=w3 at *
 have HP3:zL k w3 steps hd room wo wc W:=HP0.out.below (by rw [hnn];exact B3)
 have zRR:Hid (Calls Tryz.prog 40 #[.pointer (some ⟨g,0,none⟩),.agg (stA (q.set 0 ((pc:Int)+1)))] w3 fun e w'=>∃ q' b,e=.returned (.tuple #[.agg (stA q'),.bool b])∧zHk k wo P w3 q' b w'):=HR.out w3 HP3
 have HB3:Hid (Below n w w3):=B3
 have HS3:Hid (w3.heap[n]?=some (.cells (stA q) 83 (0,0))):=S3
 have HI3:Hid (w3.heap[n+1]?=some (.cells (qG x) 112 (0,0))):=I3
 clear HP3 B3 S3 I3 HR
 go_wp2_with (refine zZ 83 43 Tryz.underlying83 rfl Tryz.sizeSt (by rfl) (.tmp 6) (by rfl) (n+2) (by rfl) F3 (zQ _) ?_)
 refine zRR.out.mono ?_
 rintro e w4 ⟨q',b,rfl,hD⟩
 have HD:Hid (zHk k wo P w3 q' b w4):=hD
 clear hD F3 zRR
 go_upto_region 4 with (refine zI 83 43 Tryz.sizeSt (by rfl) (.tmp 7) (.tmp 18) (by rfl) w4.heap.size (stA q') (by rfl) (by rfl) (by exact jE _ _) (by rfl) (zQ _) (zAM _) ?_;intro w5 r1 r2 r3 r4)
 have HM:Hid (zRQ k wo P w n w4.heap.size q x q' b w5):=by
  obtain ⟨st',hd',room',wo',wc',W',d1,d2,d3,d4,d5⟩:=HD.out
  have hl:=HP0.out.lt
  rw [hnn] at hl
  have hb4:∀ j,n≤j→j<n+3→w5.heap[j]?=w3.heap[j]?:=fun j h1 h2=>by
   have:=d3.size
   rw [r2 j (by omega),zX _ _ _ (by omega)]
   exact d3.block j (by omega) (by omega) (by omega) (fun e=>by have:=(hl.2.2.2.2.2 j e).2;omega)
  have hs4:=d3.size
  have B5:Below w4.heap.size w4 w5:=((Below.refl _ _).alloc (Nat.le_refl _) _).trans (r4 _ (Nat.le_refl _))
  refine ⟨(hb4 n (by omega) (by omega)).trans HS3.out,(hb4 (n+1) (by omega) (by omega)).trans HI3.out,r1,by omega,⟨st',hd',room',wo',wc',W',d1,d2.below B5,((kW.below (by rw [hnn];exact HB3.out)).trans d3).trans (kW.below B5),d4,d5,by omega,fun z hz e=>?_⟩,hnn.symm⟩
  have:=d3.sub z (by omega) hz
  have:=(hl.2.2.2.2.2 z this).2
  omega
 clear r1 r2 r3 r4 HD HS3 HI3 HB3 HP0 Z3
 generalize w4.heap.size=m at *
 have hcI:=zA HM.out.i
 have i1:w5.cell? ⟨n+1,1,none⟩=some (.int .i64 x.x):=hcI.1 1
 have i2:w5.cell? ⟨n+1,2,none⟩=some (.int .i64 x.y):=hcI.1 2
 have E5:=HM.out.e
 have S5:=HM.out.s
 have HNO:Hid (zEA x b=false→zBi k wo P w q x w5):=fun hf=>by
  obtain ⟨st',hd',room',wo',wc',W',d1,d2,d3,d4,d5,_⟩:=HM.out.done
  exact ⟨q',b,st',hd',room',wo',wc',W',d1,d5,by rw [hf,zA7];exact d2,d3⟩
 have hq':q'.length=43:=by obtain ⟨_,_,_,_,_,_,d1,_⟩:=HM.out.done;exact d1
 have HWT:Hid (∀ (u:List Int) (z:World) (y:Int),u.length=43→Below n w5 z→(∀ j,j≠n→z.heap[j]?=w5.heap[j]?)→Calls Tryz.prog 68 #[.pointer (some ⟨g,0,none⟩),.agg (stA u),.int .i64 y] z fun e w'=>e=.returned (.tuple #[])∧(zEA x b=true→u.set 0 y=Mt.zEo q x q'→zBi k wo P w q x w')):=fun u z y hu hz hzo=>by
  obtain ⟨st',hd',room',wo',wc',W',d1,d2,d3,d4,d5,d6,d7⟩:=HM.out.done
  have hPz:zL k z st' hd' room' wo' wc' W':=d2.same (hzo _ (by omega)) (hzo _ (by omega)) (hzo _ (by omega)) (hzo _ (by omega)) (hzo _ (by omega)) (fun i hi=>hzo i (d7 i hi))
  have hSz:kW k wo wo' w z:=by
   refine ⟨hz.os.trans d3.os,hz.tape.trans d3.tape,hz.output.trans d3.output,Nat.le_trans d3.size hz.size,fun i hi h1 h2 h3=>(hzo i (by omega)).trans (d3.block i hi h1 h2 h3),d3.sub⟩
  have:=zAR u y hu hPz (by omega)
  rw [hgg] at this
  refine this.mono ?_
  rintro e w' ⟨rfl,wo2,wc2,hP2,hS2⟩
  refine ⟨rfl,fun hf hu2=>⟨q',b,st',hd',room',wo2,wc2,W',d1,d5,?_,hSz.trans hS2⟩⟩
  rw [hf,vQ,← hu2];exact hP2
 clear hcI
 have hnm:=HM.out.nm
 rcases HXX.out with e0 | ⟨e0,e1⟩ | ⟨e0,e1,e2⟩
 ·cases b
  ·go_wp2_with fail
   go_returns
   exact ⟨rfl,HNO.out (by unfold zEA;rw [if_pos (by simpa using e0)])⟩
  ·go_wp2_with (refine zZ 83 43 Tryz.underlying83 rfl Tryz.sizeSt (by rfl) (.tmp 7) (by rfl) m (by rfl) E5 (zQ _) ?_)
   refine (HWT.out _ _ _ hq' (Below.refl _ _) (fun _ _=>rfl)).mono ?_
   rintro e w6 ⟨rfl,hF⟩
   have HF:Hid (zBi k wo P w q x w6):=hF (by unfold zEA;rw [if_pos (by simpa using e0)]) (by unfold Mt.zEo;rw [if_pos (by simpa using e0)])
   clear hF
   go_wp2_with fail
   go_returns
   exact ⟨rfl,HF.out⟩
 ·cases b
  ·go_wp2_with fail
   go_returns
   exact ⟨rfl,HNO.out (by unfold zEA;rw [if_neg (by simpa using e0),if_pos (by simpa using e1)])⟩
  ·have R1:=zDF E5 2 20
   have TH1:w5.there n 2 20:=fun j hj=>by
    have:=zA S5
    rw [this.1,this.2,qF q _ (by omega)];exact ⟨rfl,rfl⟩
   have S6:=zFH (e:=q') S5 2 20 (by omega)
   have E6:(w5.setCells n 2 (((stC q').drop 2).take 20)).heap[m]?=some (.cells (stA q') 83 (0,0)):=(zBK m (by omega)).trans E5
   have I6:(w5.setCells n 2 (((stC q').drop 2).take 20)).heap[n+1]?=some (.cells (qG x) 112 (0,0)):=(zBK (n+1) (by omega)).trans HM.out.i
   have B6:Below n w5 (w5.setCells n 2 (((stC q').drop 2).take 20)):=(below_setCells n _ 2 w5 n (Nat.le_refl _)).1
   have O6:∀ j,j≠n→(w5.setCells n 2 (((stC q').drop 2).take 20)).heap[j]?=w5.heap[j]?:=fun j hj=>zBK j hj
   have l1:(((stC q').drop 2).take 20).toArray.size=20:=by simp [stC]
   have l2:(((stC q').drop 22).take 10).toArray.size=10:=by simp [stC]
   have a1:(((stC q').drop 2).take 20).toArray.all (·.oneCell')=true:=by
    rw [List.all_toArray,List.all_eq_true];intro u hu;exact zJF q' u (List.mem_of_mem_drop (List.mem_of_mem_take hu))
   have a2:(((stC q').drop 22).take 10).toArray.all (·.oneCell')=true:=by
    rw [List.all_toArray,List.all_eq_true];intro u hu;exact zJF q' u (List.mem_of_mem_drop (List.mem_of_mem_take hu))
   go_upto_region 11 with (first | (refine wpList_load_mid (by rfl) 27 (.tmp 33) (by rfl) m 2 (by rfl) (((stC q').drop 2).take 20) _ R1 Tryz.underlying27 rfl (by rw [Tryz.underArr20,← l1];rfl) ?_) | (refine wpList_store_mid (by rfl) 27 (.tmp 35) (.tmp 34) (by rfl) n 2 (((stC q').drop 2).take 20).toArray (by rfl) (by rfl) (by rw [l1];exact TH1) (by rw [Tryz.underArr20,l1]) a1 ?_))
   generalize w5.setCells n 2 (((stC q').drop 2).take 20)=w6 at *
   have R2:=zDF E6 22 10
   have TH2:w6.there n 22 10:=fun j hj=>by
    have:=zA S6
    rw [this.1,this.2,qF _ _ (by omega)];exact ⟨rfl,rfl⟩
   have S7:=zFH (e:=q') S6 22 10 (by omega)
   rw [show 2+20=22 from rfl,show 22+10=32 from rfl,zPm q q' hq hq'] at S7
   have I7:(w6.setCells n 22 (((stC q').drop 22).take 10)).heap[n+1]?=some (.cells (qG x) 112 (0,0)):=(zBK (n+1) (by omega)).trans I6
   have B7:Below n w5 (w6.setCells n 22 (((stC q').drop 22).take 10)):=B6.trans (below_setCells n _ 22 w6 n (Nat.le_refl _)).1
   have O7:∀ j,j≠n→(w6.setCells n 22 (((stC q').drop 22).take 10)).heap[j]?=w5.heap[j]?:=fun j hj=>(zBK j hj).trans (O6 j hj)
   have HB7:Hid (Below n w5 (w6.setCells n 22 (((stC q').drop 22).take 10))):=B7
   have HO7:Hid (∀ j,j≠n→(w6.setCells n 22 (((stC q').drop 22).take 10)).heap[j]?=w5.heap[j]?):=O7
   clear B6 O6 S6 I6 TH1 R1 a1 l1 B7 O7 E5 S5 i1 i2
   go_upto_region 12 with (first | (refine wpList_load_mid (by rfl) 80 (.tmp 36) (by rfl) m 22 (by rfl) (((stC q').drop 22).take 10) _ R2 Tryz.underlying80 rfl (by rw [Tryz.underArr10,← l2];rfl) ?_) | (refine wpList_store_mid (by rfl) 80 (.tmp 38) (.tmp 37) (by rfl) n 22 (((stC q').drop 22).take 10).toArray (by rfl) (by rfl) (by rw [l2];exact TH2) (by rw [Tryz.underArr10,l2]) a2 ?_))
   generalize w6.setCells n 22 (((stC q').drop 22).take 10)=w7 at *
   have i2:w7.cell? ⟨n+1,2,none⟩=some (.int .i64 x.y):=(zA I7).1 2
   clear R2 TH2 I7 l2 a2 E6
   go_wp2_with (refine zZ 83 43 Tryz.underlying83 rfl Tryz.sizeSt (by rfl) (.tmp 4) (by rfl) n (by rfl) S7 (zQ _) ?_)
   refine (HWT.out _ _ _ (Mt.zEn q q' hq hq') HB7.out HO7.out).mono ?_
   rintro e w8 ⟨rfl,hF⟩
   have HF:Hid (zBi k wo P w q x w8):=hF (by unfold zEA;rw [if_neg (by simpa using e0),if_pos (by simpa using e1)]) (by unfold Mt.zEo;rw [if_neg (by simpa using e0),if_pos (by simpa using e1)])
   clear hF
   go_wp2_with fail
   go_returns
   exact ⟨rfl,HF.out⟩
 ·cases b
  ·go_wp2_with (refine zZ 83 43 Tryz.underlying83 rfl Tryz.sizeSt (by rfl) (.tmp 4) (by rfl) n (by rfl) S5 (zQ _) ?_)
   refine (HWT.out _ _ _ hq (Below.refl _ _) (fun _ _=>rfl)).mono ?_
   rintro e w6 ⟨rfl,hF⟩
   have HF:Hid (zBi k wo P w q x w6):=hF (by unfold zEA;rw [if_neg (by simpa using e0),if_neg (by simpa using e1)];rfl) (by unfold Mt.zEo;rw [if_neg (by simpa using e0),if_neg (by simpa using e1)])
   clear hF
   go_wp2_with fail
   go_returns
   exact ⟨rfl,HF.out⟩
  ·go_wp2_with fail
   go_returns
   exact ⟨rfl,HNO.out (by unfold zEA;rw [if_neg (by simpa using e0),if_neg (by simpa using e1)];rfl)⟩
end
def zEL (k:Pk) (wo:Option Addr) (P:Told) (w:World) (q:List Int) (x:Mt.Ins) (steps:Int) (hd:List Bool) (room:Int) (W:List (List Int)) (b:Bool) (w':World):Prop :=
 (x.op=2→b=false∧Waits k wo w steps hd room ((W++[q.set 0 x.y])++[q.set 0 x.x]) w') ∧
 (x.op=12∨x.op=13→b=true∧Waits k wo w steps hd room W w') ∧
 (x.op=11→b=false∧zBi k wo P w q x w') ∧
 (x.op≠2→x.op≠11→x.op≠12→x.op≠13→b=false∧Waits k wo w steps hd room (zCV W (Mt.qU k.t q x).2 (Mt.qU k.t q x).1) w')
section
variable {k:Pk} {w:World} {steps:Int} {hd:List Bool} {room:Int} {wo:Option Addr} {wc:Nat} {W:List (List Int)}
theorem zL.zKu (h:zL k w steps hd room wo wc W) (p j:Nat) (hp:p<k.c.length) (hj:j<4):w.cell? ⟨k.gc,p*4+j,none⟩=(zT (k.c.getD p Mt.jA))[j]?:=by
 have hc:=h.code
 unfold zB at hc
 rw [World.ownsRow.cellAt hc (p*4+j) (by omega),zAD k.c p j hp hj]
structure zD7 (k:Pk) (wo:Option Addr) (wc:Nat) (w:World) (n:Nat) (q:List Int) (x:Mt.Ins) (steps:Int) (hd:List Bool) (room:Int) (W:List (List Int)) (w2:World):Prop where
 s:w2.heap[n]?=some (.cells (stA q) 83 (0,0))
 i:w2.heap[n+1]?=some (.cells (qG x) 112 (0,0))
 b:Below n w w2
 z:w2.heap.size=n+2
 hn:n=w.heap.size
 p:zL k w steps hd room wo wc W
section
variable {n:Nat} {q:List Int} {x:Mt.Ins} {w2:World}
theorem zD7.wait (h:zD7 k wo wc w n q x steps hd room W w2) (u:List Int) (z:World) (y:Int) (hu:u.length=43) (hz:Below n w2 z) (hl:W.length≤100000) :
  Calls Tryz.prog 68 #[.pointer (some ⟨k.g,0,none⟩),.agg (stA u),.int .i64 y] z fun e w'=>e=.returned (.tuple #[])∧Waits k wo w steps hd room (W++[u.set 0 y]) w'∧(∀ j,n≤j→j<z.heap.size→w'.heap[j]?=z.heap[j]?)∧z.heap.size≤w'.heap.size:=by
 have hb:Below w.heap.size w z:=by rw [← h.hn];exact h.b.trans hz
 have hp:=h.p.below hb
 have hlt:=h.p.lt
 have hn:=h.hn
 refine (zAR u y hu hp (by omega)).mono ?_
 rintro e w' ⟨rfl,wo',wc',hP,hS⟩
 refine ⟨rfl,⟨wo',wc',hP,(kW.below hb).trans hS⟩,fun j h1 h2=>hS.block j h2 (by omega) (by omega) (fun e=>by have:=(hlt.2.2.2.2.2 j e).2;omega),hS.size⟩
theorem zD7.set (h:zD7 k wo wc w n q x steps hd room W w2) (hq:q.length=43) (j:Nat) (v:Int):(w2.setCell ⟨n,j,none⟩ (.int .i64 v)).heap[n]?=some (.cells (stA (q.set j v)) 83 (0,0))∧Below n w2 (w2.setCell ⟨n,j,none⟩ (.int .i64 v))∧(w2.setCell ⟨n,j,none⟩ (.int .i64 v)).heap[n+1]?=some (.cells (qG x) 112 (0,0)):=by
 refine ⟨?_,(Below.refl _ _).setCell (p:=⟨n,j,none⟩) (Nat.le_refl _) _,?_⟩
 ·rw [← zBh q hq];exact Go.heap_setCell_same w2 n j _ _ _ h.s
 ·exact (Below.heap_setCell _ _ _ _ (by show n+1≠n;omega)).trans h.i
end
theorem zND (h:zL k w steps hd room wo wc W) (q:List Int) (hq:q.length=43) (pc pos:Nat) (hp0:Mt.gt q 0=pc) (hp1:Mt.gt q 1=pos) (hpc:pc<k.c.length) (hc:k.c.length≤300) (hpos:pos≤60) (hW:W.length≤90000) (P:Told) (x:Mt.Ins) (hx:k.c.getD pc Mt.jA=x)
  (m4:x.op=4→0≤x.x∧x.x<11) (m5:x.op=5→0≤x.y∧x.y<11) (m6:x.op=6∨x.op=7→0≤x.x∧x.x<10) (m1:1≤x.op∧x.op≤13)
  (hcmp:∀ z:World,zL k z steps hd room wo wc W→(x.op=1∨x.op=8∨x.op=9∨x.op=10)→Calls Tryz.prog 100 #[.pointer (some ⟨k.g,0,none⟩),.agg (stA q),.agg (qG x)] z fun e w'=>e=.returned (.tuple #[])∧Waits k wo z steps hd room (zCV W (Mt.qU k.t q x).2 (Mt.qU k.t q x).1) w')
  (hsub:∀ z:World,zL k z steps hd room wo wc W→x.op=11→Calls Tryz.prog 99 #[.pointer (some ⟨k.g,0,none⟩),.agg (stA q),.agg (qG x)] z fun e w'=>e=.returned (.tuple #[])∧zBi k wo P z q x w') :
  Calls Tryz.prog 70 #[.pointer (some ⟨k.g,0,none⟩),.agg (stA q)] w fun e w'=>∃ b,e=.returned (.bool b)∧zEL k wo P w q x steps hd room W b w':=by
 have c0:=h.cells.1
 have j0:=h.zKu pc 0 hpc (by omega)
 have j1:=h.zKu pc 1 hpc (by omega)
 have j2:=h.zKu pc 2 hpc (by omega)
 have j3:=h.zKu pc 3 hpc (by omega)
 rw [hx] at j0 j1 j2 j3
 have hg:k.g<w.heap.size:=h.lt.1
 have hgc:k.gc<w.heap.size:=h.lt.2.1
 have HP0:Hid (zL k w steps hd room wo wc W):=h
 have zSy:(pc:Int)<(k.c.length:Int):=by omega
 have HX4:Hid ((x.op=4→0≤x.x∧x.x<11)∧(x.op=5→0≤x.y∧x.y<11)∧(x.op=6∨x.op=7→0≤x.x∧x.x<10)∧(1≤x.op∧x.op≤13)):=⟨m4,m5,m6,m1⟩
 have zTF:Hid (∀ z:World,zL k z steps hd room wo wc W→(x.op=1∨x.op=8∨x.op=9∨x.op=10)→Calls Tryz.prog 100 #[.pointer (some ⟨k.g,0,none⟩),.agg (stA q),.agg (qG x)] z fun e w'=>e=.returned (.tuple #[])∧Waits k wo z steps hd room (zCV W (Mt.qU k.t q x).2 (Mt.qU k.t q x).1) w'):=hcmp
 have zTG:Hid (∀ z:World,zL k z steps hd room wo wc W→x.op=11→Calls Tryz.prog 99 #[.pointer (some ⟨k.g,0,none⟩),.agg (stA q),.agg (qG x)] z fun e w'=>e=.returned (.tuple #[])∧zBi k wo P z q x w'):=hsub
 clear h m4 m5 m6 m1 hcmp hsub hx
 generalize hgg:k.g=g at *
 generalize k.gc=gc at *
 generalize k.c.length=CL at *
 generalize k.cc=ccc at *
 go_enter Tryz.func70,Tryz.ntmps70
 go_upto_region 1 with fail
 generalize hW1:w.alloc (.cells (stA q) 83)=W1 at *
 have B1:Below w.heap.size w W1:=by rw [← hW1];exact (Below.refl _ _).alloc (Nat.le_refl _) _
 have T1:W1.heap[w.heap.size]?=some (.cells (stA q) 83 (0,0)):=by rw [← hW1];exact heap_alloc_new _ _
 have Z1:W1.heap.size=w.heap.size+1:=by rw [← hW1];simp
 have x0:W1.cell? ⟨w.heap.size,0,none⟩=some (.int .i64 pc):=by rw [(zA T1).1 0,← hp0];exact qF q 0 (by omega)
 have o:∀ b j,b<w.heap.size→W1.cell? ⟨b,j,none⟩=w.cell? ⟨b,j,none⟩:=fun b j hb=>World.cell?_of_block (a:=⟨b,j,none⟩) (B1.block b hb)
 rw [← o _ _ hg] at c0
 rw [← o _ _ hgc] at j0 j1 j2 j3
 have k0:W1.cell? ⟨gc,pc*4,none⟩=some (.int .i64 x.op):=j0
 have k1:W1.cell? ⟨gc,pc*4+1,none⟩=some (.int .i64 x.x):=j1
 have k2:W1.cell? ⟨gc,pc*4+2,none⟩=some (.int .i64 x.y):=j2
 have k3:W1.cell? ⟨gc,pc*4+3,none⟩=some (.string ⟨x.set.toArray⟩):=j3
 clear o j0 j1 j2 j3 hW1
 generalize hnn:w.heap.size=n at *
 go_region
 have HM:zD7 k wo wc w n q x steps hd room W (W1.alloc (.cells (qG x) 112)).drew:=by
  refine ⟨?_,?_,?_,by simp [Z1],hnn.symm,HP0.out⟩
  ·show (W1.alloc _).heap[n]?=_
   rw [zX _ _ _ (by omega)];exact T1
  ·show (W1.alloc _).heap[n+1]?=_
   rw [← Z1];exact heap_alloc_new _ _
  ·exact (B1.alloc (by omega) _).drew
 have hw2:(W1.alloc (.cells (qG x) 112)).drew=(W1.alloc (.cells #[.int .i64 x.op,.int .i64 x.x,.int .i64 x.y,.string ⟨x.set.toArray⟩] 112)).drew:=rfl
 rw [hw2] at HM
 clear hw2
 generalize (W1.alloc (.cells #[.int .i64 x.op,.int .i64 x.x,.int .i64 x.y,.string ⟨x.set.toArray⟩] 112)).drew=w2 at *
 have S2:=HM.s
 have hcS:=zA S2
 have hcI:=zA HM.i
 have i0:w2.cell? ⟨n+1,0,none⟩=some (.int .i64 x.op):=hcI.1 0
 have i1:w2.cell? ⟨n+1,1,none⟩=some (.int .i64 x.x):=hcI.1 1
 have i2:w2.cell? ⟨n+1,2,none⟩=some (.int .i64 x.y):=hcI.1 2
 have s0:w2.cell? ⟨n,0,none⟩=some (.int .i64 pc):=by rw [hcS.1 0,← hp0];exact qF q 0 (by omega)
 have s1:w2.cell? ⟨n,1,none⟩=some (.int .i64 pos):=by rw [hcS.1 1,← hp1];exact qF q 1 (by omega)
 have HSJ:Hid (∀ j,j<43→w2.cell? ⟨n,j,none⟩=some (.int .i64 (Mt.gt q j))∧w2.frozen? ⟨n,j,none⟩=false):=fun j hj=>⟨by rw [hcS.1 j];exact qF q j hj,hcS.2 j⟩
 have HMH:Hid (zD7 k wo wc w n q x steps hd room W w2):=HM
 have HWT:Hid (∀ (u:List Int) (z:World) (y:Int),u.length=43→Below n w2 z→Calls Tryz.prog 68 #[.pointer (some ⟨g,0,none⟩),.agg (stA u),.int .i64 y] z fun e w'=>e=.returned (.tuple #[])∧Waits k wo w steps hd room (W++[u.set 0 y]) w'∧(∀ j,n≤j→j<z.heap.size→w'.heap[j]?=z.heap[j]?)∧z.heap.size≤w'.heap.size):=fun u z y hu hz=>by
  rw [← hgg];exact HM.wait u z y hu hz (by omega)
 have HPZ:Hid (zL k w2 steps hd room wo wc W):=HM.p.below (by rw [hnn];exact HM.b)
 have Z2:=HM.z
 have HB2:Hid (Below n w w2):=HM.b
 have HX5:=HX4.out
 clear hcS hcI HM x0 c0 k0 k1 k2 k3 T1 Z1 B1
 have HOP:Hid (((x.op==2)=true)∨((x.op==2)=false∧(x.op==3)=true)∨((x.op==2)=false∧(x.op==3)=false∧(x.op==4)=true)∨((x.op==2)=false∧(x.op==3)=false∧(x.op==4)=false∧(x.op==5)=true)
  ∨ ((x.op==2)=false∧(x.op==3)=false∧(x.op==4)=false∧(x.op==5)=false∧(x.op==6)=true)∨((x.op==2)=false∧(x.op==3)=false∧(x.op==4)=false∧(x.op==5)=false∧(x.op==6)=false∧(x.op==7)=true)
  ∨ ((x.op==2)=false∧(x.op==3)=false∧(x.op==4)=false∧(x.op==5)=false∧(x.op==6)=false∧(x.op==7)=false∧(x.op==11)=true)
  ∨ ((x.op==2)=false∧(x.op==3)=false∧(x.op==4)=false∧(x.op==5)=false∧(x.op==6)=false∧(x.op==7)=false∧(x.op==11)=false∧(x.op==12)=true)
  ∨ ((x.op==2)=false∧(x.op==3)=false∧(x.op==4)=false∧(x.op==5)=false∧(x.op==6)=false∧(x.op==7)=false∧(x.op==11)=false∧(x.op==12)=false∧(x.op==13)=true)
  ∨ ((x.op==2)=false∧(x.op==3)=false∧(x.op==4)=false∧(x.op==5)=false∧(x.op==6)=false∧(x.op==7)=false∧(x.op==11)=false∧(x.op==12)=false∧(x.op==13)=false)):=by
  show _∨_
  simp only [beq_iff_eq,beq_eq_false_iff_ne]
  omega
 obtain ⟨m4,m5,m6,m1⟩:=HX5
 rcases HOP.out with e2 | ⟨e2,e3⟩ | ⟨e2,e3,e4⟩ | ⟨e2,e3,e4,e5⟩ | ⟨e2,e3,e4,e5,e6⟩ | ⟨e2,e3,e4,e5,e6,e7⟩ | ⟨e2,e3,e4,e5,e6,e7,e11⟩ | ⟨e2,e3,e4,e5,e6,e7,e11,e12⟩ | ⟨e2,e3,e4,e5,e6,e7,e11,e12,e13⟩ | ⟨e2,e3,e4,e5,e6,e7,e11,e12,e13⟩
 ·have HO:Hid (x.op=2):=by show _=_;simpa using e2
  clear m4 m5 m6 m1
  go_wp2_with (refine zZ 83 43 Tryz.underlying83 rfl Tryz.sizeSt (by rfl) (.tmp 3) (by rfl) n (by rfl) S2 (zQ _) ?_)
  refine (HWT.out q w2 x.y hq (Below.refl _ _)).mono ?_
  rintro e w3 ⟨rfl,hWt,hO,hz3⟩
  obtain ⟨wo',wc',hP,hS⟩:=hWt
  have S3:w3.heap[n]?=some (.cells (stA q) 83 (0,0)):=(hO n (Nat.le_refl _) (by omega)).trans S2
  have I3:=(hO (n+1) (by omega) (by omega)).trans HMH.out.i
  have v1:w3.cell? ⟨n+1,1,none⟩=some (.int .i64 x.x):=(zA I3).1 1
  have H2:=zAR q x.x hq hP (by simp;omega)
  rw [hgg] at H2
  have H2H:Hid (Calls Tryz.prog 68 #[.pointer (some ⟨g,0,none⟩),.agg (stA q),.int .i64 x.x] w3 _):=H2
  have HSS:Hid (kW k wo wo' w w3):=hS
  clear hO I3 hP hS H2 i0 i1 i2 s0 s1 S2
  go_wp2_with (refine zZ 83 43 Tryz.underlying83 rfl Tryz.sizeSt (by rfl) (.tmp 3) (by rfl) n (by rfl) S3 (zQ _) ?_)
  refine H2H.out.mono ?_
  rintro e w4 ⟨rfl,wo2,wc2,hP2,hS2⟩
  have HF:Hid (Waits k wo w steps hd room ((W++[q.set 0 x.y])++[q.set 0 x.x]) w4):=⟨wo2,wc2,hP2,HSS.out.trans hS2⟩
  clear hP2 hS2
  go_wp2_with fail
  go_ret
  have ho:=HO.out
  exact ⟨false,rfl,fun _=>⟨rfl,HF.out⟩,fun h=>by omega,fun h=>by omega,fun h=>by omega⟩
 ·have HO:Hid (x.op=3):=by show _=_;simpa using e3
  clear m4 m5 m6 m1
  go_wp2_with (refine zZ 83 43 Tryz.underlying83 rfl Tryz.sizeSt (by rfl) (.tmp 3) (by rfl) n (by rfl) S2 (zQ _) ?_)
  refine (HWT.out q w2 x.x hq (Below.refl _ _)).mono ?_
  rintro e w3 ⟨rfl,hWt,_,_⟩
  have HF:Hid (Waits k wo w steps hd room (W++[q.set 0 x.x]) w3):=hWt
  clear hWt
  go_wp2_with fail
  go_ret
  have ho:=HO.out
  refine ⟨false,rfl,fun h=>by omega,fun h=>by omega,fun h=>by omega,fun _ _ _ _=>⟨rfl,?_⟩⟩
  have:Mt.qU k.t q x=(q.set 0 x.x,true):=by unfold Mt.qU;rw [if_neg (by omega),if_pos ho]
  rw [this,vQ];exact HF.out
 ·have HO:Hid (x.op=4):=by show _=_;simpa using e4
  have h4:=m4 HO.out
  obtain ⟨X,hX⟩:∃ X:Nat,x.x=(X:Int):=⟨x.x.toNat,by omega⟩
  have zTH:X<11:=by omega
  have zSB:(X:Int)<11:=by omega
  rw [hX] at i1
  obtain ⟨sm,fm⟩:=HSJ.out (32+X) (by omega)
  obtain ⟨S3,B3,_⟩:=HMH.out.set hq (32+X) (pos:Int)
  have HB3:Hid (Below n w2 (w2.setCell ⟨n,32+X,none⟩ (.int .i64 (pos:Int)))):=B3
  have HXX:Hid (x.x=(X:Int)):=hX
  clear m4 m5 m6 m1 S2 B3 h4 hX
  go_wp2_with (refine zZ 83 43 Tryz.underlying83 rfl Tryz.sizeSt (by rfl) (.tmp 3) (by rfl) n (by rfl) S3 (zQ _) ?_)
  refine (HWT.out _ _ _ (by simp [hq]) HB3.out).mono ?_
  rintro e w3 ⟨rfl,hWt,_,_⟩
  have HF:Hid (Waits k wo w steps hd room (W++[(q.set (32+X) (pos:Int)).set 0 ((pc:Int)+1)]) w3):=hWt
  clear hWt
  go_wp2_with fail
  go_ret
  have ho:=HO.out
  refine ⟨false,rfl,fun h=>by omega,fun h=>by omega,fun h=>by omega,fun _ _ _ _=>⟨rfl,?_⟩⟩
  have:Mt.qU k.t q x=((q.set (32+X) (pos:Int)).set 0 ((pc:Int)+1),true):=by unfold Mt.qU;rw [if_neg (by omega),if_neg (by omega),if_pos ho,HXX.out,hp0,hp1];rfl
  rw [this,vQ];exact HF.out
 ·have HO:Hid (x.op=5):=by show _=_;simpa using e5
  have h5:=m5 HO.out
  obtain ⟨X,hX⟩:∃ X:Nat,x.y=(X:Int):=⟨x.y.toNat,by omega⟩
  have zTH:X<11:=by omega
  have zSB:(X:Int)<11:=by omega
  rw [hX] at i2
  obtain ⟨sm,fm⟩:=HSJ.out (32+X) (by omega)
  have HXX:Hid (x.y=(X:Int)):=hX
  have HON:Hid (Mt.qU k.t q x=(q.set 0 x.x,Mt.gt q (32+X) != (pos:Int))):=by
   show _=_
   have ho:=HO.out
   unfold Mt.qU;rw [if_neg (by omega),if_neg (by omega),if_neg (by omega),if_pos ho,hX,hp1];rfl
  have S3:w2.drew.heap[n]?=some (.cells (stA q) 83 (0,0)):=S2
  clear m4 m5 m6 m1 S2 h5 hX fm
  cases hmk:(Mt.gt q (32+X) != (pos:Int))
  ·go_wp2_with fail
   go_region
   go_wp2_with fail
   go_ret
   have ho:=HO.out
   refine ⟨false,rfl,fun h=>by omega,fun h=>by omega,fun h=>by omega,fun _ _ _ _=>⟨rfl,?_⟩⟩
   rw [HON.out,hmk,zA7]
   exact zAk HP0.out (by rw [hnn];exact HB2.out.drew)
  ·go_wp2_with fail
   go_region
   go_wp2_with (refine zZ 83 43 Tryz.underlying83 rfl Tryz.sizeSt (by rfl) (.tmp 3) (by rfl) n (by rfl) S3 (zQ _) ?_)
   refine (HWT.out q w2.drew x.x hq (Below.refl _ _).drew).mono ?_
   rintro e w3 ⟨rfl,hWt,_,_⟩
   have HF:Hid (Waits k wo w steps hd room (W++[q.set 0 x.x]) w3):=hWt
   clear hWt
   go_wp2_with fail
   go_ret
   have ho:=HO.out
   refine ⟨false,rfl,fun h=>by omega,fun h=>by omega,fun h=>by omega,fun _ _ _ _=>⟨rfl,?_⟩⟩
   rw [HON.out,hmk,vQ];exact HF.out
 ·have HO:Hid (x.op=6):=by show _=_;simpa using e6
  have h6:=m6 (Or.inl HO.out)
  obtain ⟨X,hX⟩:∃ X:Nat,x.x=(X:Int):=⟨x.x.toNat,by omega⟩
  have zSW:X<10:=by omega
  have zTI:(X:Int)<10:=by omega
  rw [hX] at i1
  obtain ⟨sm,fm⟩:=HSJ.out (22+X) (by omega)
  obtain ⟨S3,B3,_⟩:=HMH.out.set hq (22+X) (pos:Int)
  have HB3:Hid (Below n w2 (w2.setCell ⟨n,22+X,none⟩ (.int .i64 (pos:Int)))):=B3
  have HXX:Hid (x.x=(X:Int)):=hX
  clear m4 m5 m6 m1 S2 B3 h6 hX
  go_wp2_with (refine zZ 83 43 Tryz.underlying83 rfl Tryz.sizeSt (by rfl) (.tmp 3) (by rfl) n (by rfl) S3 (zQ _) ?_)
  refine (HWT.out _ _ _ (by simp [hq]) HB3.out).mono ?_
  rintro e w3 ⟨rfl,hWt,_,_⟩
  have HF:Hid (Waits k wo w steps hd room (W++[(q.set (22+X) (pos:Int)).set 0 ((pc:Int)+1)]) w3):=hWt
  clear hWt
  go_wp2_with fail
  go_ret
  have ho:=HO.out
  refine ⟨false,rfl,fun h=>by omega,fun h=>by omega,fun h=>by omega,fun _ _ _ _=>⟨rfl,?_⟩⟩
  have:Mt.qU k.t q x=((q.set (22+X) (pos:Int)).set 0 ((pc:Int)+1),true):=by unfold Mt.qU;rw [if_neg (by omega),if_neg (by omega),if_neg (by omega),if_neg (by omega),if_pos ho,HXX.out,hp0,hp1];rfl
  rw [this,vQ];exact HF.out
 ·have HO:Hid (x.op=7):=by show _=_;simpa using e7
  have h7:=m6 (Or.inr HO.out)
  obtain ⟨X,hX⟩:∃ X:Nat,x.x=(X:Int):=⟨x.x.toNat,by omega⟩
  have zSW:X<10:=by omega
  rw [hX] at i1
  have HXX:Hid (x.x=(X:Int)):=hX
  have HCG:Hid (Calls Tryz.prog 98 #[.pointer (some ⟨n,0,none⟩),.int .i64 (X:Nat)] w2 _):=zFE w2 n q hq S2 X zSW
  clear m4 m5 m6 m1 S2 h7 hX
  go_wp2_with fail
  refine HCG.out.mono ?_
  rintro e w3 ⟨rfl,S3,b3,o3,z3⟩
  have HB3:Hid (Below n w2 w3):=b3 n (Nat.le_refl _)
  clear b3 o3 i0 i1 i2 s0 s1
  go_wp2_with (refine zZ 83 43 Tryz.underlying83 rfl Tryz.sizeSt (by rfl) (.tmp 3) (by rfl) n (by rfl) S3 (zQ _) ?_)
  refine (HWT.out _ _ _ (by simp [hq]) HB3.out).mono ?_
  rintro e w4 ⟨rfl,hWt,_,_⟩
  have HF:Hid (Waits k wo w steps hd room (W++[((q.set (2+2*X) (Mt.gt q (22+X))).set (2+(2*X+1)) (pos:Int)).set 0 ((pc:Int)+1)]) w4):=hWt
  clear hWt
  go_wp2_with fail
  go_ret
  have ho:=HO.out
  refine ⟨false,rfl,fun h=>by omega,fun h=>by omega,fun h=>by omega,fun _ _ _ _=>⟨rfl,?_⟩⟩
  have:Mt.qU k.t q x=(((q.set (2+2*X) (Mt.gt q (22+X))).set (2+(2*X+1)) (pos:Int)).set 0 ((pc:Int)+1),true):=by
   have hxx:=HXX.out
   unfold Mt.qU
   rw [if_neg (by omega),if_neg (by omega),if_neg (by omega),if_neg (by omega),if_neg (by omega),if_pos ho,hp0,hp1,show (2*x.x).toNat=2*X by omega,show (2*x.x+1).toNat=2*X+1 by omega,show x.x.toNat=X by omega]
  rw [this,vQ];exact HF.out
 ·have HO:Hid (x.op=11):=by show _=_;simpa using e11
  have HI2:w2.heap[n+1]?=some (.cells (qG x) 112 (0,0)):=HMH.out.i
  have HSB:Hid (Calls Tryz.prog 99 #[.pointer (some ⟨g,0,none⟩),.agg (stA q),.agg (qG x)] w2 fun e w'=>e=.returned (.tuple #[])∧zBi k wo P w2 q x w'):=zTG.out w2 HPZ.out HO.out
  clear m4 m5 m6 m1
  go_wp2_with (first | (refine zZ 83 43 Tryz.underlying83 rfl Tryz.sizeSt (by rfl) (.tmp 3) (by rfl) n (by rfl) S2 (zQ _) ?_) | (refine zZ 112 4 Tryz.underlying112 rfl Tryz.sizeIn (by rfl) (.tmp 5) (by rfl) (n+1) (by rfl) HI2 (by rfl) ?_))
  refine HSB.out.mono ?_
  rintro e w3 ⟨rfl,hSD⟩
  have HF:Hid (zBi k wo P w q x w3):=by
   obtain ⟨q',b,st',hd',room',wo',wc',W',d1,d2,d3,d4⟩:=hSD
   exact ⟨q',b,st',hd',room',wo',wc',W',d1,d2,d3,(kW.below (by rw [hnn];exact HB2.out)).trans d4⟩
  clear hSD
  go_wp2_with fail
  go_ret
  have ho:=HO.out
  exact ⟨false,rfl,fun h=>by omega,fun h=>by omega,fun _=>⟨rfl,HF.out⟩,fun _ h=>absurd ho h⟩
 ·have HO:Hid (x.op=12):=by show _=_;simpa using e12
  clear m4 m5 m6 m1
  go_wp2_with fail
  go_ret
  have ho:=HO.out
  exact ⟨true,rfl,fun h=>by omega,fun _=>⟨rfl,zAk HP0.out (by rw [hnn];exact HB2.out)⟩,fun h=>by omega,fun _ _ h=>absurd ho h⟩
 ·have HO:Hid (x.op=13):=by show _=_;simpa using e13
  clear m4 m5 m6 m1
  go_wp2_with fail
  go_ret
  have ho:=HO.out
  exact ⟨true,rfl,fun h=>by omega,fun _=>⟨rfl,zAk HP0.out (by rw [hnn];exact HB2.out)⟩,fun h=>by omega,fun _ _ _ h=>absurd ho h⟩
 ·have HO:Hid (x.op=1∨x.op=8∨x.op=9∨x.op=10):=by
   show _∨_
   simp only [beq_eq_false_iff_ne] at *
   omega
  have HI2:w2.heap[n+1]?=some (.cells (qG x) 112 (0,0)):=HMH.out.i
  have HSB:Hid (Calls Tryz.prog 100 #[.pointer (some ⟨g,0,none⟩),.agg (stA q),.agg (qG x)] w2 fun e w'=>e=.returned (.tuple #[])∧Waits k wo w2 steps hd room (zCV W (Mt.qU k.t q x).2 (Mt.qU k.t q x).1) w'):=zTF.out w2 HPZ.out HO.out
  clear m4 m5 m6 m1
  go_wp2_with (first | (refine zZ 83 43 Tryz.underlying83 rfl Tryz.sizeSt (by rfl) (.tmp 3) (by rfl) n (by rfl) S2 (zQ _) ?_) | (refine zZ 112 4 Tryz.underlying112 rfl Tryz.sizeIn (by rfl) (.tmp 5) (by rfl) (n+1) (by rfl) HI2 (by rfl) ?_))
  refine HSB.out.mono ?_
  rintro e w3 ⟨rfl,hSD⟩
  have HF:Hid (Waits k wo w steps hd room (zCV W (Mt.qU k.t q x).2 (Mt.qU k.t q x).1) w3):=by
   obtain ⟨wo',wc',d3,d4⟩:=hSD
   exact ⟨wo',wc',d3,(kW.below (by rw [hnn];exact HB2.out)).trans d4⟩
  clear hSD
  go_wp2_with fail
  go_ret
  have ho:=HO.out
  exact ⟨false,rfl,fun h=>by omega,fun h=>by omega,fun h=>by omega,fun _ _ _ _=>⟨rfl,HF.out⟩⟩
end
end Go.Proofs.YtebpgfodelggoaaGreat
