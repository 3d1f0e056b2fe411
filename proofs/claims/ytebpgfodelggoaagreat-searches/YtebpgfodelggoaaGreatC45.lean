import Derived.Test.YtebpgfodelggoaaGreatC36
import Derived.Test.YtebpgfodelggoaaGreatC16
set_option linter.unusedVariables false
set_option linter.unusedSimpArgs false
set_option maxRecDepth 100000
set_option maxHeartbeats 2000000
namespace Go.Proofs.YtebpgfodelggoaaGreat
open Go.RowKit
def zD8 (L:Nat) (g:Nat) (b:Mt.PB) (so ao:Option Addr) (sc ac:Nat) (d:Int) (co:Option Addr) (w:World) (c':List Mt.Ins) (w':World):Prop :=
 ∃ co' cc',LAt L w' g b so ao sc ac co' cc' c' d∧kT g co co' w w'
theorem zFJ {L:Nat} {w:World} {g:Nat} {b:Mt.PB} {so ao:Option Addr} {sc ac:Nat} {co:Option Addr} {cc:Nat} {c:List Mt.Ins} {d:Int} (k:Nat) (h:LAt L w g b so ao sc ac co cc c d) (hn:c.length≤1000000) (hk:k<c.length) :
  Calls Tryz.prog 163 #[.pointer (some ⟨g,0,none⟩),.int .i64 (k:Int)] w fun e w'=>e=.returned (.tuple #[])∧zD8 L g b so ao sc ac d co w (c.set k { c.getD k Mt.jA with y:=c.length+1 }++[⟨12,0,0,[]⟩]) w':=by
 have HP:Hid (Calls Tryz.prog 93 #[.pointer (some ⟨g,0,none⟩),.agg (qG ⟨12,0,0,[]⟩)] w _):=xI (x:=⟨12,0,0,[]⟩) h hn
 clear h
 unfold qG at HP
 go_enter Tryz.func163,Tryz.ntmps163
 go_wp2_with fail
 refine HP.out.mono ?_
 rintro e w1 ⟨rfl,q,cap,hA,hS⟩
 obtain ⟨c0,c1,c2,c3,hf⟩:=hA.cells
 obtain ⟨q',eq,hqg,hqs,hcap⟩:=hA.form (by simp)
 simp only [Option.some.injEq,Addr.mk.injEq,and_true,true_and] at eq
 subst eq
 have hl:(c++[(⟨12,0,0,[]⟩:Mt.Ins)]).length=c.length+1:=by simp
 rw [hl] at c2 hcap
 have cy:w1.cell? ⟨q,k*4+2,none⟩=some (.int .i64 (c.getD k Mt.jA).y):=by
  rw [World.ownsRow.cellAt hA.code _ (by rw [hl];omega),zAD _ k 2 (by rw [hl];omega) (by omega),List.getD_eq_getElem?_getD,List.getElem?_append_left hk,← List.getD_eq_getElem?_getD];rfl
 have fy:w1.frozen? ⟨q,k*4+2,none⟩=false:=World.ownsRow.frozenAt hA.code _
 have HA:Hid (LAt L w1 g b so ao sc ac (some ⟨q,0,none⟩) cap (c++[⟨12,0,0,[]⟩]) d):=hA
 have HS:Hid (kT g co (some ⟨q,0,none⟩) w w1):=hS
 have hg1:g<w1.heap.size:=hA.lt.1
 clear hA hS hf HP c0 c1 c3
 have hk':(k:Int)<(c.length:Int)+1:=by omega
 have HE:Hid ((c++[(⟨12,0,0,[]⟩:Mt.Ins)]).set k { c.getD k Mt.jA with y:=c.length+1 }=c.set k { c.getD k Mt.jA with y:=c.length+1 }++[⟨12,0,0,[]⟩]):=by
  show _=_;rw [List.set_append_left _ _ hk]
 have HD:Hid ((c++[(⟨12,0,0,[]⟩:Mt.Ins)]).getD k Mt.jA=c.getD k Mt.jA):=by
  show _=_;rw [List.getD_eq_getElem?_getD,List.getElem?_append_left hk,← List.getD_eq_getElem?_getD]
 go_wp2_with fail
 go_region
 go_wp2_with fail
 go_returns
 have M:=HA.out.zHc (gc:=q) k 2 [.int .i64 (c.length+1)] { c.getD k Mt.jA with y:=c.length+1 } (by rw [hl];omega) (by simp) (by rw [HD.out];rfl)
 rw [HE.out] at M
 exact ⟨rfl,_,_,M.drew,(HS.out.set (p:=⟨q,k*4+2,none⟩) (Or.inr rfl) _).drew⟩
theorem zGB {L:Nat} {w:World} {g:Nat} {b:Mt.PB} {so ao:Option Addr} {sc ac:Nat} {q:Nat} {cc:Nat} {c:List Mt.Ins} {d:Int} (h:LAt L w g b so ao sc ac (some ⟨q,0,none⟩) cc c d) (k:Nat) (hk:k<c.length):w.there q (k*4) 4:=zIh h.code _ _ (by omega)
theorem zKz {L:Nat} {w:World} {g:Nat} {b:Mt.PB} {so ao:Option Addr} {sc ac:Nat} {co:Option Addr} {cc:Nat} {c:List Mt.Ins} {d:Int} (k:Nat) (m:Int) (h:LAt L w g b so ao sc ac co cc c d) (hn:c.length≤1000000) (hk:k<c.length) :
  Calls Tryz.prog 172 #[.pointer (some ⟨g,0,none⟩),.int .i64 (k:Int),.int .i64 m] w fun e w'=>e=.returned (.tuple #[])∧LAt L w' g b so ao sc ac co cc (c.set k (Mt.spl (k+1) c.length (decide (m=2)))) d∧kT g co co w w':=by
 obtain ⟨q,eq,hqg,hqs,hcap⟩:=h.form (by omega)
 subst eq
 obtain ⟨c0,c1,c2,c3,hf⟩:=h.cells
 have HA:Hid (LAt L w g b so ao sc ac (some ⟨q,0,none⟩) cc c d):=h
 have HT:=zGB h k hk
 have hk':(k:Int)<(c.length:Int):=by omega
 clear h hf c0 c1 c3
 have HS:Hid (∀ vs a',zT a'=setMany (zT (c.getD k Mt.jA)) 0 vs→vs.length=4→LAt L (w.setCells q (k*4) vs) g b so ao sc ac (some ⟨q,0,none⟩) cc (c.set k a') d∧kT g (some ⟨q,0,none⟩) (some ⟨q,0,none⟩) w (w.setCells q (k*4) vs)):=fun vs a' h1 h2 =>
  ⟨HA.out.zHc k 0 vs a' hk (by omega) h1,(kT.refl _ _ _).setMany _ _ _ (Or.inr rfl)⟩
 cases hm:(m==2)
 ·have e:decide (m=2)=false:=by simpa using hm
  rw [e]
  go_enter Tryz.func172,Tryz.ntmps172
  go_wp2_with (refine wpList_store_mid (by rfl) 112 (.tmp 34) (.tmp 33) (by rfl) q (k*4) (qG ⟨2,k+1,c.length,[]⟩) (by rfl) (by rfl) HT (by rw [Tryz.sizeIn];rfl) (zBr _) ?_)
  go_returns
  exact ⟨rfl,HS.out (qG ⟨2,k+1,c.length,[]⟩).toList (Mt.spl (k+1) c.length false) rfl rfl⟩
 ·have e:decide (m=2)=true:=by simpa using hm
  rw [e]
  go_enter Tryz.func172,Tryz.ntmps172
  go_wp2_with (refine wpList_store_mid (by rfl) 112 (.tmp 25) (.tmp 24) (by rfl) q (k*4) (qG ⟨2,c.length,k+1,[]⟩) (by rfl) (by rfl) HT (by rw [Tryz.sizeIn];rfl) (zBr _) ?_)
  go_returns
  exact ⟨rfl,HS.out (qG ⟨2,c.length,k+1,[]⟩).toList (Mt.spl (k+1) c.length true) rfl rfl⟩
def Lays (L:Nat) (g:Nat) (b:Mt.PB) (so ao:Option Addr) (sc ac:Nat) (d:Int) (fn:Nat) (args:Array Value) (X:Mt.Re):Prop :=
 ∀ (w:World) (co:Option Addr) (cc:Nat) (c:List Mt.Ins),LAt L w g b so ao sc ac co cc c d→c.length+X.len≤1000 →
  Calls Tryz.prog fn args w fun e w'=>e=.returned (.tuple #[])∧zD8 L g b so ao sc ac d co w (c++X.code c.length d) w'
structure Bx (W:World) (g:Nat) (co:Option Addr) (n:Nat) (A:Mt.PA):Prop where
 bk:W.heap[n]?=some (.cells (paC A).toArray 200 (0,0))
 ng:n≠g
 nc:blk co≠some n
section
variable {L:Nat} {w w':World} {g:Nat} {b:Mt.PB} {so ao:Option Addr} {sc ac:Nat} {co co':Option Addr} {cc:Nat} {c:List Mt.Ins} {d:Int} {A:Mt.PA} {n:Nat}
theorem Bx.lt (h:Bx w g co n A):n<w.heap.size:=(Array.getElem?_eq_some_iff.1 h.bk).1
theorem Bx.step (h:Bx w g co n A) (s:kT g co co' w w'):Bx w' g co' n A:=⟨(s.block n h.lt h.ng h.nc).trans h.bk,h.ng,fun e=>h.nc (s.sub n h.lt e)⟩
theorem Bx.new (h:LAt L w g b so ao sc ac co cc c d) (A:Mt.PA):Bx (w.alloc (.cells (paC A).toArray 200)) g co w.heap.size A∧LAt L (w.alloc (.cells (paC A).toArray 200)) g b so ao sc ac co cc c d∧kT g co co w (w.alloc (.cells (paC A).toArray 200)) :=
 have hb:Below w.heap.size w (w.alloc (.cells (paC A).toArray 200)):=(Below.refl _ _).alloc (Nat.le_refl _) _
 ⟨⟨heap_alloc_new _ _,fun e=>by have:=h.lt.1;omega,fun e=>by have:=(h.lt.2.1 _ e).2;omega⟩,h.below hb,kT.below hb⟩
theorem Bx.cell (h:Bx w g co n A) (k:Nat):w.cell? ⟨n,k,none⟩=(paC A)[k]?:=by
 have:=(zA h.bk).1 k
 rw [this];simp
end
theorem xK {L g:Nat} {b:Mt.PB} {so ao:Option Addr} {sc ac:Nat} {d:Int} {co co1:Option Addr} {w w1 w2:World} {c:List Mt.Ins} (s:kT g co co1 w w1) (h:zD8 L g b so ao sc ac d co1 w1 c w2):zD8 L g b so ao sc ac d co w c w2:=by
 obtain ⟨co',cc',h1,h2⟩:=h
 exact ⟨co',cc',h1,s.trans h2⟩
theorem set_mid (c:List Mt.Ins) (x z:Mt.Ins) (Y:List Mt.Ins):(c++[x]++Y).set c.length z=c++z::Y:=by
 rw [List.append_assoc,List.set_append_right _ _ (Nat.le_refl _)];simp
theorem zJL (c:List Mt.Ins) (x:Mt.Ins) (Y:List Mt.Ins):(c++[x]++Y).getD c.length Mt.jA=x:=by
 rw [List.append_assoc,List.getD_eq_getElem?_getD,List.getElem?_append_right (Nat.le_refl _)];simp
section
variable {L:Nat} {g:Nat} {b:Mt.PB} {so ao:Option Addr} {sc ac:Nat} {d:Int}
theorem zJM (s q:Int) (X:Mt.Re) (hX:Lays L g b so ao sc ac d 92 #[.pointer (some ⟨g,0,none⟩),.int .i64 q] X) :
  Lays L g b so ao sc ac d 171 #[.pointer (some ⟨g,0,none⟩),.int .i64 s,.int .i64 q] (.sub s X):=by
 intro w co cc c h hn
 have hn':c.length+X.len+2≤1000:=by simp only [Mt.Re.len] at hn;omega
 have HP:Hid (Calls Tryz.prog 93 #[.pointer (some ⟨g,0,none⟩),.agg (qG ⟨11,s,0,[]⟩)] w _):=xI (x:=⟨11,s,0,[]⟩) h (by omega)
 have HX:Hid (Lays L g b so ao sc ac d 92 #[.pointer (some ⟨g,0,none⟩),.int .i64 q] X):=hX
 have HE:Hid (c++(Mt.Re.sub s X).code c.length d=(c++[(⟨11,s,0,[]⟩:Mt.Ins)]++X.code ((c.length+1:Nat):Int) d).set c.length ⟨11,s,(c.length+1+X.len:Nat)+1,[]⟩++[⟨12,0,0,[]⟩]):=by
  show _=_;rw [set_mid];simp [Mt.Re.code];omega
 rw [HE.out]
 have hl:(c++[(⟨11,s,0,[]⟩:Mt.Ins)]).length=c.length+1:=by simp
 have hl2:∀ z:Int,(c++[(⟨11,s,0,[]⟩:Mt.Ins)]++X.code z d).length=c.length+1+X.len:=fun z=>by rw [List.length_append,hl,Mt.Re.zH]
 clear h hX hn
 unfold qG at HP
 go_enter Tryz.func171,Tryz.ntmps171
 go_wp2_with fail
 refine HP.out.mono ?_
 rintro e w1 ⟨rfl,q1,zQV,hA,hS⟩
 have H1:Hid (Calls Tryz.prog 92 #[.pointer (some ⟨g,0,none⟩),.int .i64 q] w1 _):=HX.out w1 _ _ _ hA (by rw [hl];omega)
 have HS:Hid (kT g co (some ⟨q1,0,none⟩) w w1):=hS
 clear hA hS
 go_wp2_with fail
 refine H1.out.mono ?_
 rintro e w2 ⟨rfl,co2,cc2,hA,hS⟩
 rw [hl] at hA
 have H2:=zFJ c.length hA (by rw [hl2];omega) (by rw [hl2];omega)
 rw [zJL,hl2] at H2
 have H2':Hid (Calls Tryz.prog 163 #[.pointer (some ⟨g,0,none⟩),.int .i64 ((c.length:Nat):Int)] w2 _):=H2
 have HS2:Hid (kT g co co2 w w2):=HS.out.trans hS
 clear hA hS H2
 go_wp2_with fail
 refine H2'.out.mono ?_
 rintro e w3 ⟨rfl,hD⟩
 have HD:Hid _:=xK HS2.out hD
 clear hD
 go_wp2_with fail
 go_returns
 exact ⟨rfl,HD.out⟩
theorem zF3 (A:Mt.PA) (q:Int) (X:Mt.Re) (hg:A.tok.group=2) (hb:A.body=q) (hX:Lays L g b so ao sc ac d 92 #[.pointer (some ⟨g,0,none⟩),.int .i64 q] X) :
  Lays L g b so ao sc ac d 167 #[.pointer (some ⟨g,0,none⟩),.agg (paC A).toArray] X:=by
 intro w co cc c h hn
 obtain ⟨hB,hW,hS⟩:=Bx.new h A
 have HC:Hid (Calls Tryz.prog 92 #[.pointer (some ⟨g,0,none⟩),.int .i64 q] (w.alloc (.cells (paC A).toArray 200)) _):=hX _ _ _ _ hW hn
 have a2:=hB.cell 2
 change _=some (Value.int .i64 A.tok.group) at a2
 have a17:=hB.cell 17
 change _=some (Value.int .i64 A.body) at a17
 rw [hg] at a2
 rw [hb] at a17
 have HS:Hid (kT g co co w (w.alloc (.cells (paC A).toArray 200))):=hS
 clear hB hW hS h hg hb
 go_enter Tryz.func167,Tryz.ntmps167
 go_upto_region 1 with fail
 generalize w.alloc (.cells (paC A).toArray 200)=W at *
 go_wp2_with fail
 refine HC.out.mono ?_
 rintro e w3 ⟨rfl,hD⟩
 have HD:Hid _:=xK HS.out hD
 clear hD
 go_wp2_with fail
 go_returns
 exact ⟨rfl,HD.out⟩
theorem zIy (A:Mt.PA) (q:Int) (s:Int) (hs:s=0∨s=1∨s=2) (X:Mt.Re) (hg:A.tok.group=s+3) (hb:A.body=q) (hX:Lays L g b so ao sc ac d 92 #[.pointer (some ⟨g,0,none⟩),.int .i64 q] X) :
  Lays L g b so ao sc ac d 167 #[.pointer (some ⟨g,0,none⟩),.agg (paC A).toArray] (.sub s X):=by
 have hX':=zJM s q X hX
 intro w co cc c h hn
 obtain ⟨hB,hW,hS⟩:=Bx.new h A
 have HC:Hid (Calls Tryz.prog 171 #[.pointer (some ⟨g,0,none⟩),.int .i64 s,.int .i64 q] (w.alloc (.cells (paC A).toArray 200)) _):=hX' _ _ _ _ hW hn
 have a2:=hB.cell 2
 change _=some (Value.int .i64 A.tok.group) at a2
 have a17:=hB.cell 17
 change _=some (Value.int .i64 A.body) at a17
 rw [hg] at a2
 rw [hb] at a17
 have HS:Hid (kT g co co w (w.alloc (.cells (paC A).toArray 200))):=hS
 clear hB hW hS h hg hb hX hX'
 rcases hs with rfl | rfl | rfl
 all_goals
  go_enter Tryz.func167,Tryz.ntmps167
  go_upto_region 1 with fail
  generalize w.alloc (.cells (paC A).toArray 200)=W at *
  go_wp2_with fail
  refine HC.out.mono ?_
  rintro e w3 ⟨rfl,hD⟩
  have HD:Hid _:=xK HS.out hD
  clear hD
  go_wp2_with fail
  go_returns
  exact ⟨rfl,HD.out⟩
theorem zIz (A:Mt.PA) (q:Int) (k:Int) (X:Mt.Re) (hg:A.tok.group=1) (hb:A.body=q) (hk:A.num=k) (hX:Lays L g b so ao sc ac d 92 #[.pointer (some ⟨g,0,none⟩),.int .i64 q] X) :
  Lays L g b so ao sc ac d 167 #[.pointer (some ⟨g,0,none⟩),.agg (paC A).toArray] (.cap k X):=by
 intro w co cc c h hn
 have hn':c.length+X.len+2≤1000:=by simp only [Mt.Re.len] at hn;omega
 obtain ⟨hB,hW,hS⟩:=Bx.new h A
 have HP:Hid (Calls Tryz.prog 93 #[.pointer (some ⟨g,0,none⟩),.agg (qG ⟨6,k,0,[]⟩)] (w.alloc (.cells (paC A).toArray 200)) _):=xI (x:=⟨6,k,0,[]⟩) hW (by omega)
 have HX:Hid (Lays L g b so ao sc ac d 92 #[.pointer (some ⟨g,0,none⟩),.int .i64 q] X):=hX
 have a2:=hB.cell 2
 change _=some (Value.int .i64 A.tok.group) at a2
 have a8:=hB.cell 8
 change _=some (Value.int .i64 A.num) at a8
 rw [hg] at a2
 rw [hk] at a8
 have HQ:Hid (A.body=q∧A.num=k):=⟨hb,hk⟩
 have HS:Hid (kT g co co w (w.alloc (.cells (paC A).toArray 200))∧Bx (w.alloc (.cells (paC A).toArray 200)) g co w.heap.size A):=⟨hS,hB⟩
 have hl:(c++[(⟨6,k,0,[]⟩:Mt.Ins)]).length=c.length+1:=by simp
 have hl2:∀ z:Int,(c++[(⟨6,k,0,[]⟩:Mt.Ins)]++X.code z d).length=c.length+1+X.len:=fun z=>by rw [List.length_append,hl,Mt.Re.zH]
 have HE:Hid (c++(Mt.Re.cap k X).code c.length d=c++[(⟨6,k,0,[]⟩:Mt.Ins)]++X.code ((c.length+1:Nat):Int) d++[⟨7,k,0,[]⟩]):=by
  show _=_;simp [Mt.Re.code]
 rw [HE.out]
 clear hB hW hS h hg hb hX hk hn
 unfold qG at HP
 go_enter Tryz.func167,Tryz.ntmps167
 go_upto_region 1 with fail
 generalize w.alloc (.cells (paC A).toArray 200)=W at *
 go_wp2_with fail
 refine HP.out.mono ?_
 rintro e w1 ⟨rfl,q1,zQV,hA,hS⟩
 have H1:Hid (Calls Tryz.prog 92 #[.pointer (some ⟨g,0,none⟩),.int .i64 q] w1 _):=HX.out w1 _ _ _ hA (by rw [hl];omega)
 have hB1:=HS.out.2.step hS
 have b17:=hB1.cell 17
 change _=some (Value.int .i64 A.body) at b17
 rw [HQ.out.1] at b17
 have HS1:Hid (kT g co (some ⟨q1,0,none⟩) w w1∧Bx w1 g (some ⟨q1,0,none⟩) w.heap.size A):=⟨HS.out.1.trans hS,hB1⟩
 clear hA hS hB1
 go_wp2_with fail
 refine H1.out.mono ?_
 rintro e w2 ⟨rfl,co2,cc2,hA,hS⟩
 rw [hl] at hA
 have H2:Hid (Calls Tryz.prog 93 #[.pointer (some ⟨g,0,none⟩),.agg (qG ⟨7,k,0,[]⟩)] w2 _):=xI (x:=⟨7,k,0,[]⟩) hA (by rw [hl2];omega)
 have hB2:=HS1.out.2.step hS
 have b8:=hB2.cell 8
 change _=some (Value.int .i64 A.num) at b8
 rw [HQ.out.2] at b8
 have HS2:Hid (kT g co co2 w w2):=HS1.out.1.trans hS
 clear hA hS hB2
 unfold qG at H2
 go_wp2_with fail
 refine H2.out.mono ?_
 rintro e w3 ⟨rfl,q3,zUk,hA,hS⟩
 have HD:Hid (zD8 L g b so ao sc ac d co w (c++[(⟨6,k,0,[]⟩:Mt.Ins)]++X.code ((c.length+1:Nat):Int) d++[⟨7,k,0,[]⟩]) w3):=⟨_,_,hA,HS2.out.trans hS⟩
 clear hA hS
 go_wp2_with fail
 go_returns
 exact ⟨rfl,HD.out⟩
end
section
variable {L:Nat} {g:Nat} {b:Mt.PB} {so ao:Option Addr} {sc ac:Nat} {d:Int}
theorem zJN (A:Mt.PA) (X:Mt.Re) (hk:A.tok.kind=2) (hX:Lays L g b so ao sc ac d 167 #[.pointer (some ⟨g,0,none⟩),.agg (paC A).toArray] X) :
  Lays L g b so ao sc ac d 161 #[.pointer (some ⟨g,0,none⟩),.agg (paC A).toArray] X:=by
 intro w co cc c h hn
 obtain ⟨hB,hW,hS⟩:=Bx.new h A
 have HC:Hid (Calls Tryz.prog 167 #[.pointer (some ⟨g,0,none⟩),.agg (paC A).toArray] (w.alloc (.cells (paC A).toArray 200)) _):=hX _ _ _ _ hW hn
 have a0:=hB.cell 0
 change _=some (Value.int .i64 A.tok.kind) at a0
 rw [hk] at a0
 have HBK:=hB.bk
 have HS:Hid (kT g co co w (w.alloc (.cells (paC A).toArray 200))):=hS
 clear hB hW hS h hk hX
 go_enter Tryz.func161,Tryz.ntmps161
 go_upto_region 1 with fail
 generalize w.alloc (.cells (paC A).toArray 200)=W at *
 go_wp2_with (refine zZ 200 20 Tryz.underlying200 rfl Tryz.sizeAt (by rfl) (.tmp 3) (by rfl) w.heap.size (by rfl) HBK (by rfl) ?_)
 refine HC.out.mono ?_
 rintro e w3 ⟨rfl,hD⟩
 have HD:Hid _:=xK HS.out hD
 clear hD
 go_wp2_with fail
 go_returns
 exact ⟨rfl,HD.out⟩
theorem zPq {w W:World} {co:Option Addr} {cc:Nat} {c:List Mt.Ins} (hW:LAt L W g b so ao sc ac co cc c d) (hS:kT g co co w W) (x:Mt.Ins) (hn:c.length≤1000000) :
  Calls Tryz.prog 93 #[.pointer (some ⟨g,0,none⟩),.agg (qG x)] W fun e w'=>e=.returned (.int .i64 c.length)∧zD8 L g b so ao sc ac d co w (c++[x]) w':=by
 refine (xI x hW hn).mono ?_
 rintro e w1 ⟨rfl,q1,zQV,hA,hS1⟩
 exact ⟨rfl,_,_,hA,hS.trans hS1⟩
theorem zEp (A:Mt.PA) (t:Mt.Tok) (hk:Mt.zBV t) (ht:A.tok=Mt.jT t) :
  Lays L g b so ao sc ac d 161 #[.pointer (some ⟨g,0,none⟩),.agg (paC A).toArray] (Mt.xM t):=by
 intro w co cc c h hn
 have hn':c.length≤1000000:=by omega
 obtain ⟨hB,hW,hS⟩:=Bx.new h A
 have HC:Hid (∀ x,Calls Tryz.prog 93 #[.pointer (some ⟨g,0,none⟩),.agg (qG x)] (w.alloc (.cells (paC A).toArray 200)) fun e w'=>e=.returned (.int .i64 c.length)∧zD8 L g b so ao sc ac d co w (c++[x]) w'):=fun x=>zPq hW hS x hn'
 have a0:=hB.cell 0
 change _=some (Value.int .i64 A.tok.kind) at a0
 have a3:=hB.cell 3
 change _=some (Value.int .i64 A.tok.number) at a3
 have a7:=hB.cell 7
 change _=some (Value.string ⟨A.tok.set.toArray⟩) at a7
 rw [ht] at a0 a3 a7
 clear hB hW hS h hn
 rcases hk with hk | hk | hk | hk
 ·have e0:(Mt.jT t).kind=5:=by rw [Mt.kS,hk];rfl
  have e1:(Mt.jT t).set=t.set:=rfl
  have e2:Mt.xM t=.one t.set:=by unfold Mt.xM;rw [if_pos hk]
  rw [e0] at a0
  rw [e1] at a7
  rw [e2]
  have HC':=HC.out ⟨1,0,0,t.set⟩
  unfold qG at HC'
  have H:Hid _:=HC'
  clear HC HC' e0 e1 e2 a3
  go_enter Tryz.func161,Tryz.ntmps161
  go_upto_region 1 with fail
  generalize w.alloc (.cells (paC A).toArray 200)=W at *
  go_wp2_with fail
  refine Calls.mono H.out ?_
  rintro e w3 ⟨rfl,hD⟩
  have HD:Hid _:=hD
  clear hD
  go_wp2_with fail
  go_returns
  exact ⟨rfl,HD.out⟩
 ·have e0:(Mt.jT t).kind=6:=by rw [Mt.kS,hk];rfl
  have e1:(Mt.jT t).number=t.n:=by simp [Mt.jT,hk]
  have e2:Mt.xM t=.back t.n:=by unfold Mt.xM;rw [if_neg (by omega),if_pos hk]
  rw [e0] at a0
  rw [e1] at a3
  rw [e2]
  have HC':=HC.out ⟨8,t.n,0,[]⟩
  unfold qG at HC'
  have H:Hid _:=HC'
  clear HC HC' e0 e1 e2 a7
  go_enter Tryz.func161,Tryz.ntmps161
  go_upto_region 1 with fail
  generalize w.alloc (.cells (paC A).toArray 200)=W at *
  go_wp2_with fail
  refine Calls.mono H.out ?_
  rintro e w3 ⟨rfl,hD⟩
  have HD:Hid _:=hD
  clear hD
  go_wp2_with fail
  go_returns
  exact ⟨rfl,HD.out⟩
 ·have e0:(Mt.jT t).kind=7:=by rw [Mt.kS,hk];rfl
  have e2:Mt.xM t=.head:=by unfold Mt.xM;rw [if_neg (by omega),if_neg (by omega),if_pos hk]
  rw [e0] at a0
  rw [e2]
  have HC':=HC.out ⟨9,0,0,[]⟩
  unfold qG at HC'
  have H:Hid _:=HC'
  clear HC HC' e0 e2 a7 a3
  go_enter Tryz.func161,Tryz.ntmps161
  go_upto_region 1 with fail
  generalize w.alloc (.cells (paC A).toArray 200)=W at *
  go_wp2_with fail
  refine Calls.mono H.out ?_
  rintro e w3 ⟨rfl,hD⟩
  have HD:Hid _:=hD
  clear hD
  go_wp2_with fail
  go_returns
  exact ⟨rfl,HD.out⟩
 ·have e0:(Mt.jT t).kind=8:=by rw [Mt.kS,hk];rfl
  have e2:Mt.xM t=.tail:=by unfold Mt.xM;rw [if_neg (by omega),if_neg (by omega),if_neg (by omega)]
  rw [e0] at a0
  rw [e2]
  have HC':=HC.out ⟨10,0,0,[]⟩
  unfold qG at HC'
  have H:Hid _:=HC'
  clear HC HC' e0 e2 a7 a3
  go_enter Tryz.func161,Tryz.ntmps161
  go_upto_region 1 with fail
  generalize w.alloc (.cells (paC A).toArray 200)=W at *
  go_wp2_with fail
  refine Calls.mono H.out ?_
  rintro e w3 ⟨rfl,hD⟩
  have HD:Hid _:=hD
  clear hD
  go_wp2_with fail
  go_returns
  exact ⟨rfl,HD.out⟩
end
end Go.Proofs.YtebpgfodelggoaaGreat
namespace Mt
theorem zFK (x:Re) (d:Int):∀ (k:Nat) (p:Int),(kH x (k+1)).code p d=(kH x k).code p d++x.code (p+(k*x.len:Nat)) d
 | 0,p=>by simp [kH,Re.code]
 | k+1,p=>by
  have ih:=zFK x d k (p+x.len)
  have e1:(kH x (k+1+1)).code p d=x.code p d++(kH x (k+1)).code (p+x.len) d:=rfl
  have e2:(kH x (k+1)).code p d=x.code p d++(kH x k).code (p+x.len) d:=rfl
  rw [e1,e2,ih,List.append_assoc,Nat.add_mul]
  congr 3
  push_cast;omega
theorem zJO (x:Re) (h:x.len=0) (k:Nat) (p d:Int):(kH x k).code p d=[]:=by
 rw [← List.length_eq_zero_iff,Re.zH,zAL,h,Nat.mul_zero]
end Mt
namespace Go.Proofs.YtebpgfodelggoaaGreat
open Go.RowKit
section
variable {L:Nat} {g:Nat} {b:Mt.PB} {so ao:Option Addr} {sc ac:Nat} {d:Int}
theorem zIA (A:Mt.PA) (x:Mt.Re) (hd0:0≤d) (hd:d≤1000) (hX:Lays L g b so ao sc ac (d+1) 161 #[.pointer (some ⟨g,0,none⟩),.agg (paC A).toArray] x) :
  Lays L g b so ao sc ac d 169 #[.pointer (some ⟨g,0,none⟩),.agg (paC A).toArray] (.loop (decide (A.rep.xR=2)) x):=by
 intro w co cc c h hn
 have hn':c.length+x.len+3≤1000:=by simp only [Mt.Re.len] at hn;omega
 obtain ⟨hB,hW,hS⟩:=Bx.new h A
 have HP:Hid (Calls Tryz.prog 93 #[.pointer (some ⟨g,0,none⟩),.agg (qG ⟨2,0,0,[]⟩)] (w.alloc (.cells (paC A).toArray 200)) _):=xI (x:=⟨2,0,0,[]⟩) hW (by omega)
 have HX:Hid (Lays L g b so ao sc ac (d+1) 161 #[.pointer (some ⟨g,0,none⟩),.agg (paC A).toArray] x):=hX
 have HS:Hid (kT g co co w (w.alloc (.cells (paC A).toArray 200))∧Bx (w.alloc (.cells (paC A).toArray 200)) g co w.heap.size A):=⟨hS,hB⟩
 have l1:(c++[(⟨2,0,0,[]⟩:Mt.Ins)]).length=c.length+1:=by simp
 have l2:(c++[(⟨2,0,0,[]⟩:Mt.Ins)]++[(⟨4,d,0,[]⟩:Mt.Ins)]).length=c.length+2:=by simp
 have l3:∀ z:Int,(c++[(⟨2,0,0,[]⟩:Mt.Ins)]++[(⟨4,d,0,[]⟩:Mt.Ins)]++x.code z (d+1)).length=c.length+2+x.len:=fun z=>by rw [List.length_append,l2,Mt.Re.zH]
 have l4:∀ z:Int,(c++[(⟨2,0,0,[]⟩:Mt.Ins)]++[(⟨4,d,0,[]⟩:Mt.Ins)]++x.code z (d+1)++[(⟨5,c.length,d,[]⟩:Mt.Ins)]).length=c.length+3+x.len:=fun z=>by rw [List.length_append,l3];simp;omega
 have HE:Hid (c++(Mt.Re.loop (decide (A.rep.xR=2)) x).code c.length d=(c++[(⟨2,0,0,[]⟩:Mt.Ins)]++[(⟨4,d,0,[]⟩:Mt.Ins)]++x.code ((c.length+2:Nat):Int) (d+1)++[(⟨5,c.length,d,[]⟩:Mt.Ins)]).set c.length (Mt.spl ((c.length:Int)+1) ((c.length+3+x.len:Nat):Int) (decide (A.rep.xR=2)))):=by
  show _=_
  rw [show c++[(⟨2,0,0,[]⟩:Mt.Ins)]++[(⟨4,d,0,[]⟩:Mt.Ins)]++x.code ((c.length+2:Nat):Int) (d+1)++[(⟨5,c.length,d,[]⟩:Mt.Ins)]=c++[(⟨2,0,0,[]⟩:Mt.Ins)]++([(⟨4,d,0,[]⟩:Mt.Ins)]++x.code ((c.length+2:Nat):Int) (d+1)++[(⟨5,c.length,d,[]⟩:Mt.Ins)]) by simp,set_mid]
  simp [Mt.Re.code];congr 1;omega
 rw [HE.out]
 clear hB hW hS h hX hn HE
 unfold qG at HP
 go_enter Tryz.func169,Tryz.ntmps169
 go_upto_region 1 with fail
 generalize w.alloc (.cells (paC A).toArray 200)=W at *
 go_wp2_with fail
 refine HP.out.mono ?_
 rintro e w1 ⟨rfl,q1,zQV,hA,hS⟩
 have H2:Hid (Calls Tryz.prog 93 #[.pointer (some ⟨g,0,none⟩),.agg (qG ⟨4,d,0,[]⟩)] w1 _):=xI (x:=⟨4,d,0,[]⟩) hA (by rw [l1];omega)
 have c3:=hA.cells.2.2.2.1
 have HS1:Hid (kT g co (some ⟨q1,0,none⟩) w w1∧Bx w1 g (some ⟨q1,0,none⟩) w.heap.size A):=⟨HS.out.1.trans hS,HS.out.2.step hS⟩
 clear hA hS
 unfold qG at H2
 go_wp2_with fail
 refine H2.out.mono ?_
 rintro e w2 ⟨rfl,q2,cap2,hA,hS⟩
 have M2:=hA.zKm (d+1)
 have S2:=hS.set (p:=⟨g,3,none⟩) (Or.inl rfl) (.int .i64 (d+1))
 have B2:=HS1.out.2.step S2
 have H3:Hid (Calls Tryz.prog 161 #[.pointer (some ⟨g,0,none⟩),.agg (paC A).toArray] (w2.setCell ⟨g,3,none⟩ (.int .i64 (d+1))) _):=HX.out _ _ _ _ M2 (by rw [l2];omega)
 have HS2:Hid (kT g co (some ⟨q2,0,none⟩) w (w2.setCell ⟨g,3,none⟩ (.int .i64 (d+1)))∧Bx (w2.setCell ⟨g,3,none⟩ (.int .i64 (d+1))) g (some ⟨q2,0,none⟩) w.heap.size A):=⟨HS1.out.1.trans S2,B2⟩
 have d3:=hA.cells.2.2.2.1
 have f3:=hA.cells.2.2.2.2 3
 have HBK:=B2.bk
 clear hA hS M2 S2 B2
 go_wp2_with (refine zZ 200 20 Tryz.underlying200 rfl Tryz.sizeAt (by rfl) (.tmp 3) (by rfl) w.heap.size (by rfl) HBK (by rfl) ?_)
 refine H3.out.mono ?_
 rintro e w3 ⟨rfl,co3,cc3,hA,hS⟩
 rw [l2] at hA
 have H4:Hid (Calls Tryz.prog 93 #[.pointer (some ⟨g,0,none⟩),.agg (qG ⟨5,c.length,d,[]⟩)] w3 _):=xI (x:=⟨5,c.length,d,[]⟩) hA (by rw [l3];omega)
 have HS3:Hid (kT g co co3 w w3∧Bx w3 g co3 w.heap.size A):=⟨HS2.out.1.trans hS,HS2.out.2.step hS⟩
 clear hA hS HBK
 unfold qG at H4
 go_wp2_with fail
 refine H4.out.mono ?_
 rintro e w4 ⟨rfl,q4,cap4,hA,hS⟩
 have M4:=hA.zKm d
 have S4:=hS.set (p:=⟨g,3,none⟩) (Or.inl rfl) (.int .i64 d)
 have B4:=HS3.out.2.step S4
 have H5':=zKz c.length A.rep.xR M4 (by rw [l4];omega) (by rw [l4];omega)
 rw [l4] at H5'
 have H5:Hid (Calls Tryz.prog 172 #[.pointer (some ⟨g,0,none⟩),.int .i64 ((c.length:Nat):Int),.int .i64 A.rep.xR] (w4.setCell ⟨g,3,none⟩ (.int .i64 d)) _):=H5'
 have HS4:Hid (kT g co (some ⟨q4,0,none⟩) w (w4.setCell ⟨g,3,none⟩ (.int .i64 d))):=HS3.out.1.trans S4
 have e3:=hA.cells.2.2.2.1
 have g3:=hA.cells.2.2.2.2 3
 have b15:=(HS3.out.2.step hS).cell 15
 change _=some (Value.int .i64 A.rep.xR) at b15
 have ngw:w.heap.size≠g:=B4.ng
 clear hA hS M4 S4 B4 H5'
 go_wp2_with fail
 refine H5.out.mono ?_
 rintro e w5 ⟨rfl,hA,hS⟩
 have HD:Hid (zD8 L g b so ao sc ac d co w ((c++[(⟨2,0,0,[]⟩:Mt.Ins)]++[(⟨4,d,0,[]⟩:Mt.Ins)]++x.code ((c.length+2:Nat):Int) (d+1)++[(⟨5,c.length,d,[]⟩:Mt.Ins)]).set c.length (Mt.spl ((c.length:Int)+1) ((c.length+3+x.len:Nat):Int) (decide (A.rep.xR=2)))) w5):=⟨_,_,hA,HS4.out.trans hS⟩
 clear hA hS
 go_wp2_with fail
 go_returns
 exact ⟨rfl,HD.out⟩
theorem zHm (A:Mt.PA) (x:Mt.Re) (N:Nat) (hN:N≤1000) (hX:Lays L g b so ao sc ac d 161 #[.pointer (some ⟨g,0,none⟩),.agg (paC A).toArray] x) :
  Lays L g b so ao sc ac d 168 #[.pointer (some ⟨g,0,none⟩),.agg (paC A).toArray,.int .i64 (N:Int)] (Mt.kH x N):=by
 intro w co cc c h hn
 rw [Mt.zAL] at hn
 obtain ⟨hB,hW,hS⟩:=Bx.new h A
 have HX:Hid (Lays L g b so ao sc ac d 161 #[.pointer (some ⟨g,0,none⟩),.agg (paC A).toArray] x):=hX
 have HS:Hid (kT g co co w (w.alloc (.cells (paC A).toArray 200))∧Bx (w.alloc (.cells (paC A).toArray 200)) g co w.heap.size A∧LAt L (w.alloc (.cells (paC A).toArray 200)) g b so ao sc ac co cc c d):=⟨hS,hB,hW⟩
 have HN:Hid (c.length+N*x.len≤1000):=hn
 clear hB hW hS h hX hn
 go_enter Tryz.func168,Tryz.ntmps168
 go_upto_region 1 with fail
 generalize w.alloc (.cells (paC A).toArray 200)=W at *
 go_wp2_with fail
 go_loopw [6] (fun i wr=>∃ (k:Nat) (cor:Option Addr) (ccr:Nat),k≤N∧i=.int .i64 k∧LAt L wr g b so ao sc ac cor ccr (c++(Mt.kH x k).code c.length d) d∧kT g co cor w wr∧Bx wr g cor w.heap.size A) (fun i _=>N-(intOf i).toNat)
 case atStart=>exact ⟨0,co,cc,Nat.zero_le _,rfl,by simpa [Mt.kH,Mt.Re.code] using HS.out.2.2,HS.out.1,HS.out.2.1⟩
 case round =>
  obtain ⟨k,cor,ccr,hk,rfl,hA,hSr,hBr⟩:=hrel
  by_cases hlt:k<N
  ·have hkN:(k:Int)<(N:Int):=by omega
   have hm:(k+1)*x.len≤N*x.len:=Nat.mul_le_mul_right _ (by omega)
   have hm':(k+1)*x.len=k*x.len+x.len:=by rw [Nat.add_mul,Nat.one_mul]
   have hl:(c++(Mt.kH x k).code c.length d).length=c.length+k*x.len:=by rw [List.length_append,Mt.Re.zH,Mt.zAL]
   have hNo:=HN.out
   have H1:Hid (Calls Tryz.prog 161 #[.pointer (some ⟨g,0,none⟩),.agg (paC A).toArray] wr _):=HX.out _ _ _ _ hA (by rw [hl];omega)
   have c2:=hA.cells.2.2.1
   rw [hl] at c2
   have HBK:=hBr.bk
   have HSr:Hid (kT g co cor w wr∧Bx wr g cor w.heap.size A):=⟨hSr,hBr⟩
   have HSN:Hid (c++(Mt.kH x k).code c.length d++x.code ((c.length+k*x.len:Nat):Int) d=c++(Mt.kH x (k+1)).code c.length d):=by
    show _=_;rw [Mt.zFK,List.append_assoc];simp
   clear hA hSr hBr
   generalize hM:c.length+k*x.len=M at *
   go_wp2_with (refine zZ 200 20 Tryz.underlying200 rfl Tryz.sizeAt (by rfl) (.tmp 4) (by rfl) w.heap.size (by rfl) HBK (by rfl) ?_)
   refine H1.out.mono ?_
   rintro e w1 ⟨rfl,co1,cc1,hA,hS⟩
   rw [hl,HSN.out] at hA
   have d2:=hA.cells.2.2.1
   have hl1:(c++(Mt.kH x (k+1)).code c.length d).length=M+x.len:=by rw [List.length_append,Mt.Re.zH,Mt.zAL];omega
   rw [hl1] at d2
   have HA1:Hid (LAt L w1 g b so ao sc ac co1 cc1 (c++(Mt.kH x (k+1)).code c.length d) d∧kT g co co1 w w1∧Bx w1 g co1 w.heap.size A):=⟨hA,HSr.out.1.trans hS,HSr.out.2.step hS⟩
   clear hA hS HBK
   by_cases hz:x.len=0
   ·rw [hz] at d2
    go_wp2_with fail
    go_returns
    refine ⟨rfl,co1,cc1,?_,HA1.out.2.1⟩
    have:=HA1.out.1
    rw [Mt.zJO x hz] at this ⊢
    exact this
   ·have bt:(((M+x.len:Nat):Int)==(M:Int))=false:=by simp;omega
    go_wp2_with fail
    go_roundw
    case measure=>show N-((k:Int)+1).toNat<N-(k:Int).toNat;omega
    case rel=>exact ⟨k+1,co1,cc1,by omega,by go_num,HA1.out.1,HA1.out.2.1,HA1.out.2.2⟩
  ·have ek:k=N:=by omega
   subst ek
   have HD:Hid (zD8 L g b so ao sc ac d co w (c++(Mt.kH x k).code c.length d) wr):=⟨_,_,hA,hSr⟩
   clear hA hSr hBr
   go_wp2_with fail
   go_returns
   exact ⟨rfl,HD.out⟩
end
end Go.Proofs.YtebpgfodelggoaaGreat
namespace Mt
def zC3 (x:Re) (d:Int) (f:Nat→Ins):Nat→Nat→Int→List Ins
 | 0,_,_=>[]
 | n+1,i,p=>f i::(x.code (p+1) d++zC3 x d f n (i+1) (p+((x.len+1:Nat):Int)))
theorem zHn (x:Re) (d:Int) (f:Nat→Ins):∀ (n i:Nat) (p:Int),(zC3 x d f n i p).length=n*(x.len+1)
 | 0,_,_=>by simp [zC3]
 | n+1,i,p=>by rw [zC3,List.length_cons,List.length_append,Re.zH,zHn x d f n,Nat.add_mul];omega
theorem zCQ (x:Re) (d:Int) (f f':Nat→Ins):∀ (n i:Nat) (p:Int),(∀ m,i≤m→m<i+n→f m=f' m)→zC3 x d f n i p=zC3 x d f' n i p
 | 0,_,_,_=>rfl
 | n+1,i,p,h=>by rw [zC3,zC3,h i (Nat.le_refl _) (by omega),zCQ x d f f' n (i+1) _ (fun m h1 h2=>h m (by omega) (by omega))]
theorem zIB (x:Re) (d:Int) (f:Nat→Ins):∀ (n i:Nat) (p:Int),zC3 x d f (n+1) i p=zC3 x d f n i p++[f (i+n)]++x.code (p+((n*(x.len+1):Nat):Int)+1) d
 | 0,i,p=>by simp [zC3]
 | n+1,i,p=>by
  rw [zC3,zIB x d f n (i+1),zC3,Nat.add_mul]
  simp only [List.cons_append,List.append_assoc]
  rw [show i+1+n=i+(n+1) by omega,show p+((x.len+1:Nat):Int)+((n*(x.len+1):Nat):Int)+1=p+((n*(x.len+1)+1*(x.len+1):Nat):Int)+1 by push_cast;omega]
theorem zKA (x:Re) (d:Int) (f:Nat→Ins) (v:Ins):∀ (n j i:Nat) (p:Int),j<n→(zC3 x d f n i p).set (j*(x.len+1)) v=zC3 x d (fun m=>if m=i+j then v else f m) n i p
 | 0,_,_,_,h=>by omega
 | n+1,0,i,p,h=>by
  rw [zC3,zC3,Nat.zero_mul,List.set_cons_zero,if_pos (by omega),zCQ x d f (fun m=>if m=i+0 then v else f m) n (i+1) _ (fun m h1 h2=>by rw [if_neg (by omega)])]
 | n+1,j+1,i,p,h=>by
  rw [zC3,zC3,if_neg (by omega),Nat.add_mul,Nat.one_mul,show j*(x.len+1)+(x.len+1)=(x.len+j*(x.len+1))+1 by omega,List.set_cons_succ,List.set_append_right _ _ (by rw [Re.zH];omega),Re.zH,
   show x.len+j*(x.len+1)-x.len=j*(x.len+1) by omega,zKA x d f v n j (i+1) _ (by omega)]
  rw [show i+1+j=i+(j+1) by omega]
theorem zIC (x:Re) (d:Int) (late:Bool) (f:Nat→Ins):∀ (n i:Nat) (p:Int),(∀ m,m<n→f (i+m)=spl (p+((m*(x.len+1):Nat):Int)+1) (p+((n*(x.len+1):Nat):Int)) late)→zC3 x d f n i p=(zBD x late n).code p d
 | 0,_,_,_=>rfl
 | n+1,i,p,h=>by
  rw [zC3,zBD,Re.code,Re.code]
  have h0:=h 0 (by omega)
  rw [Nat.add_zero] at h0
  rw [h0,Re.len,zCI]
  have e1:p+((0*(x.len+1):Nat):Int)+1=p+1:=by simp
  have e2:p+(((n+1)*(x.len+1):Nat):Int)=p+((x.len+n*(x.len+1):Nat):Int)+1:=by rw [Nat.add_mul];push_cast;omega
  have e3:p+((x.len+1:Nat):Int)=p+1+(x.len:Int):=by push_cast;omega
  rw [e1,e2,zIC x d late f n (i+1) _ (fun m hm=>?_),e3]
  have:=h (m+1) (by omega)
  rw [show i+1+m=i+(m+1) by omega,this]
  have e4:p+(((m+1)*(x.len+1):Nat):Int)=p+((x.len+1:Nat):Int)+((m*(x.len+1):Nat):Int):=by rw [Nat.add_mul];push_cast;omega
  have e5:p+(((n+1)*(x.len+1):Nat):Int)=p+((x.len+1:Nat):Int)+((n*(x.len+1):Nat):Int):=by rw [Nat.add_mul];push_cast;omega
  rw [e4,e5]
def vL (p m:Nat) (k:Nat):List Nat:=(List.range k).map fun i=>p+i*m
theorem zDd (p m k:Nat):(vL p m k).length=k:=by simp [vL]
theorem zID (p m k:Nat):vL p m (k+1)=vL p m k++[p+k*m]:=by simp [vL,List.range_succ]
theorem zLH (p m k j:Nat) (h:j<k):(vL p m k)[j]?=some (p+j*m):=by simp [vL,h]
end Mt
