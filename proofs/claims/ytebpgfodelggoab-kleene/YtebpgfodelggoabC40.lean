import Derived.Test.YtebpgfodelggoabC35
set_option linter.unusedVariables false
set_option linter.unusedSimpArgs false
set_option maxRecDepth 100000
set_option maxHeartbeats 2000000
namespace Go.Proofs.Ytebpgfodelggoab
open Go.RowKit
def LDone (L:Nat) (g:Nat) (b:Mt.PB) (so ao:Option Addr) (sc ac:Nat) (d:Int) (co:Option Addr) (w:World) (c':List Mt.Ins) (w':World):Prop :=
 ∃ co' cc',LAt L w' g b so ao sc ac co' cc' c' d∧LStep g co co' w w'
theorem endSub_prog {L:Nat} {w:World} {g:Nat} {b:Mt.PB} {so ao:Option Addr} {sc ac:Nat} {co:Option Addr} {cc:Nat} {c:List Mt.Ins} {d:Int} (k:Nat) (h:LAt L w g b so ao sc ac co cc c d) (hn:c.length≤1000000) (hk:k<c.length) :
  Calls Try.prog 104 #[.pointer (some ⟨g,0,none⟩),.int .i64 (k:Int)] w fun e w'=>e=.returned (.tuple #[])∧LDone L g b so ao sc ac d co w (c.set k { c.getD k Mt.ins0 with y:=c.length+1 }++[⟨12,0,0,[]⟩]) w':=by
 have HP:Hid (Calls Try.prog 53 #[.pointer (some ⟨g,0,none⟩),.agg (insA ⟨12,0,0,[]⟩)] w _):=put_prog (x:=⟨12,0,0,[]⟩) h hn
 clear h
 unfold insA at HP
 go_enter Try.func104,Try.ntmps104
 go_wp2_with fail
 refine HP.out.mono ?_
 rintro e w1 ⟨rfl,q,cap,hA,hS⟩
 obtain ⟨c0,c1,c2,c3,hf⟩:=hA.cells
 obtain ⟨q',eq,hqg,hqs,hcap⟩:=hA.form (by simp)
 simp only [Option.some.injEq,Addr.mk.injEq,and_true,true_and] at eq
 subst eq
 have hl:(c++[(⟨12,0,0,[]⟩:Mt.Ins)]).length=c.length+1:=by simp
 rw [hl] at c2 hcap
 have cy:w1.cell? ⟨q,k*4+2,none⟩=some (.int .i64 (c.getD k Mt.ins0).y):=by
  rw [World.ownsRow.cellAt hA.code _ (by rw [hl];omega),ins_flat_at _ k 2 (by rw [hl];omega) (by omega),List.getD_eq_getElem?_getD,List.getElem?_append_left hk,← List.getD_eq_getElem?_getD];rfl
 have fy:w1.frozen? ⟨q,k*4+2,none⟩=false:=World.ownsRow.frozenAt hA.code _
 have HA:Hid (LAt L w1 g b so ao sc ac (some ⟨q,0,none⟩) cap (c++[⟨12,0,0,[]⟩]) d):=hA
 have HS:Hid (LStep g co (some ⟨q,0,none⟩) w w1):=hS
 have hg1:g<w1.heap.size:=hA.lt.1
 clear hA hS hf HP c0 c1 c3
 have hk':(k:Int)<(c.length:Int)+1:=by omega
 have HE:Hid ((c++[(⟨12,0,0,[]⟩:Mt.Ins)]).set k { c.getD k Mt.ins0 with y:=c.length+1 }=c.set k { c.getD k Mt.ins0 with y:=c.length+1 }++[⟨12,0,0,[]⟩]):=by
  show _=_;rw [List.set_append_left _ _ hk]
 have HD:Hid ((c++[(⟨12,0,0,[]⟩:Mt.Ins)]).getD k Mt.ins0=c.getD k Mt.ins0):=by
  show _=_;rw [List.getD_eq_getElem?_getD,List.getElem?_append_left hk,← List.getD_eq_getElem?_getD]
 go_wp2_with fail
 go_region
 go_wp2_with fail
 go_returns
 have M:=HA.out.codeSet (gc:=q) k 2 [.int .i64 (c.length+1)] { c.getD k Mt.ins0 with y:=c.length+1 } (by rw [hl];omega) (by simp) (by rw [HD.out];rfl)
 rw [HE.out] at M
 exact ⟨rfl,_,_,M.drew,(HS.out.set (p:=⟨q,k*4+2,none⟩) (Or.inr rfl) _).drew⟩
theorem code_there {L:Nat} {w:World} {g:Nat} {b:Mt.PB} {so ao:Option Addr} {sc ac:Nat} {q:Nat} {cc:Nat} {c:List Mt.Ins} {d:Int} (h:LAt L w g b so ao sc ac (some ⟨q,0,none⟩) cc c d) (k:Nat) (hk:k<c.length):w.there q (k*4) 4:=there_row h.code _ _ (by omega)
theorem aim_prog {L:Nat} {w:World} {g:Nat} {b:Mt.PB} {so ao:Option Addr} {sc ac:Nat} {co:Option Addr} {cc:Nat} {c:List Mt.Ins} {d:Int} (k:Nat) (m:Int) (h:LAt L w g b so ao sc ac co cc c d) (hn:c.length≤1000000) (hk:k<c.length) :
  Calls Try.prog 113 #[.pointer (some ⟨g,0,none⟩),.int .i64 (k:Int),.int .i64 m] w fun e w'=>e=.returned (.tuple #[])∧LAt L w' g b so ao sc ac co cc (c.set k (Mt.spl (k+1) c.length (decide (m=2)))) d∧LStep g co co w w':=by
 obtain ⟨q,eq,hqg,hqs,hcap⟩:=h.form (by omega)
 subst eq
 obtain ⟨c0,c1,c2,c3,hf⟩:=h.cells
 have HA:Hid (LAt L w g b so ao sc ac (some ⟨q,0,none⟩) cc c d):=h
 have HT:=code_there h k hk
 have hk':(k:Int)<(c.length:Int):=by omega
 clear h hf c0 c1 c3
 have HS:Hid (∀ vs a',insCells a'=setMany (insCells (c.getD k Mt.ins0)) 0 vs→vs.length=4→LAt L (w.setCells q (k*4) vs) g b so ao sc ac (some ⟨q,0,none⟩) cc (c.set k a') d∧LStep g (some ⟨q,0,none⟩) (some ⟨q,0,none⟩) w (w.setCells q (k*4) vs)):=fun vs a' h1 h2 =>
  ⟨HA.out.codeSet k 0 vs a' hk (by omega) h1,(LStep.refl _ _ _).setMany _ _ _ (Or.inr rfl)⟩
 cases hm:(m==2)
 ·have e:decide (m=2)=false:=by simpa using hm
  rw [e]
  go_enter Try.func113,Try.ntmps113
  go_wp2_with (refine wpList_store_mid (by rfl) 70 (.tmp 34) (.tmp 33) (by rfl) q (k*4) (insA ⟨2,k+1,c.length,[]⟩) (by rfl) (by rfl) HT (by rw [Try.sizeIn];rfl) (insA_all _) ?_)
  go_returns
  exact ⟨rfl,HS.out (insA ⟨2,k+1,c.length,[]⟩).toList (Mt.spl (k+1) c.length false) rfl rfl⟩
 ·have e:decide (m=2)=true:=by simpa using hm
  rw [e]
  go_enter Try.func113,Try.ntmps113
  go_wp2_with (refine wpList_store_mid (by rfl) 70 (.tmp 25) (.tmp 24) (by rfl) q (k*4) (insA ⟨2,c.length,k+1,[]⟩) (by rfl) (by rfl) HT (by rw [Try.sizeIn];rfl) (insA_all _) ?_)
  go_returns
  exact ⟨rfl,HS.out (insA ⟨2,c.length,k+1,[]⟩).toList (Mt.spl (k+1) c.length true) rfl rfl⟩
def Lays (L:Nat) (g:Nat) (b:Mt.PB) (so ao:Option Addr) (sc ac:Nat) (d:Int) (fn:Nat) (args:Array Value) (X:Mt.Re):Prop :=
 ∀ (w:World) (co:Option Addr) (cc:Nat) (c:List Mt.Ins),LAt L w g b so ao sc ac co cc c d→c.length+X.len≤1000 →
  Calls Try.prog fn args w fun e w'=>e=.returned (.tuple #[])∧LDone L g b so ao sc ac d co w (c++X.code c.length d) w'
structure Bx (W:World) (g:Nat) (co:Option Addr) (n:Nat) (A:Mt.PA):Prop where
 bk:W.heap[n]?=some (.cells (paC A).toArray 142 (0,0))
 ng:n≠g
 nc:blk co≠some n
section
variable {L:Nat} {w w':World} {g:Nat} {b:Mt.PB} {so ao:Option Addr} {sc ac:Nat} {co co':Option Addr} {cc:Nat} {c:List Mt.Ins} {d:Int} {A:Mt.PA} {n:Nat}
theorem Bx.lt (h:Bx w g co n A):n<w.heap.size:=(Array.getElem?_eq_some_iff.1 h.bk).1
theorem Bx.step (h:Bx w g co n A) (s:LStep g co co' w w'):Bx w' g co' n A:=⟨(s.block n h.lt h.ng h.nc).trans h.bk,h.ng,fun e=>h.nc (s.sub n h.lt e)⟩
theorem Bx.new (h:LAt L w g b so ao sc ac co cc c d) (A:Mt.PA):Bx (w.alloc (.cells (paC A).toArray 142)) g co w.heap.size A∧LAt L (w.alloc (.cells (paC A).toArray 142)) g b so ao sc ac co cc c d∧LStep g co co w (w.alloc (.cells (paC A).toArray 142)) :=
 have hb:Below w.heap.size w (w.alloc (.cells (paC A).toArray 142)):=(Below.refl _ _).alloc (Nat.le_refl _) _
 ⟨⟨heap_alloc_new _ _,fun e=>by have:=h.lt.1;omega,fun e=>by have:=(h.lt.2.1 _ e).2;omega⟩,h.below hb,LStep.below hb⟩
theorem Bx.cell (h:Bx w g co n A) (k:Nat):w.cell? ⟨n,k,none⟩=(paC A)[k]?:=by
 have:=(cell_block h.bk).1 k
 rw [this];simp
end
theorem done_trans {L g:Nat} {b:Mt.PB} {so ao:Option Addr} {sc ac:Nat} {d:Int} {co co1:Option Addr} {w w1 w2:World} {c:List Mt.Ins} (s:LStep g co co1 w w1) (h:LDone L g b so ao sc ac d co1 w1 c w2):LDone L g b so ao sc ac d co w c w2:=by
 obtain ⟨co',cc',h1,h2⟩:=h
 exact ⟨co',cc',h1,s.trans h2⟩
theorem set_mid (c:List Mt.Ins) (x z:Mt.Ins) (Y:List Mt.Ins):(c++[x]++Y).set c.length z=c++z::Y:=by
 rw [List.append_assoc,List.set_append_right _ _ (Nat.le_refl _)];simp
theorem get_mid (c:List Mt.Ins) (x:Mt.Ins) (Y:List Mt.Ins):(c++[x]++Y).getD c.length Mt.ins0=x:=by
 rw [List.append_assoc,List.getD_eq_getElem?_getD,List.getElem?_append_right (Nat.le_refl _)];simp
section
variable {L:Nat} {g:Nat} {b:Mt.PB} {so ao:Option Addr} {sc ac:Nat} {d:Int}
theorem laySub_prog (s q:Int) (X:Mt.Re) (hX:Lays L g b so ao sc ac d 52 #[.pointer (some ⟨g,0,none⟩),.int .i64 q] X) :
  Lays L g b so ao sc ac d 112 #[.pointer (some ⟨g,0,none⟩),.int .i64 s,.int .i64 q] (.sub s X):=by
 intro w co cc c h hn
 have hn':c.length+X.len+2≤1000:=by simp only [Mt.Re.len] at hn;omega
 have HP:Hid (Calls Try.prog 53 #[.pointer (some ⟨g,0,none⟩),.agg (insA ⟨11,s,0,[]⟩)] w _):=put_prog (x:=⟨11,s,0,[]⟩) h (by omega)
 have HX:Hid (Lays L g b so ao sc ac d 52 #[.pointer (some ⟨g,0,none⟩),.int .i64 q] X):=hX
 have HE:Hid (c++(Mt.Re.sub s X).code c.length d=(c++[(⟨11,s,0,[]⟩:Mt.Ins)]++X.code ((c.length+1:Nat):Int) d).set c.length ⟨11,s,(c.length+1+X.len:Nat)+1,[]⟩++[⟨12,0,0,[]⟩]):=by
  show _=_;rw [set_mid];simp [Mt.Re.code];omega
 rw [HE.out]
 have hl:(c++[(⟨11,s,0,[]⟩:Mt.Ins)]).length=c.length+1:=by simp
 have hl2:∀ z:Int,(c++[(⟨11,s,0,[]⟩:Mt.Ins)]++X.code z d).length=c.length+1+X.len:=fun z=>by rw [List.length_append,hl,Mt.Re.code_len]
 clear h hX hn
 unfold insA at HP
 go_enter Try.func112,Try.ntmps112
 go_wp2_with fail
 refine HP.out.mono ?_
 rintro e w1 ⟨rfl,q1,cap1,hA,hS⟩
 have H1:Hid (Calls Try.prog 52 #[.pointer (some ⟨g,0,none⟩),.int .i64 q] w1 _):=HX.out w1 _ _ _ hA (by rw [hl];omega)
 have HS:Hid (LStep g co (some ⟨q1,0,none⟩) w w1):=hS
 clear hA hS
 go_wp2_with fail
 refine H1.out.mono ?_
 rintro e w2 ⟨rfl,co2,cc2,hA,hS⟩
 rw [hl] at hA
 have H2:=endSub_prog c.length hA (by rw [hl2];omega) (by rw [hl2];omega)
 rw [get_mid,hl2] at H2
 have H2':Hid (Calls Try.prog 104 #[.pointer (some ⟨g,0,none⟩),.int .i64 ((c.length:Nat):Int)] w2 _):=H2
 have HS2:Hid (LStep g co co2 w w2):=HS.out.trans hS
 clear hA hS H2
 go_wp2_with fail
 refine H2'.out.mono ?_
 rintro e w3 ⟨rfl,hD⟩
 have HD:Hid _:=done_trans HS2.out hD
 clear hD
 go_wp2_with fail
 go_returns
 exact ⟨rfl,HD.out⟩
theorem layGroup_plain (A:Mt.PA) (q:Int) (X:Mt.Re) (hg:A.tok.group=2) (hb:A.body=q) (hX:Lays L g b so ao sc ac d 52 #[.pointer (some ⟨g,0,none⟩),.int .i64 q] X) :
  Lays L g b so ao sc ac d 108 #[.pointer (some ⟨g,0,none⟩),.agg (paC A).toArray] X:=by
 intro w co cc c h hn
 obtain ⟨hB,hW,hS⟩:=Bx.new h A
 have HC:Hid (Calls Try.prog 52 #[.pointer (some ⟨g,0,none⟩),.int .i64 q] (w.alloc (.cells (paC A).toArray 142)) _):=hX _ _ _ _ hW hn
 have a2:=hB.cell 2
 change _=some (Value.int .i64 A.tok.group) at a2
 have a17:=hB.cell 17
 change _=some (Value.int .i64 A.body) at a17
 rw [hg] at a2
 rw [hb] at a17
 have HS:Hid (LStep g co co w (w.alloc (.cells (paC A).toArray 142))):=hS
 clear hB hW hS h hg hb
 go_enter Try.func108,Try.ntmps108
 go_upto_region 1 with fail
 generalize w.alloc (.cells (paC A).toArray 142)=W at *
 go_wp2_with fail
 refine HC.out.mono ?_
 rintro e w3 ⟨rfl,hD⟩
 have HD:Hid _:=done_trans HS.out hD
 clear hD
 go_wp2_with fail
 go_returns
 exact ⟨rfl,HD.out⟩
theorem layGroup_sub (A:Mt.PA) (q:Int) (s:Int) (hs:s=0∨s=1∨s=2) (X:Mt.Re) (hg:A.tok.group=s+3) (hb:A.body=q) (hX:Lays L g b so ao sc ac d 52 #[.pointer (some ⟨g,0,none⟩),.int .i64 q] X) :
  Lays L g b so ao sc ac d 108 #[.pointer (some ⟨g,0,none⟩),.agg (paC A).toArray] (.sub s X):=by
 have hX':=laySub_prog s q X hX
 intro w co cc c h hn
 obtain ⟨hB,hW,hS⟩:=Bx.new h A
 have HC:Hid (Calls Try.prog 112 #[.pointer (some ⟨g,0,none⟩),.int .i64 s,.int .i64 q] (w.alloc (.cells (paC A).toArray 142)) _):=hX' _ _ _ _ hW hn
 have a2:=hB.cell 2
 change _=some (Value.int .i64 A.tok.group) at a2
 have a17:=hB.cell 17
 change _=some (Value.int .i64 A.body) at a17
 rw [hg] at a2
 rw [hb] at a17
 have HS:Hid (LStep g co co w (w.alloc (.cells (paC A).toArray 142))):=hS
 clear hB hW hS h hg hb hX hX'
 rcases hs with rfl | rfl | rfl
 all_goals
  go_enter Try.func108,Try.ntmps108
  go_upto_region 1 with fail
  generalize w.alloc (.cells (paC A).toArray 142)=W at *
  go_wp2_with fail
  refine HC.out.mono ?_
  rintro e w3 ⟨rfl,hD⟩
  have HD:Hid _:=done_trans HS.out hD
  clear hD
  go_wp2_with fail
  go_returns
  exact ⟨rfl,HD.out⟩
theorem layGroup_cap (A:Mt.PA) (q:Int) (k:Int) (X:Mt.Re) (hg:A.tok.group=1) (hb:A.body=q) (hk:A.num=k) (hX:Lays L g b so ao sc ac d 52 #[.pointer (some ⟨g,0,none⟩),.int .i64 q] X) :
  Lays L g b so ao sc ac d 108 #[.pointer (some ⟨g,0,none⟩),.agg (paC A).toArray] (.cap k X):=by
 intro w co cc c h hn
 have hn':c.length+X.len+2≤1000:=by simp only [Mt.Re.len] at hn;omega
 obtain ⟨hB,hW,hS⟩:=Bx.new h A
 have HP:Hid (Calls Try.prog 53 #[.pointer (some ⟨g,0,none⟩),.agg (insA ⟨6,k,0,[]⟩)] (w.alloc (.cells (paC A).toArray 142)) _):=put_prog (x:=⟨6,k,0,[]⟩) hW (by omega)
 have HX:Hid (Lays L g b so ao sc ac d 52 #[.pointer (some ⟨g,0,none⟩),.int .i64 q] X):=hX
 have a2:=hB.cell 2
 change _=some (Value.int .i64 A.tok.group) at a2
 have a8:=hB.cell 8
 change _=some (Value.int .i64 A.num) at a8
 rw [hg] at a2
 rw [hk] at a8
 have HQ:Hid (A.body=q∧A.num=k):=⟨hb,hk⟩
 have HS:Hid (LStep g co co w (w.alloc (.cells (paC A).toArray 142))∧Bx (w.alloc (.cells (paC A).toArray 142)) g co w.heap.size A):=⟨hS,hB⟩
 have hl:(c++[(⟨6,k,0,[]⟩:Mt.Ins)]).length=c.length+1:=by simp
 have hl2:∀ z:Int,(c++[(⟨6,k,0,[]⟩:Mt.Ins)]++X.code z d).length=c.length+1+X.len:=fun z=>by rw [List.length_append,hl,Mt.Re.code_len]
 have HE:Hid (c++(Mt.Re.cap k X).code c.length d=c++[(⟨6,k,0,[]⟩:Mt.Ins)]++X.code ((c.length+1:Nat):Int) d++[⟨7,k,0,[]⟩]):=by
  show _=_;simp [Mt.Re.code]
 rw [HE.out]
 clear hB hW hS h hg hb hX hk hn
 unfold insA at HP
 go_enter Try.func108,Try.ntmps108
 go_upto_region 1 with fail
 generalize w.alloc (.cells (paC A).toArray 142)=W at *
 go_wp2_with fail
 refine HP.out.mono ?_
 rintro e w1 ⟨rfl,q1,cap1,hA,hS⟩
 have H1:Hid (Calls Try.prog 52 #[.pointer (some ⟨g,0,none⟩),.int .i64 q] w1 _):=HX.out w1 _ _ _ hA (by rw [hl];omega)
 have hB1:=HS.out.2.step hS
 have b17:=hB1.cell 17
 change _=some (Value.int .i64 A.body) at b17
 rw [HQ.out.1] at b17
 have HS1:Hid (LStep g co (some ⟨q1,0,none⟩) w w1∧Bx w1 g (some ⟨q1,0,none⟩) w.heap.size A):=⟨HS.out.1.trans hS,hB1⟩
 clear hA hS hB1
 go_wp2_with fail
 refine H1.out.mono ?_
 rintro e w2 ⟨rfl,co2,cc2,hA,hS⟩
 rw [hl] at hA
 have H2:Hid (Calls Try.prog 53 #[.pointer (some ⟨g,0,none⟩),.agg (insA ⟨7,k,0,[]⟩)] w2 _):=put_prog (x:=⟨7,k,0,[]⟩) hA (by rw [hl2];omega)
 have hB2:=HS1.out.2.step hS
 have b8:=hB2.cell 8
 change _=some (Value.int .i64 A.num) at b8
 rw [HQ.out.2] at b8
 have HS2:Hid (LStep g co co2 w w2):=HS1.out.1.trans hS
 clear hA hS hB2
 unfold insA at H2
 go_wp2_with fail
 refine H2.out.mono ?_
 rintro e w3 ⟨rfl,q3,cap3,hA,hS⟩
 have HD:Hid (LDone L g b so ao sc ac d co w (c++[(⟨6,k,0,[]⟩:Mt.Ins)]++X.code ((c.length+1:Nat):Int) d++[⟨7,k,0,[]⟩]) w3):=⟨_,_,hA,HS2.out.trans hS⟩
 clear hA hS
 go_wp2_with fail
 go_returns
 exact ⟨rfl,HD.out⟩
end
section
variable {L:Nat} {g:Nat} {b:Mt.PB} {so ao:Option Addr} {sc ac:Nat} {d:Int}
theorem layAtom_grp (A:Mt.PA) (X:Mt.Re) (hk:A.tok.kind=2) (hX:Lays L g b so ao sc ac d 108 #[.pointer (some ⟨g,0,none⟩),.agg (paC A).toArray] X) :
  Lays L g b so ao sc ac d 102 #[.pointer (some ⟨g,0,none⟩),.agg (paC A).toArray] X:=by
 intro w co cc c h hn
 obtain ⟨hB,hW,hS⟩:=Bx.new h A
 have HC:Hid (Calls Try.prog 108 #[.pointer (some ⟨g,0,none⟩),.agg (paC A).toArray] (w.alloc (.cells (paC A).toArray 142)) _):=hX _ _ _ _ hW hn
 have a0:=hB.cell 0
 change _=some (Value.int .i64 A.tok.kind) at a0
 rw [hk] at a0
 have HBK:=hB.bk
 have HS:Hid (LStep g co co w (w.alloc (.cells (paC A).toArray 142))):=hS
 clear hB hW hS h hk hX
 go_enter Try.func102,Try.ntmps102
 go_upto_region 1 with fail
 generalize w.alloc (.cells (paC A).toArray 142)=W at *
 go_wp2_with (refine load_blk 142 20 Try.underlying142 rfl Try.sizeAt (by rfl) (.tmp 3) (by rfl) w.heap.size (by rfl) HBK (by rfl) ?_)
 refine HC.out.mono ?_
 rintro e w3 ⟨rfl,hD⟩
 have HD:Hid _:=done_trans HS.out hD
 clear hD
 go_wp2_with fail
 go_returns
 exact ⟨rfl,HD.out⟩
theorem put_done {w W:World} {co:Option Addr} {cc:Nat} {c:List Mt.Ins} (hW:LAt L W g b so ao sc ac co cc c d) (hS:LStep g co co w W) (x:Mt.Ins) (hn:c.length≤1000000) :
  Calls Try.prog 53 #[.pointer (some ⟨g,0,none⟩),.agg (insA x)] W fun e w'=>e=.returned (.int .i64 c.length)∧LDone L g b so ao sc ac d co w (c++[x]) w':=by
 refine (put_prog x hW hn).mono ?_
 rintro e w1 ⟨rfl,q1,cap1,hA,hS1⟩
 exact ⟨rfl,_,_,hA,hS.trans hS1⟩
theorem layAtom_leaf (A:Mt.PA) (t:Mt.Tok) (hk:Mt.leafK t) (ht:A.tok=Mt.ptok t) :
  Lays L g b so ao sc ac d 102 #[.pointer (some ⟨g,0,none⟩),.agg (paC A).toArray] (Mt.leafRe t):=by
 intro w co cc c h hn
 have hn':c.length≤1000000:=by omega
 obtain ⟨hB,hW,hS⟩:=Bx.new h A
 have HC:Hid (∀ x,Calls Try.prog 53 #[.pointer (some ⟨g,0,none⟩),.agg (insA x)] (w.alloc (.cells (paC A).toArray 142)) fun e w'=>e=.returned (.int .i64 c.length)∧LDone L g b so ao sc ac d co w (c++[x]) w'):=fun x=>put_done hW hS x hn'
 have a0:=hB.cell 0
 change _=some (Value.int .i64 A.tok.kind) at a0
 have a3:=hB.cell 3
 change _=some (Value.int .i64 A.tok.number) at a3
 have a7:=hB.cell 7
 change _=some (Value.string ⟨A.tok.set.toArray⟩) at a7
 rw [ht] at a0 a3 a7
 clear hB hW hS h hn
 rcases hk with hk | hk | hk | hk
 ·have e0:(Mt.ptok t).kind=5:=by rw [Mt.ptok_kind,hk];rfl
  have e1:(Mt.ptok t).set=t.set:=rfl
  have e2:Mt.leafRe t=.one t.set:=by unfold Mt.leafRe;rw [if_pos hk]
  rw [e0] at a0
  rw [e1] at a7
  rw [e2]
  have HC':=HC.out ⟨1,0,0,t.set⟩
  unfold insA at HC'
  have H:Hid _:=HC'
  clear HC HC' e0 e1 e2 a3
  go_enter Try.func102,Try.ntmps102
  go_upto_region 1 with fail
  generalize w.alloc (.cells (paC A).toArray 142)=W at *
  go_wp2_with fail
  refine Calls.mono H.out ?_
  rintro e w3 ⟨rfl,hD⟩
  have HD:Hid _:=hD
  clear hD
  go_wp2_with fail
  go_returns
  exact ⟨rfl,HD.out⟩
 ·have e0:(Mt.ptok t).kind=6:=by rw [Mt.ptok_kind,hk];rfl
  have e1:(Mt.ptok t).number=t.n:=by simp [Mt.ptok,hk]
  have e2:Mt.leafRe t=.back t.n:=by unfold Mt.leafRe;rw [if_neg (by omega),if_pos hk]
  rw [e0] at a0
  rw [e1] at a3
  rw [e2]
  have HC':=HC.out ⟨8,t.n,0,[]⟩
  unfold insA at HC'
  have H:Hid _:=HC'
  clear HC HC' e0 e1 e2 a7
  go_enter Try.func102,Try.ntmps102
  go_upto_region 1 with fail
  generalize w.alloc (.cells (paC A).toArray 142)=W at *
  go_wp2_with fail
  refine Calls.mono H.out ?_
  rintro e w3 ⟨rfl,hD⟩
  have HD:Hid _:=hD
  clear hD
  go_wp2_with fail
  go_returns
  exact ⟨rfl,HD.out⟩
 ·have e0:(Mt.ptok t).kind=7:=by rw [Mt.ptok_kind,hk];rfl
  have e2:Mt.leafRe t=.head:=by unfold Mt.leafRe;rw [if_neg (by omega),if_neg (by omega),if_pos hk]
  rw [e0] at a0
  rw [e2]
  have HC':=HC.out ⟨9,0,0,[]⟩
  unfold insA at HC'
  have H:Hid _:=HC'
  clear HC HC' e0 e2 a7 a3
  go_enter Try.func102,Try.ntmps102
  go_upto_region 1 with fail
  generalize w.alloc (.cells (paC A).toArray 142)=W at *
  go_wp2_with fail
  refine Calls.mono H.out ?_
  rintro e w3 ⟨rfl,hD⟩
  have HD:Hid _:=hD
  clear hD
  go_wp2_with fail
  go_returns
  exact ⟨rfl,HD.out⟩
 ·have e0:(Mt.ptok t).kind=8:=by rw [Mt.ptok_kind,hk];rfl
  have e2:Mt.leafRe t=.tail:=by unfold Mt.leafRe;rw [if_neg (by omega),if_neg (by omega),if_neg (by omega)]
  rw [e0] at a0
  rw [e2]
  have HC':=HC.out ⟨10,0,0,[]⟩
  unfold insA at HC'
  have H:Hid _:=HC'
  clear HC HC' e0 e2 a7 a3
  go_enter Try.func102,Try.ntmps102
  go_upto_region 1 with fail
  generalize w.alloc (.cells (paC A).toArray 142)=W at *
  go_wp2_with fail
  refine Calls.mono H.out ?_
  rintro e w3 ⟨rfl,hD⟩
  have HD:Hid _:=hD
  clear hD
  go_wp2_with fail
  go_returns
  exact ⟨rfl,HD.out⟩
end
end Go.Proofs.Ytebpgfodelggoab
namespace Mt
theorem timesA_snoc (x:Re) (d:Int):∀ (k:Nat) (p:Int),(timesA x (k+1)).code p d=(timesA x k).code p d++x.code (p+(k*x.len:Nat)) d
 | 0,p=>by simp [timesA,Re.code]
 | k+1,p=>by
  have ih:=timesA_snoc x d k (p+x.len)
  have e1:(timesA x (k+1+1)).code p d=x.code p d++(timesA x (k+1)).code (p+x.len) d:=rfl
  have e2:(timesA x (k+1)).code p d=x.code p d++(timesA x k).code (p+x.len) d:=rfl
  rw [e1,e2,ih,List.append_assoc,Nat.add_mul]
  congr 3
  push_cast;omega
theorem timesA_none (x:Re) (h:x.len=0) (k:Nat) (p d:Int):(timesA x k).code p d=[]:=by
 rw [← List.length_eq_zero_iff,Re.code_len,timesA_len,h,Nat.mul_zero]
end Mt
namespace Go.Proofs.Ytebpgfodelggoab
open Go.RowKit
section
variable {L:Nat} {g:Nat} {b:Mt.PB} {so ao:Option Addr} {sc ac:Nat} {d:Int}
theorem layLoop_prog (A:Mt.PA) (x:Mt.Re) (hd0:0≤d) (hd:d≤1000) (hX:Lays L g b so ao sc ac (d+1) 102 #[.pointer (some ⟨g,0,none⟩),.agg (paC A).toArray] x) :
  Lays L g b so ao sc ac d 110 #[.pointer (some ⟨g,0,none⟩),.agg (paC A).toArray] (.loop (decide (A.rep.mood=2)) x):=by
 intro w co cc c h hn
 have hn':c.length+x.len+3≤1000:=by simp only [Mt.Re.len] at hn;omega
 obtain ⟨hB,hW,hS⟩:=Bx.new h A
 have HP:Hid (Calls Try.prog 53 #[.pointer (some ⟨g,0,none⟩),.agg (insA ⟨2,0,0,[]⟩)] (w.alloc (.cells (paC A).toArray 142)) _):=put_prog (x:=⟨2,0,0,[]⟩) hW (by omega)
 have HX:Hid (Lays L g b so ao sc ac (d+1) 102 #[.pointer (some ⟨g,0,none⟩),.agg (paC A).toArray] x):=hX
 have HS:Hid (LStep g co co w (w.alloc (.cells (paC A).toArray 142))∧Bx (w.alloc (.cells (paC A).toArray 142)) g co w.heap.size A):=⟨hS,hB⟩
 have l1:(c++[(⟨2,0,0,[]⟩:Mt.Ins)]).length=c.length+1:=by simp
 have l2:(c++[(⟨2,0,0,[]⟩:Mt.Ins)]++[(⟨4,d,0,[]⟩:Mt.Ins)]).length=c.length+2:=by simp
 have l3:∀ z:Int,(c++[(⟨2,0,0,[]⟩:Mt.Ins)]++[(⟨4,d,0,[]⟩:Mt.Ins)]++x.code z (d+1)).length=c.length+2+x.len:=fun z=>by rw [List.length_append,l2,Mt.Re.code_len]
 have l4:∀ z:Int,(c++[(⟨2,0,0,[]⟩:Mt.Ins)]++[(⟨4,d,0,[]⟩:Mt.Ins)]++x.code z (d+1)++[(⟨5,c.length,d,[]⟩:Mt.Ins)]).length=c.length+3+x.len:=fun z=>by rw [List.length_append,l3];simp;omega
 have HE:Hid (c++(Mt.Re.loop (decide (A.rep.mood=2)) x).code c.length d=(c++[(⟨2,0,0,[]⟩:Mt.Ins)]++[(⟨4,d,0,[]⟩:Mt.Ins)]++x.code ((c.length+2:Nat):Int) (d+1)++[(⟨5,c.length,d,[]⟩:Mt.Ins)]).set c.length (Mt.spl ((c.length:Int)+1) ((c.length+3+x.len:Nat):Int) (decide (A.rep.mood=2)))):=by
  show _=_
  rw [show c++[(⟨2,0,0,[]⟩:Mt.Ins)]++[(⟨4,d,0,[]⟩:Mt.Ins)]++x.code ((c.length+2:Nat):Int) (d+1)++[(⟨5,c.length,d,[]⟩:Mt.Ins)]=c++[(⟨2,0,0,[]⟩:Mt.Ins)]++([(⟨4,d,0,[]⟩:Mt.Ins)]++x.code ((c.length+2:Nat):Int) (d+1)++[(⟨5,c.length,d,[]⟩:Mt.Ins)]) by simp,set_mid]
  simp [Mt.Re.code];congr 1;omega
 rw [HE.out]
 clear hB hW hS h hX hn HE
 unfold insA at HP
 go_enter Try.func110,Try.ntmps110
 go_upto_region 1 with fail
 generalize w.alloc (.cells (paC A).toArray 142)=W at *
 go_wp2_with fail
 refine HP.out.mono ?_
 rintro e w1 ⟨rfl,q1,cap1,hA,hS⟩
 have H2:Hid (Calls Try.prog 53 #[.pointer (some ⟨g,0,none⟩),.agg (insA ⟨4,d,0,[]⟩)] w1 _):=put_prog (x:=⟨4,d,0,[]⟩) hA (by rw [l1];omega)
 have c3:=hA.cells.2.2.2.1
 have HS1:Hid (LStep g co (some ⟨q1,0,none⟩) w w1∧Bx w1 g (some ⟨q1,0,none⟩) w.heap.size A):=⟨HS.out.1.trans hS,HS.out.2.step hS⟩
 clear hA hS
 unfold insA at H2
 go_wp2_with fail
 refine H2.out.mono ?_
 rintro e w2 ⟨rfl,q2,cap2,hA,hS⟩
 have M2:=hA.loopsSet (d+1)
 have S2:=hS.set (p:=⟨g,3,none⟩) (Or.inl rfl) (.int .i64 (d+1))
 have B2:=HS1.out.2.step S2
 have H3:Hid (Calls Try.prog 102 #[.pointer (some ⟨g,0,none⟩),.agg (paC A).toArray] (w2.setCell ⟨g,3,none⟩ (.int .i64 (d+1))) _):=HX.out _ _ _ _ M2 (by rw [l2];omega)
 have HS2:Hid (LStep g co (some ⟨q2,0,none⟩) w (w2.setCell ⟨g,3,none⟩ (.int .i64 (d+1)))∧Bx (w2.setCell ⟨g,3,none⟩ (.int .i64 (d+1))) g (some ⟨q2,0,none⟩) w.heap.size A):=⟨HS1.out.1.trans S2,B2⟩
 have d3:=hA.cells.2.2.2.1
 have f3:=hA.cells.2.2.2.2 3
 have HBK:=B2.bk
 clear hA hS M2 S2 B2
 go_wp2_with (refine load_blk 142 20 Try.underlying142 rfl Try.sizeAt (by rfl) (.tmp 3) (by rfl) w.heap.size (by rfl) HBK (by rfl) ?_)
 refine H3.out.mono ?_
 rintro e w3 ⟨rfl,co3,cc3,hA,hS⟩
 rw [l2] at hA
 have H4:Hid (Calls Try.prog 53 #[.pointer (some ⟨g,0,none⟩),.agg (insA ⟨5,c.length,d,[]⟩)] w3 _):=put_prog (x:=⟨5,c.length,d,[]⟩) hA (by rw [l3];omega)
 have HS3:Hid (LStep g co co3 w w3∧Bx w3 g co3 w.heap.size A):=⟨HS2.out.1.trans hS,HS2.out.2.step hS⟩
 clear hA hS HBK
 unfold insA at H4
 go_wp2_with fail
 refine H4.out.mono ?_
 rintro e w4 ⟨rfl,q4,cap4,hA,hS⟩
 have M4:=hA.loopsSet d
 have S4:=hS.set (p:=⟨g,3,none⟩) (Or.inl rfl) (.int .i64 d)
 have B4:=HS3.out.2.step S4
 have H5':=aim_prog c.length A.rep.mood M4 (by rw [l4];omega) (by rw [l4];omega)
 rw [l4] at H5'
 have H5:Hid (Calls Try.prog 113 #[.pointer (some ⟨g,0,none⟩),.int .i64 ((c.length:Nat):Int),.int .i64 A.rep.mood] (w4.setCell ⟨g,3,none⟩ (.int .i64 d)) _):=H5'
 have HS4:Hid (LStep g co (some ⟨q4,0,none⟩) w (w4.setCell ⟨g,3,none⟩ (.int .i64 d))):=HS3.out.1.trans S4
 have e3:=hA.cells.2.2.2.1
 have g3:=hA.cells.2.2.2.2 3
 have b15:=(HS3.out.2.step hS).cell 15
 change _=some (Value.int .i64 A.rep.mood) at b15
 have ngw:w.heap.size≠g:=B4.ng
 clear hA hS M4 S4 B4 H5'
 go_wp2_with fail
 refine H5.out.mono ?_
 rintro e w5 ⟨rfl,hA,hS⟩
 have HD:Hid (LDone L g b so ao sc ac d co w ((c++[(⟨2,0,0,[]⟩:Mt.Ins)]++[(⟨4,d,0,[]⟩:Mt.Ins)]++x.code ((c.length+2:Nat):Int) (d+1)++[(⟨5,c.length,d,[]⟩:Mt.Ins)]).set c.length (Mt.spl ((c.length:Int)+1) ((c.length+3+x.len:Nat):Int) (decide (A.rep.mood=2)))) w5):=⟨_,_,hA,HS4.out.trans hS⟩
 clear hA hS
 go_wp2_with fail
 go_returns
 exact ⟨rfl,HD.out⟩
theorem layTimes_prog (A:Mt.PA) (x:Mt.Re) (N:Nat) (hN:N≤1000) (hX:Lays L g b so ao sc ac d 102 #[.pointer (some ⟨g,0,none⟩),.agg (paC A).toArray] x) :
  Lays L g b so ao sc ac d 109 #[.pointer (some ⟨g,0,none⟩),.agg (paC A).toArray,.int .i64 (N:Int)] (Mt.timesA x N):=by
 intro w co cc c h hn
 rw [Mt.timesA_len] at hn
 obtain ⟨hB,hW,hS⟩:=Bx.new h A
 have HX:Hid (Lays L g b so ao sc ac d 102 #[.pointer (some ⟨g,0,none⟩),.agg (paC A).toArray] x):=hX
 have HS:Hid (LStep g co co w (w.alloc (.cells (paC A).toArray 142))∧Bx (w.alloc (.cells (paC A).toArray 142)) g co w.heap.size A∧LAt L (w.alloc (.cells (paC A).toArray 142)) g b so ao sc ac co cc c d):=⟨hS,hB,hW⟩
 have HN:Hid (c.length+N*x.len≤1000):=hn
 clear hB hW hS h hX hn
 go_enter Try.func109,Try.ntmps109
 go_upto_region 1 with fail
 generalize w.alloc (.cells (paC A).toArray 142)=W at *
 go_wp2_with fail
 go_loopw [6] (fun i wr=>∃ (k:Nat) (cor:Option Addr) (ccr:Nat),k≤N∧i=.int .i64 k∧LAt L wr g b so ao sc ac cor ccr (c++(Mt.timesA x k).code c.length d) d∧LStep g co cor w wr∧Bx wr g cor w.heap.size A) (fun i _=>N-(intOf i).toNat)
 case atStart=>exact ⟨0,co,cc,Nat.zero_le _,rfl,by simpa [Mt.timesA,Mt.Re.code] using HS.out.2.2,HS.out.1,HS.out.2.1⟩
 case round =>
  obtain ⟨k,cor,ccr,hk,rfl,hA,hSr,hBr⟩:=hrel
  by_cases hlt:k<N
  ·have hkN:(k:Int)<(N:Int):=by omega
   have hm:(k+1)*x.len≤N*x.len:=Nat.mul_le_mul_right _ (by omega)
   have hm':(k+1)*x.len=k*x.len+x.len:=by rw [Nat.add_mul,Nat.one_mul]
   have hl:(c++(Mt.timesA x k).code c.length d).length=c.length+k*x.len:=by rw [List.length_append,Mt.Re.code_len,Mt.timesA_len]
   have hNo:=HN.out
   have H1:Hid (Calls Try.prog 102 #[.pointer (some ⟨g,0,none⟩),.agg (paC A).toArray] wr _):=HX.out _ _ _ _ hA (by rw [hl];omega)
   have c2:=hA.cells.2.2.1
   rw [hl] at c2
   have HBK:=hBr.bk
   have HSr:Hid (LStep g co cor w wr∧Bx wr g cor w.heap.size A):=⟨hSr,hBr⟩
   have HSN:Hid (c++(Mt.timesA x k).code c.length d++x.code ((c.length+k*x.len:Nat):Int) d=c++(Mt.timesA x (k+1)).code c.length d):=by
    show _=_;rw [Mt.timesA_snoc,List.append_assoc];simp
   clear hA hSr hBr
   generalize hM:c.length+k*x.len=M at *
   go_wp2_with (refine load_blk 142 20 Try.underlying142 rfl Try.sizeAt (by rfl) (.tmp 4) (by rfl) w.heap.size (by rfl) HBK (by rfl) ?_)
   refine H1.out.mono ?_
   rintro e w1 ⟨rfl,co1,cc1,hA,hS⟩
   rw [hl,HSN.out] at hA
   have d2:=hA.cells.2.2.1
   have hl1:(c++(Mt.timesA x (k+1)).code c.length d).length=M+x.len:=by rw [List.length_append,Mt.Re.code_len,Mt.timesA_len];omega
   rw [hl1] at d2
   have HA1:Hid (LAt L w1 g b so ao sc ac co1 cc1 (c++(Mt.timesA x (k+1)).code c.length d) d∧LStep g co co1 w w1∧Bx w1 g co1 w.heap.size A):=⟨hA,HSr.out.1.trans hS,HSr.out.2.step hS⟩
   clear hA hS HBK
   by_cases hz:x.len=0
   ·rw [hz] at d2
    go_wp2_with fail
    go_returns
    refine ⟨rfl,co1,cc1,?_,HA1.out.2.1⟩
    have:=HA1.out.1
    rw [Mt.timesA_none x hz] at this ⊢
    exact this
   ·have bt:(((M+x.len:Nat):Int)==(M:Int))=false:=by simp;omega
    go_wp2_with fail
    go_roundw
    case measure=>show N-((k:Int)+1).toNat<N-(k:Int).toNat;omega
    case rel=>exact ⟨k+1,co1,cc1,by omega,by go_num,HA1.out.1,HA1.out.2.1,HA1.out.2.2⟩
  ·have ek:k=N:=by omega
   subst ek
   have HD:Hid (LDone L g b so ao sc ac d co w (c++(Mt.timesA x k).code c.length d) wr):=⟨_,_,hA,hSr⟩
   clear hA hSr hBr
   go_wp2_with fail
   go_returns
   exact ⟨rfl,HD.out⟩
end
end Go.Proofs.Ytebpgfodelggoab
