import Derived.Test.YtebpgfodelggoabC29
import Derived.Test.YtebpgfodelggoabC27
import Derived.Deep.DeepCutAuto
import Derived.Great.BuildSlice
set_option linter.unusedVariables false
set_option linter.unusedSimpArgs false
set_option maxRecDepth 100000
set_option maxHeartbeats 8000000
namespace Go.Proofs.Ytebpgfodelggoab
open Go.RowKit
theorem two3 (t:ByteArray) (sign:Int) (base:Nat) (l0:List Sh) (x y:Sh) (g cap:Nat) (w:World) (ht:t.size≤10) (hs:I64 sign) (hk:pickI sign 9=3) (hb:base≤w.heap.size) (hg:g<w.heap.size) (hcap:l0.length+2≤cap) (hcap2:cap≤maxLen) (hl:l0.length≤100) (hx:ShOk t x) (hy:ShOk t y)
  (hr:w.rangeAt g (l0.length*123) x.L) (hr2:w.rangeAt g ((l0.length+1)*123) y.L) (hc:∀ j u,(l0.flatMap Sh.L)[j]?=some u→w.cell? ((⟨g,0,none⟩:Addr).add j)=some u) :
  Calls Try.prog 23 #[.slice (some ⟨g,0,none⟩) (l0.length+2) cap,.int .i64 sign,.string t] w fun e w'=>(e=.returned (.slice (some ⟨g,0,none⟩) (l0.length+2) cap)∧Below w.heap.size w w')∨∃ v' s,e=.returned v'∧ownSh w' base v' (l0++[s])∧ShOk t s∧Below base w w':=by
 have K0:Hid (∀ z:World,Calls Try.prog 9 #[.int .i64 sign,.int .i64 9] z fun e w'=>e=.returned (.int .i64 3)∧z=w'):=fun z=>by rw [← hk];exact kpick_any sign 9 z hs (by omega) (by omega)
 have KS:Hid (∀ z:World,Calls Try.prog 37 #[.agg x.A,.agg y.A] z fun e w'=>(∃ s',e=.returned (.agg s'.A)∧NewOk t s')∧Below z.heap.size z w'):=fun z=>both_new t x y z ht hx hy
 have HR:Hid (w.rangeAt g (l0.length*123) x.L):=hr
 have HR2:Hid (w.rangeAt g ((l0.length+1)*123) y.L):=hr2
 have HC:Hid (∀ j u,(l0.flatMap Sh.L)[j]?=some u→w.cell? ((⟨g,0,none⟩:Addr).add j)=some u):=hc
 have HI:Hid ((Try.prog.info? 57).map (·.size)=some x.L.length):=by show _=_;rw [Try.sizeSh,Sh.L_len]
 have HI2:Hid ((Try.prog.info? 57).map (·.size)=some y.L.length):=by show _=_;rw [Try.sizeSh,Sh.L_len]
 generalize hN:l0.length=N at *
 have i1:(N:Int)≤100:=by omega
 have i2:((N+2:Nat):Int)≤(cap:Int):=by omega
 clear hk hr hr2 hc hx hy
 go_enter Try.func23,Try.ntmps23
 go_wp2_with fail
 refine (K0.out _).mono ?_
 rintro e w' ⟨rfl,rfl⟩
 have e0:((N:Int)+2==0)=false:=by simp;omega
 have e1:((N:Int)+2==1)=false:=by simp;omega
 go_upto_region 16 with fail
 obtain ⟨z,hz⟩:∃ z,z=w.alloc (.cells Try.zeroCells57 57):=⟨_,rfl⟩
 have F1:Hid (z.heap[w.heap.size]?=some (.cells Try.zeroCells57 57 (0,0))):=by show _=_;rw [hz];exact heap_b1 _ _
 have B1:Hid (Below w.heap.size w z):=by show Below _ _ _;rw [hz];exact (Below.refl _ _).alloc (Nat.le_refl _) _
 have sz:z.heap.size=w.heap.size+1:=by rw [hz];simp
 rw [← hz]
 clear hz
 have KEEP:Hid (∀ z2:World,Below w.heap.size w z2→z2.rangeAt g (N*123) x.L∧z2.rangeAt g ((N+1)*123) y.L):=fun z2 hb2=>⟨fun j u hu=>(hb2.cell (p:=⟨g,N*123+j,none⟩) hg).trans (HR.out j u hu),fun j u hu=>(hb2.cell (p:=⟨g,(N+1)*123+j,none⟩) hg).trans (HR2.out j u hu)⟩
 generalize hm:w.heap.size=m at *
 clear HR HR2
 go_cut [] (fun wx=>∃ S,NewOk t S∧wx.heap[m]?=some (.cells S.A 57 (0,0))∧Below m w wx)
 case first =>
  have hz0:=KEEP.out z B1.out
  have ra:∀ z:World,(z.rangeAt g (N*123) x.L∧z.rangeAt g ((N+1)*123) y.L∧(∃ B:Array Value,B.size=123∧z.heap[m]?=some (.cells B 57 (0,0)))∧Below m w z)→z.rangeAt g (N*123) x.L:=fun z hz=>hz.1
  have rb:∀ z:World,(z.rangeAt g (N*123) x.L∧z.rangeAt g ((N+1)*123) y.L∧(∃ B:Array Value,B.size=123∧z.heap[m]?=some (.cells B 57 (0,0)))∧Below m w z)→z.rangeAt g ((N+1)*123) y.L:=fun z hz=>hz.2.1
  refine wp_region_held_drew (S:=fun z:World=>z.rangeAt g (N*123) x.L∧z.rangeAt g ((N+1)*123) y.L∧(∃ B:Array Value,B.size=123∧z.heap[m]?=some (.cells B 57 (0,0)))∧Below m w z) (by kernel_rfl) ⟨hz0.1,hz0.2,⟨_,zero_size,F1.out⟩,B1.out.trans (Below.refl _ _).drew⟩ (fun hH=>?_)
  clear hz0
  refine takeAt 0 61 (.slice (some ⟨g,0,none⟩) (N+2) cap) rfl rfl (by kernel_rfl) (by kernel_rfl) (by kernel_rfl) (fun _ _ _ h=>h) (Or.inl ⟨by rfl,fun z hz=>by clear hz ra rb;go_simp <;> (try rw [IntKind.wrap_i64]) <;> (try omega) <;> (try (intro h;exact absurd h (by omega)))⟩) hH ?_
  simp only [Act.put,List.setIfInBounds_toArray,List.set_cons_zero,List.set_cons_succ]
  refine takeAt 1 62 (.int .i64 ((N:Int)+2)) rfl rfl (by kernel_rfl) (by kernel_rfl) (by kernel_rfl) (fun _ _ _ h=>h) (Or.inl ⟨by rfl,fun z hz=>by clear hz ra rb;go_simp <;> (try rw [IntKind.wrap_i64]) <;> (try omega) <;> (try (intro h;exact absurd h (by omega)))⟩) hH ?_
  simp only [Act.put,List.setIfInBounds_toArray,List.set_cons_zero,List.set_cons_succ]
  refine takeAt 2 63 (.int .i64 (N:Int)) rfl rfl (by kernel_rfl) (by kernel_rfl) (by kernel_rfl) (fun _ _ _ h=>h) (Or.inl ⟨by rfl,fun z hz=>by clear hz ra rb;go_simp <;> (try rw [IntKind.wrap_i64]) <;> (try omega) <;> (try (intro h;exact absurd h (by omega)))⟩) hH ?_
  simp only [Act.put,List.setIfInBounds_toArray,List.set_cons_zero,List.set_cons_succ]
  refine takeAt 3 64 (.pointer (some ⟨g,N*123,none⟩)) rfl rfl (by kernel_rfl) (by kernel_rfl) (by kernel_rfl) (fun _ _ _ h=>h) (Or.inl ⟨by rfl,fun z hz=>by clear hz ra rb;go_simp <;> (try rw [IntKind.wrap_i64]) <;> (try omega) <;> (try (intro h;exact absurd h (by omega)))⟩) hH ?_
  simp only [Act.put,List.setIfInBounds_toArray,List.set_cons_zero,List.set_cons_succ]
  refine takeAt 4 65 (.agg x.L.toArray) rfl rfl (by kernel_rfl) (by kernel_rfl) (by kernel_rfl) (fun _ _ _ h=>h) (yieldsIf_load_mid (by rfl) _ _ rfl _ _ rfl _ _ ra Try.underlying57 rfl HI.out) hH ?_
  simp only [Act.put,List.setIfInBounds_toArray,List.set_cons_zero,List.set_cons_succ]
  refine takeAt 5 66 (.slice (some ⟨g,0,none⟩) (N+2) cap) rfl rfl (by kernel_rfl) (by kernel_rfl) (by kernel_rfl) (fun _ _ _ h=>h) (Or.inl ⟨by rfl,fun z hz=>by clear hz ra rb;go_simp <;> (try rw [IntKind.wrap_i64]) <;> (try omega) <;> (try (intro h;exact absurd h (by omega)))⟩) hH ?_
  simp only [Act.put,List.setIfInBounds_toArray,List.set_cons_zero,List.set_cons_succ]
  refine takeAt 6 67 (.int .i64 ((N:Int)+2)) rfl rfl (by kernel_rfl) (by kernel_rfl) (by kernel_rfl) (fun _ _ _ h=>h) (Or.inl ⟨by rfl,fun z hz=>by clear hz ra rb;go_simp <;> (try rw [IntKind.wrap_i64]) <;> (try omega) <;> (try (intro h;exact absurd h (by omega)))⟩) hH ?_
  simp only [Act.put,List.setIfInBounds_toArray,List.set_cons_zero,List.set_cons_succ]
  refine takeAt 7 68 (.int .i64 ((N:Int)+1)) rfl rfl (by kernel_rfl) (by kernel_rfl) (by kernel_rfl) (fun _ _ _ h=>h) (Or.inl ⟨by rfl,fun z hz=>by clear hz ra rb;go_simp <;> (try rw [IntKind.wrap_i64]) <;> (try omega) <;> (try (intro h;exact absurd h (by omega)))⟩) hH ?_
  simp only [Act.put,List.setIfInBounds_toArray,List.set_cons_zero,List.set_cons_succ]
  refine takeAt 8 69 (.pointer (some ⟨g,(N+1)*123,none⟩)) rfl rfl (by kernel_rfl) (by kernel_rfl) (by kernel_rfl) (fun _ _ _ h=>h) (Or.inl ⟨by rfl,fun z hz=>by clear hz ra rb;go_simp <;> (try rw [IntKind.wrap_i64]) <;> (try omega) <;> (try (intro h;exact absurd h (by omega)))⟩) hH ?_
  simp only [Act.put,List.setIfInBounds_toArray,List.set_cons_zero,List.set_cons_succ]
  refine takeAt 9 70 (.agg y.L.toArray) rfl rfl (by kernel_rfl) (by kernel_rfl) (by kernel_rfl) (fun _ _ _ h=>h) (yieldsIf_load_mid (by rfl) _ _ rfl _ _ rfl _ _ rb Try.underlying57 rfl HI2.out) hH ?_
  simp only [Act.put,List.setIfInBounds_toArray,List.set_cons_zero,List.set_cons_succ]
  rw [Sh.arr x,Sh.arr y]
  clear ra rb
  refine wpAnyH_ready (rs:=[10]) (by kernel_rfl) (by simp) ?_
  refine AllReadyH.cons rfl (fun K hK=>?_) AllReadyH.nil
  obtain ⟨_,_,⟨B0,hB0,hF⟩,hBl⟩:=hH
  have hml:=(Array.getElem?_eq_some_iff.1 hF).1
  go_simp
  refine (KS.out _).mono ?_
  rintro e w2 ⟨⟨S,rfl,hS⟩,hb2⟩
  have B2:Below m w w2:=hBl.trans (hb2.mono (by omega))
  have F2:=(hb2.block m hml).trans hF
  go_simp
  refine hK.out _ _ ⟨(KEEP.out w2 B2).1,(KEEP.out w2 B2).2,⟨B0,hB0,F2⟩,B2⟩ (fun _=>?_)
  clear hK K
  refine wpAnyH_ready (rs:=[11]) (by kernel_rfl) (by simp) ?_
  refine AllReadyH.cons rfl (fun K hK=>?_) AllReadyH.nil
  refine wp_store_mid 57 (.tmp 9) (.tmp 71) rfl m 0 S.A (by rfl) (by rfl) (there_block (cell_block F2).1 (cell_block F2).2 _ (by rw [show S.A.size=123 from shA_size _ _ _];exact Nat.le_of_eq hB0.symm)) (by rw [Try.sizeSh];exact congrArg some (shA_size S.p S.d S.T).symm) (shA_all _ _ _) ?_
  have F3:=stored_blk F2 S.A (by rw [hB0];exact shA_size _ _ _)
  have B3:=B2.trans (below_setCells m S.A.toList 0 w2 m (Nat.le_refl _)).1
  refine hK.out _ _ ⟨(KEEP.out _ B3).1,(KEEP.out _ B3).2,⟨_,shA_size _ _ _,F3⟩,B3⟩ (fun _=>?_)
  clear hK K
  refine wpAnyH_done (by kernel_rfl) ?_ _
  go_wp2_with fail
  go_meet
  case rel=>exact ⟨S,hS,F3,B3⟩
 case rest =>
  obtain ⟨S,hS,hS3,hB3⟩:=hcut
  rename World=>w3
  have HS:Hid (NewOk t S):=hS
  obtain ⟨_,hd0,hd1,hp1⟩:=hS
  have S3:Hid (w3.heap[m]?=some (.cells S.A 57 (0,0))):=hS3
  have B3:Hid (Below m w w3):=hB3
  have hm3:m<w3.heap.size:=(Array.getElem?_eq_some_iff.1 hS3).1
  clear hS3 hB3 F1 B1 KS KEEP
  go_upto_region 27 with fail
  have c0:w3.cell? ⟨m,0,none⟩=some (.string S.p):=((cell_block S3.out).1 _).trans (shA_p _ _ _)
  have c1:w3.cell? ⟨m,1,none⟩=some (.int .i64 S.d):=((cell_block S3.out).1 _).trans (shA_d _ _ _)
  by_cases h48:S.p.size≤48
  ·have d1:decide ((48:Int)<(S.p.size:Int))=false:=by rw [decide_eq_false_iff_not];omega
   by_cases h10:S.d≤10
   ·have d2:decide ((10:Int)<S.d)=false:=by rw [decide_eq_false_iff_not];omega
    have HN:Hid (ShOk t S):=HS.out.1 h48 h10
    have HNEW:Hid (∀ j u,(l0.flatMap Sh.L)[j]?=some u→w3.cell? ((⟨g,0,none⟩:Addr).add j)=some u):=fun j u hu=>(B3.out.cell (by rw [addr_block];exact hg)).trans (HC.out j u hu)
    clear HS
    go_upto_region 31 with (at_builtin;refine wpList_push (by rfl) (.tmp 129) (.tmp 132) (by rfl) base (.slice none 0 0) [] (by rfl) (World.ownsRow_nil _ _ _ _) ⟨g,0,none⟩ N cap l0 (by rfl) hN HNEW.out (by simp;omega) (by omega) ?_;intro v4 w4 hown4 hgrow4)
    have O4:Hid (ownSh w4 base v4 l0):=(by simpa using hown4:ownSh w4 base v4 l0)
    have F4:Hid (w4.heap[m]?=some (.cells S.A 57 (0,0))):=(hgrow4.block m hm3 (by simp [Value.ownBlock])).trans S3.out
    have B4:Hid (Below base w w4):=(B3.out.mono hb).grown hgrow4 (by omega) (fun k hk=>by simp [Value.ownBlock] at hk)
    have hw4:base≤w4.heap.size:=Nat.le_trans (by omega) hgrow4.size
    have HOB:Hid (∀ k,v4.ownBlock=some k→base≤k):=fun k hk=>(World.ownsRow.lt O4.out k hk).1
    have HAA:Hid (Value.agg S.A=Value.agg S.A):=rfl
    clear hown4 hgrow4 S3 B3 c0 c1
    go_wp2_with (first | (refine load_blk 57 123 Try.underlying57 rfl Try.sizeSh (by rfl) (.tmp 9) (by rfl) m (by rfl) F4.out (shA_size _ _ _) ?_) | (refine wpList_build_sh (by rfl) (.tmp 135) (by rfl) S (by rfl) ?_) | (at_builtin;refine wpList_push (by rfl) (.tmp 134) (.tmp 136) (by rfl) base v4 l0 (by rfl) (ownSh.alloc O4.out _) ⟨w4.heap.size,0,none⟩ 1 1 [S] (by rfl) rfl (news_one _ _) (by omega) (by simp;omega) ?_;intro v5 w5 hown5 hgrow5))
    have O5:Hid (ownSh w5 base v5 (l0++[S])):=hown5
    have B5:Hid (Below base w w5):=(B4.out.alloc hw4 _).grown hgrow5 (by simp;omega) HOB.out
    clear hown5 hgrow5
    go_wp2_with fail
    go_ret
    first | exact .inr ⟨_,S,rfl,O5.out,HN.out,B5.out⟩ | exact .inr ⟨_,rfl,S,O5.out,HN.out,B5.out⟩ | exact .inr ⟨_,rfl,⟨S,O5.out,HN.out⟩,B5.out⟩
   ·have d2:decide ((10:Int)<S.d)=true:=by rw [decide_eq_true_eq];omega
    go_wp2_with fail
    go_ret
    refine .inl ⟨rfl,?_⟩
    first | exact B3.out | (rw [hm];exact B3.out)
  ·have d1:decide ((48:Int)<(S.p.size:Int))=true:=by rw [decide_eq_true_eq];omega
   go_wp2_with fail
   go_ret
   refine .inl ⟨rfl,?_⟩
   first | exact B3.out | (rw [hm];exact B3.out)
theorem two4 (t:ByteArray) (sign:Int) (base:Nat) (l0:List Sh) (x y:Sh) (g cap:Nat) (w:World) (ht:t.size≤10) (hs:I64 sign) (hk:pickI sign 9=4) (hb:base≤w.heap.size) (hg:g<w.heap.size) (hcap:l0.length+2≤cap) (hcap2:cap≤maxLen) (hl:l0.length≤100) (hx:ShOk t x) (hy:ShOk t y)
  (hr:w.rangeAt g (l0.length*123) x.L) (hr2:w.rangeAt g ((l0.length+1)*123) y.L) (hc:∀ j u,(l0.flatMap Sh.L)[j]?=some u→w.cell? ((⟨g,0,none⟩:Addr).add j)=some u) :
  Calls Try.prog 23 #[.slice (some ⟨g,0,none⟩) (l0.length+2) cap,.int .i64 sign,.string t] w fun e w'=>(e=.returned (.slice (some ⟨g,0,none⟩) (l0.length+2) cap)∧Below w.heap.size w w')∨∃ v' s,e=.returned v'∧ownSh w' base v' (l0++[s])∧ShOk t s∧Below base w w':=by
 have K0:Hid (∀ z:World,Calls Try.prog 9 #[.int .i64 sign,.int .i64 9] z fun e w'=>e=.returned (.int .i64 4)∧z=w'):=fun z=>by rw [← hk];exact kpick_any sign 9 z hs (by omega) (by omega)
 have KS:Hid (∀ z:World,Calls Try.prog 38 #[.agg x.A,.agg y.A] z fun e w'=>(∃ s',e=.returned (.agg s'.A)∧NewOk t s')∧Below z.heap.size z w'):=fun z=>either_new t x y z ht hx hy
 have HR:Hid (w.rangeAt g (l0.length*123) x.L):=hr
 have HR2:Hid (w.rangeAt g ((l0.length+1)*123) y.L):=hr2
 have HC:Hid (∀ j u,(l0.flatMap Sh.L)[j]?=some u→w.cell? ((⟨g,0,none⟩:Addr).add j)=some u):=hc
 have HI:Hid ((Try.prog.info? 57).map (·.size)=some x.L.length):=by show _=_;rw [Try.sizeSh,Sh.L_len]
 have HI2:Hid ((Try.prog.info? 57).map (·.size)=some y.L.length):=by show _=_;rw [Try.sizeSh,Sh.L_len]
 generalize hN:l0.length=N at *
 have i1:(N:Int)≤100:=by omega
 have i2:((N+2:Nat):Int)≤(cap:Int):=by omega
 clear hk hr hr2 hc hx hy
 go_enter Try.func23,Try.ntmps23
 go_wp2_with fail
 refine (K0.out _).mono ?_
 rintro e w' ⟨rfl,rfl⟩
 have e0:((N:Int)+2==0)=false:=by simp;omega
 have e1:((N:Int)+2==1)=false:=by simp;omega
 go_upto_region 19 with fail
 obtain ⟨z,hz⟩:∃ z,z=w.alloc (.cells Try.zeroCells57 57):=⟨_,rfl⟩
 have F1:Hid (z.heap[w.heap.size]?=some (.cells Try.zeroCells57 57 (0,0))):=by show _=_;rw [hz];exact heap_b1 _ _
 have B1:Hid (Below w.heap.size w z):=by show Below _ _ _;rw [hz];exact (Below.refl _ _).alloc (Nat.le_refl _) _
 have sz:z.heap.size=w.heap.size+1:=by rw [hz];simp
 rw [← hz]
 clear hz
 have KEEP:Hid (∀ z2:World,Below w.heap.size w z2→z2.rangeAt g (N*123) x.L∧z2.rangeAt g ((N+1)*123) y.L):=fun z2 hb2=>⟨fun j u hu=>(hb2.cell (p:=⟨g,N*123+j,none⟩) hg).trans (HR.out j u hu),fun j u hu=>(hb2.cell (p:=⟨g,(N+1)*123+j,none⟩) hg).trans (HR2.out j u hu)⟩
 generalize hm:w.heap.size=m at *
 clear HR HR2
 go_cut [] (fun wx=>∃ S,NewOk t S∧wx.heap[m]?=some (.cells S.A 57 (0,0))∧Below m w wx)
 case first =>
  have hz0:=KEEP.out z B1.out
  have ra:∀ z:World,(z.rangeAt g (N*123) x.L∧z.rangeAt g ((N+1)*123) y.L∧(∃ B:Array Value,B.size=123∧z.heap[m]?=some (.cells B 57 (0,0)))∧Below m w z)→z.rangeAt g (N*123) x.L:=fun z hz=>hz.1
  have rb:∀ z:World,(z.rangeAt g (N*123) x.L∧z.rangeAt g ((N+1)*123) y.L∧(∃ B:Array Value,B.size=123∧z.heap[m]?=some (.cells B 57 (0,0)))∧Below m w z)→z.rangeAt g ((N+1)*123) y.L:=fun z hz=>hz.2.1
  refine wp_region_held_drew (S:=fun z:World=>z.rangeAt g (N*123) x.L∧z.rangeAt g ((N+1)*123) y.L∧(∃ B:Array Value,B.size=123∧z.heap[m]?=some (.cells B 57 (0,0)))∧Below m w z) (by kernel_rfl) ⟨hz0.1,hz0.2,⟨_,zero_size,F1.out⟩,B1.out.trans (Below.refl _ _).drew⟩ (fun hH=>?_)
  clear hz0
  refine takeAt 0 76 (.slice (some ⟨g,0,none⟩) (N+2) cap) rfl rfl (by kernel_rfl) (by kernel_rfl) (by kernel_rfl) (fun _ _ _ h=>h) (Or.inl ⟨by rfl,fun z hz=>by clear hz ra rb;go_simp <;> (try rw [IntKind.wrap_i64]) <;> (try omega) <;> (try (intro h;exact absurd h (by omega)))⟩) hH ?_
  simp only [Act.put,List.setIfInBounds_toArray,List.set_cons_zero,List.set_cons_succ]
  refine takeAt 1 77 (.int .i64 ((N:Int)+2)) rfl rfl (by kernel_rfl) (by kernel_rfl) (by kernel_rfl) (fun _ _ _ h=>h) (Or.inl ⟨by rfl,fun z hz=>by clear hz ra rb;go_simp <;> (try rw [IntKind.wrap_i64]) <;> (try omega) <;> (try (intro h;exact absurd h (by omega)))⟩) hH ?_
  simp only [Act.put,List.setIfInBounds_toArray,List.set_cons_zero,List.set_cons_succ]
  refine takeAt 2 78 (.int .i64 (N:Int)) rfl rfl (by kernel_rfl) (by kernel_rfl) (by kernel_rfl) (fun _ _ _ h=>h) (Or.inl ⟨by rfl,fun z hz=>by clear hz ra rb;go_simp <;> (try rw [IntKind.wrap_i64]) <;> (try omega) <;> (try (intro h;exact absurd h (by omega)))⟩) hH ?_
  simp only [Act.put,List.setIfInBounds_toArray,List.set_cons_zero,List.set_cons_succ]
  refine takeAt 3 79 (.pointer (some ⟨g,N*123,none⟩)) rfl rfl (by kernel_rfl) (by kernel_rfl) (by kernel_rfl) (fun _ _ _ h=>h) (Or.inl ⟨by rfl,fun z hz=>by clear hz ra rb;go_simp <;> (try rw [IntKind.wrap_i64]) <;> (try omega) <;> (try (intro h;exact absurd h (by omega)))⟩) hH ?_
  simp only [Act.put,List.setIfInBounds_toArray,List.set_cons_zero,List.set_cons_succ]
  refine takeAt 4 80 (.agg x.L.toArray) rfl rfl (by kernel_rfl) (by kernel_rfl) (by kernel_rfl) (fun _ _ _ h=>h) (yieldsIf_load_mid (by rfl) _ _ rfl _ _ rfl _ _ ra Try.underlying57 rfl HI.out) hH ?_
  simp only [Act.put,List.setIfInBounds_toArray,List.set_cons_zero,List.set_cons_succ]
  refine takeAt 5 81 (.slice (some ⟨g,0,none⟩) (N+2) cap) rfl rfl (by kernel_rfl) (by kernel_rfl) (by kernel_rfl) (fun _ _ _ h=>h) (Or.inl ⟨by rfl,fun z hz=>by clear hz ra rb;go_simp <;> (try rw [IntKind.wrap_i64]) <;> (try omega) <;> (try (intro h;exact absurd h (by omega)))⟩) hH ?_
  simp only [Act.put,List.setIfInBounds_toArray,List.set_cons_zero,List.set_cons_succ]
  refine takeAt 6 82 (.int .i64 ((N:Int)+2)) rfl rfl (by kernel_rfl) (by kernel_rfl) (by kernel_rfl) (fun _ _ _ h=>h) (Or.inl ⟨by rfl,fun z hz=>by clear hz ra rb;go_simp <;> (try rw [IntKind.wrap_i64]) <;> (try omega) <;> (try (intro h;exact absurd h (by omega)))⟩) hH ?_
  simp only [Act.put,List.setIfInBounds_toArray,List.set_cons_zero,List.set_cons_succ]
  refine takeAt 7 83 (.int .i64 ((N:Int)+1)) rfl rfl (by kernel_rfl) (by kernel_rfl) (by kernel_rfl) (fun _ _ _ h=>h) (Or.inl ⟨by rfl,fun z hz=>by clear hz ra rb;go_simp <;> (try rw [IntKind.wrap_i64]) <;> (try omega) <;> (try (intro h;exact absurd h (by omega)))⟩) hH ?_
  simp only [Act.put,List.setIfInBounds_toArray,List.set_cons_zero,List.set_cons_succ]
  refine takeAt 8 84 (.pointer (some ⟨g,(N+1)*123,none⟩)) rfl rfl (by kernel_rfl) (by kernel_rfl) (by kernel_rfl) (fun _ _ _ h=>h) (Or.inl ⟨by rfl,fun z hz=>by clear hz ra rb;go_simp <;> (try rw [IntKind.wrap_i64]) <;> (try omega) <;> (try (intro h;exact absurd h (by omega)))⟩) hH ?_
  simp only [Act.put,List.setIfInBounds_toArray,List.set_cons_zero,List.set_cons_succ]
  refine takeAt 9 85 (.agg y.L.toArray) rfl rfl (by kernel_rfl) (by kernel_rfl) (by kernel_rfl) (fun _ _ _ h=>h) (yieldsIf_load_mid (by rfl) _ _ rfl _ _ rfl _ _ rb Try.underlying57 rfl HI2.out) hH ?_
  simp only [Act.put,List.setIfInBounds_toArray,List.set_cons_zero,List.set_cons_succ]
  rw [Sh.arr x,Sh.arr y]
  clear ra rb
  refine wpAnyH_ready (rs:=[10]) (by kernel_rfl) (by simp) ?_
  refine AllReadyH.cons rfl (fun K hK=>?_) AllReadyH.nil
  obtain ⟨_,_,⟨B0,hB0,hF⟩,hBl⟩:=hH
  have hml:=(Array.getElem?_eq_some_iff.1 hF).1
  go_simp
  refine (KS.out _).mono ?_
  rintro e w2 ⟨⟨S,rfl,hS⟩,hb2⟩
  have B2:Below m w w2:=hBl.trans (hb2.mono (by omega))
  have F2:=(hb2.block m hml).trans hF
  go_simp
  refine hK.out _ _ ⟨(KEEP.out w2 B2).1,(KEEP.out w2 B2).2,⟨B0,hB0,F2⟩,B2⟩ (fun _=>?_)
  clear hK K
  refine wpAnyH_ready (rs:=[11]) (by kernel_rfl) (by simp) ?_
  refine AllReadyH.cons rfl (fun K hK=>?_) AllReadyH.nil
  refine wp_store_mid 57 (.tmp 9) (.tmp 86) rfl m 0 S.A (by rfl) (by rfl) (there_block (cell_block F2).1 (cell_block F2).2 _ (by rw [show S.A.size=123 from shA_size _ _ _];exact Nat.le_of_eq hB0.symm)) (by rw [Try.sizeSh];exact congrArg some (shA_size S.p S.d S.T).symm) (shA_all _ _ _) ?_
  have F3:=stored_blk F2 S.A (by rw [hB0];exact shA_size _ _ _)
  have B3:=B2.trans (below_setCells m S.A.toList 0 w2 m (Nat.le_refl _)).1
  refine hK.out _ _ ⟨(KEEP.out _ B3).1,(KEEP.out _ B3).2,⟨_,shA_size _ _ _,F3⟩,B3⟩ (fun _=>?_)
  clear hK K
  refine wpAnyH_done (by kernel_rfl) ?_ _
  go_wp2_with fail
  go_meet
  case rel=>exact ⟨S,hS,F3,B3⟩
 case rest =>
  obtain ⟨S,hS,hS3,hB3⟩:=hcut
  rename World=>w3
  have HS:Hid (NewOk t S):=hS
  obtain ⟨_,hd0,hd1,hp1⟩:=hS
  have S3:Hid (w3.heap[m]?=some (.cells S.A 57 (0,0))):=hS3
  have B3:Hid (Below m w w3):=hB3
  have hm3:m<w3.heap.size:=(Array.getElem?_eq_some_iff.1 hS3).1
  clear hS3 hB3 F1 B1 KS KEEP
  go_upto_region 27 with fail
  have c0:w3.cell? ⟨m,0,none⟩=some (.string S.p):=((cell_block S3.out).1 _).trans (shA_p _ _ _)
  have c1:w3.cell? ⟨m,1,none⟩=some (.int .i64 S.d):=((cell_block S3.out).1 _).trans (shA_d _ _ _)
  by_cases h48:S.p.size≤48
  ·have d1:decide ((48:Int)<(S.p.size:Int))=false:=by rw [decide_eq_false_iff_not];omega
   by_cases h10:S.d≤10
   ·have d2:decide ((10:Int)<S.d)=false:=by rw [decide_eq_false_iff_not];omega
    have HN:Hid (ShOk t S):=HS.out.1 h48 h10
    have HNEW:Hid (∀ j u,(l0.flatMap Sh.L)[j]?=some u→w3.cell? ((⟨g,0,none⟩:Addr).add j)=some u):=fun j u hu=>(B3.out.cell (by rw [addr_block];exact hg)).trans (HC.out j u hu)
    clear HS
    go_upto_region 31 with (at_builtin;refine wpList_push (by rfl) (.tmp 129) (.tmp 132) (by rfl) base (.slice none 0 0) [] (by rfl) (World.ownsRow_nil _ _ _ _) ⟨g,0,none⟩ N cap l0 (by rfl) hN HNEW.out (by simp;omega) (by omega) ?_;intro v4 w4 hown4 hgrow4)
    have O4:Hid (ownSh w4 base v4 l0):=(by simpa using hown4:ownSh w4 base v4 l0)
    have F4:Hid (w4.heap[m]?=some (.cells S.A 57 (0,0))):=(hgrow4.block m hm3 (by simp [Value.ownBlock])).trans S3.out
    have B4:Hid (Below base w w4):=(B3.out.mono hb).grown hgrow4 (by omega) (fun k hk=>by simp [Value.ownBlock] at hk)
    have hw4:base≤w4.heap.size:=Nat.le_trans (by omega) hgrow4.size
    have HOB:Hid (∀ k,v4.ownBlock=some k→base≤k):=fun k hk=>(World.ownsRow.lt O4.out k hk).1
    have HAA:Hid (Value.agg S.A=Value.agg S.A):=rfl
    clear hown4 hgrow4 S3 B3 c0 c1
    go_wp2_with (first | (refine load_blk 57 123 Try.underlying57 rfl Try.sizeSh (by rfl) (.tmp 9) (by rfl) m (by rfl) F4.out (shA_size _ _ _) ?_) | (refine wpList_build_sh (by rfl) (.tmp 135) (by rfl) S (by rfl) ?_) | (at_builtin;refine wpList_push (by rfl) (.tmp 134) (.tmp 136) (by rfl) base v4 l0 (by rfl) (ownSh.alloc O4.out _) ⟨w4.heap.size,0,none⟩ 1 1 [S] (by rfl) rfl (news_one _ _) (by omega) (by simp;omega) ?_;intro v5 w5 hown5 hgrow5))
    have O5:Hid (ownSh w5 base v5 (l0++[S])):=hown5
    have B5:Hid (Below base w w5):=(B4.out.alloc hw4 _).grown hgrow5 (by simp;omega) HOB.out
    clear hown5 hgrow5
    go_wp2_with fail
    go_ret
    first | exact .inr ⟨_,S,rfl,O5.out,HN.out,B5.out⟩ | exact .inr ⟨_,rfl,S,O5.out,HN.out,B5.out⟩ | exact .inr ⟨_,rfl,⟨S,O5.out,HN.out⟩,B5.out⟩
   ·have d2:decide ((10:Int)<S.d)=true:=by rw [decide_eq_true_eq];omega
    go_wp2_with fail
    go_ret
    refine .inl ⟨rfl,?_⟩
    first | exact B3.out | (rw [hm];exact B3.out)
  ·have d1:decide ((48:Int)<(S.p.size:Int))=true:=by rw [decide_eq_true_eq];omega
   go_wp2_with fail
   go_ret
   refine .inl ⟨rfl,?_⟩
   first | exact B3.out | (rw [hm];exact B3.out)
end Go.Proofs.Ytebpgfodelggoab
namespace Mt
def PB.putAtom (b:PB) (t:PT):PB:={ b with atoms:=b.atoms++[⟨t,0,pt0,-1,b.seq,-1⟩] }
end Mt
namespace Go.Proofs.Ytebpgfodelggoab
open Go.RowKit
theorem Try.infoAt:(Try.prog.info? 142).map (fun i=>(i.zero,i.size,i.bytes))=some (some (.agg (paC ⟨Mt.pt0,0,Mt.pt0,0,0,0⟩).toArray),20,176):=by kernel_rfl
theorem build_atom (t:Mt.PT) (k:Int) (z:World):(Instr.build 142 #[(0,.agg (ptA t)),(3,.int .i64 (-1)),(4,.int .i64 k),(5,.int .i64 (-1))]).run Try.prog z=.ok (.agg (paC ⟨t,0,Mt.pt0,-1,k,-1⟩).toArray) z:=by
 unfold ptA paC ptL
 kernel_rfl
theorem fill_atom (x:Mt.PA) {i0:TypeInfo} (hz1:i0.size=20):Instr.fill (fun i=>some (i*i0.size,i0.size)) ((Array.range (1*i0.size)).map ((Value.agg (paC ⟨Mt.pt0,0,Mt.pt0,0,0,0⟩).toArray).cells[· % (Value.agg (paC ⟨Mt.pt0,0,Mt.pt0,0,0,0⟩).toArray).cells.size]!)) [(0,.agg (paC x).toArray)]=some (paC x).toArray:=by
 rw [hz1];unfold paC ptL;kernel_rfl
theorem step_build {P:Program} {ops:Array Oper} {o:Oper} {a:Act} {w:World} {K:Act→World→Prop} {Q:Exit→Act→World→Prop} {E:Prop} (hgd:o.guard=none) (t e:TypeId) (len:Nat) (parts:Array (Nat × Operand)) (ho:o.op=.buildSlice t len parts)
  (cells:Array Value) (ie:TypeInfo) (z:Value) (hu:P.underlying t=some (.slice e)) (hie:P.info? e=some ie) (hz:ie.zero=some z) (hsmall:¬ len*ie.size>2 ^ 24) (hpos:¬ len*ie.size=0)
  (hf:Instr.fill (fun i=>some (i*ie.size,ie.size)) ((Array.range (len*ie.size)).map (z.cells[· % z.cells.size]!)) (parts.map fun (i,x)=>(i,a.eval x)).toList=some cells)
  (h:K (a.put o.dst (.slice (some ⟨w.heap.size,0,none⟩) len len)) (w.alloc (.cells cells e))):if Region.wanted o (yielded ops a.tmps)=true then Oper.wp P o a w K Q else E:=by
 have hw:Region.wanted o (yielded ops a.tmps)=true:=by simp [Region.wanted,hgd]
 rw [if_pos hw]
 exact wp_buildSlice t e len parts ho cells ie z hu hie hz hsmall hpos hf h
theorem step_build1 {P:Program} {ops:Array Oper} {o:Oper} {a:Act} {w:World} {K:Act→World→Prop} {Q:Exit→Act→World→Prop} {E:Prop} (hgd:o.guard=none) (t e:TypeId) (x:Operand) (ho:o.op=.buildSlice t 1 #[(0,x)])
  (cells:Array Value) (ie:TypeInfo) (z v:Value) (hu:P.underlying t=some (.slice e)) (hie:P.info? e=some ie) (hz:ie.zero=some z) (hsmall:¬ 1*ie.size>2 ^ 24) (hpos:¬ 1*ie.size=0) (hx:a.eval x=v)
  (hf:Instr.fill (fun i=>some (i*ie.size,ie.size)) ((Array.range (1*ie.size)).map (z.cells[· % z.cells.size]!)) [(0,v)]=some cells)
  (h:K (a.put o.dst (.slice (some ⟨w.heap.size,0,none⟩) 1 1)) (w.alloc (.cells cells e))):if Region.wanted o (yielded ops a.tmps)=true then Oper.wp P o a w K Q else E :=
 step_build hgd t e 1 #[(0,x)] ho cells ie z hu hie hz hsmall hpos (by subst hx;simp only [List.map_toArray,List.map_cons,List.map_nil];exact hf) h
theorem atom_after {L:Nat} {w w1:World} {g:Nat} {b:Mt.PB} {so ao oo:Option Addr} {sc ac oc:Nat} {T E:Array Value} {ty te:TypeId} {n c:Nat} (h:BAt L w g b so ao oo sc ac oc) (hg:(((w.alloc (.cells T ty)).drew).alloc (.cells E te)).grownBy w1 (Value.slice ao n c).ownBlock) :
  w1.heap[w.heap.size]?=some (.cells T ty (0,0))∧(∀ o,w1.cell? ⟨g,o,none⟩=w.cell? ⟨g,o,none⟩)∧(∀ o,w1.frozen? ⟨g,o,none⟩=w.frozen? ⟨g,o,none⟩):=by
 rw [ownBlock_blk] at hg
 have hlg:g<w.heap.size:=(h.lt g (Or.inl rfl)).2
 have h1:w1.heap[w.heap.size]?=some (.cells T ty (0,0)):=by
  rw [hg.block _ (by simp;omega) (fun e=>by have:=(h.lt _ (Or.inr (Or.inr (Or.inl e.symm)))).2;omega),heap_old _ _ _ (by simp)]
  exact heap_alloc_new _ _
 have h2:w1.heap[g]?=w.heap[g]?:=by
  rw [hg.block _ (by simp;omega) (fun e=>h.ap.2.1 e.symm),heap_old _ _ _ (by simp;omega)]
  exact heap_old _ _ _ hlg
 exact ⟨h1,fun o=>World.cell?_of_block (a:=⟨g,o,none⟩) h2,fun o=>World.frozen?_of_block (a:=⟨g,o,none⟩) h2⟩
theorem putAtom_mem {L:Nat} {w w0 w1:World} {g:Nat} {b:Mt.PB} {so ao oo:Option Addr} {sc ac oc q cap:Nat} {t:Mt.PT} (h:BAt L w g b so ao oo sc ac oc) (h0:Below w.heap.size w w0) (hs0:w.heap.size<w0.heap.size) (hg:w0.grownBy w1 (blk ao)) (hq:blk ao=some q∨q=w0.heap.size)
  (hown:w1.ownsRow L 142 20 (.slice (some ⟨q,0,none⟩) (b.atoms.length+1) cap) (b.atoms.length+1) (b.atoms.flatMap paC++paC ⟨t,0,Mt.pt0,-1,b.seq,-1⟩)) :
  BAt L (w1.setCell ⟨g,1,none⟩ (.slice (some ⟨q,0,none⟩) (b.atoms.length+1) cap)) g (b.putAtom t) so (some ⟨q,0,none⟩) oo sc cap oc∧BStep g so ao oo so (some ⟨q,0,none⟩) oo w (w1.setCell ⟨g,1,none⟩ (.slice (some ⟨q,0,none⟩) (b.atoms.length+1) cap)):=by
 have hlt:∀ k,own g so ao oo k→k<w0.heap.size:=fun k hk=>by have:=(h.lt k hk).2;omega
 have n:q≠g∧blk so≠some q∧blk oo≠some q:=by
  rcases hq with e | e
  ·exact ⟨fun x=>h.ap.2.1 (by rw [e,x]),fun x=>(h.ap.2.2.2.1 q x).1 e,h.ap.2.2.2.2 q e⟩
  ·subst e
   exact ⟨fun e=>by have:=hlt g (Or.inl rfl);omega,fun e=>by have:=hlt _ (Or.inr (Or.inl e));omega,fun e=>by have:=hlt _ (Or.inr (Or.inr (Or.inr e)));omega⟩
 obtain ⟨n1,n2,n3⟩:=n
 have kg:w1.heap[g]?=w.heap[g]?:=h.grown h0 hg g (Or.inl rfl) (fun e=>h.ap.2.1 e.symm)
 have ks:∀ k,blk so=some k→w1.heap[k]?=w.heap[k]?:=fun k hk=>h.grown h0 hg k (Or.inr (Or.inl hk)) (fun e=>(h.ap.2.2.2.1 k hk).1 e.symm)
 have ko:∀ k,blk oo=some k→w1.heap[k]?=w.heap[k]?:=fun k hk=>h.grown h0 hg k (Or.inr (Or.inr (Or.inr hk))) (fun e=>h.ap.2.2.2.2 k e.symm hk)
 have hap:blk so≠some g∧blk (some ⟨q,0,none⟩)≠some g∧blk oo≠some g∧(∀ k,blk so=some k→blk (some ⟨q,0,none⟩)≠some k∧blk oo≠some k)∧(∀ k,blk (some ⟨q,0,none⟩)=some k→blk oo≠some k) :=
  ⟨h.ap.1,fun e=>n1 (by simpa [blk] using e),h.ap.2.2.1,fun k hk=>⟨fun e=>n2 (by simp [blk] at e;rw [hk,e]),(h.ap.2.2.2.1 k hk).2⟩,fun k hk=>by simp [blk] at hk;subst hk;exact n3⟩
 have o:∀ k,k≠g→(w1.setCell ⟨g,1,none⟩ (.slice (some ⟨q,0,none⟩) (b.atoms.length+1) cap)).heap[k]?=w1.heap[k]?:=fun k hk=>Below.heap_setCell _ _ _ _ hk
 refine ⟨⟨?_,h.lo,?_,?_,?_,hap,h.cl⟩,?_⟩
 ·have hc:=Go.heap_setCell_same w1 g 1 _ _ (.slice (some ⟨q,0,none⟩) (b.atoms.length+1) cap) (by rw [kg];exact h.cell)
  rw [hc];unfold bA Mt.PB.putAtom;simp
 ·exact row_keep h.seqs (fun k hk=>by rw [o k (fun e=>h.ap.1 (by rw [← e];exact hk)),ks k hk])
 ·have e1:(b.putAtom t).atoms.length=b.atoms.length+1:=by simp [Mt.PB.putAtom]
  have e2:(b.putAtom t).atoms.flatMap paC=b.atoms.flatMap paC++paC ⟨t,0,Mt.pt0,-1,b.seq,-1⟩:=by simp [Mt.PB.putAtom]
  rw [e1,e2]
  exact row_keep hown (fun k hk=>o k (by simp [blk] at hk;omega))
 ·exact row_keep h.opn (fun k hk=>by rw [o k (fun e=>h.ap.2.2.1 (by rw [← e];exact hk)),ko k hk])
 ·refine ⟨hg.os.trans h0.os,hg.tape.trans h0.tape,hg.output.trans h0.output,?_,fun k hk hn=>?_,fun k hk ho=>?_⟩
  ·have:=hg.size;have:=h0.size;simp [World.setCell];omega
  ·rw [o k (fun e=>hn (Or.inl e)),hg.block k (by have:=h0.size;omega) (fun e=>hn (Or.inr (Or.inr (Or.inl e.symm)))),h0.block k hk]
  ·rcases ho with e | e | e | e
   ·exact Or.inl e
   ·exact Or.inr (Or.inl e)
   ·simp [blk] at e
    subst e
    rcases hq with hq | hq
    ·exact Or.inr (Or.inr (Or.inl hq))
    ·omega
   ·exact Or.inr (Or.inr (Or.inr e))
theorem addAtom_prog {L:Nat} {w:World} {g:Nat} {b:Mt.PB} {so ao oo:Option Addr} {sc ac oc:Nat} (t:Mt.PT) (h:BAt L w g b so ao oo sc ac oc) (hn:b.atoms.length≤1000) (hs:b.seq<b.seqs.length) (hla:b.last=-1∨∃ k:Nat,b.last=k∧k<b.atoms.length) :
  Calls Try.prog 85 #[.pointer (some ⟨g,0,none⟩),ptV t] w fun e w'=>e=.returned (.tuple #[])∧∃ ao' ac',BAt L w' g (b.addAtom t) so ao' oo sc ac' oc∧BStep g so ao oo so ao' oo w w':=by
 obtain ⟨i0,hi,hz0,hz1,hz2⟩:=info_parts Try.infoAt
 have HB:Hid (BAt L w g b so ao oo sc ac oc):=h
 obtain ⟨c0,c1,c2,c3,_,_,_,hf⟩:=h.cells
 have f1:=hf 1
 have hg:g<w.heap.size:=(h.lt g (Or.inl rfl)).2
 have hL:L≤w.heap.size:=by have:=h.lo;omega
 have HO:Hid (w.ownsRow L 142 20 (.slice ao b.atoms.length ac) b.atoms.length (b.atoms.flatMap paC)):=h.atoms
 clear h hf
 unfold ptV
 go_enter Try.func85,Try.ntmps85
 go_upto_region 2 with fail
 go_cut [] (fun wx=>∃ q cap,BAt L wx g (b.putAtom t) so (some ⟨q,0,none⟩) oo sc cap oc∧BStep g so ao oo so (some ⟨q,0,none⟩) oo w wx)
 case first =>
  have hc1:∀ z:World,(z.heap[w.heap.size]?=some (.cells (ptA t) 121 (0,0))∧z.cell? ⟨g,2,none⟩=some (.int .i64 b.seq))→z.cell? ⟨g,2,none⟩=some (.int .i64 b.seq):=fun z hz=>hz.2
  have hcr:∀ z:World,(z.heap[w.heap.size]?=some (.cells (ptA t) 121 (0,0))∧z.cell? ⟨g,2,none⟩=some (.int .i64 b.seq))→z.rangeAt w.heap.size 0 (ptA t).toList:=fun z hz=>rangeAt_blk hz.1
  have S0:(w.alloc (.cells (ptA t) 121)).heap[w.heap.size]?=some (.cells (ptA t) 121 (0,0))∧(w.alloc (.cells (ptA t) 121)).cell? ⟨g,2,none⟩=some (.int .i64 b.seq):=⟨heap_alloc_new _ _,by rw [World.cell?_of_block (a:=⟨g,2,none⟩) (heap_old w _ g hg)];exact c2⟩
  refine wp_region_held_drew (S:=fun z:World=>z.heap[w.heap.size]?=some (.cells (ptA t) 121 (0,0))∧z.cell? ⟨g,2,none⟩=some (.int .i64 b.seq)) (by kernel_rfl) S0 (fun hH=>?_)
  refine takeAt 0 11 (.pointer (some ⟨g,0,none⟩)) rfl rfl (by kernel_rfl) (by kernel_rfl) (by kernel_rfl) (fun _ _ _ h=>h) (Or.inl ⟨by rfl,fun z hz=>by clear hH hz hc1 hcr S0;go_simp⟩) (by assumption) ?_
  simp only [Act.put,List.setIfInBounds_toArray,List.set_cons_zero,List.set_cons_succ]
  refine takeAt 1 12 (.pointer (some ⟨g,0,none⟩)) rfl rfl (by kernel_rfl) (by kernel_rfl) (by kernel_rfl) (fun _ _ _ h=>h) (Or.inl ⟨by rfl,fun z hz=>by clear hH hz hc1 hcr S0;go_simp⟩) (by assumption) ?_
  simp only [Act.put,List.setIfInBounds_toArray,List.set_cons_zero,List.set_cons_succ]
  refine takeAt 2 13 (.pointer (some ⟨g,0,none⟩)) rfl rfl (by kernel_rfl) (by kernel_rfl) (by kernel_rfl) (fun _ _ _ h=>h) (Or.inl ⟨by rfl,fun z hz=>by clear hH hz hc1 hcr S0;go_simp⟩) (by assumption) ?_
  simp only [Act.put,List.setIfInBounds_toArray,List.set_cons_zero,List.set_cons_succ]
  refine takeAt 3 14 (.pointer (some ⟨g,0,none⟩)) rfl rfl (by kernel_rfl) (by kernel_rfl) (by kernel_rfl) (fun _ _ _ h=>h) (Or.inl ⟨by rfl,fun z hz=>by clear hH hz hc1 hcr S0;go_simp⟩) (by assumption) ?_
  simp only [Act.put,List.setIfInBounds_toArray,List.set_cons_zero,List.set_cons_succ]
  refine takeAt 4 15 (.pointer (some ⟨g,1,none⟩)) rfl rfl (by kernel_rfl) (by kernel_rfl) (by kernel_rfl) (fun _ _ _ h=>h) (Or.inl ⟨by rfl,fun z hz=>by clear hH hz hc1 hcr S0;go_simp⟩) (by assumption) ?_
  simp only [Act.put,List.setIfInBounds_toArray,List.set_cons_zero,List.set_cons_succ]
  refine takeAt 6 17 (.agg (ptA t)) rfl rfl (by kernel_rfl) (by kernel_rfl) (by kernel_rfl) (fun _ _ _ h=>h) (yieldsIf_load_mid (by rfl) _ _ rfl _ _ rfl _ _ hcr Try.underlying121 rfl (by rw [Try.sizePT];rfl)) (by assumption) ?_
  simp only [Act.put,List.setIfInBounds_toArray,List.set_cons_zero,List.set_cons_succ]
  refine takeAt 7 18 (.pointer (some ⟨g,0,none⟩)) rfl rfl (by kernel_rfl) (by kernel_rfl) (by kernel_rfl) (fun _ _ _ h=>h) (Or.inl ⟨by rfl,fun z hz=>by clear hH hz hc1 hcr S0;go_simp⟩) (by assumption) ?_
  simp only [Act.put,List.setIfInBounds_toArray,List.set_cons_zero,List.set_cons_succ]
  refine takeAt 8 19 (.pointer (some ⟨g,0,none⟩)) rfl rfl (by kernel_rfl) (by kernel_rfl) (by kernel_rfl) (fun _ _ _ h=>h) (Or.inl ⟨by rfl,fun z hz=>by clear hH hz hc1 hcr S0;go_simp⟩) (by assumption) ?_
  simp only [Act.put,List.setIfInBounds_toArray,List.set_cons_zero,List.set_cons_succ]
  refine takeAt 9 20 (.pointer (some ⟨g,2,none⟩)) rfl rfl (by kernel_rfl) (by kernel_rfl) (by kernel_rfl) (fun _ _ _ h=>h) (Or.inl ⟨by rfl,fun z hz=>by clear hH hz hc1 hcr S0;go_simp⟩) (by assumption) ?_
  simp only [Act.put,List.setIfInBounds_toArray,List.set_cons_zero,List.set_cons_succ]
  refine takeAt 10 21 (.int .i64 b.seq) rfl rfl (by kernel_rfl) (by kernel_rfl) (by kernel_rfl) (fun _ _ _ h=>h) (Or.inl ⟨by rfl,fun z hz=>by have hz2:=hc1 z hz;clear hH hz hc1 hcr S0;go_simp⟩) (by assumption) ?_
  simp only [Act.put,List.setIfInBounds_toArray,List.set_cons_zero,List.set_cons_succ]
  refine takeAt 11 22 (.agg (paC ⟨t,0,Mt.pt0,-1,b.seq,-1⟩).toArray) rfl rfl (by kernel_rfl) (by kernel_rfl) (by kernel_rfl) (fun _ _ _ h=>h) (Or.inl ⟨by rfl,fun z hz=>by refine buildRun (t:=142) (parts:=#[(0,.tmp 17),(3,.const (.int .i64 (-1))),(4,.tmp 21),(5,.const (.int .i64 (-1)))]) rfl ?_;simp only [List.map_toArray,List.map_cons,List.map_nil];exact build_atom t b.seq z⟩) (by assumption) ?_
  simp only [Act.put,List.setIfInBounds_toArray,List.set_cons_zero,List.set_cons_succ]
  have S1:((w.alloc (.cells (ptA t) 121)).drew.alloc (.cells (paC ⟨t,0,Mt.pt0,-1,b.seq,-1⟩).toArray 142)).heap[w.heap.size]?=some (.cells (ptA t) 121 (0,0))∧((w.alloc (.cells (ptA t) 121)).drew.alloc (.cells (paC ⟨t,0,Mt.pt0,-1,b.seq,-1⟩).toArray 142)).cell? ⟨g,2,none⟩=some (.int .i64 b.seq) :=
   ⟨(heap_old _ _ _ (by simp)).trans S0.1,(World.cell?_of_block (a:=⟨g,2,none⟩) (heap_old (w.alloc (.cells (ptA t) 121)).drew _ g (by simp;omega))).trans S0.2⟩
  have hsz:(w.alloc (.cells (ptA t) 121)).drew.heap.size=w.heap.size+1:=by simp
  have hnw:((w.alloc (.cells (ptA t) 121)).drew.alloc (.cells (paC ⟨t,0,Mt.pt0,-1,b.seq,-1⟩).toArray 142)).heap[w.heap.size+1]?=some (.cells (paC ⟨t,0,Mt.pt0,-1,b.seq,-1⟩).toArray 142 (0,0)):=by
   rw [← hsz];exact heap_alloc_new _ _
  refine wpAnyH_ready (rs:=[5,12]) (by kernel_rfl) (by simp) ?_
  refine AllReadyH.cons rfl (fun K hK=>?_) (AllReadyH.cons rfl (fun K hK=>?_) AllReadyH.nil)
  all_goals
   first
   | (
     refine step_build1 rfl 78 142 (.tmp 22) rfl (paC ⟨t,0,Mt.pt0,-1,b.seq,-1⟩).toArray i0 _ (.agg (paC ⟨t,0,Mt.pt0,-1,b.seq,-1⟩).toArray) Try.underlying78 hi hz0 (by rw [hz1];decide) (by rw [hz1];decide) (by rfl) (fill_atom _ hz1) ?_
     refine hK.out _ _ S1 (fun hH2=>?_)
     clear hK K
     simp only [Act.put,List.setIfInBounds_toArray,List.set_cons_zero,List.set_cons_succ]
     refine wpAnyH_ready (rs:=[5]) (by kernel_rfl) (by simp) ?_
     refine AllReadyH.cons rfl (fun K hK=>?_) AllReadyH.nil
     try clear hH
     try clear hcr
     go_simp
     refine hK.out _ _ S1 (fun hH4=>?_)
     clear hK K
     )
   | (
     try clear hH
     try clear hcr
     go_simp
     refine hK.out _ _ S0 (fun hH4=>?_)
     clear hK K
     refine wpAnyH_ready (rs:=[12]) (by kernel_rfl) (by simp) ?_
     refine AllReadyH.cons rfl (fun K hK=>?_) AllReadyH.nil
     refine step_build1 rfl 78 142 (.tmp 22) rfl (paC ⟨t,0,Mt.pt0,-1,b.seq,-1⟩).toArray i0 _ (.agg (paC ⟨t,0,Mt.pt0,-1,b.seq,-1⟩).toArray) Try.underlying78 hi hz0 (by rw [hz1];decide) (by rw [hz1];decide) (by rfl) (fill_atom _ hz1) ?_
     refine hK.out _ _ S1 (fun hH2=>?_)
     clear hK K
     simp only [Act.put,List.setIfInBounds_toArray,List.set_cons_zero,List.set_cons_succ,hsz]
     )
  all_goals
   refine wpAnyH_ready (rs:=[13]) (by kernel_rfl) (by simp) ?_
   refine AllReadyH.cons rfl (fun K hK=>?_) AllReadyH.nil
   refine step_append_lies _ rfl (.tmp 16) (.tmp 23) 78 rfl L 142 i0 _ 20 176 Try.underlying78 hi hz0 hz1 hz2 rfl (by decide) (.slice ao b.atoms.length ac) b.atoms.length (b.atoms.flatMap paC) (by rfl) (World.ownsRow.alloc (w:=(w.alloc (.cells (ptA t) 121)).drew) (HO.out.alloc _) _) ⟨w.heap.size+1,0,none⟩ 1 1 (paC ⟨t,0,Mt.pt0,-1,b.seq,-1⟩) (by rfl) (by rfl) (World.news_of_block (cs:=(paC ⟨t,0,Mt.pt0,-1,b.seq,-1⟩).toArray) hnw) (by intro u hu;simp [paC,ptL] at hu;rcases hu with h | h | h | h | h | h | h | h | h | h | h | h | h | h | h | h | h | h | h | h <;> subst h <;> rfl) (by decide) (by unfold maxLen;omega) (by omega) (by simp;omega) (w.heap.size+2) (by simp) ?_
   intro q cap w1 hown hgrow hq hqlt
   obtain ⟨A1,A2,A3⟩:=atom_after HB.out hgrow
   refine hK.out _ _ ⟨A1,(A2 2).trans c2⟩ (fun hH3=>?_)
   clear hK K
   have d1:=(A2 1).trans c1
   have e1:=(A3 1).trans f1
   have HM:Hid (BAt L (w1.setCell ⟨g,1,none⟩ (.slice (some ⟨q,0,none⟩) (b.atoms.length+1) cap)) g (b.putAtom t) so (some ⟨q,0,none⟩) oo sc cap oc∧BStep g so ao oo so (some ⟨q,0,none⟩) oo w (w1.setCell ⟨g,1,none⟩ (.slice (some ⟨q,0,none⟩) (b.atoms.length+1) cap))) :=
    putAtom_mem HB.out (w0:=(w.alloc (.cells (ptA t) 121)).drew.alloc (.cells (paC ⟨t,0,Mt.pt0,-1,b.seq,-1⟩).toArray 142)) ((((Below.refl _ _).alloc (Nat.le_refl _) _).drew).alloc (by simp) _) (by simp;omega) (by rw [ownBlock_blk] at hgrow;exact hgrow) (by rw [ownBlock_blk] at hq;simpa using hq) hown
   have SZ:w.heap.size<w1.heap.size:=(Array.getElem?_eq_some_iff.1 A1).1
   have S4:(w1.setCell ⟨g,1,none⟩ (.slice (some ⟨q,0,none⟩) (b.atoms.length+1) cap)).heap[w.heap.size]?=some (.cells (ptA t) 121 (0,0))∧(w1.setCell ⟨g,1,none⟩ (.slice (some ⟨q,0,none⟩) (b.atoms.length+1) cap)).cell? ⟨g,2,none⟩=some (.int .i64 b.seq) :=
    ⟨(Below.heap_setCell _ _ _ _ (by show w.heap.size≠g;omega)).trans A1,HM.out.1.cells.2.2.1⟩
   clear A2 A3 hgrow hown hq S0 S1
   simp only [Act.put,List.setIfInBounds_toArray,List.set_cons_zero,List.set_cons_succ]
   refine takeAt 14 25 (.pointer (some ⟨g,0,none⟩)) rfl rfl (by kernel_rfl) (by kernel_rfl) (by kernel_rfl) (fun _ _ _ h=>h) (Or.inl ⟨by rfl,fun z hz=>by clear hH3 hz hc1 S4;go_simp⟩) (by assumption) ?_
   simp only [Act.put,List.setIfInBounds_toArray,List.set_cons_zero,List.set_cons_succ]
   refine takeAt 15 26 (.pointer (some ⟨g,0,none⟩)) rfl rfl (by kernel_rfl) (by kernel_rfl) (by kernel_rfl) (fun _ _ _ h=>h) (Or.inl ⟨by rfl,fun z hz=>by clear hH3 hz hc1 S4;go_simp⟩) (by assumption) ?_
   simp only [Act.put,List.setIfInBounds_toArray,List.set_cons_zero,List.set_cons_succ]
   refine takeAt 16 27 (.pointer (some ⟨g,1,none⟩)) rfl rfl (by kernel_rfl) (by kernel_rfl) (by kernel_rfl) (fun _ _ _ h=>h) (Or.inl ⟨by rfl,fun z hz=>by clear hH3 hz hc1 S4;go_simp⟩) (by assumption) ?_
   simp only [Act.put,List.setIfInBounds_toArray,List.set_cons_zero,List.set_cons_succ]
   refine wpAnyH_ready (rs:=[17]) (by kernel_rfl) (by simp) ?_
   refine AllReadyH.cons rfl (fun K hK=>?_) AllReadyH.nil
   clear hc1
   go_simp
   refine hK.out _ _ S4 (fun hH4=>?_)
   clear hK K
   refine wpAnyH_done (by kernel_rfl) ?_ _
   go_wp2_with fail
   go_meet
   case rel=>exact ⟨q,cap,HM.out.1,HM.out.2⟩
 case rest =>
  obtain ⟨q,cap,hP,hSt⟩:=hcut
  have HP:Hid (BAt L wc g (b.putAtom t) so (some ⟨q,0,none⟩) oo sc cap oc):=hP
  have HSt:Hid (BStep g so ao oo so (some ⟨q,0,none⟩) oo w wc):=hSt
  obtain ⟨x0,x1,x2,x3,_,_,_,hxf⟩:=hP.cells
  have y3:=hxf 3
  obtain ⟨gs,hso,gs1,gs2,gs3⟩:=hP.seqForm (by show 0<b.seqs.length;omega)
  subst hso
  have len1:(b.putAtom t).atoms.length=b.atoms.length+1:=by simp [Mt.PB.putAtom]
  have len2:b.atoms.length+1≤cap:=by
   obtain ⟨_,_,_,_,hh⟩:=hP.atomForm (by omega)
   omega
  have hqg:q≠g:=fun e=>hP.ap.2.1 (by rw [blk_some,e])
  have hgw:g<wc.heap.size:=(hP.lt g (Or.inl rfl)).2
  rw [len1] at x1
  change wc.cell? ⟨g,0,none⟩=some (.slice (some ⟨gs,0,none⟩) b.seqs.length sc) at x0
  change wc.cell? ⟨g,2,none⟩=some (.int .i64 b.seq) at x2
  change wc.cell? ⟨g,3,none⟩=some (.int .i64 b.last) at x3
  change b.seqs.length≤sc at gs3
  rcases hla with hl | ⟨k,hl,hk⟩
  ·have sc0:=hP.seqCell b.seq 0 hs (by decide)
   have sc1:=sc0.1
   have sc2:=sc0.2
   rw [show b.seq*2+0=b.seq*2 by omega] at sc1 sc2
   change wc.cell? ⟨gs,b.seq*2,none⟩=some (.int .i64 (b.sAt b.seq).first) at sc1
   rw [hl] at x3
   have HL:Hid (b.last=-1):=hl
   clear hP hSt hxf sc0 hl
   go_wp2_with fail
   go_region
   go_wp2_with fail
   go_returns
   have M1:=HP.out.seqSet b.seq 0 (.int .i64 b.atoms.length) ⟨b.atoms.length,(b.sAt b.seq).next⟩ hs (by decide) rfl
   rw [show b.seq*2+0=b.seq*2 by omega] at M1
   have M2:=M1.drew
   have M3:=M2.field (k:=3) (v:=.int .i64 b.atoms.length) (b':=b.addAtom t) (so':=some ⟨gs,0,none⟩) (ao':=some ⟨q,0,none⟩) (oo':=oo) (sc':=sc) (ac':=cap) (oc':=oc) (by unfold bA Mt.PB.addAtom Mt.PB.putAtom;rw [if_pos HL.out];simp) (by unfold Mt.PB.addAtom;rw [if_pos HL.out];exact M2.seqs) (by unfold Mt.PB.addAtom;rw [if_pos HL.out];exact M2.atoms) (by unfold Mt.PB.addAtom;rw [if_pos HL.out];exact M2.opn) M2.ap (by unfold Mt.PB.addAtom;rw [if_pos HL.out];exact M2.cl)
   refine ⟨rfl,some ⟨q,0,none⟩,cap,M3,?_⟩
   exact ((HSt.out.set (p:=⟨gs,b.seq*2,none⟩) (Or.inr (Or.inl rfl)) _).drew).set (p:=⟨g,3,none⟩) (Or.inl rfl) _
  ·have ac0:=hP.atomCell k 19 (by omega) (by decide)
   have ac1:=ac0.1
   have ac2:=ac0.2
   have ea:(b.putAtom t).aAt k=b.aAt k:=by
    unfold Mt.PB.aAt Mt.PB.putAtom;dsimp only;rw [Mt.getD_app,if_neg (by omega)]
   rw [ea] at ac1
   change wc.cell? ⟨q,k*20+19,none⟩=some (.int .i64 (b.aAt k).next) at ac1
   rw [hl] at x3
   have HL:Hid (b.last=k):=hl
   have bt:((k:Int)==-1)=false:=by simp
   clear hP hSt hxf ac0 hl ea
   go_wp2_with fail
   go_region
   go_wp2_with fail
   go_returns
   have M1:=HP.out.atomSet k 19 [.int .i64 b.atoms.length] { b.aAt k with next:=b.atoms.length } (by omega) (by simp) (by
    have ea:(b.putAtom t).aAt k=b.aAt k:=by
     unfold Mt.PB.aAt Mt.PB.putAtom;dsimp only;rw [Mt.getD_app,if_neg (by omega)]
    rw [ea];rfl)
   have M2:=M1.drew
   have hne:¬ b.last=-1:=by rw [HL.out];omega
   have hto:b.last.toNat=k:=by rw [HL.out];simp
   have M3:=M2.field (k:=3) (v:=.int .i64 b.atoms.length) (b':=b.addAtom t) (so':=some ⟨gs,0,none⟩) (ao':=some ⟨q,0,none⟩) (oo':=oo) (sc':=sc) (ac':=cap) (oc':=oc) (by unfold bA Mt.PB.addAtom Mt.PB.putAtom;rw [if_neg hne];simp) (by unfold Mt.PB.addAtom;rw [if_neg hne];exact M2.seqs) (by unfold Mt.PB.addAtom;rw [if_neg hne];dsimp only;rw [hto];exact M2.atoms) (by unfold Mt.PB.addAtom;rw [if_neg hne];exact M2.opn) M2.ap (by unfold Mt.PB.addAtom;rw [if_neg hne];exact M2.cl)
   refine ⟨rfl,some ⟨q,0,none⟩,cap,M3,?_⟩
   exact ((HSt.out.set (p:=⟨q,k*20+19,none⟩) (Or.inr (Or.inr (Or.inl rfl))) _).drew).set (p:=⟨g,3,none⟩) (Or.inl rfl) _
end Go.Proofs.Ytebpgfodelggoab
