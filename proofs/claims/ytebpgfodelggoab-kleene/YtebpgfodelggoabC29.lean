import Derived.Test.YtebpgfodelggoabC28
set_option linter.unusedVariables false
set_option linter.unusedSimpArgs false
set_option maxRecDepth 100000
set_option maxHeartbeats 8000000
namespace Go.Proofs.Ytebpgfodelggoab
open Go.RowKit
theorem Sh.arr (s:Sh):s.L.toArray=s.A:=by simp [Sh.L]
theorem addr_block (g j:Nat):((⟨g,0,none⟩:Addr).add j).block=g:=by unfold Addr.add;split <;> rfl
theorem one5 (t:ByteArray) (sign:Int) (base:Nat) (l0:List Sh) (x:Sh) (g cap:Nat) (w:World) (ht:t.size≤10) (hs:I64 sign) (hk:pickI sign 9=5) (hb:base≤w.heap.size) (hg:g<w.heap.size) (hcap:l0.length+1≤cap) (hcap2:cap≤maxLen) (hl:l0.length≤100) (hx:ShOk t x)
  (hr:w.rangeAt g (l0.length*123) x.L) (hc:∀ j u,(l0.flatMap Sh.L)[j]?=some u→w.cell? ((⟨g,0,none⟩:Addr).add j)=some u) :
  Calls Try.prog 23 #[.slice (some ⟨g,0,none⟩) (l0.length+1) cap,.int .i64 sign,.string t] w fun e w'=>(e=.returned (.slice (some ⟨g,0,none⟩) (l0.length+1) cap)∧Below w.heap.size w w')∨∃ v' s,e=.returned v'∧ownSh w' base v' (l0++[s])∧ShOk t s∧Below base w w':=by
 have K0:Hid (∀ z:World,Calls Try.prog 9 #[.int .i64 sign,.int .i64 9] z fun e w'=>e=.returned (.int .i64 5)∧z=w'):=fun z=>by rw [← hk];exact kpick_any sign 9 z hs (by omega) (by omega)
 have KS:Hid (∀ z:World,Calls Try.prog 39 #[.agg x.A,.string ⟨#[42]⟩,.int .i64 (t.size:Int)] z fun e w'=>(∃ s',e=.returned (.agg s'.A)∧NewOk t s')∧Below z.heap.size z w'):=fun z=>star_new t x false z ht hx
 have HR:Hid (w.rangeAt g (l0.length*123) x.L):=hr
 have HC:Hid (∀ j u,(l0.flatMap Sh.L)[j]?=some u→w.cell? ((⟨g,0,none⟩:Addr).add j)=some u):=hc
 have HI:Hid ((Try.prog.info? 57).map (·.size)=some x.L.length):=by show _=_;rw [Try.sizeSh,Sh.L_len]
 have HX:Hid (x.L.toArray=x.A):=Sh.arr x
 generalize hN:l0.length=N at *
 have i1:(N:Int)≤100:=by omega
 have i2:((N+1:Nat):Int)≤(cap:Int):=by omega
 clear hk hr hc hx
 go_enter Try.func23,Try.ntmps23
 go_wp2_with fail
 refine (K0.out _).mono ?_
 rintro e w' ⟨rfl,rfl⟩
 have e0:((N:Int)+1==0)=false:=by simp;omega
 go_upto_region 9 with fail
 go_cut [46] (fun vb wx=>vb=.bool false∧w=wx)
 case first =>
  by_cases hN0:N=0
  ·have e1:((N:Int)+1==1)=true:=by simp;omega
   go_wp2_with fail
   go_meet
   case rel=>exact ⟨rfl,rfl⟩
  ·have e1:((N:Int)+1==1)=false:=by simp;omega
   go_wp2_with fail
   go_meet
   case rel=>exact ⟨rfl,rfl⟩
 case rest =>
  obtain ⟨rfl,rfl⟩:=hcut
  go_upto_region 22 with fail
  obtain ⟨z,hz⟩:∃ z,z=w.alloc (.cells Try.zeroCells57 57):=⟨_,rfl⟩
  have F1:Hid (z.heap[w.heap.size]?=some (.cells Try.zeroCells57 57 (0,0))):=by show _=_;rw [hz];exact heap_b1 _ _
  have B1:Hid (Below w.heap.size w z):=by show Below _ _ _;rw [hz];exact (Below.refl _ _).alloc (Nat.le_refl _) _
  have sz:z.heap.size=w.heap.size+1:=by rw [hz];simp
  rw [← hz]
  clear hz
  have HR1:Hid (z.rangeAt g (N*123) x.L):=fun j u hu=>(B1.out.cell (p:=⟨g,N*123+j,none⟩) hg).trans (HR.out j u hu)
  generalize hm:w.heap.size=m at *
  clear HR
  go_wp2_with (refine wpList_load_mid (by rfl) _ (.tmp 94) (by rfl) g (N*123) (by rfl) x.L _ HR1.out Try.underlying57 rfl HI.out ?_;rw [HX.out])
  refine (KS.out _).mono ?_
  rintro e w2 ⟨⟨S,rfl,hS⟩,hb2⟩
  have HS:Hid (NewOk t S):=hS
  obtain ⟨_,hd0,hd1,hp1⟩:=hS
  have F2:Hid (w2.heap[m]?=some (.cells Try.zeroCells57 57 (0,0))):=(hb2.block m (by omega)).trans F1.out
  have B2:Hid (Below m w w2):=B1.out.trans (hb2.mono (by omega))
  clear hb2 F1 B1 KS
  go_upto_region 27 with (refine store_blk 57 123 Try.sizeSh (by rfl) (.tmp 9) (.tmp 98) (by rfl) m S.A (by rfl) (by rfl) F2.out zero_size (shA_size _ _ _) (shA_all _ _ _) ?_;intro w3 s1 s2 s3 s4)
  have S3:Hid (w3.heap[m]?=some (.cells S.A 57 (0,0))):=s1
  have B3:Hid (Below m w w3):=B2.out.trans (s4 _ (Nat.le_refl _))
  have hm3:m<w3.heap.size:=(Array.getElem?_eq_some_iff.1 s1).1
  have c0:w3.cell? ⟨m,0,none⟩=some (.string S.p):=((cell_block S3.out).1 _).trans (shA_p _ _ _)
  have c1:w3.cell? ⟨m,1,none⟩=some (.int .i64 S.d):=((cell_block S3.out).1 _).trans (shA_d _ _ _)
  clear s1 s2 s3 s4 F2 B2
  by_cases h48:S.p.size≤48
  ·have d1:decide ((48:Int)<(S.p.size:Int))=false:=by rw [decide_eq_false_iff_not];omega
   by_cases h10:S.d≤10
   ·have d2:decide ((10:Int)<S.d)=false:=by rw [decide_eq_false_iff_not];omega
    have HN:Hid (ShOk t S):=HS.out.1 h48 h10
    have HNEW:Hid (∀ j u,(l0.flatMap Sh.L)[j]?=some u→w3.cell? ((⟨g,0,none⟩:Addr).add j)=some u):=fun j u hu=>(B3.out.cell (by rw [addr_block];exact hg)).trans (HC.out j u hu)
    clear HS
    go_upto_region 31 with (at_builtin;refine wpList_push (by rfl) (.tmp 129) (.tmp 132) (by rfl) base (.slice none 0 0) [] (by rfl) (World.ownsRow_nil _ _ _ _) ⟨g,0,none⟩ N cap l0 (by rfl) hN HNEW.out (by simp;omega) (by omega) ?_;intro v4 w4 hown4 hgrow4)
    have O4:Hid (ownSh w4 base v4 l0):=(by simpa using hown4:ownSh w4 base v4 l0)
    have F4:Hid (w4.heap[m]?=some (.cells S.A 57 (0,0))):=(hgrow4.block m hm3 (by simp [Value.ownBlock])).trans S3.out
    have B4:Hid (Below base w w4):=(B3.out.mono hb).grown hgrow4 (by omega) (fun k hk=>by simp [Value.ownBlock] at hk)
    have hw4:base≤w4.heap.size:=Nat.le_trans (by omega) hgrow4.size
    have HOB:Hid (∀ k,v4.ownBlock=some k→base≤k):=fun k hk=>(World.ownsRow.lt O4.out k hk).1
    have HAA:Hid (Value.agg S.A=Value.agg S.A):=rfl
    clear hown4 hgrow4 S3 B3 c0 c1
    go_wp2_with (first | (refine load_blk 57 123 Try.underlying57 rfl Try.sizeSh (by rfl) (.tmp 9) (by rfl) m (by rfl) F4.out (shA_size _ _ _) ?_) | (refine wpList_build_sh (by rfl) (.tmp 135) (by rfl) S (by rfl) ?_) | (at_builtin;refine wpList_push (by rfl) (.tmp 134) (.tmp 136) (by rfl) base v4 l0 (by rfl) (ownSh.alloc O4.out _) ⟨w4.heap.size,0,none⟩ 1 1 [S] (by rfl) rfl (news_one _ _) (by omega) (by simp;omega) ?_;intro v5 w5 hown5 hgrow5))
    have O5:Hid (ownSh w5 base v5 (l0++[S])):=hown5
    have B5:Hid (Below base w w5):=(B4.out.alloc hw4 _).grown hgrow5 (by simp;omega) HOB.out
    clear hown5 hgrow5
    go_wp2_with fail
    go_ret
    first | exact .inr ⟨_,S,rfl,O5.out,HN.out,B5.out⟩ | exact .inr ⟨_,rfl,S,O5.out,HN.out,B5.out⟩ | exact .inr ⟨_,rfl,⟨S,O5.out,HN.out⟩,B5.out⟩
   ·have d2:decide ((10:Int)<S.d)=true:=by rw [decide_eq_true_eq];omega
    go_wp2_with fail
    go_ret
    refine .inl ⟨rfl,?_⟩
    first | exact B3.out | (rw [hm];exact B3.out)
  ·have d1:decide ((48:Int)<(S.p.size:Int))=true:=by rw [decide_eq_true_eq];omega
   go_wp2_with fail
   go_ret
   refine .inl ⟨rfl,?_⟩
   first | exact B3.out | (rw [hm];exact B3.out)
theorem one6 (t:ByteArray) (sign:Int) (base:Nat) (l0:List Sh) (x:Sh) (g cap:Nat) (w:World) (ht:t.size≤10) (hs:I64 sign) (hk:pickI sign 9=6) (hb:base≤w.heap.size) (hg:g<w.heap.size) (hcap:l0.length+1≤cap) (hcap2:cap≤maxLen) (hl:l0.length≤100) (hx:ShOk t x)
  (hr:w.rangeAt g (l0.length*123) x.L) (hc:∀ j u,(l0.flatMap Sh.L)[j]?=some u→w.cell? ((⟨g,0,none⟩:Addr).add j)=some u) :
  Calls Try.prog 23 #[.slice (some ⟨g,0,none⟩) (l0.length+1) cap,.int .i64 sign,.string t] w fun e w'=>(e=.returned (.slice (some ⟨g,0,none⟩) (l0.length+1) cap)∧Below w.heap.size w w')∨∃ v' s,e=.returned v'∧ownSh w' base v' (l0++[s])∧ShOk t s∧Below base w w':=by
 have K0:Hid (∀ z:World,Calls Try.prog 9 #[.int .i64 sign,.int .i64 9] z fun e w'=>e=.returned (.int .i64 6)∧z=w'):=fun z=>by rw [← hk];exact kpick_any sign 9 z hs (by omega) (by omega)
 have KS:Hid (∀ z:World,Calls Try.prog 39 #[.agg x.A,.string ⟨#[42,63]⟩,.int .i64 (t.size:Int)] z fun e w'=>(∃ s',e=.returned (.agg s'.A)∧NewOk t s')∧Below z.heap.size z w'):=fun z=>star_new t x true z ht hx
 have HR:Hid (w.rangeAt g (l0.length*123) x.L):=hr
 have HC:Hid (∀ j u,(l0.flatMap Sh.L)[j]?=some u→w.cell? ((⟨g,0,none⟩:Addr).add j)=some u):=hc
 have HI:Hid ((Try.prog.info? 57).map (·.size)=some x.L.length):=by show _=_;rw [Try.sizeSh,Sh.L_len]
 have HX:Hid (x.L.toArray=x.A):=Sh.arr x
 generalize hN:l0.length=N at *
 have i1:(N:Int)≤100:=by omega
 have i2:((N+1:Nat):Int)≤(cap:Int):=by omega
 clear hk hr hc hx
 go_enter Try.func23,Try.ntmps23
 go_wp2_with fail
 refine (K0.out _).mono ?_
 rintro e w' ⟨rfl,rfl⟩
 have e0:((N:Int)+1==0)=false:=by simp;omega
 go_upto_region 9 with fail
 go_cut [46] (fun vb wx=>vb=.bool false∧w=wx)
 case first =>
  by_cases hN0:N=0
  ·have e1:((N:Int)+1==1)=true:=by simp;omega
   go_wp2_with fail
   go_meet
   case rel=>exact ⟨rfl,rfl⟩
  ·have e1:((N:Int)+1==1)=false:=by simp;omega
   go_wp2_with fail
   go_meet
   case rel=>exact ⟨rfl,rfl⟩
 case rest =>
  obtain ⟨rfl,rfl⟩:=hcut
  go_upto_region 24 with fail
  obtain ⟨z,hz⟩:∃ z,z=w.alloc (.cells Try.zeroCells57 57):=⟨_,rfl⟩
  have F1:Hid (z.heap[w.heap.size]?=some (.cells Try.zeroCells57 57 (0,0))):=by show _=_;rw [hz];exact heap_b1 _ _
  have B1:Hid (Below w.heap.size w z):=by show Below _ _ _;rw [hz];exact (Below.refl _ _).alloc (Nat.le_refl _) _
  have sz:z.heap.size=w.heap.size+1:=by rw [hz];simp
  rw [← hz]
  clear hz
  have HR1:Hid (z.rangeAt g (N*123) x.L):=fun j u hu=>(B1.out.cell (p:=⟨g,N*123+j,none⟩) hg).trans (HR.out j u hu)
  generalize hm:w.heap.size=m at *
  clear HR
  go_wp2_with (refine wpList_load_mid (by rfl) _ (.tmp 104) (by rfl) g (N*123) (by rfl) x.L _ HR1.out Try.underlying57 rfl HI.out ?_;rw [HX.out])
  refine (KS.out _).mono ?_
  rintro e w2 ⟨⟨S,rfl,hS⟩,hb2⟩
  have HS:Hid (NewOk t S):=hS
  obtain ⟨_,hd0,hd1,hp1⟩:=hS
  have F2:Hid (w2.heap[m]?=some (.cells Try.zeroCells57 57 (0,0))):=(hb2.block m (by omega)).trans F1.out
  have B2:Hid (Below m w w2):=B1.out.trans (hb2.mono (by omega))
  clear hb2 F1 B1 KS
  go_upto_region 27 with (refine store_blk 57 123 Try.sizeSh (by rfl) (.tmp 9) (.tmp 108) (by rfl) m S.A (by rfl) (by rfl) F2.out zero_size (shA_size _ _ _) (shA_all _ _ _) ?_;intro w3 s1 s2 s3 s4)
  have S3:Hid (w3.heap[m]?=some (.cells S.A 57 (0,0))):=s1
  have B3:Hid (Below m w w3):=B2.out.trans (s4 _ (Nat.le_refl _))
  have hm3:m<w3.heap.size:=(Array.getElem?_eq_some_iff.1 s1).1
  have c0:w3.cell? ⟨m,0,none⟩=some (.string S.p):=((cell_block S3.out).1 _).trans (shA_p _ _ _)
  have c1:w3.cell? ⟨m,1,none⟩=some (.int .i64 S.d):=((cell_block S3.out).1 _).trans (shA_d _ _ _)
  clear s1 s2 s3 s4 F2 B2
  by_cases h48:S.p.size≤48
  ·have d1:decide ((48:Int)<(S.p.size:Int))=false:=by rw [decide_eq_false_iff_not];omega
   by_cases h10:S.d≤10
   ·have d2:decide ((10:Int)<S.d)=false:=by rw [decide_eq_false_iff_not];omega
    have HN:Hid (ShOk t S):=HS.out.1 h48 h10
    have HNEW:Hid (∀ j u,(l0.flatMap Sh.L)[j]?=some u→w3.cell? ((⟨g,0,none⟩:Addr).add j)=some u):=fun j u hu=>(B3.out.cell (by rw [addr_block];exact hg)).trans (HC.out j u hu)
    clear HS
    go_upto_region 31 with (at_builtin;refine wpList_push (by rfl) (.tmp 129) (.tmp 132) (by rfl) base (.slice none 0 0) [] (by rfl) (World.ownsRow_nil _ _ _ _) ⟨g,0,none⟩ N cap l0 (by rfl) hN HNEW.out (by simp;omega) (by omega) ?_;intro v4 w4 hown4 hgrow4)
    have O4:Hid (ownSh w4 base v4 l0):=(by simpa using hown4:ownSh w4 base v4 l0)
    have F4:Hid (w4.heap[m]?=some (.cells S.A 57 (0,0))):=(hgrow4.block m hm3 (by simp [Value.ownBlock])).trans S3.out
    have B4:Hid (Below base w w4):=(B3.out.mono hb).grown hgrow4 (by omega) (fun k hk=>by simp [Value.ownBlock] at hk)
    have hw4:base≤w4.heap.size:=Nat.le_trans (by omega) hgrow4.size
    have HOB:Hid (∀ k,v4.ownBlock=some k→base≤k):=fun k hk=>(World.ownsRow.lt O4.out k hk).1
    have HAA:Hid (Value.agg S.A=Value.agg S.A):=rfl
    clear hown4 hgrow4 S3 B3 c0 c1
    go_wp2_with (first | (refine load_blk 57 123 Try.underlying57 rfl Try.sizeSh (by rfl) (.tmp 9) (by rfl) m (by rfl) F4.out (shA_size _ _ _) ?_) | (refine wpList_build_sh (by rfl) (.tmp 135) (by rfl) S (by rfl) ?_) | (at_builtin;refine wpList_push (by rfl) (.tmp 134) (.tmp 136) (by rfl) base v4 l0 (by rfl) (ownSh.alloc O4.out _) ⟨w4.heap.size,0,none⟩ 1 1 [S] (by rfl) rfl (news_one _ _) (by omega) (by simp;omega) ?_;intro v5 w5 hown5 hgrow5))
    have O5:Hid (ownSh w5 base v5 (l0++[S])):=hown5
    have B5:Hid (Below base w w5):=(B4.out.alloc hw4 _).grown hgrow5 (by simp;omega) HOB.out
    clear hown5 hgrow5
    go_wp2_with fail
    go_ret
    first | exact .inr ⟨_,S,rfl,O5.out,HN.out,B5.out⟩ | exact .inr ⟨_,rfl,S,O5.out,HN.out,B5.out⟩ | exact .inr ⟨_,rfl,⟨S,O5.out,HN.out⟩,B5.out⟩
   ·have d2:decide ((10:Int)<S.d)=true:=by rw [decide_eq_true_eq];omega
    go_wp2_with fail
    go_ret
    refine .inl ⟨rfl,?_⟩
    first | exact B3.out | (rw [hm];exact B3.out)
  ·have d1:decide ((48:Int)<(S.p.size:Int))=true:=by rw [decide_eq_true_eq];omega
   go_wp2_with fail
   go_ret
   refine .inl ⟨rfl,?_⟩
   first | exact B3.out | (rw [hm];exact B3.out)
theorem one7 (t:ByteArray) (sign:Int) (base:Nat) (l0:List Sh) (x:Sh) (g cap:Nat) (w:World) (ht:t.size≤10) (hs:I64 sign) (hk:pickI sign 9=7) (hb:base≤w.heap.size) (hg:g<w.heap.size) (hcap:l0.length+1≤cap) (hcap2:cap≤maxLen) (hl:l0.length≤100) (hx:ShOk t x)
  (hr:w.rangeAt g (l0.length*123) x.L) (hc:∀ j u,(l0.flatMap Sh.L)[j]?=some u→w.cell? ((⟨g,0,none⟩:Addr).add j)=some u) :
  Calls Try.prog 23 #[.slice (some ⟨g,0,none⟩) (l0.length+1) cap,.int .i64 sign,.string t] w fun e w'=>(e=.returned (.slice (some ⟨g,0,none⟩) (l0.length+1) cap)∧Below w.heap.size w w')∨∃ v' s,e=.returned v'∧ownSh w' base v' (l0++[s])∧ShOk t s∧Below base w w':=by
 have K0:Hid (∀ z:World,Calls Try.prog 9 #[.int .i64 sign,.int .i64 9] z fun e w'=>e=.returned (.int .i64 7)∧z=w'):=fun z=>by rw [← hk];exact kpick_any sign 9 z hs (by omega) (by omega)
 have KS:Hid (∀ z:World,Calls Try.prog 40 #[.agg x.A,.string ⟨#[63]⟩,.int .i64 (t.size:Int)] z fun e w'=>(∃ s',e=.returned (.agg s'.A)∧NewOk t s')∧Below z.heap.size z w'):=fun z=>maybe_new t x false z ht hx
 have HR:Hid (w.rangeAt g (l0.length*123) x.L):=hr
 have HC:Hid (∀ j u,(l0.flatMap Sh.L)[j]?=some u→w.cell? ((⟨g,0,none⟩:Addr).add j)=some u):=hc
 have HI:Hid ((Try.prog.info? 57).map (·.size)=some x.L.length):=by show _=_;rw [Try.sizeSh,Sh.L_len]
 have HX:Hid (x.L.toArray=x.A):=Sh.arr x
 generalize hN:l0.length=N at *
 have i1:(N:Int)≤100:=by omega
 have i2:((N+1:Nat):Int)≤(cap:Int):=by omega
 clear hk hr hc hx
 go_enter Try.func23,Try.ntmps23
 go_wp2_with fail
 refine (K0.out _).mono ?_
 rintro e w' ⟨rfl,rfl⟩
 have e0:((N:Int)+1==0)=false:=by simp;omega
 go_upto_region 9 with fail
 go_cut [46] (fun vb wx=>vb=.bool false∧w=wx)
 case first =>
  by_cases hN0:N=0
  ·have e1:((N:Int)+1==1)=true:=by simp;omega
   go_wp2_with fail
   go_meet
   case rel=>exact ⟨rfl,rfl⟩
  ·have e1:((N:Int)+1==1)=false:=by simp;omega
   go_wp2_with fail
   go_meet
   case rel=>exact ⟨rfl,rfl⟩
 case rest =>
  obtain ⟨rfl,rfl⟩:=hcut
  go_upto_region 26 with fail
  obtain ⟨z,hz⟩:∃ z,z=w.alloc (.cells Try.zeroCells57 57):=⟨_,rfl⟩
  have F1:Hid (z.heap[w.heap.size]?=some (.cells Try.zeroCells57 57 (0,0))):=by show _=_;rw [hz];exact heap_b1 _ _
  have B1:Hid (Below w.heap.size w z):=by show Below _ _ _;rw [hz];exact (Below.refl _ _).alloc (Nat.le_refl _) _
  have sz:z.heap.size=w.heap.size+1:=by rw [hz];simp
  rw [← hz]
  clear hz
  have HR1:Hid (z.rangeAt g (N*123) x.L):=fun j u hu=>(B1.out.cell (p:=⟨g,N*123+j,none⟩) hg).trans (HR.out j u hu)
  generalize hm:w.heap.size=m at *
  clear HR
  go_wp2_with (refine wpList_load_mid (by rfl) _ (.tmp 114) (by rfl) g (N*123) (by rfl) x.L _ HR1.out Try.underlying57 rfl HI.out ?_;rw [HX.out])
  refine (KS.out _).mono ?_
  rintro e w2 ⟨⟨S,rfl,hS⟩,hb2⟩
  have HS:Hid (NewOk t S):=hS
  obtain ⟨_,hd0,hd1,hp1⟩:=hS
  have F2:Hid (w2.heap[m]?=some (.cells Try.zeroCells57 57 (0,0))):=(hb2.block m (by omega)).trans F1.out
  have B2:Hid (Below m w w2):=B1.out.trans (hb2.mono (by omega))
  clear hb2 F1 B1 KS
  go_upto_region 27 with (refine store_blk 57 123 Try.sizeSh (by rfl) (.tmp 9) (.tmp 118) (by rfl) m S.A (by rfl) (by rfl) F2.out zero_size (shA_size _ _ _) (shA_all _ _ _) ?_;intro w3 s1 s2 s3 s4)
  have S3:Hid (w3.heap[m]?=some (.cells S.A 57 (0,0))):=s1
  have B3:Hid (Below m w w3):=B2.out.trans (s4 _ (Nat.le_refl _))
  have hm3:m<w3.heap.size:=(Array.getElem?_eq_some_iff.1 s1).1
  have c0:w3.cell? ⟨m,0,none⟩=some (.string S.p):=((cell_block S3.out).1 _).trans (shA_p _ _ _)
  have c1:w3.cell? ⟨m,1,none⟩=some (.int .i64 S.d):=((cell_block S3.out).1 _).trans (shA_d _ _ _)
  clear s1 s2 s3 s4 F2 B2
  by_cases h48:S.p.size≤48
  ·have d1:decide ((48:Int)<(S.p.size:Int))=false:=by rw [decide_eq_false_iff_not];omega
   by_cases h10:S.d≤10
   ·have d2:decide ((10:Int)<S.d)=false:=by rw [decide_eq_false_iff_not];omega
    have HN:Hid (ShOk t S):=HS.out.1 h48 h10
    have HNEW:Hid (∀ j u,(l0.flatMap Sh.L)[j]?=some u→w3.cell? ((⟨g,0,none⟩:Addr).add j)=some u):=fun j u hu=>(B3.out.cell (by rw [addr_block];exact hg)).trans (HC.out j u hu)
    clear HS
    go_upto_region 31 with (at_builtin;refine wpList_push (by rfl) (.tmp 129) (.tmp 132) (by rfl) base (.slice none 0 0) [] (by rfl) (World.ownsRow_nil _ _ _ _) ⟨g,0,none⟩ N cap l0 (by rfl) hN HNEW.out (by simp;omega) (by omega) ?_;intro v4 w4 hown4 hgrow4)
    have O4:Hid (ownSh w4 base v4 l0):=(by simpa using hown4:ownSh w4 base v4 l0)
    have F4:Hid (w4.heap[m]?=some (.cells S.A 57 (0,0))):=(hgrow4.block m hm3 (by simp [Value.ownBlock])).trans S3.out
    have B4:Hid (Below base w w4):=(B3.out.mono hb).grown hgrow4 (by omega) (fun k hk=>by simp [Value.ownBlock] at hk)
    have hw4:base≤w4.heap.size:=Nat.le_trans (by omega) hgrow4.size
    have HOB:Hid (∀ k,v4.ownBlock=some k→base≤k):=fun k hk=>(World.ownsRow.lt O4.out k hk).1
    have HAA:Hid (Value.agg S.A=Value.agg S.A):=rfl
    clear hown4 hgrow4 S3 B3 c0 c1
    go_wp2_with (first | (refine load_blk 57 123 Try.underlying57 rfl Try.sizeSh (by rfl) (.tmp 9) (by rfl) m (by rfl) F4.out (shA_size _ _ _) ?_) | (refine wpList_build_sh (by rfl) (.tmp 135) (by rfl) S (by rfl) ?_) | (at_builtin;refine wpList_push (by rfl) (.tmp 134) (.tmp 136) (by rfl) base v4 l0 (by rfl) (ownSh.alloc O4.out _) ⟨w4.heap.size,0,none⟩ 1 1 [S] (by rfl) rfl (news_one _ _) (by omega) (by simp;omega) ?_;intro v5 w5 hown5 hgrow5))
    have O5:Hid (ownSh w5 base v5 (l0++[S])):=hown5
    have B5:Hid (Below base w w5):=(B4.out.alloc hw4 _).grown hgrow5 (by simp;omega) HOB.out
    clear hown5 hgrow5
    go_wp2_with fail
    go_ret
    first | exact .inr ⟨_,S,rfl,O5.out,HN.out,B5.out⟩ | exact .inr ⟨_,rfl,S,O5.out,HN.out,B5.out⟩ | exact .inr ⟨_,rfl,⟨S,O5.out,HN.out⟩,B5.out⟩
   ·have d2:decide ((10:Int)<S.d)=true:=by rw [decide_eq_true_eq];omega
    go_wp2_with fail
    go_ret
    refine .inl ⟨rfl,?_⟩
    first | exact B3.out | (rw [hm];exact B3.out)
  ·have d1:decide ((48:Int)<(S.p.size:Int))=true:=by rw [decide_eq_true_eq];omega
   go_wp2_with fail
   go_ret
   refine .inl ⟨rfl,?_⟩
   first | exact B3.out | (rw [hm];exact B3.out)
theorem one8 (t:ByteArray) (sign:Int) (base:Nat) (l0:List Sh) (x:Sh) (g cap:Nat) (w:World) (ht:t.size≤10) (hs:I64 sign) (hk:pickI sign 9=8) (hb:base≤w.heap.size) (hg:g<w.heap.size) (hcap:l0.length+1≤cap) (hcap2:cap≤maxLen) (hl:l0.length≤100) (hx:ShOk t x)
  (hr:w.rangeAt g (l0.length*123) x.L) (hc:∀ j u,(l0.flatMap Sh.L)[j]?=some u→w.cell? ((⟨g,0,none⟩:Addr).add j)=some u) :
  Calls Try.prog 23 #[.slice (some ⟨g,0,none⟩) (l0.length+1) cap,.int .i64 sign,.string t] w fun e w'=>(e=.returned (.slice (some ⟨g,0,none⟩) (l0.length+1) cap)∧Below w.heap.size w w')∨∃ v' s,e=.returned v'∧ownSh w' base v' (l0++[s])∧ShOk t s∧Below base w w':=by
 have K0:Hid (∀ z:World,Calls Try.prog 9 #[.int .i64 sign,.int .i64 9] z fun e w'=>e=.returned (.int .i64 8)∧z=w'):=fun z=>by rw [← hk];exact kpick_any sign 9 z hs (by omega) (by omega)
 have KS:Hid (∀ z:World,Calls Try.prog 40 #[.agg x.A,.string ⟨#[63,63]⟩,.int .i64 (t.size:Int)] z fun e w'=>(∃ s',e=.returned (.agg s'.A)∧NewOk t s')∧Below z.heap.size z w'):=fun z=>maybe_new t x true z ht hx
 have HR:Hid (w.rangeAt g (l0.length*123) x.L):=hr
 have HC:Hid (∀ j u,(l0.flatMap Sh.L)[j]?=some u→w.cell? ((⟨g,0,none⟩:Addr).add j)=some u):=hc
 have HI:Hid ((Try.prog.info? 57).map (·.size)=some x.L.length):=by show _=_;rw [Try.sizeSh,Sh.L_len]
 have HX:Hid (x.L.toArray=x.A):=Sh.arr x
 generalize hN:l0.length=N at *
 have i1:(N:Int)≤100:=by omega
 have i2:((N+1:Nat):Int)≤(cap:Int):=by omega
 clear hk hr hc hx
 go_enter Try.func23,Try.ntmps23
 go_wp2_with fail
 refine (K0.out _).mono ?_
 rintro e w' ⟨rfl,rfl⟩
 have e0:((N:Int)+1==0)=false:=by simp;omega
 go_upto_region 9 with fail
 go_cut [46] (fun vb wx=>vb=.bool false∧w=wx)
 case first =>
  by_cases hN0:N=0
  ·have e1:((N:Int)+1==1)=true:=by simp;omega
   go_wp2_with fail
   go_meet
   case rel=>exact ⟨rfl,rfl⟩
  ·have e1:((N:Int)+1==1)=false:=by simp;omega
   go_wp2_with fail
   go_meet
   case rel=>exact ⟨rfl,rfl⟩
 case rest =>
  obtain ⟨rfl,rfl⟩:=hcut
  go_upto_region 14 with fail
  obtain ⟨z,hz⟩:∃ z,z=w.alloc (.cells Try.zeroCells57 57):=⟨_,rfl⟩
  have F1:Hid (z.heap[w.heap.size]?=some (.cells Try.zeroCells57 57 (0,0))):=by show _=_;rw [hz];exact heap_b1 _ _
  have B1:Hid (Below w.heap.size w z):=by show Below _ _ _;rw [hz];exact (Below.refl _ _).alloc (Nat.le_refl _) _
  have sz:z.heap.size=w.heap.size+1:=by rw [hz];simp
  rw [← hz]
  clear hz
  have HR1:Hid (z.rangeAt g (N*123) x.L):=fun j u hu=>(B1.out.cell (p:=⟨g,N*123+j,none⟩) hg).trans (HR.out j u hu)
  generalize hm:w.heap.size=m at *
  clear HR
  go_wp2_with (refine wpList_load_mid (by rfl) _ (.tmp 54) (by rfl) g (N*123) (by rfl) x.L _ HR1.out Try.underlying57 rfl HI.out ?_;rw [HX.out])
  refine (KS.out _).mono ?_
  rintro e w2 ⟨⟨S,rfl,hS⟩,hb2⟩
  have HS:Hid (NewOk t S):=hS
  obtain ⟨_,hd0,hd1,hp1⟩:=hS
  have F2:Hid (w2.heap[m]?=some (.cells Try.zeroCells57 57 (0,0))):=(hb2.block m (by omega)).trans F1.out
  have B2:Hid (Below m w w2):=B1.out.trans (hb2.mono (by omega))
  clear hb2 F1 B1 KS
  go_upto_region 27 with (refine store_blk 57 123 Try.sizeSh (by rfl) (.tmp 9) (.tmp 58) (by rfl) m S.A (by rfl) (by rfl) F2.out zero_size (shA_size _ _ _) (shA_all _ _ _) ?_;intro w3 s1 s2 s3 s4)
  have S3:Hid (w3.heap[m]?=some (.cells S.A 57 (0,0))):=s1
  have B3:Hid (Below m w w3):=B2.out.trans (s4 _ (Nat.le_refl _))
  have hm3:m<w3.heap.size:=(Array.getElem?_eq_some_iff.1 s1).1
  have c0:w3.cell? ⟨m,0,none⟩=some (.string S.p):=((cell_block S3.out).1 _).trans (shA_p _ _ _)
  have c1:w3.cell? ⟨m,1,none⟩=some (.int .i64 S.d):=((cell_block S3.out).1 _).trans (shA_d _ _ _)
  clear s1 s2 s3 s4 F2 B2
  by_cases h48:S.p.size≤48
  ·have d1:decide ((48:Int)<(S.p.size:Int))=false:=by rw [decide_eq_false_iff_not];omega
   by_cases h10:S.d≤10
   ·have d2:decide ((10:Int)<S.d)=false:=by rw [decide_eq_false_iff_not];omega
    have HN:Hid (ShOk t S):=HS.out.1 h48 h10
    have HNEW:Hid (∀ j u,(l0.flatMap Sh.L)[j]?=some u→w3.cell? ((⟨g,0,none⟩:Addr).add j)=some u):=fun j u hu=>(B3.out.cell (by rw [addr_block];exact hg)).trans (HC.out j u hu)
    clear HS
    go_upto_region 31 with (at_builtin;refine wpList_push (by rfl) (.tmp 129) (.tmp 132) (by rfl) base (.slice none 0 0) [] (by rfl) (World.ownsRow_nil _ _ _ _) ⟨g,0,none⟩ N cap l0 (by rfl) hN HNEW.out (by simp;omega) (by omega) ?_;intro v4 w4 hown4 hgrow4)
    have O4:Hid (ownSh w4 base v4 l0):=(by simpa using hown4:ownSh w4 base v4 l0)
    have F4:Hid (w4.heap[m]?=some (.cells S.A 57 (0,0))):=(hgrow4.block m hm3 (by simp [Value.ownBlock])).trans S3.out
    have B4:Hid (Below base w w4):=(B3.out.mono hb).grown hgrow4 (by omega) (fun k hk=>by simp [Value.ownBlock] at hk)
    have hw4:base≤w4.heap.size:=Nat.le_trans (by omega) hgrow4.size
    have HOB:Hid (∀ k,v4.ownBlock=some k→base≤k):=fun k hk=>(World.ownsRow.lt O4.out k hk).1
    have HAA:Hid (Value.agg S.A=Value.agg S.A):=rfl
    clear hown4 hgrow4 S3 B3 c0 c1
    go_wp2_with (first | (refine load_blk 57 123 Try.underlying57 rfl Try.sizeSh (by rfl) (.tmp 9) (by rfl) m (by rfl) F4.out (shA_size _ _ _) ?_) | (refine wpList_build_sh (by rfl) (.tmp 135) (by rfl) S (by rfl) ?_) | (at_builtin;refine wpList_push (by rfl) (.tmp 134) (.tmp 136) (by rfl) base v4 l0 (by rfl) (ownSh.alloc O4.out _) ⟨w4.heap.size,0,none⟩ 1 1 [S] (by rfl) rfl (news_one _ _) (by omega) (by simp;omega) ?_;intro v5 w5 hown5 hgrow5))
    have O5:Hid (ownSh w5 base v5 (l0++[S])):=hown5
    have B5:Hid (Below base w w5):=(B4.out.alloc hw4 _).grown hgrow5 (by simp;omega) HOB.out
    clear hown5 hgrow5
    go_wp2_with fail
    go_ret
    first | exact .inr ⟨_,S,rfl,O5.out,HN.out,B5.out⟩ | exact .inr ⟨_,rfl,S,O5.out,HN.out,B5.out⟩ | exact .inr ⟨_,rfl,⟨S,O5.out,HN.out⟩,B5.out⟩
   ·have d2:decide ((10:Int)<S.d)=true:=by rw [decide_eq_true_eq];omega
    go_wp2_with fail
    go_ret
    refine .inl ⟨rfl,?_⟩
    first | exact B3.out | (rw [hm];exact B3.out)
  ·have d1:decide ((48:Int)<(S.p.size:Int))=true:=by rw [decide_eq_true_eq];omega
   go_wp2_with fail
   go_ret
   refine .inl ⟨rfl,?_⟩
   first | exact B3.out | (rw [hm];exact B3.out)
end Go.Proofs.Ytebpgfodelggoab
