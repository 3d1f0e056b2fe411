import Derived.Test.YtebpgfodelggoabC27
set_option linter.unusedVariables false
set_option linter.unusedSimpArgs false
set_option maxRecDepth 100000
set_option maxHeartbeats 4000000
namespace Go.Proofs.Ytebpgfodelggoab
open Go.RowKit
theorem ok_snoc {t:ByteArray} {l:List Sh} {s:Sh} (h:StackOk t l) (hs:ShOk t s):StackOk t (l++[s]):=fun x hx=>by
 rw [List.mem_append] at hx
 rcases hx with hx | hx
 ·exact h x hx
 ·simp only [List.mem_cons,List.not_mem_nil,or_false] at hx
  subst hx;exact hs
theorem push0_nil (t:ByteArray) (sign:Int) (base:Nat) (l:List Sh) (hl0:l=[]) (w:World) (ht:t.size≤10) (hs:I64 sign) (hk:pickI sign 9=0) (hb:base≤w.heap.size) (ho:ownSh w base (.slice none 0 0) l) (hl:l.length≤100) (hok:StackOk t l) :
  Calls Try.prog 23 #[.slice none 0 0,.int .i64 sign,.string t] w fun e w'=>∃ v' s,e=.returned v'∧ownSh w' base v' (l++[s])∧ShOk t s∧Below base w w':=by
 have K0:Hid (∀ z:World,Calls Try.prog 9 #[.int .i64 sign,.int .i64 9] z fun e w'=>e=.returned (.int .i64 0)∧z=w'):=fun z=>by rw [← hk];exact kpick_any sign 9 z hs (by omega) (by omega)
 have KS:Hid (∀ z:World,Calls Try.prog 36 #[.string t,.string ⟨#[97]⟩,.int .u8 97,.bool false] z fun e w'=>(∃ T,e=.returned (.agg (shA ⟨#[97]⟩ 0 T))∧ShOk t ⟨⟨#[97]⟩,0,T⟩)∧Below z.heap.size z w'):=fun z=>by
  refine (single_any t ⟨#[97]⟩ 97 false z ht).mono ?_
  rintro e w' ⟨⟨T,rfl,hT⟩,hb⟩
  exact ⟨⟨T,rfl,.byte 97,rfl,rfl,Mt.tbl_byte ht (fun i j hi hj=>by rw [hT i j hi hj];simp),by first | exact Or.inl rfl | exact Or.inr rfl,by decide,by decide⟩,hb⟩
 have HO:Hid (w.ownsRow base 57 123 (.slice none 0 0) l.length (l.flatMap Sh.L)):=ho
 have HOB:Hid (∀ k,(Value.ownBlock (.slice none 0 0))=some k→base≤k∧k<w.heap.size):=fun k hk=>World.ownsRow.lt ho k hk
 have hlen:(l.length:Int)≤100:=by omega
 clear ho hok hk
 go_enter Try.func23,Try.ntmps23
 go_wp2_with fail
 refine (K0.out _).mono ?_
 rintro e w' ⟨rfl,rfl⟩
 go_wp2_with fail
 refine (KS.out _).mono ?_
 rintro e w1 ⟨⟨T,rfl,hT⟩,hb1⟩
 have HT:Hid (ShOk t ⟨⟨#[97]⟩,0,T⟩):=hT
 have O1:Hid (ownSh w1 base (.slice none 0 0) l):=owns_below HO.out hb1
 have B1:Hid (Below base w w1):=hb1.mono hb
 have hw1:base≤w1.heap.size:=Nat.le_trans hb hb1.size
 clear hT hb1
 generalize hsh:(⟨⟨#[97]⟩,0,T⟩:Sh)=S at *
 have HA:Hid (shA ⟨#[97]⟩ 0 T=S.A):=by show _=_;rw [← hsh];rfl
 have HSL:Hid (S.L.length=1*123):=by show _=_;rw [Sh.L_len]
 clear hsh
 go_wp2_with (first | (refine wpList_build_sh (by rfl) (.tmp 20) (by rfl) S (by exact congrArg Value.agg HA.out) ?_) | (at_builtin;refine wpList_push (by rfl) (.tmp 18) (.tmp 21) (by rfl) base (.slice none 0 0) l (by rfl) (ownSh.alloc O1.out _) ⟨w1.heap.size,0,none⟩ 1 1 [S] (by rfl) rfl (news_one _ _) (by omega) (by simp;omega) ?_;intro v2 w2 hown2 hgrow))
 have O2:Hid (ownSh w2 base v2 (l++[S])):=hown2
 have B2:Hid (Below base w w2):=(B1.out.alloc (by omega) _).grown hgrow (by simp;omega) (fun k hk=>(HOB.out k hk).1)
 clear hown2 hgrow
 go_wp2_with fail
 go_ret
 exact ⟨_,S,rfl,O2.out,HT.out,B2.out⟩
theorem push0_some (t:ByteArray) (sign:Int) (base:Nat) (l:List Sh) (g cap:Nat) (w:World) (ht:t.size≤10) (hs:I64 sign) (hk:pickI sign 9=0) (hb:base≤w.heap.size) (ho:ownSh w base (.slice (some ⟨g,0,none⟩) l.length cap) l) (hl:l.length≤100) (hok:StackOk t l) :
  Calls Try.prog 23 #[.slice (some ⟨g,0,none⟩) l.length cap,.int .i64 sign,.string t] w fun e w'=>∃ v' s,e=.returned v'∧ownSh w' base v' (l++[s])∧ShOk t s∧Below base w w':=by
 have K0:Hid (∀ z:World,Calls Try.prog 9 #[.int .i64 sign,.int .i64 9] z fun e w'=>e=.returned (.int .i64 0)∧z=w'):=fun z=>by rw [← hk];exact kpick_any sign 9 z hs (by omega) (by omega)
 have KS:Hid (∀ z:World,Calls Try.prog 36 #[.string t,.string ⟨#[97]⟩,.int .u8 97,.bool false] z fun e w'=>(∃ T,e=.returned (.agg (shA ⟨#[97]⟩ 0 T))∧ShOk t ⟨⟨#[97]⟩,0,T⟩)∧Below z.heap.size z w'):=fun z=>by
  refine (single_any t ⟨#[97]⟩ 97 false z ht).mono ?_
  rintro e w' ⟨⟨T,rfl,hT⟩,hb⟩
  exact ⟨⟨T,rfl,.byte 97,rfl,rfl,Mt.tbl_byte ht (fun i j hi hj=>by rw [hT i j hi hj];simp),by first | exact Or.inl rfl | exact Or.inr rfl,by decide,by decide⟩,hb⟩
 have HO:Hid (w.ownsRow base 57 123 (.slice (some ⟨g,0,none⟩) l.length cap) l.length (l.flatMap Sh.L)):=ho
 have HOB:Hid (∀ k,(Value.ownBlock (.slice (some ⟨g,0,none⟩) l.length cap))=some k→base≤k∧k<w.heap.size):=fun k hk=>World.ownsRow.lt ho k hk
 have hlen:(l.length:Int)≤100:=by omega
 clear ho hok hk
 go_enter Try.func23,Try.ntmps23
 go_wp2_with fail
 refine (K0.out _).mono ?_
 rintro e w' ⟨rfl,rfl⟩
 go_wp2_with fail
 refine (KS.out _).mono ?_
 rintro e w1 ⟨⟨T,rfl,hT⟩,hb1⟩
 have HT:Hid (ShOk t ⟨⟨#[97]⟩,0,T⟩):=hT
 have O1:Hid (ownSh w1 base (.slice (some ⟨g,0,none⟩) l.length cap) l):=owns_below HO.out hb1
 have B1:Hid (Below base w w1):=hb1.mono hb
 have hw1:base≤w1.heap.size:=Nat.le_trans hb hb1.size
 clear hT hb1
 generalize hsh:(⟨⟨#[97]⟩,0,T⟩:Sh)=S at *
 have HA:Hid (shA ⟨#[97]⟩ 0 T=S.A):=by show _=_;rw [← hsh];rfl
 have HSL:Hid (S.L.length=1*123):=by show _=_;rw [Sh.L_len]
 clear hsh
 go_wp2_with (first | (refine wpList_build_sh (by rfl) (.tmp 20) (by rfl) S (by exact congrArg Value.agg HA.out) ?_) | (at_builtin;refine wpList_push (by rfl) (.tmp 18) (.tmp 21) (by rfl) base (.slice (some ⟨g,0,none⟩) l.length cap) l (by rfl) (ownSh.alloc O1.out _) ⟨w1.heap.size,0,none⟩ 1 1 [S] (by rfl) rfl (news_one _ _) (by omega) (by simp;omega) ?_;intro v2 w2 hown2 hgrow))
 have O2:Hid (ownSh w2 base v2 (l++[S])):=hown2
 have B2:Hid (Below base w w2):=(B1.out.alloc (by omega) _).grown hgrow (by simp;omega) (fun k hk=>(HOB.out k hk).1)
 clear hown2 hgrow
 go_wp2_with fail
 go_ret
 exact ⟨_,S,rfl,O2.out,HT.out,B2.out⟩
theorem push1_nil (t:ByteArray) (sign:Int) (base:Nat) (l:List Sh) (hl0:l=[]) (w:World) (ht:t.size≤10) (hs:I64 sign) (hk:pickI sign 9=1) (hb:base≤w.heap.size) (ho:ownSh w base (.slice none 0 0) l) (hl:l.length≤100) (hok:StackOk t l) :
  Calls Try.prog 23 #[.slice none 0 0,.int .i64 sign,.string t] w fun e w'=>∃ v' s,e=.returned v'∧ownSh w' base v' (l++[s])∧ShOk t s∧Below base w w':=by
 have K0:Hid (∀ z:World,Calls Try.prog 9 #[.int .i64 sign,.int .i64 9] z fun e w'=>e=.returned (.int .i64 1)∧z=w'):=fun z=>by rw [← hk];exact kpick_any sign 9 z hs (by omega) (by omega)
 have KS:Hid (∀ z:World,Calls Try.prog 36 #[.string t,.string ⟨#[98]⟩,.int .u8 98,.bool false] z fun e w'=>(∃ T,e=.returned (.agg (shA ⟨#[98]⟩ 0 T))∧ShOk t ⟨⟨#[98]⟩,0,T⟩)∧Below z.heap.size z w'):=fun z=>by
  refine (single_any t ⟨#[98]⟩ 98 false z ht).mono ?_
  rintro e w' ⟨⟨T,rfl,hT⟩,hb⟩
  exact ⟨⟨T,rfl,.byte 98,rfl,rfl,Mt.tbl_byte ht (fun i j hi hj=>by rw [hT i j hi hj];simp),by first | exact Or.inl rfl | exact Or.inr rfl,by decide,by decide⟩,hb⟩
 have HO:Hid (w.ownsRow base 57 123 (.slice none 0 0) l.length (l.flatMap Sh.L)):=ho
 have HOB:Hid (∀ k,(Value.ownBlock (.slice none 0 0))=some k→base≤k∧k<w.heap.size):=fun k hk=>World.ownsRow.lt ho k hk
 have hlen:(l.length:Int)≤100:=by omega
 clear ho hok hk
 go_enter Try.func23,Try.ntmps23
 go_wp2_with fail
 refine (K0.out _).mono ?_
 rintro e w' ⟨rfl,rfl⟩
 go_wp2_with fail
 refine (KS.out _).mono ?_
 rintro e w1 ⟨⟨T,rfl,hT⟩,hb1⟩
 have HT:Hid (ShOk t ⟨⟨#[98]⟩,0,T⟩):=hT
 have O1:Hid (ownSh w1 base (.slice none 0 0) l):=owns_below HO.out hb1
 have B1:Hid (Below base w w1):=hb1.mono hb
 have hw1:base≤w1.heap.size:=Nat.le_trans hb hb1.size
 clear hT hb1
 generalize hsh:(⟨⟨#[98]⟩,0,T⟩:Sh)=S at *
 have HA:Hid (shA ⟨#[98]⟩ 0 T=S.A):=by show _=_;rw [← hsh];rfl
 have HSL:Hid (S.L.length=1*123):=by show _=_;rw [Sh.L_len]
 clear hsh
 go_wp2_with (first | (refine wpList_build_sh (by rfl) (.tmp 27) (by rfl) S (by exact congrArg Value.agg HA.out) ?_) | (at_builtin;refine wpList_push (by rfl) (.tmp 25) (.tmp 28) (by rfl) base (.slice none 0 0) l (by rfl) (ownSh.alloc O1.out _) ⟨w1.heap.size,0,none⟩ 1 1 [S] (by rfl) rfl (news_one _ _) (by omega) (by simp;omega) ?_;intro v2 w2 hown2 hgrow))
 have O2:Hid (ownSh w2 base v2 (l++[S])):=hown2
 have B2:Hid (Below base w w2):=(B1.out.alloc (by omega) _).grown hgrow (by simp;omega) (fun k hk=>(HOB.out k hk).1)
 clear hown2 hgrow
 go_wp2_with fail
 go_ret
 exact ⟨_,S,rfl,O2.out,HT.out,B2.out⟩
theorem push1_some (t:ByteArray) (sign:Int) (base:Nat) (l:List Sh) (g cap:Nat) (w:World) (ht:t.size≤10) (hs:I64 sign) (hk:pickI sign 9=1) (hb:base≤w.heap.size) (ho:ownSh w base (.slice (some ⟨g,0,none⟩) l.length cap) l) (hl:l.length≤100) (hok:StackOk t l) :
  Calls Try.prog 23 #[.slice (some ⟨g,0,none⟩) l.length cap,.int .i64 sign,.string t] w fun e w'=>∃ v' s,e=.returned v'∧ownSh w' base v' (l++[s])∧ShOk t s∧Below base w w':=by
 have K0:Hid (∀ z:World,Calls Try.prog 9 #[.int .i64 sign,.int .i64 9] z fun e w'=>e=.returned (.int .i64 1)∧z=w'):=fun z=>by rw [← hk];exact kpick_any sign 9 z hs (by omega) (by omega)
 have KS:Hid (∀ z:World,Calls Try.prog 36 #[.string t,.string ⟨#[98]⟩,.int .u8 98,.bool false] z fun e w'=>(∃ T,e=.returned (.agg (shA ⟨#[98]⟩ 0 T))∧ShOk t ⟨⟨#[98]⟩,0,T⟩)∧Below z.heap.size z w'):=fun z=>by
  refine (single_any t ⟨#[98]⟩ 98 false z ht).mono ?_
  rintro e w' ⟨⟨T,rfl,hT⟩,hb⟩
  exact ⟨⟨T,rfl,.byte 98,rfl,rfl,Mt.tbl_byte ht (fun i j hi hj=>by rw [hT i j hi hj];simp),by first | exact Or.inl rfl | exact Or.inr rfl,by decide,by decide⟩,hb⟩
 have HO:Hid (w.ownsRow base 57 123 (.slice (some ⟨g,0,none⟩) l.length cap) l.length (l.flatMap Sh.L)):=ho
 have HOB:Hid (∀ k,(Value.ownBlock (.slice (some ⟨g,0,none⟩) l.length cap))=some k→base≤k∧k<w.heap.size):=fun k hk=>World.ownsRow.lt ho k hk
 have hlen:(l.length:Int)≤100:=by omega
 clear ho hok hk
 go_enter Try.func23,Try.ntmps23
 go_wp2_with fail
 refine (K0.out _).mono ?_
 rintro e w' ⟨rfl,rfl⟩
 go_wp2_with fail
 refine (KS.out _).mono ?_
 rintro e w1 ⟨⟨T,rfl,hT⟩,hb1⟩
 have HT:Hid (ShOk t ⟨⟨#[98]⟩,0,T⟩):=hT
 have O1:Hid (ownSh w1 base (.slice (some ⟨g,0,none⟩) l.length cap) l):=owns_below HO.out hb1
 have B1:Hid (Below base w w1):=hb1.mono hb
 have hw1:base≤w1.heap.size:=Nat.le_trans hb hb1.size
 clear hT hb1
 generalize hsh:(⟨⟨#[98]⟩,0,T⟩:Sh)=S at *
 have HA:Hid (shA ⟨#[98]⟩ 0 T=S.A):=by show _=_;rw [← hsh];rfl
 have HSL:Hid (S.L.length=1*123):=by show _=_;rw [Sh.L_len]
 clear hsh
 go_wp2_with (first | (refine wpList_build_sh (by rfl) (.tmp 27) (by rfl) S (by exact congrArg Value.agg HA.out) ?_) | (at_builtin;refine wpList_push (by rfl) (.tmp 25) (.tmp 28) (by rfl) base (.slice (some ⟨g,0,none⟩) l.length cap) l (by rfl) (ownSh.alloc O1.out _) ⟨w1.heap.size,0,none⟩ 1 1 [S] (by rfl) rfl (news_one _ _) (by omega) (by simp;omega) ?_;intro v2 w2 hown2 hgrow))
 have O2:Hid (ownSh w2 base v2 (l++[S])):=hown2
 have B2:Hid (Below base w w2):=(B1.out.alloc (by omega) _).grown hgrow (by simp;omega) (fun k hk=>(HOB.out k hk).1)
 clear hown2 hgrow
 go_wp2_with fail
 go_ret
 exact ⟨_,S,rfl,O2.out,HT.out,B2.out⟩
theorem push2_nil (t:ByteArray) (sign:Int) (base:Nat) (l:List Sh) (hl0:l=[]) (w:World) (ht:t.size≤10) (hs:I64 sign) (hk:pickI sign 9=2) (hb:base≤w.heap.size) (ho:ownSh w base (.slice none 0 0) l) (hl:l.length≤100) (hok:StackOk t l) :
  Calls Try.prog 23 #[.slice none 0 0,.int .i64 sign,.string t] w fun e w'=>∃ v' s,e=.returned v'∧ownSh w' base v' (l++[s])∧ShOk t s∧Below base w w':=by
 have K0:Hid (∀ z:World,Calls Try.prog 9 #[.int .i64 sign,.int .i64 9] z fun e w'=>e=.returned (.int .i64 2)∧z=w'):=fun z=>by rw [← hk];exact kpick_any sign 9 z hs (by omega) (by omega)
 have KS:Hid (∀ z:World,Calls Try.prog 36 #[.string t,.string ⟨#[46]⟩,.int .u8 0,.bool true] z fun e w'=>(∃ T,e=.returned (.agg (shA ⟨#[46]⟩ 0 T))∧ShOk t ⟨⟨#[46]⟩,0,T⟩)∧Below z.heap.size z w'):=fun z=>by
  refine (single_any t ⟨#[46]⟩ 0 true z ht).mono ?_
  rintro e w' ⟨⟨T,rfl,hT⟩,hb⟩
  exact ⟨⟨T,rfl,.dot,rfl,rfl,Mt.tbl_dot ht (fun i j hi hj=>by rw [hT i j hi hj];simp),trivial,by decide,by decide⟩,hb⟩
 have HO:Hid (w.ownsRow base 57 123 (.slice none 0 0) l.length (l.flatMap Sh.L)):=ho
 have HOB:Hid (∀ k,(Value.ownBlock (.slice none 0 0))=some k→base≤k∧k<w.heap.size):=fun k hk=>World.ownsRow.lt ho k hk
 have hlen:(l.length:Int)≤100:=by omega
 clear ho hok hk
 go_enter Try.func23,Try.ntmps23
 go_wp2_with fail
 refine (K0.out _).mono ?_
 rintro e w' ⟨rfl,rfl⟩
 go_wp2_with fail
 refine (KS.out _).mono ?_
 rintro e w1 ⟨⟨T,rfl,hT⟩,hb1⟩
 have HT:Hid (ShOk t ⟨⟨#[46]⟩,0,T⟩):=hT
 have O1:Hid (ownSh w1 base (.slice none 0 0) l):=owns_below HO.out hb1
 have B1:Hid (Below base w w1):=hb1.mono hb
 have hw1:base≤w1.heap.size:=Nat.le_trans hb hb1.size
 clear hT hb1
 generalize hsh:(⟨⟨#[46]⟩,0,T⟩:Sh)=S at *
 have HA:Hid (shA ⟨#[46]⟩ 0 T=S.A):=by show _=_;rw [← hsh];rfl
 have HSL:Hid (S.L.length=1*123):=by show _=_;rw [Sh.L_len]
 clear hsh
 go_wp2_with (first | (refine wpList_build_sh (by rfl) (.tmp 34) (by rfl) S (by exact congrArg Value.agg HA.out) ?_) | (at_builtin;refine wpList_push (by rfl) (.tmp 32) (.tmp 35) (by rfl) base (.slice none 0 0) l (by rfl) (ownSh.alloc O1.out _) ⟨w1.heap.size,0,none⟩ 1 1 [S] (by rfl) rfl (news_one _ _) (by omega) (by simp;omega) ?_;intro v2 w2 hown2 hgrow))
 have O2:Hid (ownSh w2 base v2 (l++[S])):=hown2
 have B2:Hid (Below base w w2):=(B1.out.alloc (by omega) _).grown hgrow (by simp;omega) (fun k hk=>(HOB.out k hk).1)
 clear hown2 hgrow
 go_wp2_with fail
 go_ret
 exact ⟨_,S,rfl,O2.out,HT.out,B2.out⟩
theorem push2_some (t:ByteArray) (sign:Int) (base:Nat) (l:List Sh) (g cap:Nat) (w:World) (ht:t.size≤10) (hs:I64 sign) (hk:pickI sign 9=2) (hb:base≤w.heap.size) (ho:ownSh w base (.slice (some ⟨g,0,none⟩) l.length cap) l) (hl:l.length≤100) (hok:StackOk t l) :
  Calls Try.prog 23 #[.slice (some ⟨g,0,none⟩) l.length cap,.int .i64 sign,.string t] w fun e w'=>∃ v' s,e=.returned v'∧ownSh w' base v' (l++[s])∧ShOk t s∧Below base w w':=by
 have K0:Hid (∀ z:World,Calls Try.prog 9 #[.int .i64 sign,.int .i64 9] z fun e w'=>e=.returned (.int .i64 2)∧z=w'):=fun z=>by rw [← hk];exact kpick_any sign 9 z hs (by omega) (by omega)
 have KS:Hid (∀ z:World,Calls Try.prog 36 #[.string t,.string ⟨#[46]⟩,.int .u8 0,.bool true] z fun e w'=>(∃ T,e=.returned (.agg (shA ⟨#[46]⟩ 0 T))∧ShOk t ⟨⟨#[46]⟩,0,T⟩)∧Below z.heap.size z w'):=fun z=>by
  refine (single_any t ⟨#[46]⟩ 0 true z ht).mono ?_
  rintro e w' ⟨⟨T,rfl,hT⟩,hb⟩
  exact ⟨⟨T,rfl,.dot,rfl,rfl,Mt.tbl_dot ht (fun i j hi hj=>by rw [hT i j hi hj];simp),trivial,by decide,by decide⟩,hb⟩
 have HO:Hid (w.ownsRow base 57 123 (.slice (some ⟨g,0,none⟩) l.length cap) l.length (l.flatMap Sh.L)):=ho
 have HOB:Hid (∀ k,(Value.ownBlock (.slice (some ⟨g,0,none⟩) l.length cap))=some k→base≤k∧k<w.heap.size):=fun k hk=>World.ownsRow.lt ho k hk
 have hlen:(l.length:Int)≤100:=by omega
 clear ho hok hk
 go_enter Try.func23,Try.ntmps23
 go_wp2_with fail
 refine (K0.out _).mono ?_
 rintro e w' ⟨rfl,rfl⟩
 go_wp2_with fail
 refine (KS.out _).mono ?_
 rintro e w1 ⟨⟨T,rfl,hT⟩,hb1⟩
 have HT:Hid (ShOk t ⟨⟨#[46]⟩,0,T⟩):=hT
 have O1:Hid (ownSh w1 base (.slice (some ⟨g,0,none⟩) l.length cap) l):=owns_below HO.out hb1
 have B1:Hid (Below base w w1):=hb1.mono hb
 have hw1:base≤w1.heap.size:=Nat.le_trans hb hb1.size
 clear hT hb1
 generalize hsh:(⟨⟨#[46]⟩,0,T⟩:Sh)=S at *
 have HA:Hid (shA ⟨#[46]⟩ 0 T=S.A):=by show _=_;rw [← hsh];rfl
 have HSL:Hid (S.L.length=1*123):=by show _=_;rw [Sh.L_len]
 clear hsh
 go_wp2_with (first | (refine wpList_build_sh (by rfl) (.tmp 34) (by rfl) S (by exact congrArg Value.agg HA.out) ?_) | (at_builtin;refine wpList_push (by rfl) (.tmp 32) (.tmp 35) (by rfl) base (.slice (some ⟨g,0,none⟩) l.length cap) l (by rfl) (ownSh.alloc O1.out _) ⟨w1.heap.size,0,none⟩ 1 1 [S] (by rfl) rfl (news_one _ _) (by omega) (by simp;omega) ?_;intro v2 w2 hown2 hgrow))
 have O2:Hid (ownSh w2 base v2 (l++[S])):=hown2
 have B2:Hid (Below base w w2):=(B1.out.alloc (by omega) _).grown hgrow (by simp;omega) (fun k hk=>(HOB.out k hk).1)
 clear hown2 hgrow
 go_wp2_with fail
 go_ret
 exact ⟨_,S,rfl,O2.out,HT.out,B2.out⟩
def NewOk (t:ByteArray) (s:Sh):Prop:=(s.p.size≤48→s.d≤10→ShOk t s)∧0≤s.d∧s.d≤1000∧s.p.size≤1000
theorem bp_len (l:List UInt8):(Mt.bp l).size=l.length:=Mt.bp_size l
theorem late_cat (late:Bool) (c:UInt8) (x:List UInt8):(((⟨#[40,63,58]⟩:ByteArray)++Mt.bp x)++⟨#[41]⟩)++⟨(c::Mt.lateL late).toArray⟩=Mt.bp (40::63::58::(x++41::c::Mt.lateL late)):=by
 apply ByteArray.ext
 simp [Mt.bp,ByteArray.data_append]
theorem eith_cat (x y:List UInt8):((((⟨#[40,63,58]⟩:ByteArray)++Mt.bp x)++⟨#[124]⟩)++Mt.bp y)++⟨#[41]⟩=Mt.bp (40::63::58::(x++124::(y++[41]))):=by
 apply ByteArray.ext
 simp [Mt.bp,ByteArray.data_append]
theorem both_cat (x y:List UInt8):Mt.bp x++Mt.bp y=Mt.bp (x++y):=by
 apply ByteArray.ext
 simp [Mt.bp,ByteArray.data_append]
theorem mayT_tbl {t:ByteArray} {x:Mt.Shape} {T:Nat→Nat→Bool} (late:Bool) (h:Mt.Tbl t x T):Mt.Tbl t (.maybe late x) (mayT T (t.size+1)):=Mt.tbl_maybe h (fun i j hi hj=>by
 unfold mayT
 rw [Bool.or_eq_true,decide_eq_true_eq]
 constructor
 ·rintro (h | ⟨h1,h2⟩)
  ·exact .inl h
  ·exact .inr ⟨h1,by omega⟩
 ·rintro (h | ⟨h1,h2⟩)
  ·exact .inl h
  ·exact .inr ⟨h1,by omega⟩)
theorem lateL_len (late:Bool):(Mt.lateL late).length≤1:=by cases late <;> simp [Mt.lateL]
theorem late_size (late:Bool) (c:UInt8):(⟨(c::Mt.lateL late).toArray⟩:ByteArray).size≤10:=by
 show (Mt.bp _).size≤_
 rw [Mt.bp_size,List.length_cons]
 have:=lateL_len late
 omega
theorem maybe_new (t:ByteArray) (s:Sh) (late:Bool) (z:World) (ht:t.size≤10) (hs:ShOk t s):Calls Try.prog 40 #[.agg s.A,.string ⟨(63::Mt.lateL late).toArray⟩,.int .i64 (t.size:Int)] z fun e w'=>(∃ s',e=.returned (.agg s'.A)∧NewOk t s')∧Below z.heap.size z w':=by
 obtain ⟨x,hp,hd,hT,ho,h48,h10⟩:=hs
 refine (maybe_any s.p _ s.d s.T t.size z (by rw [hp,bp_len];omega) (late_size late 63) (by omega) ht).mono ?_
 rintro e w' ⟨rfl,hb⟩
 have ll:=lateL_len late
 refine ⟨⟨⟨_,s.d+1,_⟩,rfl,fun h1 h2=>⟨.maybe late x,?_,?_,mayT_tbl late hT,ho,?_,?_⟩,by dsimp only;omega,by dsimp only;omega,?_⟩,hb⟩
 ·show _=_
  rw [hp,late_cat];rfl
 ·dsimp only [Mt.Shape.deep];omega
 ·have h1':((((⟨#[40,63,58]⟩:ByteArray)++s.p)++⟨#[41]⟩)++⟨(63::Mt.lateL late).toArray⟩).size≤48:=h1
  rw [hp,late_cat,bp_len] at h1'
  exact h1'
 ·have h2':s.d+1≤10:=h2
  simp only [Mt.Shape.deep];omega
 ·show ((((⟨#[40,63,58]⟩:ByteArray)++s.p)++⟨#[41]⟩)++⟨(63::Mt.lateL late).toArray⟩).size≤1000
  rw [hp,late_cat,bp_len]
  simp;omega
theorem star_new (t:ByteArray) (s:Sh) (late:Bool) (z:World) (ht:t.size≤10) (hs:ShOk t s):Calls Try.prog 39 #[.agg s.A,.string ⟨(42::Mt.lateL late).toArray⟩,.int .i64 (t.size:Int)] z fun e w'=>(∃ s',e=.returned (.agg s'.A)∧NewOk t s')∧Below z.heap.size z w':=by
 obtain ⟨x,hp,hd,hT,ho,h48,h10⟩:=hs
 refine (star_any s.p _ s.d s.T t.size z (by rw [hp,bp_len];omega) (late_size late 42) (by omega) ht (fun u v hu hv g=>(hT.inn hu hv g).1)).mono ?_
 rintro e w' ⟨⟨C,rfl,hC⟩,hb⟩
 have ll:=lateL_len late
 refine ⟨⟨⟨_,s.d+1,C⟩,rfl,fun h1 h2=>⟨.star late x,?_,?_,Mt.tbl_star ht (mayT_tbl late hT) hC,ho,?_,?_⟩,by dsimp only;omega,by dsimp only;omega,?_⟩,hb⟩
 ·show _=_
  rw [hp,late_cat];rfl
 ·dsimp only [Mt.Shape.deep];omega
 ·have h1':((((⟨#[40,63,58]⟩:ByteArray)++s.p)++⟨#[41]⟩)++⟨(42::Mt.lateL late).toArray⟩).size≤48:=h1
  rw [hp,late_cat,bp_len] at h1'
  exact h1'
 ·have h2':s.d+1≤10:=h2
  simp only [Mt.Shape.deep];omega
 ·show ((((⟨#[40,63,58]⟩:ByteArray)++s.p)++⟨#[41]⟩)++⟨(42::Mt.lateL late).toArray⟩).size≤1000
  rw [hp,late_cat,bp_len]
  simp;omega
theorem both_new (t:ByteArray) (s r:Sh) (z:World) (ht:t.size≤10) (hs:ShOk t s) (hr:ShOk t r):Calls Try.prog 37 #[.agg s.A,.agg r.A] z fun e w'=>(∃ s',e=.returned (.agg s'.A)∧NewOk t s')∧Below z.heap.size z w':=by
 obtain ⟨x,hp,hd,hT,ho,h48,h10⟩:=hs
 obtain ⟨y,hp2,hd2,hT2,ho2,h482,h102⟩:=hr
 refine (both_any s.p r.p s.d r.d s.T r.T z (by rw [hp,bp_len];omega) (by rw [hp2,bp_len];omega)).mono ?_
 rintro e w' ⟨⟨C,rfl,hC⟩,hb⟩
 refine ⟨⟨⟨_,max s.d r.d,C⟩,rfl,fun h1 h2=>⟨.both x y,?_,?_,Mt.tbl_both ht hT hT2 hC,⟨ho,ho2⟩,?_,?_⟩,by dsimp only;omega,by dsimp only;omega,?_⟩,hb⟩
 ·show _=_
  rw [hp,hp2,both_cat];rfl
 ·dsimp only [Mt.Shape.deep];omega
 ·have h1':(s.p++r.p).size≤48:=h1
  rw [hp,hp2,both_cat,bp_len] at h1'
  exact h1'
 ·dsimp only [Mt.Shape.deep];omega
 ·show (s.p++r.p).size≤1000
  rw [hp,hp2,both_cat,bp_len]
  simp;omega
theorem either_new (t:ByteArray) (s r:Sh) (z:World) (ht:t.size≤10) (hs:ShOk t s) (hr:ShOk t r):Calls Try.prog 38 #[.agg s.A,.agg r.A] z fun e w'=>(∃ s',e=.returned (.agg s'.A)∧NewOk t s')∧Below z.heap.size z w':=by
 obtain ⟨x,hp,hd,hT,ho,h48,h10⟩:=hs
 obtain ⟨y,hp2,hd2,hT2,ho2,h482,h102⟩:=hr
 refine (either_any s.p r.p s.d r.d s.T r.T z (by rw [hp,bp_len];omega) (by rw [hp2,bp_len];omega) (by omega) (by omega)).mono ?_
 rintro e w' ⟨⟨C,rfl,hC⟩,hb⟩
 refine ⟨⟨⟨_,max s.d r.d+1,C⟩,rfl,fun h1 h2=>⟨.either x y,?_,?_,Mt.tbl_either hT hT2 hC,⟨ho,ho2⟩,?_,?_⟩,by dsimp only;omega,by dsimp only;omega,?_⟩,hb⟩
 ·show _=_
  rw [hp,hp2,eith_cat];rfl
 ·dsimp only [Mt.Shape.deep];omega
 ·have h1':(((((⟨#[40,63,58]⟩:ByteArray)++s.p)++⟨#[124]⟩)++r.p)++⟨#[41]⟩).size≤48:=h1
  rw [hp,hp2,eith_cat,bp_len] at h1'
  exact h1'
 ·have h2':max s.d r.d+1≤10:=h2
  simp only [Mt.Shape.deep];omega
 ·show (((((⟨#[40,63,58]⟩:ByteArray)++s.p)++⟨#[124]⟩)++r.p)++⟨#[41]⟩).size≤1000
  rw [hp,hp2,eith_cat,bp_len]
  simp;omega
end Go.Proofs.Ytebpgfodelggoab
