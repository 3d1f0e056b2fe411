import Derived.Test.YtebpgfodelggoaaDoorC33
set_option linter.unusedVariables false
set_option linter.unusedSimpArgs false
set_option maxRecDepth 100000
set_option maxHeartbeats 8000000
namespace Go.Proofs.YtebpgfodelggoaaDoor
open Go.RowKit
def Takes (L:Nat) (w:World) (g:Nat) (so ao oo:Option Addr) (E:Int) (b':Mt.PB) (e:Ending) (w':World):Prop :=
 e=.returned (.int .i64 E)∧(E=0→∃ so' ao' oo' sc' ac' oc',BAt L w' g b' so' ao' oo' sc' ac' oc'∧BStep g so ao oo so' ao' oo' w w')∧Below L w w'
theorem takeOpening_prog {L:Nat} {w:World} {g:Nat} {b:Mt.PB} {so ao oo:Option Addr} {sc ac oc:Nat} (t:Mt.PT) (h:BAt L w g b so ao oo sc ac oc) (hn:b.atoms.length≤900) (hns:b.seqs.length≤900) (hs:b.seq<b.seqs.length) (hla:b.last=-1∨∃ k:Nat,b.last=k∧k<b.atoms.length) :
  Calls Tryd.prog 71 #[.pointer (some ⟨g,0,none⟩),ptV t] w (Takes L w g so ao oo (if 10≤b.opn.length then 8 else if t.group=1∧9≤b.groups then 9 else 0) (b.opening t)):=by
 have hL:L≤w.heap.size:=by have:=h.lo;have:=(h.lt g (Or.inl rfl)).2;omega
 by_cases h1:10≤b.opn.length
 ·rw [if_pos h1]
  exact (takeOpening_bad t h 8 (Or.inl ⟨h1,rfl⟩)).mono (fun e w' hh=>⟨hh.1,fun e=>by omega,hh.2⟩)
 ·rw [if_neg h1]
  by_cases h2:t.group=1
  ·by_cases h3:9≤b.groups
   ·rw [if_pos ⟨h2,h3⟩]
    exact (takeOpening_bad t h 9 (Or.inr ⟨h1,h2,h3,rfl⟩)).mono (fun e w' hh=>⟨hh.1,fun e=>by omega,hh.2⟩)
   ·rw [if_neg (fun x=>h3 x.2)]
    exact (takeOpening_cap t h hn hns hs hla (by omega) h2 (by omega)).mono (fun e w' ⟨h4,so',ao',oo',sc',ac',oc',h5,h6⟩=>⟨h4,fun _=>⟨so',ao',oo',sc',ac',oc',h5,h6⟩,h6.low h hL⟩)
  ·rw [if_neg (fun x=>h2 x.1)]
   exact (takeOpening_plain t h hn hns hs hla (by omega) h2).mono (fun e w' ⟨h4,so',ao',oo',sc',ac',oc',h5,h6⟩=>⟨h4,fun _=>⟨so',ao',oo',sc',ac',oc',h5,h6⟩,h6.low h hL⟩)
structure BOk (b:Mt.PB):Prop where
 na:b.atoms.length≤900
 ns:b.seqs.length≤900
 no:b.opn.length≤900
 sq:b.seq<b.seqs.length
 la:b.last=-1∨∃ k:Nat,b.last=k∧k<b.atoms.length
 tp:0<b.opn.length→b.top<b.atoms.length∧∃ nu hm:Nat,(b.aAt b.top).num=nu∧nu≤9∧(b.aAt b.top).home=hm
theorem Takes.of {L:Nat} {w W w':World} {g:Nat} {b b':Mt.PB} {so ao oo so' ao' oo':Option Addr} {sc ac oc sc' ac' oc':Nat} {e:Ending} (h:BAt L w g b so ao oo sc ac oc) (hW:Below w.heap.size w W) (he:e=.returned (.int .i64 0)) (hb:BAt L w' g b' so' ao' oo' sc' ac' oc') (hs:BStep g so ao oo so' ao' oo' W w'):Takes L w g so ao oo 0 b' e w':=by
 have hL:L≤w.heap.size:=by have:=h.lo;have:=(h.lt g (Or.inl rfl)).2;omega
 have:=(BStep.below (g:=g) (so:=so) (ao:=ao) (oo:=oo) hW).trans hs
 exact ⟨he,fun _=>⟨so',ao',oo',sc',ac',oc',hb,this⟩,this.low h hL⟩
theorem Takes.up {L:Nat} {w W w':World} {g:Nat} {b b':Mt.PB} {so ao oo:Option Addr} {sc ac oc:Nat} {E:Int} {e:Ending} (h:BAt L w g b so ao oo sc ac oc) (hW:Below w.heap.size w W) (ht:Takes L W g so ao oo E b' e w'):Takes L w g so ao oo E b' e w':=by
 have hL:L≤w.heap.size:=by have:=h.lo;have:=(h.lt g (Or.inl rfl)).2;omega
 refine ⟨ht.1,fun h0=>?_,(hW.mono hL).trans ht.2.2⟩
 obtain ⟨so',ao',oo',sc',ac',oc',h1,h2⟩:=ht.2.1 h0
 exact ⟨so',ao',oo',sc',ac',oc',h1,(BStep.below hW).trans h2⟩
theorem take_bar {L:Nat} {w:World} {g:Nat} {b:Mt.PB} {so ao oo:Option Addr} {sc ac oc:Nat} (t:Mt.PT) (h:BAt L w g b so ao oo sc ac oc) (hO:BOk b) (hk:t.kind=1) :
  Calls Tryd.prog 54 #[.pointer (some ⟨g,0,none⟩),ptV t] w (Takes L w g so ao oo (b.err t) (b.next t)):=by
 have HB:Hid (BAt L w g b so ao oo sc ac oc):=h
 have W1:Below w.heap.size w (w.alloc (.cells (ptA t) 111)):=(Below.refl _ _).alloc (Nat.le_refl _) _
 have hw:=h.below W1
 have e1:b.err t=0:=by unfold Mt.PB.err;rw [if_pos hk]
 have e2:b.next t=b.bar:=by unfold Mt.PB.next;rw [if_pos hk]
 rw [e1,e2]
 clear e1 e2
 have HT:Hid (Calls Tryd.prog 70 _ (w.alloc (.cells (ptA t) 111)) _):=takeBar_prog hw (by have:=hO.ns;omega) hO.sq
 have HW1:Hid (Below w.heap.size w (w.alloc (.cells (ptA t) 111))):=W1
 clear h W1 hw hO
 unfold ptV
 unfold ptA at HT
 unfold ptA at HW1 ⊢
 rw [hk] at HT HW1 ⊢
 clear hk
 go_enter Tryd.func54,Tryd.ntmps54
 go_wp2_with fail
 refine HT.out.mono ?_
 rintro e w1 ⟨rfl,so1,sc1,hP,hSt⟩
 have R:Hid (BAt L w1 g b.bar so1 ao oo sc1 ac oc∧BStep g so ao oo so1 ao oo _ w1):=⟨hP,hSt⟩
 clear hP hSt
 go_wp2_with fail
 go_returns
 exact Takes.of HB.out HW1.out rfl R.out.1 R.out.2
theorem take_open {L:Nat} {w:World} {g:Nat} {b:Mt.PB} {so ao oo:Option Addr} {sc ac oc:Nat} (t:Mt.PT) (h:BAt L w g b so ao oo sc ac oc) (hO:BOk b) (hk:t.kind=2) :
  Calls Tryd.prog 54 #[.pointer (some ⟨g,0,none⟩),ptV t] w (Takes L w g so ao oo (b.err t) (b.next t)):=by
 have HB:Hid (BAt L w g b so ao oo sc ac oc):=h
 have W1:Below w.heap.size w (w.alloc (.cells (ptA t) 111)):=(Below.refl _ _).alloc (Nat.le_refl _) _
 have hw:=h.below W1
 have e1:b.err t=if 10≤b.opn.length then 8 else if t.group=1∧9≤b.groups then 9 else 0:=by unfold Mt.PB.err;rw [if_neg (by omega),if_pos hk]
 have e2:b.next t=b.opening t:=by unfold Mt.PB.next;rw [if_neg (by omega),if_pos hk]
 rw [e1,e2]
 clear e1 e2
 have HT0:=takeOpening_prog t hw hO.na hO.ns hO.sq hO.la
 generalize (if 10≤b.opn.length then (8:Int) else if t.group=1∧9≤b.groups then 9 else 0)=E at *
 have HT:Hid (Calls Tryd.prog 71 _ (w.alloc (.cells (ptA t) 111)) _):=HT0
 have HW1:Hid (Below w.heap.size w (w.alloc (.cells (ptA t) 111))):=W1
 clear HT0 h W1 hw hO
 unfold ptV
 unfold ptV ptA at HT
 unfold ptA at HW1 ⊢
 rw [hk] at HT HW1 ⊢
 clear hk
 go_enter Tryd.func54,Tryd.ntmps54
 go_wp2_with fail
 refine HT.out.mono ?_
 rintro e w1 hT
 obtain ⟨rfl,hR⟩:=(show e=.returned (.int .i64 E)∧Takes L (w.alloc _) g so ao oo E (b.opening t) e w1 from ⟨hT.1,hT⟩)
 have R:Hid (Takes L _ g so ao oo E (b.opening t) (.returned (.int .i64 E)) w1):=hR
 clear hT hR
 go_wp2_with fail
 go_returns
 exact Takes.up HB.out HW1.out R.out
theorem take_close {L:Nat} {w:World} {g:Nat} {b:Mt.PB} {so ao oo:Option Addr} {sc ac oc:Nat} (t:Mt.PT) (h:BAt L w g b so ao oo sc ac oc) (hO:BOk b) (hk:t.kind=3) :
  Calls Tryd.prog 54 #[.pointer (some ⟨g,0,none⟩),ptV t] w (Takes L w g so ao oo (b.err t) (b.next t)):=by
 have HB:Hid (BAt L w g b so ao oo sc ac oc):=h
 have W1:Below w.heap.size w (w.alloc (.cells (ptA t) 111)):=(Below.refl _ _).alloc (Nat.le_refl _) _
 have hw:=h.below W1
 have e1:b.err t=if b.opn.length=0 then 10 else 0:=by unfold Mt.PB.err;rw [if_neg (by omega),if_neg (by omega),if_pos hk]
 have e2:b.next t=b.close:=by unfold Mt.PB.next;rw [if_neg (by omega),if_neg (by omega),if_pos hk]
 rw [e1,e2]
 clear e1 e2
 have HT0:=takeClose_prog hw (by have:=hO.na;omega) (by have:=hO.no;omega) hO.tp _ rfl
 generalize (if b.opn.length=0 then (10:Int) else 0)=E at *
 have HT:Hid (Calls Tryd.prog 72 _ (w.alloc (.cells (ptA t) 111)) _):=HT0
 have HW1:Hid (Below w.heap.size w (w.alloc (.cells (ptA t) 111))):=W1
 clear HT0 h W1 hw hO
 unfold ptV
 unfold ptA at HT
 unfold ptA at HW1 ⊢
 rw [hk] at HT HW1 ⊢
 clear hk
 go_enter Tryd.func54,Tryd.ntmps54
 go_wp2_with fail
 refine HT.out.mono ?_
 rintro e w1 ⟨rfl,hT1,hT2⟩
 have R:Hid (Takes L _ g so ao oo E b.close (.returned (.int .i64 E)) w1):=⟨rfl,fun h0=>⟨so,ao,oo,sc,ac,oc,(hT1 h0).1,(hT1 h0).2⟩,hT2⟩
 clear hT1 hT2
 go_wp2_with fail
 go_returns
 exact Takes.up HB.out HW1.out R.out
theorem take_rep {L:Nat} {w:World} {g:Nat} {b:Mt.PB} {so ao oo:Option Addr} {sc ac oc:Nat} (t:Mt.PT) (h:BAt L w g b so ao oo sc ac oc) (hO:BOk b) (hk:t.kind=4) :
  Calls Tryd.prog 54 #[.pointer (some ⟨g,0,none⟩),ptV t] w (Takes L w g so ao oo (b.err t) (b.next t)):=by
 have HB:Hid (BAt L w g b so ao oo sc ac oc):=h
 have W1:Below w.heap.size w (w.alloc (.cells (ptA t) 111)):=(Below.refl _ _).alloc (Nat.le_refl _) _
 have hw:=h.below W1
 have e1:b.err t=if b.last=-1∨(b.aAt b.last.toNat).rep.kind≠0 then 7 else 0:=by unfold Mt.PB.err;rw [if_neg (by omega),if_neg (by omega),if_neg (by omega),if_pos hk]
 have e2:b.next t=b.repeated t:=by unfold Mt.PB.next;rw [if_neg (by omega),if_neg (by omega),if_neg (by omega),if_pos hk]
 rw [e1,e2]
 clear e1 e2
 have HT0:=takeRepeat_prog t hw (by have:=hO.na;omega) hO.la _ rfl
 generalize (if b.last=-1∨(b.aAt b.last.toNat).rep.kind≠0 then (7:Int) else 0)=E at *
 have HT:Hid (Calls Tryd.prog 73 _ (w.alloc (.cells (ptA t) 111)) _):=HT0
 have HW1:Hid (Below w.heap.size w (w.alloc (.cells (ptA t) 111))):=W1
 clear HT0 h W1 hw hO
 unfold ptV
 unfold ptV ptA at HT
 unfold ptA at HW1 ⊢
 rw [hk] at HT HW1 ⊢
 clear hk
 go_enter Tryd.func54,Tryd.ntmps54
 go_wp2_with fail
 refine HT.out.mono ?_
 rintro e w1 ⟨rfl,hT1,hT2⟩
 have R:Hid (Takes L _ g so ao oo E (b.repeated t) (.returned (.int .i64 E)) w1):=⟨rfl,fun h0=>⟨so,ao,oo,sc,ac,oc,(hT1 h0).1,(hT1 h0).2⟩,hT2⟩
 clear hT1 hT2
 go_wp2_with fail
 go_returns
 exact Takes.up HB.out HW1.out R.out
theorem take_back {L:Nat} {w:World} {g:Nat} {b:Mt.PB} {so ao oo:Option Addr} {sc ac oc:Nat} (t:Mt.PT) (h:BAt L w g b so ao oo sc ac oc) (hO:BOk b) (hk:t.kind=6) (n:Nat) (hnum:t.number=n) (hn9:n≤9) :
  Calls Tryd.prog 54 #[.pointer (some ⟨g,0,none⟩),ptV t] w (Takes L w g so ao oo (b.err t) (b.next t)):=by
 have HB:Hid (BAt L w g b so ao oo sc ac oc):=h
 have W1:Below w.heap.size w (w.alloc (.cells (ptA t) 111)):=(Below.refl _ _).alloc (Nat.le_refl _) _
 have hw:=h.below W1
 have e1:b.err t=if (b.groups:Int)<t.number∨b.clo.getD t.number.toNat false=false then 6 else 0:=by unfold Mt.PB.err;rw [if_neg (by omega),if_neg (by omega),if_neg (by omega),if_neg (by omega),if_pos hk]
 have e2:b.next t=b.addAtom t:=by unfold Mt.PB.next;rw [if_neg (by omega),if_neg (by omega),if_neg (by omega),if_neg (by omega)]
 rw [e1,e2]
 clear e1 e2
 have HT0:=takeBack_prog t hw (by have:=hO.na;omega) hO.sq hO.la n hnum hn9 _ rfl
 generalize (if (b.groups:Int)<t.number∨b.clo.getD t.number.toNat false=false then (6:Int) else 0)=E at *
 have HT:Hid (Calls Tryd.prog 74 _ (w.alloc (.cells (ptA t) 111)) _):=HT0
 have HW1:Hid (Below w.heap.size w (w.alloc (.cells (ptA t) 111))):=W1
 clear HT0 hnum h W1 hw hO
 unfold ptV
 unfold ptV ptA at HT
 unfold ptA at HW1 ⊢
 rw [hk] at HT HW1 ⊢
 clear hk
 go_enter Tryd.func54,Tryd.ntmps54
 go_wp2_with fail
 refine HT.out.mono ?_
 rintro e w1 ⟨rfl,hT1,hT2⟩
 have R:Hid (Takes L _ g so ao oo E (b.addAtom t) (.returned (.int .i64 E)) w1):=⟨rfl,fun h0=>by obtain ⟨ao',ac',x1,x2⟩:=hT1 h0;exact ⟨so,ao',oo,sc,ac',oc,x1,x2⟩,hT2⟩
 clear hT1 hT2
 go_wp2_with fail
 go_returns
 exact Takes.up HB.out HW1.out R.out
theorem take_leaf {L:Nat} {w:World} {g:Nat} {b:Mt.PB} {so ao oo:Option Addr} {sc ac oc:Nat} (t:Mt.PT) (h:BAt L w g b so ao oo sc ac oc) (hO:BOk b) (hk:t.kind=5∨t.kind=7∨t.kind=8) :
  Calls Tryd.prog 54 #[.pointer (some ⟨g,0,none⟩),ptV t] w (Takes L w g so ao oo (b.err t) (b.next t)):=by
 have HB:Hid (BAt L w g b so ao oo sc ac oc):=h
 have W1:Below w.heap.size w (w.alloc (.cells (ptA t) 111)):=(Below.refl _ _).alloc (Nat.le_refl _) _
 have hw:=h.below W1
 have e1:b.err t=0:=by unfold Mt.PB.err;rw [if_neg (by omega),if_neg (by omega),if_neg (by omega),if_neg (by omega),if_neg (by omega)]
 have e2:b.next t=b.addAtom t:=by unfold Mt.PB.next;rw [if_neg (by omega),if_neg (by omega),if_neg (by omega),if_neg (by omega)]
 rw [e1,e2]
 clear e1 e2
 have HT:Hid (Calls Tryd.prog 75 _ (w.alloc (.cells (ptA t) 111)) _):=addAtom_prog t hw (by have:=hO.na;omega) hO.sq hO.la
 have HW1:Hid (Below w.heap.size w (w.alloc (.cells (ptA t) 111))):=W1
 clear h W1 hw hO
 rcases hk with hk | hk | hk
 all_goals
  unfold ptV
  unfold ptV ptA at HT
  unfold ptA at HW1 ⊢
  rw [hk] at HT HW1 ⊢
  clear hk
  go_enter Tryd.func54,Tryd.ntmps54
  go_wp2_with fail
  refine HT.out.mono ?_
  rintro e w1 ⟨rfl,ao1,ac1,hP,hSt⟩
  have R:Hid (BAt L w1 g (b.addAtom t) so ao1 oo sc ac1 oc∧BStep g so ao oo so ao1 oo _ w1):=⟨hP,hSt⟩
  clear hP hSt
  go_wp2_with fail
  go_returns
  exact Takes.of HB.out HW1.out rfl R.out.1 R.out.2
end Go.Proofs.YtebpgfodelggoaaDoor
namespace Mt
def PB.start0:PB:=⟨[],[],0,-1,[],0,List.replicate 10 false⟩
theorem start_new:PB.start0.newSeq=PB.start:=rfl
theorem rel_ok {b:PB} {l:List Tok} {stk:List Nat} (h:b.Rel l stk) (hl:l.length≤64):b.atoms.length≤64∧b.seqs.length≤65∧b.opn.length≤64∧(0<b.opn.length→b.top<b.atoms.length∧∃ nu hm:Nat,(b.aAt b.top).num=nu∧nu≤9∧(b.aAt b.top).home=hm):=by
 have h1:=h.al
 have h2:=h.sl
 have h3:=h.len
 have h4:=h.op
 have h5:=opened_bd l
 refine ⟨by omega,by omega,by omega,fun hp=>?_⟩
 have ht:b.top=b.opn.getD (stk.length-1) 0:=by unfold PB.top;rw [getLastD_at _ _ hp,h3]
 have T:=h.tops (stk.length-1) (by omega)
 rw [← ht] at T
 obtain ⟨hm,e1,e2⟩:=h.homes b.top T.1
 have n:=h.nums b.top T.1
 exact ⟨T.1,(b.aAt b.top).num.toNat,hm,by omega,by omega,e1⟩
theorem readOn_end (p:ByteArray) (l:List Tok) (k:Int) (h0:0≤k) (h:k=p.size):readOn p l k=(l,0,k):=by
 rw [readOn_step p l k h0 (by omega),if_pos (by omega)]
theorem readOn_bad1 (p:ByteArray) (l:List Tok) (k:Int) (h0:0≤k) (h:k<p.size) (h2:(nextT p k).2≠0):readOn p l k=([],(nextT p k).2,k):=by
 rw [readOn_step p l k h0 (by omega),if_neg (by omega),if_pos h2]
theorem readOn_bad2 (p:ByteArray) (l:List Tok) (k:Int) (h0:0≤k) (h:k<p.size) (h2:(nextT p k).2=0) (h3:may l (nextT p k).1≠0):readOn p l k=([],may l (nextT p k).1,k):=by
 rw [readOn_step p l k h0 (by omega),if_neg (by omega),if_neg (by omega),if_pos h3]
theorem readOn_go (p:ByteArray) (l:List Tok) (k:Int) (h0:0≤k) (h:k<p.size) (h2:(nextT p k).2=0) (h3:may l (nextT p k).1=0):readOn p l k=readOn p (l++[joined l (nextT p k).1]) (nextT p k).1.to:=by
 rw [readOn_step p l k h0 (by omega),if_neg (by omega),if_neg (by omega),if_neg (by omega)]
structure Read (p:ByteArray) (k:Nat) (b:PB) (l:List Tok):Prop where
 le:k≤p.size
 len:l.length≤k
 run:b=PB.start.run l
 rel:∃ stk,b.Rel l stk
 val:Valid l
 on:readOn p l k=readOn p [] 0
theorem read_start (p:ByteArray):Read p 0 PB.start []:=⟨by omega,by simp,rfl,⟨[],rel_start⟩,by intro k hk;simp at hk,rfl⟩
theorem read_next {p:ByteArray} {k:Nat} {b:PB} {l:List Tok} (h:Read p k b l) (hk:k<p.size) (h2:(nextT p k).2=0) (h3:may l (nextT p k).1=0):∃ m:Nat,(nextT p k).1.to=m∧k<m∧Read p m (b.next (ptok (nextT p k).1)) (l++[joined l (nextT p k).1]):=by
 have ht:=nextT_to p k (by omega) (by omega) h2
 obtain ⟨m,hm⟩:=Int.eq_ofNat_of_zero_le (show 0≤(nextT p k).1.to by omega)
 have hg:=nextT_G p k h2
 obtain ⟨stk,hr⟩:=h.rel
 refine ⟨m,hm,by omega,by omega,by simp;have:=h.len;omega,?_,rel_next hr h.val hg h3,valid_next h.val hg h3,?_⟩
 ·rw [PB.run_app,← h.run];show _=b.next (ptok (joined l (nextT p k).1));rw [ptok_joined]
 ·rw [← h.on,readOn_go p l k (by omega) (by omega) h2 h3,hm]
end Mt
namespace Go.Proofs.YtebpgfodelggoaaDoor
open Go.RowKit
theorem bok_read {p:ByteArray} {k:Nat} {b:Mt.PB} {l:List Mt.Tok} (h:Mt.Read p k b l) (hp:p.size≤64):BOk b:=by
 obtain ⟨stk,hr⟩:=h.rel
 have hl:=h.len
 have hk:=h.le
 obtain ⟨a1,a2,a3,a4⟩:=Mt.rel_ok hr (by omega)
 exact ⟨by omega,by omega,by omega,hr.sq,hr.la,a4⟩
theorem take_any {L:Nat} {w:World} {g:Nat} {b:Mt.PB} {so ao oo:Option Addr} {sc ac oc:Nat} {p:ByteArray} {k:Nat} {l:List Mt.Tok} (h:BAt L w g b so ao oo sc ac oc) (hR:Mt.Read p k b l) (hp:p.size≤64) (t:Mt.Tok) (hg:Mt.tokG t) :
  Calls Tryd.prog 54 #[.pointer (some ⟨g,0,none⟩),ptV (Mt.ptok t)] w (Takes L w g so ao oo (Mt.may l t) (b.next (Mt.ptok t))):=by
 have hO:=bok_read hR hp
 obtain ⟨stk,hr⟩:=hR.rel
 rw [← Mt.err_same hr (Mt.nums_valid hR.val) hg]
 obtain ⟨⟨k1,k2⟩,g2,g3,g4,g5⟩:=hg
 have hk:t.kind=1∨t.kind=2∨t.kind=3∨t.kind=4∨t.kind=5∨t.kind=6∨t.kind=7∨t.kind=8:=by omega
 rcases hk with e | e | e | e | e | e | e | e
 ·exact take_leaf _ h hO (by rw [Mt.ptok_kind,e];decide)
 ·obtain ⟨n1,n2⟩:=g3 e
  exact take_back _ h hO (by rw [Mt.ptok_kind,e];decide) t.n.toNat (by simp [Mt.ptok,e];omega) (by omega)
 ·exact take_leaf _ h hO (by rw [Mt.ptok_kind,e];decide)
 ·exact take_leaf _ h hO (by rw [Mt.ptok_kind,e];decide)
 ·exact take_bar _ h hO (by rw [Mt.ptok_kind,e];decide)
 ·exact take_open _ h hO (by rw [Mt.ptok_kind,e];decide)
 ·exact take_close _ h hO (by rw [Mt.ptok_kind,e];decide)
 ·exact take_rep _ h hO (by rw [Mt.ptok_kind,e];decide)
theorem Tryd.sizeB:(Tryd.prog.info? 108).map (·.size)=some 16:=by kernel_rfl
theorem Tryd.sizeT:(Tryd.prog.info? 69).map (·.size)=some 2:=by kernel_rfl
theorem Build_long (p:ByteArray) (w:World) (hp:64<p.size) (hm:p.size≤maxLen) :
  Calls Tryd.prog 36 #[.string p] w fun e w'=>e=.returned (.tuple #[.agg #[.slice none 0 0,.slice none 0 0],.int .i64 1,.int .i64 0])∧Below w.heap.size w w':=by
 have b1:decide (64<(p.size:Int))=true:=by simp;omega
 have b2:decide (64<p.size)=true:=by simp;omega
 have hm':p.size≤9223372036854775807:=by unfold maxLen at hm;omega
 go_enter Tryd.func36,Tryd.ntmps36
 go_wp2_with fail
 go_returns
 exact ⟨rfl,by go_grown⟩
end Go.Proofs.YtebpgfodelggoaaDoor
namespace Mt
theorem tokens_is (p:ByteArray) (hp:p.size≤64):tokens p=if (readOn p [] 0).2.1≠0 then readOn p [] 0 else if 0<opened (readOn p [] 0).1 then ([],11,(p.size:Int)) else ((readOn p [] 0).1,0,0):=by
 unfold tokens;rw [if_neg (by omega),readOn_start p hp]
theorem tokens_bad {p:ByteArray} (hp:p.size≤64) {e k:Int} (h:readOn p [] 0=([],e,k)) (he:e≠0):(tokens p).2=(e,k):=by
 rw [tokens_is p hp,h,if_pos he]
theorem tokens_open {p:ByteArray} (hp:p.size≤64) {l:List Tok} {k:Int} (h:readOn p [] 0=(l,0,k)) (ho:0<opened l):(tokens p).2=(11,(p.size:Int)):=by
 rw [tokens_is p hp,h,if_neg (by simp),if_pos ho]
theorem tokens_good {p:ByteArray} (hp:p.size≤64) {l:List Tok} {k:Int} (h:readOn p [] 0=(l,0,k)) (ho:¬ 0<opened l):tokens p=(l,0,0):=by
 rw [tokens_is p hp,h,if_neg (by simp),if_neg ho]
end Mt
namespace Go.Proofs.YtebpgfodelggoaaDoor
open Go.RowKit
structure TreeAt (L:Nat) (w:World) (b:Mt.PB) (so ao:Option Addr) (sc ac:Nat):Prop where
 seqs:w.ownsRow L 118 2 (.slice so b.seqs.length sc) b.seqs.length (b.seqs.flatMap psC)
 atoms:w.ownsRow L 130 20 (.slice ao b.atoms.length ac) b.atoms.length (b.atoms.flatMap paC)
def treeV (b:Mt.PB) (so ao:Option Addr) (sc ac:Nat):Value:=.agg #[.slice so b.seqs.length sc,.slice ao b.atoms.length ac]
def treeA (b:Mt.PB) (so ao:Option Addr) (sc ac:Nat):Array Value:=#[.slice so b.seqs.length sc,.slice ao b.atoms.length ac]
def Builds (p:ByteArray) (w:World) (e:Ending) (w':World):Prop :=
 ((Mt.tokens p).2.1≠0→e=.returned (.tuple #[.agg #[.slice none 0 0,.slice none 0 0],.int .i64 (Mt.tokens p).2.1,.int .i64 (Mt.tokens p).2.2])) ∧
 ((Mt.tokens p).2.1=0→∃ so ao sc ac,e=.returned (.tuple #[treeV (Mt.PB.start.run (Mt.tokens p).1) so ao sc ac,.int .i64 0,.int .i64 0])∧TreeAt w.heap.size w' (Mt.PB.start.run (Mt.tokens p).1) so ao sc ac)∧Below w.heap.size w w'
theorem builds_bad {p:ByteArray} {w w':World} {e:Ending} {E k:Int} (h:(Mt.tokens p).2=(E,k)) (hE:E≠0) (he:e=.returned (.tuple #[.agg #[.slice none 0 0,.slice none 0 0],.int .i64 E,.int .i64 k])) (hb:Below w.heap.size w w'):Builds p w e w':=by
 refine ⟨fun _=>by rw [h];exact he,fun h0=>?_,hb⟩
 rw [h] at h0;exact absurd h0 hE
def nil2:Array Value:=#[.slice none 0 0,.slice none 0 0]
theorem start_mem (w:World):BAt (w.heap.size+1) ((w.alloc (.cells nil2 69)).alloc (.cells (bA Mt.PB.start0 none none none 0 0 0) 108)) (w.heap.size+1) Mt.PB.start0 none none none 0 0 0 :=
 ⟨heap_b3 _ _ _,Nat.le_refl _,World.ownsRow_nil _ _ _ _,World.ownsRow_nil _ _ _ _,World.ownsRow_nil _ _ _ _,⟨by simp [blk],by simp [blk],by simp [blk],fun q hq=>by simp [blk] at hq,fun q hq=>by simp [blk] at hq⟩,rfl⟩
theorem results_cell3 {fn:Func} {p u v:Tmp} {ty:TypeId} (h:fn.results=#[.cell p ty,.tmp u,.tmp v]) (tmps:Array Value) (P:Program) (w:World) :
  (results fn tmps).run P w =
   ((asAddr (tmps.getD p undef)).run P w).andThen fun a w₁=>((loadVar ty a).run P w₁).andThen fun x w₂=>.ok (.tuple #[x,tmps.getD u undef,tmps.getD v undef]) w₂:=by
 simp only [results,h]
 simp [Sem.run_bind,Result.andThen]
theorem ret_blk3 {P:Program} {fn:Func} {p u v:Tmp} (ty:TypeId) (n:Nat) {d:TypeDesc} (hu:P.underlying ty=some d) (hd:d.isRow=true) (hn:(P.info? ty).map (·.size)=some n) (hr:fn.results=#[.cell p ty,.tmp u,.tmp v]) {tmps:Array Value} {w:World} {b:Nat} {t:TypeId} {A:Array Value}
  (hp:tmps.getD p undef=.pointer (some ⟨b,0,none⟩)) (hA:w.heap[b]?=some (.cells A t (0,0))) (hs:A.size=n) :
  (results fn tmps).run P w=.ok (.tuple #[.agg A,tmps.getD u undef,tmps.getD v undef]) w:=by
 rw [results_cell3 hr,hp]
 have:=run_loadVar_mid (P:=P) w b 0 ty A.toList _ (rangeAt_blk hA) hu hd (by rw [hn];simp [hs])
 simp [asAddr,Result.andThen,this]
theorem nil2_all:nil2.all (·.oneCell')=true:=by simp [nil2,Value.oneCell']
theorem Build_ok (p:ByteArray) (w:World) (hp:p.size≤64) :
  Calls Tryd.prog 36 #[.string p] w (Builds p w):=by
 have b1:decide (64<(p.size:Int))=false:=by simp;omega
 have b2:decide (64<p.size)=false:=by simp;omega
 have HC:Hid (Calls Tryd.prog 52 _ _ _):=newSequence_any (start_mem w) (by decide)
 go_enter Tryd.func36,Tryd.ntmps36
 go_wp2_with fail
 refine HC.out.mono ?_
 rintro e w1 ⟨rfl,so1,sc1,hP,hSt⟩
 have hz1:w1.heap[w.heap.size]?=some (.cells nil2 69 (0,0)):=(hSt.block w.heap.size (by simp;omega) (by rintro (e | e | e | e);omega;simp [blk] at e;simp [blk] at e;simp [blk] at e)).trans (heap_b2 _ _ _)
 obtain ⟨x0,x1,x2,_,_,_,_,xf⟩:=hP.cells
 have xf2:=xf 2
 have hb1:Below w.heap.size w w1:=(((Below.refl _ _).alloc (Nat.le_refl _) _).alloc (by simp) _).trans ((hSt.low (start_mem w) (by simp)).mono (by omega))
 have M0:=hP.field (k:=2) (v:=.int .i64 0) (b':=Mt.PB.start) (so':=so1) (ao':=none) (oo':=none) (sc':=sc1) (ac':=0) (oc':=0) (by unfold bA;rfl) hP.seqs hP.atoms hP.opn hP.ap hP.cl
 have HM0:Hid (BAt (w.heap.size+1) (w1.setCell ⟨w.heap.size+1,2,none⟩ (.int .i64 0)) (w.heap.size+1) Mt.PB.start so1 none none sc1 0 0∧(w1.setCell ⟨w.heap.size+1,2,none⟩ (.int .i64 0)).heap[w.heap.size]?=some (.cells nil2 69 (0,0))∧Below w.heap.size w (w1.setCell ⟨w.heap.size+1,2,none⟩ (.int .i64 0))) :=
  ⟨M0,(Below.heap_setCell _ _ _ _ (by show w.heap.size≠w.heap.size+1;omega)).trans hz1,hb1.setCell (p:=⟨w.heap.size+1,2,none⟩) (by simp) _⟩
 clear hP hSt hz1 xf hb1 M0 HC x0 x1
 go_wp2_with fail
 go_loopw [7] (fun at' wr=>∃ (k:Nat) (l:List Mt.Tok) (b:Mt.PB) (so ao oo:Option Addr) (sc ac oc:Nat),at'=.int .i64 k∧Mt.Read p k b l∧BAt (w.heap.size+1) wr (w.heap.size+1) b so ao oo sc ac oc∧wr.heap[w.heap.size]?=some (.cells nil2 69 (0,0))∧Below w.heap.size w wr) (fun at' _=>p.size-(intOf at').toNat)
 case atStart=>exact ⟨0,[],Mt.PB.start,so1,none,none,sc1,0,0,rfl,Mt.read_start p,HM0.out.1,HM0.out.2.1,HM0.out.2.2⟩
 case round =>
  obtain ⟨k,l,b,so,ao,oo,sc,ac,oc,rfl,hR,hB,hz,hBl⟩:=hrel
  have hkle:=hR.le
  have HR:Hid (Mt.Read p k b l):=hR
  have HB:Hid (BAt (w.heap.size+1) wr (w.heap.size+1) b so ao oo sc ac oc):=hB
  have HZ:Hid (wr.heap[w.heap.size]?=some (.cells nil2 69 (0,0))):=hz
  have HBl:Hid (Below w.heap.size w wr):=hBl
  have hgr:w.heap.size+1<wr.heap.size:=(hB.lt _ (Or.inl rfl)).2
  obtain ⟨_,_,_,_,y4,_,_,_⟩:=hB.cells
  clear hR hB hz hBl
  by_cases hk:k<p.size
  ·have hg0:=Mt.nextT_G p k
   have HRead:Hid (Calls Tryd.prog 53 #[.string p,.int .i64 (k:Int)] wr _):=Read_any p k wr hp (by omega) (by omega)
   by_cases hn:(Mt.nextT p k).2=0
   ·have erd:Mt.readP p k=(Mt.ptok (Mt.nextT p k).1,0):=by unfold Mt.readP;rw [if_pos hn]
    have HG:Hid (Mt.tokG (Mt.nextT p k).1):=hg0 hn
    have HNN:Hid ((Mt.nextT p k).2=0):=hn
    simp only [erd] at HRead
    clear hg0 hn erd
    generalize hT:Mt.ptok (Mt.nextT p k).1=T at *
    have HTT:Hid (Mt.ptok (Mt.nextT p k).1=T):=hT
    clear hT
    go_wp2_with fail
    refine HRead.out.mono ?_
    rintro e w2 ⟨rfl,b2⟩
    have hg2:wr.heap.size≤w2.heap.size:=b2.size
    have HB2:Hid (BAt (w.heap.size+1) w2 (w.heap.size+1) b so ao oo sc ac oc∧w2.heap[w.heap.size]?=some (.cells nil2 69 (0,0))∧Below w.heap.size w w2):=⟨HB.out.below b2,(b2.block _ (by omega)).trans HZ.out,HBl.out.trans (b2.mono (by omega))⟩
    clear b2 HRead
    have HNo:Hid (¬ own (w.heap.size+1) so ao oo w2.heap.size):=fun ho=>by have:=(HB.out.lt _ ho).2;omega
    go_wp2_with (first | (refine store_blk 111 8 Tryd.sizePT (by rfl) (.tmp 8) (.tmp 26) (by rfl) w2.heap.size (ptA T) (by rfl) (by rfl) (by exact heap_b1 _ _) (by rfl) (by rfl) (ptA_all _) ?_;intro w3 r1 r2 r3 r4) | (refine load_blk 111 8 Tryd.underlying111 rfl Tryd.sizePT (by rfl) (.tmp 8) (by rfl) w2.heap.size (by rfl) r1 (by rfl) ?_))
    have hw3:Below w2.heap.size w2 w3:=((Below.refl _ _).alloc (Nat.le_refl _) _).trans (r4 _ (Nat.le_refl _))
    have hs3:w2.heap.size<w3.heap.size:=(Array.getElem?_eq_some_iff.1 r1).1
    have HTK:=take_any (HB2.out.1.below hw3) HR.out hp (Mt.nextT p k).1 HG.out
    rw [HTT.out] at HTK
    have HB3:Hid (w3.heap[w.heap.size]?=some (.cells nil2 69 (0,0))∧Below w.heap.size w w3):=⟨(hw3.block _ (by omega)).trans HB2.out.2.1,HB2.out.2.2.trans (hw3.mono (by omega))⟩
    have HR1:Hid (w3.heap[w2.heap.size]?=some (.cells (ptA T) 111 (0,0))):=r1
    clear r1 r2 r3 r4 hw3
    by_cases hm:Mt.may l (Mt.nextT p k).1=0
    ·obtain ⟨m,hm1,hm2,hRm⟩:=Mt.read_next HR.out hk HNN.out hm
     rw [HTT.out] at hRm
     have HRm:Hid (Mt.Read p m (b.next T) (l++[Mt.joined l (Mt.nextT p k).1])):=hRm
     have hTen:T.en=m:=by rw [← HTT.out];exact hm1
     rw [hm] at HTK
     refine HTK.mono ?_
     clear HTK hm hm1 hRm
     rintro e w4 ⟨rfl,hT1,hT2⟩
     obtain ⟨so',ao',oo',sc',ac',oc',hB4,hS4⟩:=hT1 rfl
     have t1:=(cell_block ((hS4.block w2.heap.size hs3 HNo.out).trans HR1.out)).1 1
     change w4.cell? ⟨w2.heap.size,1,none⟩=some (.int .i64 T.en) at t1
     rw [hTen] at t1
     have R4:Hid (BAt (w.heap.size+1) w4 (w.heap.size+1) (b.next T) so' ao' oo' sc' ac' oc'∧w4.heap[w.heap.size]?=some (.cells nil2 69 (0,0))∧Below w.heap.size w w4):=⟨hB4,(hT2.block _ (by omega)).trans HB3.out.1,HB3.out.2.trans (hT2.mono (by omega))⟩
     clear hT1 hT2 hB4 hS4 hTen
     have hmle:=HRm.out.le
     go_wp2_with fail
     go_roundw
     case rel=>exact ⟨m,_,_,so',ao',oo',sc',ac',oc',rfl,HRm.out,R4.out.1,R4.out.2.1,R4.out.2.2⟩
     case measure=>simp [intOf];omega
    ·have HX:Hid ((Mt.tokens p).2=(Mt.may l (Mt.nextT p k).1,(k:Int))):=Mt.tokens_bad hp (by rw [← HR.out.on];exact Mt.readOn_bad2 p l k (by omega) (by omega) HNN.out hm) hm
     generalize Mt.may l (Mt.nextT p k).1=M at *
     have m1:(M==0)=false:=by simpa using hm
     have m2:(M != 0)=true:=by simpa using hm
     refine HTK.mono ?_
     clear HTK
     rintro e w4 ⟨rfl,hT1,hT2⟩
     have R4:Hid (w4.heap[w.heap.size]?=some (.cells nil2 69 (0,0))∧Below w.heap.size w w4):=⟨(hT2.block _ (by omega)).trans HB3.out.1,HB3.out.2.trans (hT2.mono (by omega))⟩
     clear hT1 hT2
     have HMne:Hid (M≠0):=hm
     clear hm
     go_wp2_with (refine store_blk 69 2 Tryd.sizeT (by rfl) (.tmp 2) (.tmp 34) (by rfl) w.heap.size nil2 (by rfl) (by rfl) R4.out.1 (by rfl) (by rfl) nil2_all ?_;intro w5 q1 q2 q3 q4)
     refine bodyPost_ret (ret_blk3 69 2 Tryd.underlying69 rfl Tryd.sizeT rfl (by rfl) q1 (by rfl)) rfl ?_
     exact builds_bad HX.out HMne.out rfl (R4.out.2.trans (q4 _ (Nat.le_refl _)))
   ·have erd:Mt.readP p k=(Mt.pt0,(Mt.nextT p k).2):=by unfold Mt.readP;rw [if_neg hn]
    have HX:Hid ((Mt.tokens p).2=((Mt.nextT p k).2,(k:Int))):=Mt.tokens_bad hp (by rw [← HR.out.on];exact Mt.readOn_bad1 p l k (by omega) (by omega) hn) hn
    simp only [erd] at HRead
    clear hg0 erd
    generalize (Mt.nextT p k).2=M at *
    have m1:(M==0)=false:=by simpa using hn
    have m2:(M != 0)=true:=by simpa using hn
    have HMne:Hid (M≠0):=hn
    clear hn
    go_wp2_with fail
    refine HRead.out.mono ?_
    rintro e w2 ⟨rfl,b2⟩
    have HB2:Hid (w2.heap[w.heap.size]?=some (.cells nil2 69 (0,0))∧Below w.heap.size w w2):=⟨(b2.block _ (by omega)).trans HZ.out,HBl.out.trans (b2.mono (by omega))⟩
    have hg2:wr.heap.size≤w2.heap.size:=b2.size
    clear b2 HRead
    go_wp2_with (first | (refine store_blk 111 8 Tryd.sizePT (by rfl) (.tmp 8) (.tmp 26) (by rfl) w2.heap.size (ptA Mt.pt0) (by rfl) (by rfl) (by exact heap_b1 _ _) (by rfl) (by rfl) (ptA_all _) ?_;intro w3 r1 r2 r3 r4;have R3:Hid (w3.heap[w.heap.size]?=some (.cells nil2 69 (0,0))∧Below w.heap.size w w3):=⟨(r2 _ (by omega)).trans ((heap_old _ _ _ (by omega)).trans HB2.out.1),(HB2.out.2.alloc (by omega) _).trans (r4 _ (by omega))⟩;clear r1 r2 r3 r4) | (refine store_blk 69 2 Tryd.sizeT (by rfl) (.tmp 2) (.tmp 34) (by rfl) w.heap.size nil2 (by rfl) (by rfl) R3.out.1 (by rfl) (by rfl) nil2_all ?_;intro w5 q1 q2 q3 q4))
    refine bodyPost_ret (ret_blk3 69 2 Tryd.underlying69 rfl Tryd.sizeT rfl (by rfl) q1 (by rfl)) rfl ?_
    exact builds_bad HX.out HMne.out rfl (R3.out.2.trans (q4 _ (Nat.le_refl _)))
  ·have hk2:k=p.size:=by omega
   have HON:Hid (Mt.readOn p [] 0=(l,0,(k:Int))):=by show _=_;rw [← HR.out.on];exact Mt.readOn_end p l k (by omega) (by omega)
   have hop:(b.opn.length:Int)=Mt.opened l:=by
    obtain ⟨stk,hr⟩:=HR.out.rel
    rw [hr.len,hr.op]
   have hol:b.opn.length≤64:=by
    obtain ⟨stk,hr⟩:=HR.out.rel
    exact (Mt.rel_ok hr (by have:=HR.out.len;omega)).2.2.1
   by_cases ho:0<b.opn.length
   ·have HX:Hid ((Mt.tokens p).2=(11,(p.size:Int))):=Mt.tokens_open hp HON.out (by omega)
    have o1:decide (0<(b.opn.length:Int))=true:=by simp;omega
    have o2:decide (0<b.opn.length)=true:=by simp;omega
    clear hop
    go_wp2_with (refine store_blk 69 2 Tryd.sizeT (by rfl) (.tmp 2) (.tmp 43) (by rfl) w.heap.size nil2 (by rfl) (by rfl) HZ.out (by rfl) (by rfl) nil2_all ?_;intro w5 q1 q2 q3 q4)
    refine bodyPost_ret (ret_blk3 69 2 Tryd.underlying69 rfl Tryd.sizeT rfl (by rfl) q1 (by rfl)) rfl ?_
    exact builds_bad HX.out (by decide) rfl (HBl.out.trans (q4 _ (Nat.le_refl _)))
   ·have HX:Hid (Mt.tokens p=(l,0,0)):=Mt.tokens_good hp HON.out (by omega)
    have o1:decide (0<(b.opn.length:Int))=false:=by simp only [decide_eq_false_iff_not];omega
    have o2:decide (0<b.opn.length)=false:=by simp only [decide_eq_false_iff_not];omega
    have HRA:Hid (wr.rangeAt (w.heap.size+1) 0 (treeA b so ao sc ac).toList):=fun j v hv=>by
     rw [Nat.zero_add,(cell_block HB.out.cell).1]
     match j,hv with
     | 0,hv=>simpa [treeA,bA] using hv
     | 1,hv=>simpa [treeA,bA] using hv
     | j+2,hv=>simp [treeA] at hv
    clear hop
    go_wp2_with (first | (refine wpList_load_mid (by rfl) 69 (.tmp 46) (by rfl) (w.heap.size+1) 0 (by rfl) (treeA b so ao sc ac).toList _ HRA.out Tryd.underlying69 rfl (by rw [Tryd.sizeT];rfl) ?_) | (refine store_blk 69 2 Tryd.sizeT (by rfl) (.tmp 2) (.tmp 47) (by rfl) w.heap.size (treeA b so ao sc ac) (by rfl) (by rfl) HZ.out (by rfl) (by rfl) (by simp [treeA,Value.oneCell']) ?_;intro w5 q1 q2 q3 q4))
    refine bodyPost_ret (ret_blk3 69 2 Tryd.underlying69 rfl Tryd.sizeT rfl (by rfl) q1 (by rfl)) rfl ?_
    have hb5:Below w.heap.size w w5:=HBl.out.trans (q4 _ (Nat.le_refl _))
    refine ⟨fun h0=>absurd (by rw [HX.out]) h0,fun _=>⟨so,ao,sc,ac,?_,?_⟩,hb5⟩
    ·rw [HX.out,← HR.out.run];rfl
    ·rw [HX.out,← HR.out.run]
     have q2':∀ k',k'≠w.heap.size→w5.heap[k']?=wr.heap[k']?:=q2
     have nr:∀ (o:Option Addr) (n c:Nat) (e:TypeId) (sz:Nat) (xs:List Value),wr.ownsRow (w.heap.size+1) e sz (.slice o n c) n xs→w5.ownsRow w.heap.size e sz (.slice o n c) n xs:=by
      intro o n c e sz xs hrow
      have h1:=row_keep (w':=w5) hrow (fun q hq=>q2' q (fun e=>by have:=(World.ownsRow.lt hrow q (by rw [ownBlock_blk];exact hq)).1;omega))
      refine ⟨h1.1,?_⟩
      rcases h1.2 with h' | ⟨g',cap',cur,hv,h0,hg,rest⟩
      ·exact .inl h'
      ·exact .inr ⟨g',cap',cur,hv,by omega,hg,rest⟩
     exact ⟨nr _ _ _ _ _ _ HB.out.seqs,nr _ _ _ _ _ _ HB.out.atoms⟩
theorem Build_any (p:ByteArray) (w:World) (hm:p.size≤maxLen):Calls Tryd.prog 36 #[.string p] w (Builds p w):=by
 by_cases hp:p.size≤64
 ·exact Build_ok p w hp
 ·have ht:(Mt.tokens p).2=(1,0):=by unfold Mt.tokens;rw [if_pos (by omega)]
  exact (Build_long p w (by omega) hm).mono (fun e w' hh=>builds_bad ht (by decide) hh.1 hh.2)
end Go.Proofs.YtebpgfodelggoaaDoor
