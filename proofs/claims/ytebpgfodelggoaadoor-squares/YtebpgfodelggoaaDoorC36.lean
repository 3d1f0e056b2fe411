import Derived.Test.YtebpgfodelggoaaDoorC35
import Derived.Test.YtebpgfodelggoaaDoorC12
import Derived.Test.YtebpgfodelggoaaDoorC04
import Derived.Deep.DeepCutAuto
set_option linter.unusedVariables false
set_option linter.unusedSimpArgs false
set_option maxRecDepth 100000
set_option maxHeartbeats 4000000
namespace Go.Proofs.YtebpgfodelggoaaDoor
open Go.RowKit
def restLen (r:Option Mt.Fs):Nat:=match r with
 | none=>0
 | some g=>2+g.re.len
theorem re_rest (f:Mt.Fs):f.re.len=f.both.1.len+restLen f.rs:=Mt.re_len f
theorem lim_alt (S X R T:Nat) (h:Mt.lim (S+(2+(X+R)))=T):Mt.lim (Mt.lim (S+2+Mt.lim X)+R)=T:=by unfold Mt.lim at *;omega
def standsR (b:Mt.PB) (r:Option Mt.Fs) (a:Int):Prop:=match r with
 | none=>a=-1
 | some g=>∃ k:Nat,a=k∧k<b.seqs.length∧Mt.standsF b 0 0 g (b.sAt k).first (b.sAt k).next∧g.wf∧g.ok
def lenR (r:Option Mt.Fs):Nat:=match r with
 | none=>0
 | some g=>g.flat.length+1
theorem standsR_of {b:Mt.PB} {f:Mt.Fs} {a n:Int} (h:Mt.standsF b 0 0 f a n) (hw:f.wf) (hok:f.ok):standsR b f.rs n∧lenR f.rs≤f.flat.length:=by
 rcases Mt.stands_rs f a n h with ⟨e,h1⟩ | ⟨r,k,e,h1,h2,h3⟩
 ·rw [e];exact ⟨h1,Nat.zero_le _⟩
 ·have:=Mt.rs_less f r e
  rw [e];exact ⟨⟨k,h1,h2,h3,this.2.1 hw,this.2.2 hok⟩,this.1⟩
theorem alternativesSize_any {b:Mt.PB} {so ao:Option Addr} {sc ac N:Nat} (hA:AltC b so ao sc ac N) (hna:b.atoms.length≤1000) (hns:b.seqs.length≤1000) (f:Mt.Fs) (hw:f.wf) (hok:f.ok) (hl:f.flat.length≤N) (s:Nat) (hs:s<b.seqs.length) (hst:Mt.standsF b 0 0 f (b.sAt s).first (b.sAt s).next) {L:Nat} {w:World} (hT:TreeAt L w b so ao sc ac) :
  Calls Tryd.prog 55 #[treeV b so ao sc ac,.int .i64 (s:Int)] w fun e w'=>e=.returned (.int .i64 (Mt.lim f.re.len:Nat))∧Below w.heap.size w w':=by
 have HSQ:Hid (∀ (g:Mt.Fs) (k:Nat) (W:World),g.wf→g.ok→g.flat.length≤N→k<b.seqs.length→Mt.standsF b 0 0 g (b.sAt k).first (b.sAt k).next→TreeAt L W b so ao sc ac→Calls Tryd.prog 76 #[treeV b so ao sc ac,.int .i64 (k:Int)] W fun e w'=>e=.returned (.int .i64 (Mt.lim g.both.1.len:Nat))∧Below W.heap.size W w'):=fun g k W h1 h2 h3 h4 h5 h6=>sequenceSize_any hA hna hns g h1 h2 h3 k h4 h5 h6
 obtain ⟨gs,rfl,hgs,hsc,cs0,cs1⟩:=hT.seqCell s hs
 have HW0:Hid (Below w.heap.size w (w.alloc (.cells (treeA b (some ⟨gs,0,none⟩) ao sc ac) 69))):=(Below.refl _ _).alloc (Nat.le_refl _) _
 have HT:Hid (TreeAt L w b (some ⟨gs,0,none⟩) ao sc ac):=hT
 have HC1:Hid (Calls Tryd.prog 76 #[treeV b (some ⟨gs,0,none⟩) ao sc ac,.int .i64 (s:Int)] (w.alloc (.cells (treeA b (some ⟨gs,0,none⟩) ao sc ac) 69)) _):=HSQ.out f s _ hw hok hl hs hst (hT.below HW0.out)
 have HSR:Hid (standsR b f.rs (b.sAt s).next∧lenR f.rs≤f.flat.length):=standsR_of hst hw hok
 have HRE:Hid (f.re.len=f.both.1.len+restLen f.rs):=re_rest f
 have HL:Hid (f.flat.length≤N):=hl
 have hs':(s:Int)<(b.seqs.length:Int):=by omega
 have HE0:treeA b (some ⟨gs,0,none⟩) ao sc ac=#[.slice (some ⟨gs,0,none⟩) b.seqs.length sc,.slice ao b.atoms.length ac]:=rfl
 have hX:=Mt.lim_le f.both.1.len
 have HLX:Hid (Mt.lim (Mt.lim f.both.1.len+restLen f.rs)=Mt.lim f.re.len):=by show _=_;rw [HRE.out];unfold Mt.lim;omega
 generalize hn:(b.sAt s).next=n at *
 clear hT hA hst hw hok hn hl
 generalize f.rs=rs0 at *
 generalize Mt.lim f.both.1.len=X at *
 generalize Mt.lim f.re.len=F at *
 unfold treeV
 unfold treeV treeA at HC1
 go_enter Tryd.func55,Tryd.ntmps55
 go_wp2_with fail
 refine HC1.out.mono ?_
 rintro e w1 ⟨rfl,b1⟩
 have hblk:w1.heap[w.heap.size]?=some (.cells (treeA b (some ⟨gs,0,none⟩) ao sc ac) 69 (0,0)):=(b1.block _ (by simp)).trans (heap_b1 _ _)
 have bx0:=(cell_block hblk).1 0
 have bx1:=(cell_block hblk).1 1
 rw [HE0] at bx0 bx1
 simp only [List.getElem?_toArray,List.getElem?_cons_succ,List.getElem?_cons_zero] at bx0 bx1
 have HB1:Hid (w1.heap[w.heap.size]?=some (.cells (treeA b (some ⟨gs,0,none⟩) ao sc ac) 69 (0,0))∧Below w.heap.size w w1):=⟨hblk,HW0.out.trans (b1.mono (by simp))⟩
 have d1:=(HB1.out.2.cell (p:=⟨gs,s*2+1,none⟩) hgs).trans cs1
 have hsz1:w.heap.size<w1.heap.size:=(Array.getElem?_eq_some_iff.1 hblk).1
 clear b1 hblk HC1
 go_wp2_with fail
 go_loopg [5,6] (lenR rs0) (fun gn sz at' wr=>∃ (r:Option Mt.Fs) (S:Nat) (a:Int),sz=.int .i64 (S:Int)∧at'=.int .i64 a∧S≤301∧lenR r=gn∧gn≤lenR rs0∧standsR b r a∧Mt.lim (S+restLen r)=F∧wr.heap[w.heap.size]?=some (.cells (treeA b (some ⟨gs,0,none⟩) ao sc ac) 69 (0,0))∧Below w.heap.size w wr)
 case atStart=>exact ⟨rs0,X,n,rfl,rfl,hX,rfl,Nat.le_refl _,HSR.out.1,HLX.out,HB1.out.1,HB1.out.2⟩
 case round =>
  obtain ⟨r,S,a,rfl,rfl,hS,hgn,hgf,hsr,hlim,hblk,hBl⟩:=hrel
  have bx0:=(cell_block hblk).1 0
  have bx1:=(cell_block hblk).1 1
  rw [HE0] at bx0 bx1
  simp only [List.getElem?_toArray,List.getElem?_cons_succ,List.getElem?_cons_zero] at bx0 bx1
  have hsz:w.heap.size<wr.heap.size:=(Array.getElem?_eq_some_iff.1 hblk).1
  have HBK:Hid (wr.heap[w.heap.size]?=some (.cells (treeA b (some ⟨gs,0,none⟩) ao sc ac) 69 (0,0))∧Below w.heap.size w wr):=⟨hblk,hBl⟩
  have HLM:Hid (Mt.lim (S+restLen r)=F):=hlim
  clear hlim hblk hBl
  cases r with
  | none =>
   have ha:a=-1:=hsr
   have HF:Hid (F=S):=by show _=_;rw [← HLM.out];show Mt.lim (S+0)=S;unfold Mt.lim;omega
   subst ha
   clear HLM hsr
   go_wp2_with fail
   go_returns
   exact ⟨by rw [HF.out];rfl,HBK.out.2⟩
  | some g =>
   obtain ⟨k,rfl,hk,hgst,hgw,hgo⟩:=hsr
   have hgl:g.flat.length+1=gk:=hgn
   have hsl:=HSR.out.2
   have HC2:Hid (Calls Tryd.prog 76 #[treeV b (some ⟨gs,0,none⟩) ao sc ac,.int .i64 (k:Int)] wr _):=HSQ.out g k wr hgw hgo (by have:=HL.out;omega) hk hgst (HT.out.below HBK.out.2)
   obtain ⟨gs',e',_,_,_,k1⟩:=(HT.out.below HBK.out.2).seqCell k hk
   simp only [Option.some.injEq,Addr.mk.injEq,and_true,true_and] at e'
   subst e'
   have HSG:=standsR_of hgst hgw hgo
   have HSG':Hid (standsR b g.rs (b.sAt k).next∧lenR g.rs≤g.flat.length):=HSG
   have HNL:Hid (Mt.lim (Mt.lim (S+2+Mt.lim g.both.1.len)+restLen g.rs)=F):=by
    show _=_
    apply lim_alt
    rw [← HLM.out];show Mt.lim _=Mt.lim (S+(2+g.re.len));rw [re_rest g]
   have hk':(k:Int)<(b.seqs.length:Int):=by omega
   have hkb:((k:Int) != -1)=true:=by simp
   have hxl:=Mt.lim_le g.both.1.len
   clear HSG hgst hgw hgo HLM hgn
   generalize hNx:(b.sAt k).next=nx at *
   clear hNx
   generalize Mt.lim g.both.1.len=Y at *
   unfold treeV at HC2
   go_wp2_with fail
   refine HC2.out.mono ?_
   rintro e w2 ⟨rfl,b2⟩
   have bk2:w2.heap[w.heap.size]?=some (.cells (treeA b (some ⟨gs,0,none⟩) ao sc ac) 69 (0,0)):=(b2.block _ hsz).trans HBK.out.1
   have by0:=(cell_block bk2).1 0
   have by1:=(cell_block bk2).1 1
   rw [HE0] at by0 by1
   simp only [List.getElem?_toArray,List.getElem?_cons_succ,List.getElem?_cons_zero] at by0 by1
   have d2:=(b2.cell (p:=⟨gs,k*2+1,none⟩) (by show gs<wr.heap.size;omega)).trans k1
   have HB2:Hid (w2.heap[w.heap.size]?=some (.cells (treeA b (some ⟨gs,0,none⟩) ao sc ac) 69 (0,0))∧Below w.heap.size w w2):=⟨bk2,HBK.out.2.trans (b2.mono (by omega))⟩
   have hsz2:w.heap.size<w2.heap.size:=(Array.getElem?_eq_some_iff.1 bk2).1
   clear b2 bk2
   have hSl:=Mt.lim_le (S+2+Y)
   go_wp2_with (go_at_call 56;refine (limited_int _ (S+2+Y) (by omega) _).mono ?_;rintro e w' ⟨rfl,rfl⟩)
   go_roundg (lenR g.rs)
   case measure=>have:=HSG'.out.2;omega
   case rel=>exact ⟨g.rs,Mt.lim (S+2+Y),nx,rfl,rfl,hSl,rfl,by have:=HSG'.out.2;omega,HSG'.out.1,HNL.out,HB2.out.1,HB2.out.2⟩
theorem altC_all {b:Mt.PB} {so ao:Option Addr} {sc ac:Nat} (hna:b.atoms.length≤1000) (hns:b.seqs.length≤1000):∀ N,AltC b so ao sc ac N
 | 0=>fun f _ _ h=>by omega
 | N+1=>fun f hw hok h s hs hst L w hT=>alternativesSize_any (altC_all hna hns N) hna hns f hw hok (by omega) s hs hst hT
theorem Size_any {b:Mt.PB} {so ao:Option Addr} {sc ac:Nat} (hna:b.atoms.length≤1000) (hns:b.seqs.length≤1000) (f:Mt.Fs) (hw:f.wf) (hok:f.ok) (hs:0<b.seqs.length) (hst:Mt.standsF b 0 0 f (b.sAt 0).first (b.sAt 0).next) {L:Nat} {w:World} (hT:TreeAt L w b so ao sc ac) :
  Calls Tryd.prog 37 #[treeV b so ao sc ac] w fun e w'=>e=.returned (.int .i64 (Mt.lim (f.re.len+1):Nat))∧Below w.heap.size w w':=by
 have HC:Hid (Calls Tryd.prog 55 #[treeV b so ao sc ac,.int .i64 ((0:Nat):Int)] (w.alloc (.cells (treeA b so ao sc ac) 69)) _):=altC_all hna hns (f.flat.length+1) f hw hok (by omega) 0 hs hst L _ (hT.below ((Below.refl _ _).alloc (Nat.le_refl _) _))
 have HE:Hid (Mt.lim (f.re.len+1)=Mt.lim (Mt.lim f.re.len+1)):=by show _=_;unfold Mt.lim;omega
 rw [HE.out]
 have hl:=Mt.lim_le f.re.len
 generalize Mt.lim f.re.len=F at *
 clear hT hst hw hok
 unfold treeV
 unfold treeV treeA at HC
 go_enter Tryd.func37,Tryd.ntmps37
 go_wp2_with fail
 refine HC.out.mono ?_
 rintro e w1 ⟨rfl,b1⟩
 have HB:Hid (Below w.heap.size w w1):=((Below.refl _ _).alloc (Nat.le_refl _) _).trans (b1.mono (by simp))
 clear b1
 go_wp2_with (go_at_call 56;refine (limited_int _ (F+1) (by omega) _).mono ?_;rintro e w' ⟨rfl,rfl⟩)
 go_returns
 exact ⟨rfl,HB.out⟩
def Reads (p:ByteArray) (w:World) (e:Ending) (w':World):Prop :=
 ((Mt.checkR p).1≠0→e=.returned (.tuple #[.agg #[.slice none 0 0,.slice none 0 0],.int .i64 (Mt.checkR p).1,.int .i64 (Mt.checkR p).2])) ∧
 ((Mt.checkR p).1=0→∃ so ao sc ac,e=.returned (.tuple #[treeV (Mt.PB.start.run (Mt.tokens p).1) so ao sc ac,.int .i64 0,.int .i64 0])∧TreeAt w.heap.size w' (Mt.PB.start.run (Mt.tokens p).1) so ao sc ac)∧Below w.heap.size w w'
theorem reads_bad {p:ByteArray} {w w':World} {e:Ending} {E k:Int} (h:Mt.checkR p=(E,k)) (hE:E≠0) (he:e=.returned (.tuple #[.agg #[.slice none 0 0,.slice none 0 0],.int .i64 E,.int .i64 k])) (hb:Below w.heap.size w w'):Reads p w e w':=by
 refine ⟨fun _=>by rw [h];exact he,fun h0=>?_,hb⟩
 rw [h] at h0;exact absurd h0 hE
theorem TreeAt.lower {L L':Nat} {w:World} {b:Mt.PB} {so ao:Option Addr} {sc ac:Nat} (h:TreeAt L w b so ao sc ac) (hl:L'≤L):TreeAt L' w b so ao sc ac:=by
 have nr:∀ (o:Option Addr) (n c:Nat) (e:TypeId) (sz:Nat) (xs:List Value),w.ownsRow L e sz (.slice o n c) n xs→w.ownsRow L' e sz (.slice o n c) n xs:=by
  intro o n c e sz xs h1
  refine ⟨h1.1,?_⟩
  rcases h1.2 with h' | ⟨g',cap',cur,hv,h0,hg,rest⟩
  ·exact .inl h'
  ·exact .inr ⟨g',cap',cur,hv,by omega,hg,rest⟩
 exact ⟨nr _ _ _ _ _ _ h.seqs,nr _ _ _ _ _ _ h.atoms⟩
theorem TreeAt.keep {L B:Nat} {w w':World} {b:Mt.PB} {so ao:Option Addr} {sc ac:Nat} (h:TreeAt L w b so ao sc ac) (hk:∀ q,L≤q→q<w.heap.size→w'.heap[q]?=w.heap[q]?):TreeAt L w' b so ao sc ac :=
 ⟨row_keep h.seqs (fun q hq=>hk q (World.ownsRow.lt h.seqs q (by rw [ownBlock_blk];exact hq)).1 (World.ownsRow.lt h.seqs q (by rw [ownBlock_blk];exact hq)).2),row_keep h.atoms (fun q hq=>hk q (World.ownsRow.lt h.atoms q (by rw [ownBlock_blk];exact hq)).1 (World.ownsRow.lt h.atoms q (by rw [ownBlock_blk];exact hq)).2)⟩
theorem read_any (p:ByteArray) (w:World) (hm:p.size≤maxLen):Calls Tryd.prog 24 #[.string p] w (Reads p w):=by
 have HC:=Build_any p (w.alloc (.cells nil2 69)) hm
 have hsz:(w.alloc (.cells nil2 69)).heap.size=w.heap.size+1:=by simp
 unfold Builds at HC
 rw [hsz] at HC
 by_cases h0:(Mt.tokens p).2.1=0
 ·obtain ⟨f,hw,hok,hfl,hst,hs0,hla,hls,hc1,hc2⟩:=Mt.forest p h0
  have HC':Hid (Calls Tryd.prog _ _ _ _):=HC
  have HF:Hid (∀ (so ao:Option Addr) (sc ac L:Nat) (W:World),TreeAt L W (Mt.PB.start.run (Mt.tokens p).1) so ao sc ac→Calls Tryd.prog 37 #[treeV (Mt.PB.start.run (Mt.tokens p).1) so ao sc ac] W fun e w'=>e=.returned (.int .i64 (Mt.lim (f.re.len+1):Nat))∧Below W.heap.size W w'):=fun so ao sc ac L W hT=>Size_any (by omega) (by omega) f hw hok hs0 hst hT
  have hcr:Mt.checkR p=if 300<f.re.len+1 then (12,0) else (0,0):=by
   unfold Mt.checkR
   rw [if_neg (by omega)]
   by_cases x:300<f.re.len+1
   ·rw [if_pos x,if_pos (hc1.2 x)]
   ·rw [if_neg x,if_neg (fun y=>x (hc1.1 y))]
  have HCR:Hid (Mt.checkR p=if 300<f.re.len+1 then (12,0) else (0,0)):=hcr
  have H0:Hid ((Mt.tokens p).2.1=0):=h0
  have hll:=Mt.lim_le (f.re.len+1)
  have HLL:Hid (300<f.re.len+1↔300<Mt.lim (f.re.len+1)):=by
   show _↔_;unfold Mt.lim;omega
  clear HC hc1 hc2 hst hw hok hfl hcr h0
  generalize hbb:Mt.PB.start.run (Mt.tokens p).1=b at *
  have HBB:Hid (Mt.PB.start.run (Mt.tokens p).1=b):=hbb
  clear hbb
  generalize Mt.lim (f.re.len+1)=F at *
  go_enter Tryd.func24,Tryd.ntmps24
  go_wp2_with fail
  refine HC'.out.mono ?_
  rintro e w1 ⟨_,hg,hb⟩
  obtain ⟨so,ao,sc,ac,rfl,hT⟩:=hg H0.out
  have hz1:w1.heap[w.heap.size]?=some (.cells nil2 69 (0,0)):=(hb.block _ (by omega)).trans (heap_b1 _ _)
  have HB1:Hid (Below w.heap.size w w1∧w1.heap[w.heap.size]?=some (.cells nil2 69 (0,0))∧TreeAt (w.heap.size+1) w1 b so ao sc ac∧w.heap.size<w1.heap.size):=⟨((Below.refl _ _).alloc (Nat.le_refl _) _).trans (hb.mono (by omega)),hz1,hT,(Array.getElem?_eq_some_iff.1 hz1).1⟩
  clear hb hg hT hz1 HC'
  unfold treeV
  go_wp2_with (first | (refine store_blk 69 2 Tryd.sizeT (by rfl) (.tmp 5) (.tmp 11) (by rfl) w1.heap.size (treeA b so ao sc ac) (by rfl) (by rfl) (by exact heap_b1 _ _) (by rfl) (by rfl) (by simp [treeA,Value.oneCell']) ?_;intro w2 r1 r2 r3 r4) | (refine load_blk 69 2 Tryd.underlying69 rfl Tryd.sizeT (by rfl) (.tmp 5) (by rfl) w1.heap.size (by rfl) r1 (by rfl) ?_))
  have hb2:Below w1.heap.size w1 w2:=((Below.refl _ _).alloc (Nat.le_refl _) _).trans (r4 _ (Nat.le_refl _))
  have HB2:Hid (Below w.heap.size w w2∧w2.heap[w.heap.size]?=some (.cells nil2 69 (0,0))∧TreeAt (w.heap.size+1) w2 b so ao sc ac∧w2.heap[w1.heap.size]?=some (.cells (treeA b so ao sc ac) 69 (0,0))∧w1.heap.size<w2.heap.size):=⟨HB1.out.1.trans (hb2.mono (by have:=HB1.out.2.2.2;omega)),(hb2.block _ HB1.out.2.2.2).trans HB1.out.2.1,HB1.out.2.2.1.below hb2,r1,(Array.getElem?_eq_some_iff.1 r1).1⟩
  clear r1 r2 r3 r4 hb2
  have HS:=HF.out so ao sc ac _ w2 HB2.out.2.2.1
  refine HS.mono ?_
  clear HS
  rintro e w3 ⟨rfl,hb3⟩
  have HB3:Hid (Below w.heap.size w w3∧w3.heap[w.heap.size]?=some (.cells nil2 69 (0,0))∧TreeAt (w.heap.size+1) w3 b so ao sc ac∧w3.heap[w1.heap.size]?=some (.cells (treeA b so ao sc ac) 69 (0,0))):=⟨HB2.out.1.trans (hb3.mono (by have:=HB2.out.2.2.2.2;have:=HB1.out.2.2.2;omega)),(hb3.block _ (by have:=HB2.out.2.2.2.2;have:=HB1.out.2.2.2;omega)).trans HB2.out.2.1,HB2.out.2.2.1.below hb3,(hb3.block _ HB2.out.2.2.2.2).trans HB2.out.2.2.2.1⟩
  clear hb3
  by_cases hbig:300<F
  ·have HX:Hid (Mt.checkR p=(12,0)):=by show _=_;rw [HCR.out,if_pos (HLL.out.2 hbig)]
   have g1:decide (300<(F:Int))=true:=by simp;omega
   have g2:decide (300<F)=true:=by simpa using hbig
   go_wp2_with (refine store_blk 69 2 Tryd.sizeT (by rfl) (.tmp 2) (.tmp 22) (by rfl) w.heap.size nil2 (by rfl) (by rfl) HB3.out.2.1 (by rfl) (by rfl) nil2_all ?_;intro w5 q1 q2 q3 q4)
   refine bodyPost_ret (ret_blk3 69 2 Tryd.underlying69 rfl Tryd.sizeT rfl (by rfl) q1 (by rfl)) rfl ?_
   exact reads_bad HX.out (by decide) rfl (HB3.out.1.trans (q4 _ (Nat.le_refl _)))
  ·have HX:Hid (Mt.checkR p=(0,0)):=by show _=_;rw [HCR.out,if_neg (fun x=>hbig (HLL.out.1 x))]
   have g1:decide (300<(F:Int))=false:=by simp;omega
   have g2:decide (300<F)=false:=by simpa using hbig
   have HNE:Hid (w1.heap.size≠w.heap.size):=by have:=HB1.out.2.2.2;show _≠_;omega
   go_wp2_with (first | (refine load_blk 69 2 Tryd.underlying69 rfl Tryd.sizeT (by rfl) (.tmp 5) (by rfl) w1.heap.size (by rfl) HB3.out.2.2.2 (by rfl) ?_) | (refine store_blk 69 2 Tryd.sizeT (by rfl) (.tmp 2) (.tmp 23) (by rfl) w.heap.size (treeA b so ao sc ac) (by rfl) (by rfl) HB3.out.2.1 (by rfl) (by rfl) (by simp [treeA,Value.oneCell']) ?_;intro w5 q1 q2 q3 q4))
   refine bodyPost_ret (ret_blk3 69 2 Tryd.underlying69 rfl Tryd.sizeT rfl (by rfl) q1 (by rfl)) rfl ?_
   refine ⟨fun h=>absurd (by rw [HX.out]) h,fun _=>⟨so,ao,sc,ac,by rw [HBB.out];rfl,?_⟩,HB3.out.1.trans (q4 _ (Nat.le_refl _))⟩
   rw [HBB.out]
   exact (TreeAt.keep (B:=0) HB3.out.2.2.1 (fun q hq _=>q2 q (by omega))).lower (by omega)
 ·have hcr:Mt.checkR p=((Mt.tokens p).2.1,(Mt.tokens p).2.2):=by unfold Mt.checkR;rw [if_pos h0]
  have HCR:Hid (Mt.checkR p=((Mt.tokens p).2.1,(Mt.tokens p).2.2)):=hcr
  have HC':Hid (Calls Tryd.prog _ _ _ _):=HC
  have m2:((Mt.tokens p).2.1 != 0)=true:=by simpa using h0
  have H0:Hid ((Mt.tokens p).2.1≠0):=h0
  clear HC hcr h0
  generalize (Mt.tokens p).2.1=E at *
  generalize (Mt.tokens p).2.2=K at *
  go_enter Tryd.func24,Tryd.ntmps24
  go_wp2_with fail
  refine HC'.out.mono ?_
  rintro e w1 ⟨hg,_,hb⟩
  obtain rfl:=hg H0.out
  have hz1:w1.heap[w.heap.size]?=some (.cells nil2 69 (0,0)):=(hb.block _ (by omega)).trans (heap_b1 _ _)
  have hs1:w.heap.size<w1.heap.size:=(Array.getElem?_eq_some_iff.1 hz1).1
  have HB1:Hid (Below w.heap.size w w1∧w1.heap[w.heap.size]?=some (.cells nil2 69 (0,0))):=⟨((Below.refl _ _).alloc (Nat.le_refl _) _).trans (hb.mono (by omega)),hz1⟩
  clear hb hg hz1 HC'
  go_wp2_with (first | (refine store_blk 69 2 Tryd.sizeT (by rfl) (.tmp 5) (.tmp 11) (by rfl) w1.heap.size nil2 (by rfl) (by rfl) (by exact heap_b1 _ _) (by rfl) (by rfl) nil2_all ?_;intro w2 r1 r2 r3 r4;have R2:Hid (Below w.heap.size w w2∧w2.heap[w.heap.size]?=some (.cells nil2 69 (0,0))):=⟨(HB1.out.1.alloc (by omega) _).trans (r4 _ (by omega)),(r2 _ (by omega)).trans ((heap_old _ _ _ hs1).trans HB1.out.2)⟩;clear r1 r2 r3 r4) | (refine store_blk 69 2 Tryd.sizeT (by rfl) (.tmp 2) (.tmp 16) (by rfl) w.heap.size nil2 (by rfl) (by rfl) R2.out.2 (by rfl) (by rfl) nil2_all ?_;intro w5 q1 q2 q3 q4))
  refine bodyPost_ret (ret_blk3 69 2 Tryd.underlying69 rfl Tryd.sizeT rfl (by rfl) q1 (by rfl)) rfl ?_
  exact reads_bad HCR.out H0.out rfl (R2.out.1.trans (q4 _ (Nat.le_refl _)))
def insA (i:Mt.Ins):Array Value:=#[.int .i64 i.op,.int .i64 i.x,.int .i64 i.y,.string ⟨i.set.toArray⟩]
theorem insA_all (i:Mt.Ins):(insA i).all (·.oneCell')=true:=by simp [insA,Value.oneCell']
theorem insA_list (i:Mt.Ins):(insA i).toList=insCells i:=rfl
theorem insC_len (i:Mt.Ins):(insCells i).length=4:=rfl
theorem Tryd.sizeIn:(Tryd.prog.info? 76).map (·.size)=some 4:=by kernel_rfl
theorem Tryd.infoIn:(Tryd.prog.info? 76).map (fun i=>(i.zero,i.size,i.bytes))=some (some (.agg (insA Mt.ins0)),4,40):=by kernel_rfl
structure LAt (L:Nat) (w:World) (g:Nat) (b:Mt.PB) (so ao:Option Addr) (sc ac:Nat) (co:Option Addr) (cc:Nat) (c:List Mt.Ins) (d:Int):Prop where
 cell:w.heap[g]?=some (.cells #[.slice so b.seqs.length sc,.slice ao b.atoms.length ac,.slice co c.length cc,.int .i64 d] 90 (0,0))
 lo:L≤g
 tree:TreeAt 0 w b so ao sc ac
 code:w.ownsRow L 76 4 (.slice co c.length cc) c.length (c.flatMap insCells)
 ap:blk co≠some g∧blk so≠some g∧blk ao≠some g∧(∀ q,blk co=some q→blk so≠some q∧blk ao≠some q)
structure LStep (g:Nat) (co co':Option Addr) (w w':World):Prop where
 os:w'.os=w.os
 tape:w'.tape=w.tape
 output:w'.output=w.output
 size:w.heap.size≤w'.heap.size
 block:∀ k,k<w.heap.size→k≠g→blk co≠some k→w'.heap[k]?=w.heap[k]?
 sub:∀ k,k<w.heap.size→blk co'=some k→blk co=some k
theorem LStep.refl (g:Nat) (co:Option Addr) (w:World):LStep g co co w w:=⟨rfl,rfl,rfl,Nat.le_refl _,fun _ _ _ _=>rfl,fun _ _ h=>h⟩
theorem LStep.trans {g:Nat} {co c1 c2:Option Addr} {a b c:World} (h:LStep g co c1 a b) (k:LStep g c1 c2 b c):LStep g co c2 a c :=
 ⟨k.os.trans h.os,k.tape.trans h.tape,k.output.trans h.output,Nat.le_trans h.size k.size,
 fun i hi h1 h2=>(k.block i (Nat.lt_of_lt_of_le hi h.size) h1 (fun e=>h2 (h.sub i hi e))).trans (h.block i hi h1 h2),fun i hi ho=>h.sub i hi (k.sub i (Nat.lt_of_lt_of_le hi h.size) ho)⟩
theorem LStep.below {g:Nat} {co:Option Addr} {a b:World} (h:Below a.heap.size a b):LStep g co co a b:=⟨h.os,h.tape,h.output,h.size,fun i hi _ _=>h.block i hi,fun _ _ h=>h⟩
theorem LStep.drew {g:Nat} {co c1:Option Addr} {a w:World} (h:LStep g co c1 a w):LStep g co c1 a w.drew:=h.trans (LStep.below (Below.refl _ _).drew)
theorem LStep.set {g:Nat} {co c1:Option Addr} {a w:World} (h:LStep g co c1 a w) {p:Addr} (hp:p.block=g∨blk c1=some p.block) (u:Value):LStep g co c1 a (w.setCell p u) :=
 h.trans ⟨rfl,rfl,rfl,by simp [World.setCell],fun i hi h1 h2=>Below.heap_setCell _ _ _ _ (fun e=>by rcases hp with hp | hp;exact h1 (by rw [e,hp]);exact h2 (by rw [e,hp])),fun _ _ h=>h⟩
theorem LStep.setMany {g:Nat} {co c1:Option Addr} {a w:World} (h:LStep g co c1 a w) (q o:Nat) (vs:List Value) (hp:q=g∨blk c1=some q):LStep g co c1 a (w.setCells q o vs) :=
 h.trans ⟨(below_setCells q vs o w 0 (Nat.zero_le _)).1.os,(below_setCells q vs o w 0 (Nat.zero_le _)).1.tape,(below_setCells q vs o w 0 (Nat.zero_le _)).1.output,Nat.le_of_eq (below_setCells q vs o w 0 (Nat.zero_le _)).2.symm,fun i hi h1 h2=>setCells_oth q vs o w i (fun e=>by rcases hp with hp | hp;exact h1 (by rw [e,hp]);exact h2 (by rw [e,hp])),fun _ _ h=>h⟩
section
variable {L:Nat} {w:World} {g:Nat} {b:Mt.PB} {so ao:Option Addr} {sc ac:Nat} {co:Option Addr} {cc:Nat} {c:List Mt.Ins} {d:Int}
theorem LAt.lt (h:LAt L w g b so ao sc ac co cc c d):g<w.heap.size∧(∀ k,blk co=some k→L≤k∧k<w.heap.size)∧(∀ k,blk so=some k→k<w.heap.size)∧(∀ k,blk ao=some k→k<w.heap.size) :=
 ⟨(Array.getElem?_eq_some_iff.1 h.cell).1,fun k hk=>World.ownsRow.lt h.code k (by rw [ownBlock_blk];exact hk),fun k hk=>(World.ownsRow.lt h.tree.seqs k (by rw [ownBlock_blk];exact hk)).2,fun k hk=>(World.ownsRow.lt h.tree.atoms k (by rw [ownBlock_blk];exact hk)).2⟩
theorem LAt.below {w':World} (h:LAt L w g b so ao sc ac co cc c d) (hb:Below w.heap.size w w'):LAt L w' g b so ao sc ac co cc c d :=
 ⟨by rw [hb.block _ h.lt.1];exact h.cell,h.lo,h.tree.below hb,row_keep h.code (fun q hq=>hb.block q (h.lt.2.1 q hq).2),h.ap⟩
theorem LAt.drew (h:LAt L w g b so ao sc ac co cc c d):LAt L w.drew g b so ao sc ac co cc c d:=⟨h.cell,h.lo,⟨row_keep h.tree.seqs (fun _ _=>rfl),row_keep h.tree.atoms (fun _ _=>rfl)⟩,row_keep h.code (fun _ _=>rfl),h.ap⟩
theorem LStep.low {c1:Option Addr} {w':World} (h:LAt L w g b so ao sc ac co cc c d) (hs:LStep g co c1 w w') (hL:L≤w.heap.size):Below L w w' :=
 ⟨hs.os,hs.tape,hs.output,hs.size,fun k hk=>hs.block k (by omega) (fun e=>by have:=h.lo;omega) (fun e=>by have:=(h.lt.2.1 k e).1;omega)⟩
theorem LAt.cells (h:LAt L w g b so ao sc ac co cc c d):w.cell? ⟨g,0,none⟩=some (.slice so b.seqs.length sc)∧w.cell? ⟨g,1,none⟩=some (.slice ao b.atoms.length ac)∧w.cell? ⟨g,2,none⟩=some (.slice co c.length cc)∧w.cell? ⟨g,3,none⟩=some (.int .i64 d)∧(∀ k,w.frozen? ⟨g,k,none⟩=false):=by
 have hb:=cell_block h.cell
 exact ⟨hb.1 0,hb.1 1,hb.1 2,hb.1 3,hb.2⟩
theorem LAt.form (h:LAt L w g b so ao sc ac co cc c d) (hn:0<c.length):∃ gc,co=some ⟨gc,0,none⟩∧gc≠g∧gc<w.heap.size∧c.length≤cc:=by
 obtain ⟨gs,cap,hv,_,hlt⟩:=World.ownsRow.form h.code hn
 simp only [Value.slice.injEq] at hv
 obtain ⟨rfl,_,rfl⟩:=hv
 rcases h.code.2 with ⟨e,_⟩ | ⟨g',cap',cur,hv,_,_,hc,_⟩
 ·simp at e
 ·simp only [Value.slice.injEq] at hv
  exact ⟨gs,rfl,fun e=>h.ap.1 (by rw [blk_some,e]),hlt,by omega⟩
theorem LAt.codeSet {gc:Nat} (h:LAt L w g b so ao sc ac (some ⟨gc,0,none⟩) cc c d) (i j:Nat) (vs:List Value) (a':Mt.Ins) (hi:i<c.length) (hj:j+vs.length≤4) (he:insCells a'=setMany (insCells (c.getD i Mt.ins0)) j vs) :
  LAt L (w.setCells gc (i*4+j) vs) g b so ao sc ac (some ⟨gc,0,none⟩) cc (c.set i a') d:=by
 have o:∀ k,k≠gc→(w.setCells gc (i*4+j) vs).heap[k]?=w.heap[k]?:=fun k hk=>setCells_oth gc vs _ w k hk
 have ne:gc≠g:=fun e=>h.ap.1 (by rw [blk_some,e])
 refine ⟨?_,h.lo,⟨row_keep h.tree.seqs (fun k hk=>o k (fun e=>(h.ap.2.2.2 gc rfl).1 (by rw [← e];exact hk))),row_keep h.tree.atoms (fun k hk=>o k (fun e=>(h.ap.2.2.2 gc rfl).2 (by rw [← e];exact hk)))⟩,?_,h.ap⟩
 ·rw [o g (Ne.symm ne),List.length_set];exact h.cell
 ·have r:=row_setCells vs (i*4+j) w _ h.code
  rw [flat_setMany insCells 4 insC_len c i j vs a' hi hj (fun a ha=>by rw [he,List.getD_eq_getElem?_getD,ha];rfl)] at r
  simpa using r
theorem LAt.loopsSet (h:LAt L w g b so ao sc ac co cc c d) (d':Int):LAt L (w.setCell ⟨g,3,none⟩ (.int .i64 d')) g b so ao sc ac co cc c d':=by
 have o:∀ k,k≠g→(w.setCell ⟨g,3,none⟩ (.int .i64 d')).heap[k]?=w.heap[k]?:=fun k hk=>Below.heap_setCell _ _ _ _ hk
 refine ⟨?_,h.lo,⟨row_keep h.tree.seqs (fun k hk=>o k (fun e=>h.ap.2.1 (by rw [← e];exact hk))),row_keep h.tree.atoms (fun k hk=>o k (fun e=>h.ap.2.2.1 (by rw [← e];exact hk)))⟩,row_keep h.code (fun k hk=>o k (fun e=>h.ap.1 (by rw [← e];exact hk))),h.ap⟩
 have:=Go.heap_setCell_same w g 3 _ _ (.int .i64 d') h.cell
 rw [this];rfl
theorem put_mem {w0 w1:World} {q cap:Nat} {x:Mt.Ins} (h:LAt L w g b so ao sc ac co cc c d) (h0:Below w.heap.size w w0) (hs0:w.heap.size<w0.heap.size) (hg:w0.grownBy w1 (blk co)) (hq:blk co=some q∨q=w0.heap.size)
  (hown:w1.ownsRow L 76 4 (.slice (some ⟨q,0,none⟩) (c.length+1) cap) (c.length+1) (c.flatMap insCells++insCells x)) :
  LAt L (w1.setCell ⟨g,2,none⟩ (.slice (some ⟨q,0,none⟩) (c.length+1) cap)) g b so ao sc ac (some ⟨q,0,none⟩) cap (c++[x]) d∧LStep g co (some ⟨q,0,none⟩) w (w1.setCell ⟨g,2,none⟩ (.slice (some ⟨q,0,none⟩) (c.length+1) cap)):=by
 obtain ⟨lg,lc,ls,la⟩:=h.lt
 have n:q≠g∧blk so≠some q∧blk ao≠some q:=by
  rcases hq with e | e
  ·exact ⟨fun x=>h.ap.1 (by rw [e,x]),(h.ap.2.2.2 q e).1,(h.ap.2.2.2 q e).2⟩
  ·subst e
   exact ⟨by omega,fun e=>by have:=ls _ e;omega,fun e=>by have:=la _ e;omega⟩
 obtain ⟨n1,n2,n3⟩:=n
 have kk:∀ k,k<w.heap.size→blk co≠some k→w1.heap[k]?=w.heap[k]?:=fun k hk hr=>by rw [hg.block k (by have:=h0.size;omega) (fun e=>hr e.symm),h0.block k hk]
 have o:∀ k,k≠g→(w1.setCell ⟨g,2,none⟩ (.slice (some ⟨q,0,none⟩) (c.length+1) cap)).heap[k]?=w1.heap[k]?:=fun k hk=>Below.heap_setCell _ _ _ _ hk
 refine ⟨⟨?_,h.lo,⟨?_,?_⟩,?_,fun e=>n1 (by simpa [blk] using e),h.ap.2.1,h.ap.2.2.1,fun k hk=>by simp [blk] at hk;subst hk;exact ⟨n2,n3⟩⟩,?_⟩
 ·have hc:=Go.heap_setCell_same w1 g 2 _ _ (.slice (some ⟨q,0,none⟩) (c.length+1) cap) (by rw [kk g lg h.ap.1];exact h.cell)
  rw [hc];simp
 ·exact row_keep h.tree.seqs (fun k hk=>by rw [o k (fun e=>h.ap.2.1 (by rw [← e];exact hk)),kk k (ls k hk) (fun e=>(h.ap.2.2.2 k e).1 hk)])
 ·exact row_keep h.tree.atoms (fun k hk=>by rw [o k (fun e=>h.ap.2.2.1 (by rw [← e];exact hk)),kk k (la k hk) (fun e=>(h.ap.2.2.2 k e).2 hk)])
 ·have e1:(c++[x]).length=c.length+1:=by simp
  have e2:(c++[x]).flatMap insCells=c.flatMap insCells++insCells x:=by simp
  rw [e1,e2]
  exact row_keep hown (fun k hk=>o k (by simp [blk] at hk;omega))
 ·refine ⟨hg.os.trans h0.os,hg.tape.trans h0.tape,hg.output.trans h0.output,?_,fun k hk h1 h2=>?_,fun k hk ho=>?_⟩
  ·have:=hg.size;have:=h0.size;simp [World.setCell];omega
  ·rw [o k h1,kk k hk h2]
  ·simp [blk] at ho
   subst ho
   rcases hq with hq | hq
   ·exact hq
   ·omega
end
theorem fill_ins (x:Mt.Ins) {i0:TypeInfo} (hz1:i0.size=4):Instr.fill (fun i=>some (i*i0.size,i0.size)) ((Array.range (1*i0.size)).map ((Value.agg (insA Mt.ins0)).cells[· % (Value.agg (insA Mt.ins0)).cells.size]!)) [(0,.agg (insA x))]=some (insA x):=by
 rw [hz1];unfold insA;kernel_rfl
theorem ins_after {L:Nat} {w w1:World} {g:Nat} {b:Mt.PB} {so ao:Option Addr} {sc ac:Nat} {co:Option Addr} {cc:Nat} {c:List Mt.Ins} {d:Int} {T E:Array Value} {ty te:TypeId} {n k:Nat} (h:LAt L w g b so ao sc ac co cc c d) (hg:(((w.alloc (.cells T ty)).drew).alloc (.cells E te)).grownBy w1 (Value.slice co n k).ownBlock) :
  w1.heap[w.heap.size]?=some (.cells T ty (0,0))∧(∀ o,w1.cell? ⟨g,o,none⟩=w.cell? ⟨g,o,none⟩)∧(∀ o,w1.frozen? ⟨g,o,none⟩=w.frozen? ⟨g,o,none⟩):=by
 rw [ownBlock_blk] at hg
 have hlg:g<w.heap.size:=h.lt.1
 have h1:w1.heap[w.heap.size]?=some (.cells T ty (0,0)):=by
  rw [hg.block _ (by simp;omega) (fun e=>by have:=(h.lt.2.1 _ e.symm).2;omega),heap_old _ _ _ (by simp)]
  exact heap_alloc_new _ _
 have h2:w1.heap[g]?=w.heap[g]?:=by
  rw [hg.block _ (by simp;omega) (fun e=>h.ap.1 e.symm),heap_old _ _ _ (by simp;omega)]
  exact heap_old _ _ _ hlg
 exact ⟨h1,fun o=>World.cell?_of_block (a:=⟨g,o,none⟩) h2,fun o=>World.frozen?_of_block (a:=⟨g,o,none⟩) h2⟩
theorem put_prog {L:Nat} {w:World} {g:Nat} {b:Mt.PB} {so ao:Option Addr} {sc ac:Nat} {co:Option Addr} {cc:Nat} {c:List Mt.Ins} {d:Int} (x:Mt.Ins) (h:LAt L w g b so ao sc ac co cc c d) (hn:c.length≤1000000) :
  Calls Tryd.prog 39 #[.pointer (some ⟨g,0,none⟩),.agg (insA x)] w fun e w'=>e=.returned (.int .i64 c.length)∧∃ q cap,LAt L w' g b so ao sc ac (some ⟨q,0,none⟩) cap (c++[x]) d∧LStep g co (some ⟨q,0,none⟩) w w':=by
 obtain ⟨i0,hi,hz0,hz1,hz2⟩:=info_parts Tryd.infoIn
 have HB:Hid (LAt L w g b so ao sc ac co cc c d):=h
 obtain ⟨c0,c1,c2,c3,hf⟩:=h.cells
 have f2:=hf 2
 have hg:g<w.heap.size:=h.lt.1
 have hL:L≤w.heap.size:=by have:=h.lo;omega
 have HO:Hid (w.ownsRow L 76 4 (.slice co c.length cc) c.length (c.flatMap insCells)):=h.code
 clear h hf
 go_enter Tryd.func39,Tryd.ntmps39
 go_upto_region 2 with fail
 go_cut [] (fun wx=>∃ q cap,LAt L wx g b so ao sc ac (some ⟨q,0,none⟩) cap (c++[x]) d∧LStep g co (some ⟨q,0,none⟩) w wx)
 case first =>
  have hcr:∀ z:World,z.heap[w.heap.size]?=some (.cells (insA x) 76 (0,0))→z.rangeAt w.heap.size 0 (insA x).toList:=fun z hz=>rangeAt_blk hz
  have S0:(w.alloc (.cells (insA x) 76)).heap[w.heap.size]?=some (.cells (insA x) 76 (0,0)):=heap_alloc_new _ _
  have C2:(w.alloc (.cells (insA x) 76)).cell? ⟨g,2,none⟩=some (.slice co c.length cc):=by rw [World.cell?_of_block (a:=⟨g,2,none⟩) (heap_old w _ g hg)];exact c2
  refine wp_region_held_drew (S:=fun z:World=>z.heap[w.heap.size]?=some (.cells (insA x) 76 (0,0))) (by kernel_rfl) S0 (fun hH=>?_)
  refine takeAt 0 11 (.pointer (some ⟨g,0,none⟩)) rfl rfl (by kernel_rfl) (by kernel_rfl) (by kernel_rfl) (fun _ _ _ h=>h) (Or.inl ⟨by rfl,fun z hz=>by clear hH hz hcr S0;go_simp⟩) (by assumption) ?_
  simp only [Act.put,List.setIfInBounds_toArray,List.set_cons_zero,List.set_cons_succ]
  refine takeAt 1 12 (.pointer (some ⟨g,0,none⟩)) rfl rfl (by kernel_rfl) (by kernel_rfl) (by kernel_rfl) (fun _ _ _ h=>h) (Or.inl ⟨by rfl,fun z hz=>by clear hH hz hcr S0;go_simp⟩) (by assumption) ?_
  simp only [Act.put,List.setIfInBounds_toArray,List.set_cons_zero,List.set_cons_succ]
  refine takeAt 2 13 (.pointer (some ⟨g,0,none⟩)) rfl rfl (by kernel_rfl) (by kernel_rfl) (by kernel_rfl) (fun _ _ _ h=>h) (Or.inl ⟨by rfl,fun z hz=>by clear hH hz hcr S0;go_simp⟩) (by assumption) ?_
  simp only [Act.put,List.setIfInBounds_toArray,List.set_cons_zero,List.set_cons_succ]
  refine takeAt 3 14 (.pointer (some ⟨g,2,none⟩)) rfl rfl (by kernel_rfl) (by kernel_rfl) (by kernel_rfl) (fun _ _ _ h=>h) (Or.inl ⟨by rfl,fun z hz=>by clear hH hz hcr S0;go_simp⟩) (by assumption) ?_
  simp only [Act.put,List.setIfInBounds_toArray,List.set_cons_zero,List.set_cons_succ]
  refine takeAt 5 16 (.agg (insA x)) rfl rfl (by kernel_rfl) (by kernel_rfl) (by kernel_rfl) (fun _ _ _ h=>h) (yieldsIf_load_mid (by rfl) _ _ rfl _ _ rfl _ _ hcr Tryd.underlying76 rfl (by rw [Tryd.sizeIn];rfl)) (by assumption) ?_
  simp only [Act.put,List.setIfInBounds_toArray,List.set_cons_zero,List.set_cons_succ]
  have S1:((w.alloc (.cells (insA x) 76)).drew.alloc (.cells (insA x) 76)).heap[w.heap.size]?=some (.cells (insA x) 76 (0,0)) :=
   (heap_old _ _ _ (by simp)).trans S0
  have hsz:(w.alloc (.cells (insA x) 76)).drew.heap.size=w.heap.size+1:=by simp
  have hnw:((w.alloc (.cells (insA x) 76)).drew.alloc (.cells (insA x) 76)).heap[w.heap.size+1]?=some (.cells (insA x) 76 (0,0)):=by
   rw [← hsz];exact heap_alloc_new _ _
  refine wpAnyH_ready (rs:=[4,6]) (by kernel_rfl) (by simp) ?_
  refine AllReadyH.cons rfl (fun K hK=>?_) (AllReadyH.cons rfl (fun K hK=>?_) AllReadyH.nil)
  all_goals
   first
   | (
     refine step_build1 rfl 38 76 (.tmp 16) rfl (insA x) i0 _ (.agg (insA x)) Tryd.underlying38 hi hz0 (by rw [hz1];decide) (by rw [hz1];decide) (by rfl) (fill_ins _ hz1) ?_
     refine hK.out _ _ S1 (fun hH2=>?_)
     clear hK K
     simp only [Act.put,List.setIfInBounds_toArray,List.set_cons_zero,List.set_cons_succ]
     refine wpAnyH_ready (rs:=[4]) (by kernel_rfl) (by simp) ?_
     refine AllReadyH.cons rfl (fun K hK=>?_) AllReadyH.nil
     try clear hH
     try clear hcr
     go_simp
     refine hK.out _ _ S1 (fun hH4=>?_)
     clear hK K
     )
   | (
     try clear hH
     try clear hcr
     go_simp
     refine hK.out _ _ S0 (fun hH4=>?_)
     clear hK K
     refine wpAnyH_ready (rs:=[6]) (by kernel_rfl) (by simp) ?_
     refine AllReadyH.cons rfl (fun K hK=>?_) AllReadyH.nil
     refine step_build1 rfl 38 76 (.tmp 16) rfl (insA x) i0 _ (.agg (insA x)) Tryd.underlying38 hi hz0 (by rw [hz1];decide) (by rw [hz1];decide) (by rfl) (fill_ins _ hz1) ?_
     refine hK.out _ _ S1 (fun hH2=>?_)
     clear hK K
     simp only [Act.put,List.setIfInBounds_toArray,List.set_cons_zero,List.set_cons_succ,hsz]
     )
  all_goals
   refine wpAnyH_ready (rs:=[7]) (by kernel_rfl) (by simp) ?_
   refine AllReadyH.cons rfl (fun K hK=>?_) AllReadyH.nil
   refine step_append_lies _ rfl (.tmp 15) (.tmp 17) 38 rfl L 76 i0 _ 4 40 Tryd.underlying38 hi hz0 hz1 hz2 rfl (by decide) (.slice co c.length cc) c.length (c.flatMap insCells) (by rfl) (World.ownsRow.alloc (w:=(w.alloc (.cells (insA x) 76)).drew) (HO.out.alloc _) _) ⟨w.heap.size+1,0,none⟩ 1 1 (insCells x) (by rfl) (by rfl) (World.news_of_block (cs:=(insA x)) hnw) (by intro u hu;simp [insCells] at hu;rcases hu with h | h | h | h <;> subst h <;> rfl) (by decide) (by unfold maxLen;omega) (by omega) (by simp;omega) (w.heap.size+2) (by simp) ?_
   intro q cap w1 hown hgrow hq hqlt
   obtain ⟨A1,A2,A3⟩:=ins_after HB.out hgrow
   refine hK.out _ _ A1 (fun hH3=>?_)
   clear hK K
   have d1:=(A2 2).trans c2
   have e1:=(A3 2).trans f2
   have HM:Hid (LAt L (w1.setCell ⟨g,2,none⟩ (.slice (some ⟨q,0,none⟩) (c.length+1) cap)) g b so ao sc ac (some ⟨q,0,none⟩) cap (c++[x]) d∧LStep g co (some ⟨q,0,none⟩) w (w1.setCell ⟨g,2,none⟩ (.slice (some ⟨q,0,none⟩) (c.length+1) cap))) :=
    put_mem HB.out (w0:=(w.alloc (.cells (insA x) 76)).drew.alloc (.cells (insA x) 76)) ((((Below.refl _ _).alloc (Nat.le_refl _) _).drew).alloc (by simp) _) (by simp;omega) (by rw [ownBlock_blk] at hgrow;exact hgrow) (by rw [ownBlock_blk] at hq;simpa using hq) hown
   have SZ:w.heap.size<w1.heap.size:=(Array.getElem?_eq_some_iff.1 A1).1
   have S4:(w1.setCell ⟨g,2,none⟩ (.slice (some ⟨q,0,none⟩) (c.length+1) cap)).heap[w.heap.size]?=some (.cells (insA x) 76 (0,0)) :=
    (Below.heap_setCell _ _ _ _ (by show w.heap.size≠g;omega)).trans A1
   clear A2 A3 hgrow hown hq S0 S1
   simp only [Act.put,List.setIfInBounds_toArray,List.set_cons_zero,List.set_cons_succ]
   refine takeAt 8 19 (.pointer (some ⟨g,0,none⟩)) rfl rfl (by kernel_rfl) (by kernel_rfl) (by kernel_rfl) (fun _ _ _ h=>h) (Or.inl ⟨by rfl,fun z hz=>by clear hH3 hz S4;go_simp⟩) (by assumption) ?_
   simp only [Act.put,List.setIfInBounds_toArray,List.set_cons_zero,List.set_cons_succ]
   refine takeAt 9 20 (.pointer (some ⟨g,2,none⟩)) rfl rfl (by kernel_rfl) (by kernel_rfl) (by kernel_rfl) (fun _ _ _ h=>h) (Or.inl ⟨by rfl,fun z hz=>by clear hH3 hz S4;go_simp⟩) (by assumption) ?_
   simp only [Act.put,List.setIfInBounds_toArray,List.set_cons_zero,List.set_cons_succ]
   refine wpAnyH_ready (rs:=[10]) (by kernel_rfl) (by simp) ?_
   refine AllReadyH.cons rfl (fun K hK=>?_) AllReadyH.nil
   go_simp
   refine hK.out _ _ S4 (fun hH4=>?_)
   clear hK K
   refine wpAnyH_done (by kernel_rfl) ?_ _
   go_wp2_with fail
   go_meet
   case rel=>exact ⟨q,cap,HM.out.1,HM.out.2⟩
 case rest =>
  obtain ⟨q,cap,hP,hSt⟩:=hcut
  have HP:Hid (LAt L wc g b so ao sc ac (some ⟨q,0,none⟩) cap (c++[x]) d):=hP
  have HSt:Hid (LStep g co (some ⟨q,0,none⟩) w wc):=hSt
  clear hP hSt
  go_wp2_with fail
  go_ret
  exact ⟨rfl,q,cap,HP.out,HSt.out⟩
def LDone (L:Nat) (g:Nat) (b:Mt.PB) (so ao:Option Addr) (sc ac:Nat) (d:Int) (co:Option Addr) (w:World) (c':List Mt.Ins) (w':World):Prop :=
 ∃ co' cc',LAt L w' g b so ao sc ac co' cc' c' d∧LStep g co co' w w'
theorem endSub_prog {L:Nat} {w:World} {g:Nat} {b:Mt.PB} {so ao:Option Addr} {sc ac:Nat} {co:Option Addr} {cc:Nat} {c:List Mt.Ins} {d:Int} (k:Nat) (h:LAt L w g b so ao sc ac co cc c d) (hn:c.length≤1000000) (hk:k<c.length) :
  Calls Tryd.prog 91 #[.pointer (some ⟨g,0,none⟩),.int .i64 (k:Int)] w fun e w'=>e=.returned (.tuple #[])∧LDone L g b so ao sc ac d co w (c.set k { c.getD k Mt.ins0 with y:=c.length+1 }++[⟨12,0,0,[]⟩]) w':=by
 have HP:Hid (Calls Tryd.prog 39 #[.pointer (some ⟨g,0,none⟩),.agg (insA ⟨12,0,0,[]⟩)] w _):=put_prog (x:=⟨12,0,0,[]⟩) h hn
 clear h
 unfold insA at HP
 go_enter Tryd.func91,Tryd.ntmps91
 go_wp2_with fail
 refine HP.out.mono ?_
 rintro e w1 ⟨rfl,q,cap,hA,hS⟩
 obtain ⟨c0,c1,c2,c3,hf⟩:=hA.cells
 obtain ⟨q',eq,hqg,hqs,hcap⟩:=hA.form (by simp)
 simp only [Option.some.injEq,Addr.mk.injEq,and_true,true_and] at eq
 subst eq
 have hl:(c++[(⟨12,0,0,[]⟩:Mt.Ins)]).length=c.length+1:=by simp
 rw [hl] at c2 hcap
 have cy:w1.cell? ⟨q,k*4+2,none⟩=some (.int .i64 (c.getD k Mt.ins0).y):=by
  rw [World.ownsRow.cellAt hA.code _ (by rw [hl];omega),ins_flat_at _ k 2 (by rw [hl];omega) (by omega),List.getD_eq_getElem?_getD,List.getElem?_append_left hk,← List.getD_eq_getElem?_getD];rfl
 have fy:w1.frozen? ⟨q,k*4+2,none⟩=false:=World.ownsRow.frozenAt hA.code _
 have HA:Hid (LAt L w1 g b so ao sc ac (some ⟨q,0,none⟩) cap (c++[⟨12,0,0,[]⟩]) d):=hA
 have HS:Hid (LStep g co (some ⟨q,0,none⟩) w w1):=hS
 have hg1:g<w1.heap.size:=hA.lt.1
 clear hA hS hf HP c0 c1 c3
 have hk':(k:Int)<(c.length:Int)+1:=by omega
 have HE:Hid ((c++[(⟨12,0,0,[]⟩:Mt.Ins)]).set k { c.getD k Mt.ins0 with y:=c.length+1 }=c.set k { c.getD k Mt.ins0 with y:=c.length+1 }++[⟨12,0,0,[]⟩]):=by
  show _=_;rw [List.set_append_left _ _ hk]
 have HD:Hid ((c++[(⟨12,0,0,[]⟩:Mt.Ins)]).getD k Mt.ins0=c.getD k Mt.ins0):=by
  show _=_;rw [List.getD_eq_getElem?_getD,List.getElem?_append_left hk,← List.getD_eq_getElem?_getD]
 go_wp2_with fail
 go_region
 go_wp2_with fail
 go_returns
 have M:=HA.out.codeSet (gc:=q) k 2 [.int .i64 (c.length+1)] { c.getD k Mt.ins0 with y:=c.length+1 } (by rw [hl];omega) (by simp) (by rw [HD.out];rfl)
 rw [HE.out] at M
 exact ⟨rfl,_,_,M.drew,(HS.out.set (p:=⟨q,k*4+2,none⟩) (Or.inr rfl) _).drew⟩
theorem code_there {L:Nat} {w:World} {g:Nat} {b:Mt.PB} {so ao:Option Addr} {sc ac:Nat} {q:Nat} {cc:Nat} {c:List Mt.Ins} {d:Int} (h:LAt L w g b so ao sc ac (some ⟨q,0,none⟩) cc c d) (k:Nat) (hk:k<c.length):w.there q (k*4) 4:=there_row h.code _ _ (by omega)
theorem aim_prog {L:Nat} {w:World} {g:Nat} {b:Mt.PB} {so ao:Option Addr} {sc ac:Nat} {co:Option Addr} {cc:Nat} {c:List Mt.Ins} {d:Int} (k:Nat) (m:Int) (h:LAt L w g b so ao sc ac co cc c d) (hn:c.length≤1000000) (hk:k<c.length) :
  Calls Tryd.prog 100 #[.pointer (some ⟨g,0,none⟩),.int .i64 (k:Int),.int .i64 m] w fun e w'=>e=.returned (.tuple #[])∧LAt L w' g b so ao sc ac co cc (c.set k (Mt.spl (k+1) c.length (decide (m=2)))) d∧LStep g co co w w':=by
 obtain ⟨q,eq,hqg,hqs,hcap⟩:=h.form (by omega)
 subst eq
 obtain ⟨c0,c1,c2,c3,hf⟩:=h.cells
 have HA:Hid (LAt L w g b so ao sc ac (some ⟨q,0,none⟩) cc c d):=h
 have HT:=code_there h k hk
 have hk':(k:Int)<(c.length:Int):=by omega
 clear h hf c0 c1 c3
 have HS:Hid (∀ vs a',insCells a'=setMany (insCells (c.getD k Mt.ins0)) 0 vs→vs.length=4→LAt L (w.setCells q (k*4) vs) g b so ao sc ac (some ⟨q,0,none⟩) cc (c.set k a') d∧LStep g (some ⟨q,0,none⟩) (some ⟨q,0,none⟩) w (w.setCells q (k*4) vs)):=fun vs a' h1 h2 =>
  ⟨HA.out.codeSet k 0 vs a' hk (by omega) h1,(LStep.refl _ _ _).setMany _ _ _ (Or.inr rfl)⟩
 cases hm:(m==2)
 ·have e:decide (m=2)=false:=by simpa using hm
  rw [e]
  go_enter Tryd.func100,Tryd.ntmps100
  go_wp2_with (refine wpList_store_mid (by rfl) 76 (.tmp 34) (.tmp 33) (by rfl) q (k*4) (insA ⟨2,k+1,c.length,[]⟩) (by rfl) (by rfl) HT (by rw [Tryd.sizeIn];rfl) (insA_all _) ?_)
  go_returns
  exact ⟨rfl,HS.out (insA ⟨2,k+1,c.length,[]⟩).toList (Mt.spl (k+1) c.length false) rfl rfl⟩
 ·have e:decide (m=2)=true:=by simpa using hm
  rw [e]
  go_enter Tryd.func100,Tryd.ntmps100
  go_wp2_with (refine wpList_store_mid (by rfl) 76 (.tmp 25) (.tmp 24) (by rfl) q (k*4) (insA ⟨2,c.length,k+1,[]⟩) (by rfl) (by rfl) HT (by rw [Tryd.sizeIn];rfl) (insA_all _) ?_)
  go_returns
  exact ⟨rfl,HS.out (insA ⟨2,c.length,k+1,[]⟩).toList (Mt.spl (k+1) c.length true) rfl rfl⟩
end Go.Proofs.YtebpgfodelggoaaDoor
