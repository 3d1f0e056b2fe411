import Derived.Test.YtebpgfodelggoabC33
import Derived.Deep.LoopGhost
import Derived.Test.YtebpgfodelggoabC10
import Derived.Test.YtebpgfodelggoabC04
set_option linter.unusedVariables false
set_option linter.unusedSimpArgs false
set_option maxRecDepth 100000
set_option maxHeartbeats 4000000
namespace Go.Proofs.Ytebpgfodelggoab
open Go.RowKit
theorem head_cases {b:Mt.PB} {f:Mt.Fs} {a n:Int} (h:Mt.standsF b 0 0 f a n) (hw:f.wf) (hok:f.ok) :
  (a=-1∧f.both.1.len=0) ∨
  ∃ (k:Nat) (s:Mt.Fs) (r:Option Mt.Tok) (x:Mt.Re),a=k∧k<b.atoms.length∧(b.aAt k).rep=Mt.rp r∧Mt.repK r∧Mt.repsOk r∧f.both.1.len=(Mt.part r x).len+s.both.1.len∧Mt.standsF b 0 0 s (b.aAt k).next n∧s.wf∧s.ok∧s.flat.length<f.flat.length ∧
   (((b.aAt k).body=-1∧x.len=1)∨∃ (t:Mt.Tok) (i:Mt.Fs) (q:Nat),x=Mt.grpRe t i.re∧t.kind=6∧(0≤t.how∧t.how≤4)∧i.wf∧i.ok∧i.flat.length<f.flat.length∧(b.aAt k).tok=Mt.ptok t∧(b.aAt k).body=q∧q<b.seqs.length∧Mt.standsF b 0 0 i (b.sAt q).first (b.sAt q).next):=by
 cases f with
 | nil=>exact Or.inl ⟨h.1,rfl⟩
 | bar t r=>exact Or.inl ⟨h.1,rfl⟩
 | leaf t r s =>
  obtain ⟨k,h1,_,h2,h3,h4,h5,h6⟩:=h
  exact Or.inr ⟨k,s,r,Mt.leafRe t,h1,h2,h4,hw.2.1,hok.1,rfl,h6,hw.2.2,hok.2,by simp [Mt.Fs.flat];omega,Or.inl ⟨h5,Mt.leafRe_len t⟩⟩
 | grp t i c r s =>
  obtain ⟨k,h1,_,h2,h3,h4,h5,⟨q,g1,_,g2,g3⟩,h6⟩:=h
  obtain ⟨w1,w2,w3,w4,w5⟩:=hw
  obtain ⟨o1,o2,o3,o4⟩:=hok
  exact Or.inr ⟨k,s,r,Mt.grpRe t i.re,h1,h2,h4,w4,o1,rfl,h6,w5,o4,by simp [Mt.Fs.flat];omega,Or.inr ⟨t,i,q,rfl,w1,o2,w3,o3,by simp [Mt.Fs.flat];omega,h3,g1,g2,g3⟩⟩
theorem lim_step (S X Y T:Nat) (h:Mt.lim (S+(X+Y))=T):Mt.lim (Mt.lim (S+Mt.lim X)+Y)=T:=by unfold Mt.lim at *;omega
theorem rep_range {L:Nat} {w:World} {b:Mt.PB} {so:Option Addr} {sc ac:Nat} {ga:Nat} (h:TreeAt L w b so (some ⟨ga,0,none⟩) sc ac) (k:Nat) (hk:k<b.atoms.length):w.rangeAt ga (k*20+9) (ptL (b.aAt k).rep):=by
 obtain ⟨ga',e,_,_,hc⟩:=h.atomRow k hk
 simp only [Option.some.injEq,Addr.mk.injEq,and_true,true_and] at e
 subst e
 intro j v hv
 by_cases hj:j<8
 ·rw [show k*20+9+j=k*20+(9+j) by omega,hc (9+j) (by omega)]
  unfold paC
  rw [List.getElem?_append_right (by simp [ptL];omega)]
  rw [show 9+j-(ptL (b.aAt k).tok).length=j+1 by simp [ptL];omega,List.getElem?_cons_succ,List.getElem?_append_left (by simp [ptL];omega)]
  exact hv
 ·rw [List.getElem?_eq_none (by simp [ptL];omega)] at hv;simp at hv
theorem sequenceSize_any {b:Mt.PB} {so ao:Option Addr} {sc ac N:Nat} (hA:AltC b so ao sc ac N) (hna:b.atoms.length≤1000) (hns:b.seqs.length≤1000) (f:Mt.Fs) (hw:f.wf) (hok:f.ok) (hl:f.flat.length≤N) (s:Nat) (hs:s<b.seqs.length) (hst:Mt.standsF b 0 0 f (b.sAt s).first (b.sAt s).next) {L:Nat} {w:World} (hT:TreeAt L w b so ao sc ac) :
  Calls Try.prog 86 #[treeV b so ao sc ac,.int .i64 (s:Int)] w fun e w'=>e=.returned (.int .i64 (Mt.lim f.both.1.len:Nat))∧Below w.heap.size w w':=by
 obtain ⟨gs,rfl,hgs,hsc,cs0,cs1⟩:=hT.seqCell s hs
 have HT:Hid (TreeAt L w b (some ⟨gs,0,none⟩) ao sc ac):=hT
 have HA:Hid (AltC b (some ⟨gs,0,none⟩) ao sc ac N):=hA
 have HST:Hid (Mt.standsF b 0 0 f (b.sAt s).first (b.sAt s).next∧f.wf∧f.ok):=⟨hst,hw,hok⟩
 have HL:Hid (f.flat.length≤N):=hl
 have hs':(s:Int)<(b.seqs.length:Int):=by omega
 have HW0:Hid (Below w.heap.size w (w.alloc (.cells (treeA b (some ⟨gs,0,none⟩) ao sc ac) 80))):=(Below.refl _ _).alloc (Nat.le_refl _) _
 have HE0:treeA b (some ⟨gs,0,none⟩) ao sc ac=#[.slice (some ⟨gs,0,none⟩) b.seqs.length sc,.slice ao b.atoms.length ac]:=rfl
 generalize hn:(b.sAt s).next=n at *
 generalize hfi:(b.sAt s).first=a0 at *
 clear hT hA hst hw hok hn hfi
 unfold treeV
 go_enter Try.func86,Try.ntmps86
 go_wp2_with fail
 go_loopg [5,6] f.flat.length (fun gn sz at' wr=>∃ (g:Mt.Fs) (S:Nat) (a:Int),sz=.int .i64 (S:Int)∧at'=.int .i64 a∧S≤301∧g.flat.length=gn∧gn≤f.flat.length∧Mt.standsF b 0 0 g a n∧g.wf∧g.ok∧Mt.lim (S+g.both.1.len)=Mt.lim f.both.1.len∧wr.heap[w.heap.size]?=some (.cells (treeA b (some ⟨gs,0,none⟩) ao sc ac) 80 (0,0))∧Below w.heap.size w wr)
 case atStart=>exact ⟨f,0,a0,rfl,rfl,by omega,rfl,Nat.le_refl _,HST.out.1,HST.out.2.1,HST.out.2.2,by rw [Nat.zero_add],by exact heap_b1 _ _,HW0.out⟩
 case round =>
  obtain ⟨g,S,a,rfl,rfl,hS,hgn,hgf,hgs2,hgw,hgo,hlim,hblk,hBl⟩:=hrel
  have bx0:=(cell_block hblk).1 0
  have bx1:=(cell_block hblk).1 1
  rw [HE0] at bx0 bx1
  simp only [List.getElem?_toArray,List.getElem?_cons_succ,List.getElem?_cons_zero] at bx0 bx1
  have hsz:w.heap.size<wr.heap.size:=(Array.getElem?_eq_some_iff.1 hblk).1
  have HBK:Hid (wr.heap[w.heap.size]?=some (.cells (treeA b (some ⟨gs,0,none⟩) ao sc ac) 80 (0,0))∧Below w.heap.size w wr):=⟨hblk,hBl⟩
  have HTr:Hid (TreeAt L wr b (some ⟨gs,0,none⟩) ao sc ac):=HT.out.below hBl
  have hc:=head_cases hgs2 hgw hgo
  have HLM:Hid (Mt.lim (S+g.both.1.len)=Mt.lim f.both.1.len):=hlim
  clear hgs2 hgw hgo hlim hblk hBl
  rcases hc with ⟨ha,h0⟩ | ⟨k,sr,r,x,ha,hk,hrep,hrk,hro,hlen,hst',hsw,hso,hsl,hx⟩
  ·have HF:Hid (Mt.lim f.both.1.len=S):=by show _=_;rw [← HLM.out,h0];unfold Mt.lim;omega
   subst ha
   clear h0 HLM
   go_wp2_with fail
   go_returns
   exact ⟨by rw [HF.out];rfl,HBK.out.2⟩
  ·subst ha
   obtain ⟨ga,hao,hga,hac,hcell⟩:=HTr.out.atomRow k hk
   subst hao
   have c19:=hcell 19 (by decide)
   change wr.cell? ⟨ga,k*20+19,none⟩=some (.int .i64 (b.aAt k).next) at c19
   have HRR:Hid (∀ W:World,Below wr.heap.size wr W→W.rangeAt ga (k*20+9) (ptL (Mt.rp r))):=fun W hW=>by rw [← hrep];exact rep_range (HTr.out.below hW) k hk
   have HRS:Hid (∀ (o:Nat) (z:World),o≤301→Calls Try.prog 101 #[.int .i64 (o:Int),ptV (Mt.rp r)] z fun e w'=>e=.returned (.int .i64 (Mt.lim (Mt.partLen o r):Nat))∧Below z.heap.size z w'):=fun o z ho=>repeatedSize_any o r z ho hro hrk
   have HAT:Hid (Calls Try.prog 100 #[treeV b (some ⟨gs,0,none⟩) (some ⟨ga,0,none⟩) sc ac,.int .i64 (k:Int)] wr fun e w'=>e=.returned (.int .i64 (Mt.lim x.len:Nat))∧Below wr.heap.size wr w'):=by
    rcases hx with ⟨hb,h1⟩ | ⟨t,i,q,h1,h2,h3,h4,h5,h6,h7,h8,h9,h10⟩
    ·have e1:Mt.lim x.len=1:=by rw [h1];rfl
     rw [e1];exact atomSize_leaf HTr.out k hk hna hb
    ·rw [h1];exact atomSize_grp HA.out HTr.out k hk hna hns t i h2 h3 h4 h5 (by have:=HL.out;omega) h7 q h8 h9 h10
   have HN:Hid (Mt.lim (Mt.lim (S+Mt.lim (Mt.partLen (Mt.lim x.len) r))+sr.both.1.len)=Mt.lim f.both.1.len):=by
    show _=_
    rw [Mt.lim_part _ _ hro,← Mt.part_len x r hro]
    exact lim_step S _ _ _ (by rw [← HLM.out,hlen])
   have HSR:Hid (Mt.standsF b 0 0 sr (b.aAt k).next n∧sr.wf∧sr.ok):=⟨hst',hsw,hso⟩
   have hk':(k:Int)<(b.atoms.length:Int):=by omega
   have hxl:=Mt.lim_le x.len
   have hpl:=Mt.lim_le (Mt.partLen (Mt.lim x.len) r)
   have hkb:((k:Int) != -1)=true:=by simp
   clear hcell hx hlen hst' hsw hso hro hrk hrep HLM
   generalize hNx:(b.aAt k).next=nx at *
   clear hNx
   generalize Mt.lim x.len=X at *
   unfold treeV at HAT
   go_wp2_with fail
   refine HAT.out.mono ?_
   rintro e w2 ⟨rfl,b2⟩
   have hs2:wr.heap.size≤w2.heap.size:=b2.size
   have bk2:w2.heap[w.heap.size]?=some (.cells (treeA b (some ⟨gs,0,none⟩) (some ⟨ga,0,none⟩) sc ac) 80 (0,0)):=(b2.block _ hsz).trans HBK.out.1
   have by0:=(cell_block bk2).1 0
   have by1:=(cell_block bk2).1 1
   rw [HE0] at by0 by1
   simp only [List.getElem?_toArray,List.getElem?_cons_succ,List.getElem?_cons_zero] at by0 by1
   have HR2:Hid (w2.rangeAt ga (k*20+9) (ptL (Mt.rp r))):=HRR.out w2 b2
   have HB2:Hid (Below w.heap.size w w2∧Below wr.heap.size wr w2∧w2.heap[w.heap.size]?=some (.cells (treeA b (some ⟨gs,0,none⟩) (some ⟨ga,0,none⟩) sc ac) 80 (0,0))):=⟨HBK.out.2.trans (b2.mono (by omega)),b2,bk2⟩
   have d19:=(b2.cell (p:=⟨ga,k*20+19,none⟩) hga).trans c19
   clear b2 bk2
   go_wp2_with (refine wpList_load_mid (by rfl) 121 (.tmp 31) (by rfl) ga (k*20+9) (by rfl) (ptL (Mt.rp r)) _ HR2.out Try.underlying121 rfl (by rw [Try.sizePT];rfl) ?_)
   refine (HRS.out X w2 hxl).mono ?_
   rintro e w3 ⟨rfl,b3⟩
   have hs3:w2.heap.size≤w3.heap.size:=b3.size
   have bk3:w3.heap[w.heap.size]?=some (.cells (treeA b (some ⟨gs,0,none⟩) (some ⟨ga,0,none⟩) sc ac) 80 (0,0)):=(b3.block _ (by omega)).trans HB2.out.2.2
   have bz0:=(cell_block bk3).1 0
   have bz1:=(cell_block bk3).1 1
   rw [HE0] at bz0 bz1
   simp only [List.getElem?_toArray,List.getElem?_cons_succ,List.getElem?_cons_zero] at bz0 bz1
   have e19:=(b3.cell (p:=⟨ga,k*20+19,none⟩) (by show ga<w2.heap.size;omega)).trans d19
   have HB3:Hid (Below w.heap.size w w3∧w3.heap[w.heap.size]?=some (.cells (treeA b (some ⟨gs,0,none⟩) (some ⟨ga,0,none⟩) sc ac) 80 (0,0))):=⟨HB2.out.1.trans (b3.mono (by omega)),bk3⟩
   clear b3 bk3
   generalize Mt.lim (Mt.partLen X r)=Y at *
   have hSl:=Mt.lim_le (S+Y)
   go_wp2_with (go_at_call 64;refine (limited_int _ (S+Y) (by omega) _).mono ?_;rintro e w' ⟨rfl,rfl⟩)
   go_roundg sr.flat.length
   case measure=>omega
   case rel=>exact ⟨sr,Mt.lim (S+Y),nx,rfl,rfl,hSl,rfl,by omega,HSR.out.1,HSR.out.2.1,HSR.out.2.2,HN.out,HB3.out.2,HB3.out.1⟩
def restLen (r:Option Mt.Fs):Nat:=match r with
 | none=>0
 | some g=>2+g.re.len
theorem re_rest (f:Mt.Fs):f.re.len=f.both.1.len+restLen f.rs:=Mt.re_len f
theorem lim_alt (S X R T:Nat) (h:Mt.lim (S+(2+(X+R)))=T):Mt.lim (Mt.lim (S+2+Mt.lim X)+R)=T:=by unfold Mt.lim at *;omega
def standsR (b:Mt.PB) (r:Option Mt.Fs) (a:Int):Prop:=match r with
 | none=>a=-1
 | some g=>∃ k:Nat,a=k∧k<b.seqs.length∧Mt.standsF b 0 0 g (b.sAt k).first (b.sAt k).next∧g.wf∧g.ok
def lenR (r:Option Mt.Fs):Nat:=match r with
 | none=>0
 | some g=>g.flat.length+1
theorem standsR_of {b:Mt.PB} {f:Mt.Fs} {a n:Int} (h:Mt.standsF b 0 0 f a n) (hw:f.wf) (hok:f.ok):standsR b f.rs n∧lenR f.rs≤f.flat.length:=by
 rcases Mt.stands_rs f a n h with ⟨e,h1⟩ | ⟨r,k,e,h1,h2,h3⟩
 ·rw [e];exact ⟨h1,Nat.zero_le _⟩
 ·have:=Mt.rs_less f r e
  rw [e];exact ⟨⟨k,h1,h2,h3,this.2.1 hw,this.2.2 hok⟩,this.1⟩
theorem alternativesSize_any {b:Mt.PB} {so ao:Option Addr} {sc ac N:Nat} (hA:AltC b so ao sc ac N) (hna:b.atoms.length≤1000) (hns:b.seqs.length≤1000) (f:Mt.Fs) (hw:f.wf) (hok:f.ok) (hl:f.flat.length≤N) (s:Nat) (hs:s<b.seqs.length) (hst:Mt.standsF b 0 0 f (b.sAt s).first (b.sAt s).next) {L:Nat} {w:World} (hT:TreeAt L w b so ao sc ac) :
  Calls Try.prog 63 #[treeV b so ao sc ac,.int .i64 (s:Int)] w fun e w'=>e=.returned (.int .i64 (Mt.lim f.re.len:Nat))∧Below w.heap.size w w':=by
 have HSQ:Hid (∀ (g:Mt.Fs) (k:Nat) (W:World),g.wf→g.ok→g.flat.length≤N→k<b.seqs.length→Mt.standsF b 0 0 g (b.sAt k).first (b.sAt k).next→TreeAt L W b so ao sc ac→Calls Try.prog 86 #[treeV b so ao sc ac,.int .i64 (k:Int)] W fun e w'=>e=.returned (.int .i64 (Mt.lim g.both.1.len:Nat))∧Below W.heap.size W w'):=fun g k W h1 h2 h3 h4 h5 h6=>sequenceSize_any hA hna hns g h1 h2 h3 k h4 h5 h6
 obtain ⟨gs,rfl,hgs,hsc,cs0,cs1⟩:=hT.seqCell s hs
 have HW0:Hid (Below w.heap.size w (w.alloc (.cells (treeA b (some ⟨gs,0,none⟩) ao sc ac) 80))):=(Below.refl _ _).alloc (Nat.le_refl _) _
 have HT:Hid (TreeAt L w b (some ⟨gs,0,none⟩) ao sc ac):=hT
 have HC1:Hid (Calls Try.prog 86 #[treeV b (some ⟨gs,0,none⟩) ao sc ac,.int .i64 (s:Int)] (w.alloc (.cells (treeA b (some ⟨gs,0,none⟩) ao sc ac) 80)) _):=HSQ.out f s _ hw hok hl hs hst (hT.below HW0.out)
 have HSR:Hid (standsR b f.rs (b.sAt s).next∧lenR f.rs≤f.flat.length):=standsR_of hst hw hok
 have HRE:Hid (f.re.len=f.both.1.len+restLen f.rs):=re_rest f
 have HL:Hid (f.flat.length≤N):=hl
 have hs':(s:Int)<(b.seqs.length:Int):=by omega
 have HE0:treeA b (some ⟨gs,0,none⟩) ao sc ac=#[.slice (some ⟨gs,0,none⟩) b.seqs.length sc,.slice ao b.atoms.length ac]:=rfl
 have hX:=Mt.lim_le f.both.1.len
 have HLX:Hid (Mt.lim (Mt.lim f.both.1.len+restLen f.rs)=Mt.lim f.re.len):=by show _=_;rw [HRE.out];unfold Mt.lim;omega
 generalize hn:(b.sAt s).next=n at *
 clear hT hA hst hw hok hn hl
 generalize f.rs=rs0 at *
 generalize Mt.lim f.both.1.len=X at *
 generalize Mt.lim f.re.len=F at *
 unfold treeV
 unfold treeV treeA at HC1
 go_enter Try.func63,Try.ntmps63
 go_wp2_with fail
 refine HC1.out.mono ?_
 rintro e w1 ⟨rfl,b1⟩
 have hblk:w1.heap[w.heap.size]?=some (.cells (treeA b (some ⟨gs,0,none⟩) ao sc ac) 80 (0,0)):=(b1.block _ (by simp)).trans (heap_b1 _ _)
 have bx0:=(cell_block hblk).1 0
 have bx1:=(cell_block hblk).1 1
 rw [HE0] at bx0 bx1
 simp only [List.getElem?_toArray,List.getElem?_cons_succ,List.getElem?_cons_zero] at bx0 bx1
 have HB1:Hid (w1.heap[w.heap.size]?=some (.cells (treeA b (some ⟨gs,0,none⟩) ao sc ac) 80 (0,0))∧Below w.heap.size w w1):=⟨hblk,HW0.out.trans (b1.mono (by simp))⟩
 have d1:=(HB1.out.2.cell (p:=⟨gs,s*2+1,none⟩) hgs).trans cs1
 have hsz1:w.heap.size<w1.heap.size:=(Array.getElem?_eq_some_iff.1 hblk).1
 clear b1 hblk HC1
 go_wp2_with fail
 go_loopg [5,6] (lenR rs0) (fun gn sz at' wr=>∃ (r:Option Mt.Fs) (S:Nat) (a:Int),sz=.int .i64 (S:Int)∧at'=.int .i64 a∧S≤301∧lenR r=gn∧gn≤lenR rs0∧standsR b r a∧Mt.lim (S+restLen r)=F∧wr.heap[w.heap.size]?=some (.cells (treeA b (some ⟨gs,0,none⟩) ao sc ac) 80 (0,0))∧Below w.heap.size w wr)
 case atStart=>exact ⟨rs0,X,n,rfl,rfl,hX,rfl,Nat.le_refl _,HSR.out.1,HLX.out,HB1.out.1,HB1.out.2⟩
 case round =>
  obtain ⟨r,S,a,rfl,rfl,hS,hgn,hgf,hsr,hlim,hblk,hBl⟩:=hrel
  have bx0:=(cell_block hblk).1 0
  have bx1:=(cell_block hblk).1 1
  rw [HE0] at bx0 bx1
  simp only [List.getElem?_toArray,List.getElem?_cons_succ,List.getElem?_cons_zero] at bx0 bx1
  have hsz:w.heap.size<wr.heap.size:=(Array.getElem?_eq_some_iff.1 hblk).1
  have HBK:Hid (wr.heap[w.heap.size]?=some (.cells (treeA b (some ⟨gs,0,none⟩) ao sc ac) 80 (0,0))∧Below w.heap.size w wr):=⟨hblk,hBl⟩
  have HLM:Hid (Mt.lim (S+restLen r)=F):=hlim
  clear hlim hblk hBl
  cases r with
  | none =>
   have ha:a=-1:=hsr
   have HF:Hid (F=S):=by show _=_;rw [← HLM.out];show Mt.lim (S+0)=S;unfold Mt.lim;omega
   subst ha
   clear HLM hsr
   go_wp2_with fail
   go_returns
   exact ⟨by rw [HF.out];rfl,HBK.out.2⟩
  | some g =>
   obtain ⟨k,rfl,hk,hgst,hgw,hgo⟩:=hsr
   have hgl:g.flat.length+1=gk:=hgn
   have hsl:=HSR.out.2
   have HC2:Hid (Calls Try.prog 86 #[treeV b (some ⟨gs,0,none⟩) ao sc ac,.int .i64 (k:Int)] wr _):=HSQ.out g k wr hgw hgo (by have:=HL.out;omega) hk hgst (HT.out.below HBK.out.2)
   obtain ⟨gs',e',_,_,_,k1⟩:=(HT.out.below HBK.out.2).seqCell k hk
   simp only [Option.some.injEq,Addr.mk.injEq,and_true,true_and] at e'
   subst e'
   have HSG:=standsR_of hgst hgw hgo
   have HSG':Hid (standsR b g.rs (b.sAt k).next∧lenR g.rs≤g.flat.length):=HSG
   have HNL:Hid (Mt.lim (Mt.lim (S+2+Mt.lim g.both.1.len)+restLen g.rs)=F):=by
    show _=_
    apply lim_alt
    rw [← HLM.out];show Mt.lim _=Mt.lim (S+(2+g.re.len));rw [re_rest g]
   have hk':(k:Int)<(b.seqs.length:Int):=by omega
   have hkb:((k:Int) != -1)=true:=by simp
   have hxl:=Mt.lim_le g.both.1.len
   clear HSG hgst hgw hgo HLM hgn
   generalize hNx:(b.sAt k).next=nx at *
   clear hNx
   generalize Mt.lim g.both.1.len=Y at *
   unfold treeV at HC2
   go_wp2_with fail
   refine HC2.out.mono ?_
   rintro e w2 ⟨rfl,b2⟩
   have bk2:w2.heap[w.heap.size]?=some (.cells (treeA b (some ⟨gs,0,none⟩) ao sc ac) 80 (0,0)):=(b2.block _ hsz).trans HBK.out.1
   have by0:=(cell_block bk2).1 0
   have by1:=(cell_block bk2).1 1
   rw [HE0] at by0 by1
   simp only [List.getElem?_toArray,List.getElem?_cons_succ,List.getElem?_cons_zero] at by0 by1
   have d2:=(b2.cell (p:=⟨gs,k*2+1,none⟩) (by show gs<wr.heap.size;omega)).trans k1
   have HB2:Hid (w2.heap[w.heap.size]?=some (.cells (treeA b (some ⟨gs,0,none⟩) ao sc ac) 80 (0,0))∧Below w.heap.size w w2):=⟨bk2,HBK.out.2.trans (b2.mono (by omega))⟩
   have hsz2:w.heap.size<w2.heap.size:=(Array.getElem?_eq_some_iff.1 bk2).1
   clear b2 bk2
   have hSl:=Mt.lim_le (S+2+Y)
   go_wp2_with (go_at_call 64;refine (limited_int _ (S+2+Y) (by omega) _).mono ?_;rintro e w' ⟨rfl,rfl⟩)
   go_roundg (lenR g.rs)
   case measure=>have:=HSG'.out.2;omega
   case rel=>exact ⟨g.rs,Mt.lim (S+2+Y),nx,rfl,rfl,hSl,rfl,by have:=HSG'.out.2;omega,HSG'.out.1,HNL.out,HB2.out.1,HB2.out.2⟩
theorem altC_all {b:Mt.PB} {so ao:Option Addr} {sc ac:Nat} (hna:b.atoms.length≤1000) (hns:b.seqs.length≤1000):∀ N,AltC b so ao sc ac N
 | 0=>fun f _ _ h=>by omega
 | N+1=>fun f hw hok h s hs hst L w hT=>alternativesSize_any (altC_all hna hns N) hna hns f hw hok (by omega) s hs hst hT
theorem Size_any {b:Mt.PB} {so ao:Option Addr} {sc ac:Nat} (hna:b.atoms.length≤1000) (hns:b.seqs.length≤1000) (f:Mt.Fs) (hw:f.wf) (hok:f.ok) (hs:0<b.seqs.length) (hst:Mt.standsF b 0 0 f (b.sAt 0).first (b.sAt 0).next) {L:Nat} {w:World} (hT:TreeAt L w b so ao sc ac) :
  Calls Try.prog 51 #[treeV b so ao sc ac] w fun e w'=>e=.returned (.int .i64 (Mt.lim (f.re.len+1):Nat))∧Below w.heap.size w w':=by
 have HC:Hid (Calls Try.prog 63 #[treeV b so ao sc ac,.int .i64 ((0:Nat):Int)] (w.alloc (.cells (treeA b so ao sc ac) 80)) _):=altC_all hna hns (f.flat.length+1) f hw hok (by omega) 0 hs hst L _ (hT.below ((Below.refl _ _).alloc (Nat.le_refl _) _))
 have HE:Hid (Mt.lim (f.re.len+1)=Mt.lim (Mt.lim f.re.len+1)):=by show _=_;unfold Mt.lim;omega
 rw [HE.out]
 have hl:=Mt.lim_le f.re.len
 generalize Mt.lim f.re.len=F at *
 clear hT hst hw hok
 unfold treeV
 unfold treeV treeA at HC
 go_enter Try.func51,Try.ntmps51
 go_wp2_with fail
 refine HC.out.mono ?_
 rintro e w1 ⟨rfl,b1⟩
 have HB:Hid (Below w.heap.size w w1):=((Below.refl _ _).alloc (Nat.le_refl _) _).trans (b1.mono (by simp))
 clear b1
 go_wp2_with (go_at_call 64;refine (limited_int _ (F+1) (by omega) _).mono ?_;rintro e w' ⟨rfl,rfl⟩)
 go_returns
 exact ⟨rfl,HB.out⟩
def Reads (p:ByteArray) (w:World) (e:Ending) (w':World):Prop :=
 ((Mt.checkR p).1≠0→e=.returned (.tuple #[.agg #[.slice none 0 0,.slice none 0 0],.int .i64 (Mt.checkR p).1,.int .i64 (Mt.checkR p).2])) ∧
 ((Mt.checkR p).1=0→∃ so ao sc ac,e=.returned (.tuple #[treeV (Mt.PB.start.run (Mt.tokens p).1) so ao sc ac,.int .i64 0,.int .i64 0])∧TreeAt w.heap.size w' (Mt.PB.start.run (Mt.tokens p).1) so ao sc ac)∧Below w.heap.size w w'
theorem reads_bad {p:ByteArray} {w w':World} {e:Ending} {E k:Int} (h:Mt.checkR p=(E,k)) (hE:E≠0) (he:e=.returned (.tuple #[.agg #[.slice none 0 0,.slice none 0 0],.int .i64 E,.int .i64 k])) (hb:Below w.heap.size w w'):Reads p w e w':=by
 refine ⟨fun _=>by rw [h];exact he,fun h0=>?_,hb⟩
 rw [h] at h0;exact absurd h0 hE
theorem TreeAt.lower {L L':Nat} {w:World} {b:Mt.PB} {so ao:Option Addr} {sc ac:Nat} (h:TreeAt L w b so ao sc ac) (hl:L'≤L):TreeAt L' w b so ao sc ac:=by
 have nr:∀ (o:Option Addr) (n c:Nat) (e:TypeId) (sz:Nat) (xs:List Value),w.ownsRow L e sz (.slice o n c) n xs→w.ownsRow L' e sz (.slice o n c) n xs:=by
  intro o n c e sz xs h1
  refine ⟨h1.1,?_⟩
  rcases h1.2 with h' | ⟨g',cap',cur,hv,h0,hg,rest⟩
  ·exact .inl h'
  ·exact .inr ⟨g',cap',cur,hv,by omega,hg,rest⟩
 exact ⟨nr _ _ _ _ _ _ h.seqs,nr _ _ _ _ _ _ h.atoms⟩
theorem TreeAt.keep {L B:Nat} {w w':World} {b:Mt.PB} {so ao:Option Addr} {sc ac:Nat} (h:TreeAt L w b so ao sc ac) (hk:∀ q,L≤q→q<w.heap.size→w'.heap[q]?=w.heap[q]?):TreeAt L w' b so ao sc ac :=
 ⟨row_keep h.seqs (fun q hq=>hk q (World.ownsRow.lt h.seqs q (by rw [ownBlock_blk];exact hq)).1 (World.ownsRow.lt h.seqs q (by rw [ownBlock_blk];exact hq)).2),row_keep h.atoms (fun q hq=>hk q (World.ownsRow.lt h.atoms q (by rw [ownBlock_blk];exact hq)).1 (World.ownsRow.lt h.atoms q (by rw [ownBlock_blk];exact hq)).2)⟩
theorem read_any (p:ByteArray) (w:World) (hm:p.size≤maxLen):Calls Try.prog 34 #[.string p] w (Reads p w):=by
 have HC:=Build_any p (w.alloc (.cells nil2 80)) hm
 have hsz:(w.alloc (.cells nil2 80)).heap.size=w.heap.size+1:=by simp
 unfold Builds at HC
 rw [hsz] at HC
 by_cases h0:(Mt.tokens p).2.1=0
 ·obtain ⟨f,hw,hok,hfl,hst,hs0,hla,hls,hc1,hc2⟩:=Mt.forest p h0
  have HC':Hid (Calls Try.prog _ _ _ _):=HC
  have HF:Hid (∀ (so ao:Option Addr) (sc ac L:Nat) (W:World),TreeAt L W (Mt.PB.start.run (Mt.tokens p).1) so ao sc ac→Calls Try.prog 51 #[treeV (Mt.PB.start.run (Mt.tokens p).1) so ao sc ac] W fun e w'=>e=.returned (.int .i64 (Mt.lim (f.re.len+1):Nat))∧Below W.heap.size W w'):=fun so ao sc ac L W hT=>Size_any (by omega) (by omega) f hw hok hs0 hst hT
  have hcr:Mt.checkR p=if 300<f.re.len+1 then (12,0) else (0,0):=by
   unfold Mt.checkR
   rw [if_neg (by omega)]
   by_cases x:300<f.re.len+1
   ·rw [if_pos x,if_pos (hc1.2 x)]
   ·rw [if_neg x,if_neg (fun y=>x (hc1.1 y))]
  have HCR:Hid (Mt.checkR p=if 300<f.re.len+1 then (12,0) else (0,0)):=hcr
  have H0:Hid ((Mt.tokens p).2.1=0):=h0
  have hll:=Mt.lim_le (f.re.len+1)
  have HLL:Hid (300<f.re.len+1↔300<Mt.lim (f.re.len+1)):=by
   show _↔_;unfold Mt.lim;omega
  clear HC hc1 hc2 hst hw hok hfl hcr h0
  generalize hbb:Mt.PB.start.run (Mt.tokens p).1=b at *
  have HBB:Hid (Mt.PB.start.run (Mt.tokens p).1=b):=hbb
  clear hbb
  generalize Mt.lim (f.re.len+1)=F at *
  go_enter Try.func34,Try.ntmps34
  go_wp2_with fail
  refine HC'.out.mono ?_
  rintro e w1 ⟨_,hg,hb⟩
  obtain ⟨so,ao,sc,ac,rfl,hT⟩:=hg H0.out
  have hz1:w1.heap[w.heap.size]?=some (.cells nil2 80 (0,0)):=(hb.block _ (by omega)).trans (heap_b1 _ _)
  have HB1:Hid (Below w.heap.size w w1∧w1.heap[w.heap.size]?=some (.cells nil2 80 (0,0))∧TreeAt (w.heap.size+1) w1 b so ao sc ac∧w.heap.size<w1.heap.size):=⟨((Below.refl _ _).alloc (Nat.le_refl _) _).trans (hb.mono (by omega)),hz1,hT,(Array.getElem?_eq_some_iff.1 hz1).1⟩
  clear hb hg hT hz1 HC'
  unfold treeV
  go_wp2_with (first | (refine store_blk 80 2 Try.sizeT (by rfl) (.tmp 5) (.tmp 11) (by rfl) w1.heap.size (treeA b so ao sc ac) (by rfl) (by rfl) (by exact heap_b1 _ _) (by rfl) (by rfl) (by simp [treeA,Value.oneCell']) ?_;intro w2 r1 r2 r3 r4) | (refine load_blk 80 2 Try.underlying80 rfl Try.sizeT (by rfl) (.tmp 5) (by rfl) w1.heap.size (by rfl) r1 (by rfl) ?_))
  have hb2:Below w1.heap.size w1 w2:=((Below.refl _ _).alloc (Nat.le_refl _) _).trans (r4 _ (Nat.le_refl _))
  have HB2:Hid (Below w.heap.size w w2∧w2.heap[w.heap.size]?=some (.cells nil2 80 (0,0))∧TreeAt (w.heap.size+1) w2 b so ao sc ac∧w2.heap[w1.heap.size]?=some (.cells (treeA b so ao sc ac) 80 (0,0))∧w1.heap.size<w2.heap.size):=⟨HB1.out.1.trans (hb2.mono (by have:=HB1.out.2.2.2;omega)),(hb2.block _ HB1.out.2.2.2).trans HB1.out.2.1,HB1.out.2.2.1.below hb2,r1,(Array.getElem?_eq_some_iff.1 r1).1⟩
  clear r1 r2 r3 r4 hb2
  have HS:=HF.out so ao sc ac _ w2 HB2.out.2.2.1
  refine HS.mono ?_
  clear HS
  rintro e w3 ⟨rfl,hb3⟩
  have HB3:Hid (Below w.heap.size w w3∧w3.heap[w.heap.size]?=some (.cells nil2 80 (0,0))∧TreeAt (w.heap.size+1) w3 b so ao sc ac∧w3.heap[w1.heap.size]?=some (.cells (treeA b so ao sc ac) 80 (0,0))):=⟨HB2.out.1.trans (hb3.mono (by have:=HB2.out.2.2.2.2;have:=HB1.out.2.2.2;omega)),(hb3.block _ (by have:=HB2.out.2.2.2.2;have:=HB1.out.2.2.2;omega)).trans HB2.out.2.1,HB2.out.2.2.1.below hb3,(hb3.block _ HB2.out.2.2.2.2).trans HB2.out.2.2.2.1⟩
  clear hb3
  by_cases hbig:300<F
  ·have HX:Hid (Mt.checkR p=(12,0)):=by show _=_;rw [HCR.out,if_pos (HLL.out.2 hbig)]
   have g1:decide (300<(F:Int))=true:=by simp;omega
   have g2:decide (300<F)=true:=by simpa using hbig
   go_wp2_with (refine store_blk 80 2 Try.sizeT (by rfl) (.tmp 2) (.tmp 22) (by rfl) w.heap.size nil2 (by rfl) (by rfl) HB3.out.2.1 (by rfl) (by rfl) nil2_all ?_;intro w5 q1 q2 q3 q4)
   refine bodyPost_ret (ret_blk3 80 2 Try.underlying80 rfl Try.sizeT rfl (by rfl) q1 (by rfl)) rfl ?_
   exact reads_bad HX.out (by decide) rfl (HB3.out.1.trans (q4 _ (Nat.le_refl _)))
  ·have HX:Hid (Mt.checkR p=(0,0)):=by show _=_;rw [HCR.out,if_neg (fun x=>hbig (HLL.out.1 x))]
   have g1:decide (300<(F:Int))=false:=by simp;omega
   have g2:decide (300<F)=false:=by simpa using hbig
   have HNE:Hid (w1.heap.size≠w.heap.size):=by have:=HB1.out.2.2.2;show _≠_;omega
   go_wp2_with (first | (refine load_blk 80 2 Try.underlying80 rfl Try.sizeT (by rfl) (.tmp 5) (by rfl) w1.heap.size (by rfl) HB3.out.2.2.2 (by rfl) ?_) | (refine store_blk 80 2 Try.sizeT (by rfl) (.tmp 2) (.tmp 23) (by rfl) w.heap.size (treeA b so ao sc ac) (by rfl) (by rfl) HB3.out.2.1 (by rfl) (by rfl) (by simp [treeA,Value.oneCell']) ?_;intro w5 q1 q2 q3 q4))
   refine bodyPost_ret (ret_blk3 80 2 Try.underlying80 rfl Try.sizeT rfl (by rfl) q1 (by rfl)) rfl ?_
   refine ⟨fun h=>absurd (by rw [HX.out]) h,fun _=>⟨so,ao,sc,ac,by rw [HBB.out];rfl,?_⟩,HB3.out.1.trans (q4 _ (Nat.le_refl _))⟩
   rw [HBB.out]
   exact (TreeAt.keep (B:=0) HB3.out.2.2.1 (fun q hq _=>q2 q (by omega))).lower (by omega)
 ·have hcr:Mt.checkR p=((Mt.tokens p).2.1,(Mt.tokens p).2.2):=by unfold Mt.checkR;rw [if_pos h0]
  have HCR:Hid (Mt.checkR p=((Mt.tokens p).2.1,(Mt.tokens p).2.2)):=hcr
  have HC':Hid (Calls Try.prog _ _ _ _):=HC
  have m2:((Mt.tokens p).2.1 != 0)=true:=by simpa using h0
  have H0:Hid ((Mt.tokens p).2.1≠0):=h0
  clear HC hcr h0
  generalize (Mt.tokens p).2.1=E at *
  generalize (Mt.tokens p).2.2=K at *
  go_enter Try.func34,Try.ntmps34
  go_wp2_with fail
  refine HC'.out.mono ?_
  rintro e w1 ⟨hg,_,hb⟩
  obtain rfl:=hg H0.out
  have hz1:w1.heap[w.heap.size]?=some (.cells nil2 80 (0,0)):=(hb.block _ (by omega)).trans (heap_b1 _ _)
  have hs1:w.heap.size<w1.heap.size:=(Array.getElem?_eq_some_iff.1 hz1).1
  have HB1:Hid (Below w.heap.size w w1∧w1.heap[w.heap.size]?=some (.cells nil2 80 (0,0))):=⟨((Below.refl _ _).alloc (Nat.le_refl _) _).trans (hb.mono (by omega)),hz1⟩
  clear hb hg hz1 HC'
  go_wp2_with (first | (refine store_blk 80 2 Try.sizeT (by rfl) (.tmp 5) (.tmp 11) (by rfl) w1.heap.size nil2 (by rfl) (by rfl) (by exact heap_b1 _ _) (by rfl) (by rfl) nil2_all ?_;intro w2 r1 r2 r3 r4;have R2:Hid (Below w.heap.size w w2∧w2.heap[w.heap.size]?=some (.cells nil2 80 (0,0))):=⟨(HB1.out.1.alloc (by omega) _).trans (r4 _ (by omega)),(r2 _ (by omega)).trans ((heap_old _ _ _ hs1).trans HB1.out.2)⟩;clear r1 r2 r3 r4) | (refine store_blk 80 2 Try.sizeT (by rfl) (.tmp 2) (.tmp 16) (by rfl) w.heap.size nil2 (by rfl) (by rfl) R2.out.2 (by rfl) (by rfl) nil2_all ?_;intro w5 q1 q2 q3 q4))
  refine bodyPost_ret (ret_blk3 80 2 Try.underlying80 rfl Try.sizeT rfl (by rfl) q1 (by rfl)) rfl ?_
  exact reads_bad HCR.out H0.out rfl (R2.out.1.trans (q4 _ (Nat.le_refl _)))
theorem Check_any (p:ByteArray) (w:World) (hm:p.size≤maxLen):Calls Try.prog 29 #[.string p] w fun e w'=>e=.returned (.tuple #[.int .i64 (Mt.checkR p).1,.int .i64 (Mt.checkR p).2])∧Below w.heap.size w w':=by
 have HC:Hid (Calls Try.prog 34 #[.string p] w (fun e w'=>∃ a b,e=.returned (.tuple #[.agg #[a,b],.int .i64 (Mt.checkR p).1,.int .i64 (Mt.checkR p).2])∧(a.oneCell'=true∧b.oneCell'=true)∧Below w.heap.size w w')):=(read_any p w hm).mono (fun e w' ⟨h1,h2,h3⟩=>by
  by_cases h0:(Mt.checkR p).1=0
  ·obtain ⟨so,ao,sc,ac,he,_⟩:=h2 h0
   have h00:(Mt.checkR p).2=0:=by
    unfold Mt.checkR at h0 ⊢
    split at h0
    ·rename_i x;exact absurd h0 x
    ·rename_i x
     rw [if_neg x]
     split at h0
     ·simp at h0
     ·rename_i y;rw [if_neg y]
   exact ⟨_,_,by rw [he,h0,h00];rfl,⟨rfl,rfl⟩,h3⟩
  ·exact ⟨_,_,h1 h0,⟨rfl,rfl⟩,h3⟩)
 generalize (Mt.checkR p).1=E at *
 generalize (Mt.checkR p).2=K at *
 go_enter Try.func29,Try.ntmps29
 go_wp2_with fail
 refine HC.out.mono ?_
 rintro e w1 ⟨a,b,rfl,⟨ha,hb'⟩,hb⟩
 have HB:Hid (Below w.heap.size w w1):=hb
 clear hb HC
 go_wp2_with (refine store_blk 80 2 Try.sizeT (by rfl) (.tmp 4) (.tmp 10) (by rfl) w1.heap.size #[a,b] (by rfl) (by rfl) (by exact heap_b1 _ _) (by rfl) (by rfl) (by simp [ha,hb']) ?_;intro w2 r1 r2 r3 r4)
 go_returns
 exact ⟨rfl,(HB.out.alloc (HB.out.size) _).trans (r4 _ HB.out.size)⟩
end Go.Proofs.Ytebpgfodelggoab
