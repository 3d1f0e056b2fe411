import Derived.Test.YtebpgfodelggoaaC31
import Derived.Deep.LoopGhost
set_option linter.unusedVariables false
set_option linter.unusedSimpArgs false
set_option maxRecDepth 100000
set_option maxHeartbeats 4000000
namespace Go.Proofs.Ytebpgfodelggoaa
open Go.RowKit
theorem head_cases {b:Mt.PB} {f:Mt.Fs} {a n:Int} (h:Mt.standsF b 0 0 f a n) (hw:f.wf) (hok:f.ok) :
  (a=-1∧f.both.1.len=0) ∨
  ∃ (k:Nat) (s:Mt.Fs) (r:Option Mt.Tok) (x:Mt.Re),a=k∧k<b.atoms.length∧(b.aAt k).rep=Mt.rp r∧Mt.repK r∧Mt.repsOk r∧f.both.1.len=(Mt.part r x).len+s.both.1.len∧Mt.standsF b 0 0 s (b.aAt k).next n∧s.wf∧s.ok∧s.flat.length<f.flat.length ∧
   (((b.aAt k).body=-1∧x.len=1)∨∃ (t:Mt.Tok) (i:Mt.Fs) (q:Nat),x=Mt.grpRe t i.re∧t.kind=6∧(0≤t.how∧t.how≤4)∧i.wf∧i.ok∧i.flat.length<f.flat.length∧(b.aAt k).tok=Mt.ptok t∧(b.aAt k).body=q∧q<b.seqs.length∧Mt.standsF b 0 0 i (b.sAt q).first (b.sAt q).next):=by
 cases f with
 | nil=>exact Or.inl ⟨h.1,rfl⟩
 | bar t r=>exact Or.inl ⟨h.1,rfl⟩
 | leaf t r s =>
  obtain ⟨k,h1,_,h2,h3,h4,h5,h6⟩:=h
  exact Or.inr ⟨k,s,r,Mt.leafRe t,h1,h2,h4,hw.2.1,hok.1,rfl,h6,hw.2.2,hok.2,by simp [Mt.Fs.flat];omega,Or.inl ⟨h5,Mt.leafRe_len t⟩⟩
 | grp t i c r s =>
  obtain ⟨k,h1,_,h2,h3,h4,h5,⟨q,g1,_,g2,g3⟩,h6⟩:=h
  obtain ⟨w1,w2,w3,w4,w5⟩:=hw
  obtain ⟨o1,o2,o3,o4⟩:=hok
  exact Or.inr ⟨k,s,r,Mt.grpRe t i.re,h1,h2,h4,w4,o1,rfl,h6,w5,o4,by simp [Mt.Fs.flat];omega,Or.inr ⟨t,i,q,rfl,w1,o2,w3,o3,by simp [Mt.Fs.flat];omega,h3,g1,g2,g3⟩⟩
theorem lim_step (S X Y T:Nat) (h:Mt.lim (S+(X+Y))=T):Mt.lim (Mt.lim (S+Mt.lim X)+Y)=T:=by unfold Mt.lim at *;omega
theorem rep_range {L:Nat} {w:World} {b:Mt.PB} {so:Option Addr} {sc ac:Nat} {ga:Nat} (h:TreeAt L w b so (some ⟨ga,0,none⟩) sc ac) (k:Nat) (hk:k<b.atoms.length):w.rangeAt ga (k*20+9) (ptL (b.aAt k).rep):=by
 obtain ⟨ga',e,_,_,hc⟩:=h.atomRow k hk
 simp only [Option.some.injEq,Addr.mk.injEq,and_true,true_and] at e
 subst e
 intro j v hv
 by_cases hj:j<8
 ·rw [show k*20+9+j=k*20+(9+j) by omega,hc (9+j) (by omega)]
  unfold paC
  rw [List.getElem?_append_right (by simp [ptL];omega)]
  rw [show 9+j-(ptL (b.aAt k).tok).length=j+1 by simp [ptL];omega,List.getElem?_cons_succ,List.getElem?_append_left (by simp [ptL];omega)]
  exact hv
 ·rw [List.getElem?_eq_none (by simp [ptL];omega)] at hv;simp at hv
theorem sequenceSize_any {b:Mt.PB} {so ao:Option Addr} {sc ac N:Nat} (hA:AltC b so ao sc ac N) (hna:b.atoms.length≤1000) (hns:b.seqs.length≤1000) (f:Mt.Fs) (hw:f.wf) (hok:f.ok) (hl:f.flat.length≤N) (s:Nat) (hs:s<b.seqs.length) (hst:Mt.standsF b 0 0 f (b.sAt s).first (b.sAt s).next) {L:Nat} {w:World} (hT:TreeAt L w b so ao sc ac) :
  Calls Try.prog 72 #[treeV b so ao sc ac,.int .i64 (s:Int)] w fun e w'=>e=.returned (.int .i64 (Mt.lim f.both.1.len:Nat))∧Below w.heap.size w w':=by
 obtain ⟨gs,rfl,hgs,hsc,cs0,cs1⟩:=hT.seqCell s hs
 have HT:Hid (TreeAt L w b (some ⟨gs,0,none⟩) ao sc ac):=hT
 have HA:Hid (AltC b (some ⟨gs,0,none⟩) ao sc ac N):=hA
 have HST:Hid (Mt.standsF b 0 0 f (b.sAt s).first (b.sAt s).next∧f.wf∧f.ok):=⟨hst,hw,hok⟩
 have HL:Hid (f.flat.length≤N):=hl
 have hs':(s:Int)<(b.seqs.length:Int):=by omega
 have HW0:Hid (Below w.heap.size w (w.alloc (.cells (treeA b (some ⟨gs,0,none⟩) ao sc ac) 62))):=(Below.refl _ _).alloc (Nat.le_refl _) _
 have HE0:treeA b (some ⟨gs,0,none⟩) ao sc ac=#[.slice (some ⟨gs,0,none⟩) b.seqs.length sc,.slice ao b.atoms.length ac]:=rfl
 generalize hn:(b.sAt s).next=n at *
 generalize hfi:(b.sAt s).first=a0 at *
 clear hT hA hst hw hok hn hfi
 unfold treeV
 go_enter Try.func72,Try.ntmps72
 go_wp2_with fail
 go_loopg [5,6] f.flat.length (fun gn sz at' wr=>∃ (g:Mt.Fs) (S:Nat) (a:Int),sz=.int .i64 (S:Int)∧at'=.int .i64 a∧S≤301∧g.flat.length=gn∧gn≤f.flat.length∧Mt.standsF b 0 0 g a n∧g.wf∧g.ok∧Mt.lim (S+g.both.1.len)=Mt.lim f.both.1.len∧wr.heap[w.heap.size]?=some (.cells (treeA b (some ⟨gs,0,none⟩) ao sc ac) 62 (0,0))∧Below w.heap.size w wr)
 case atStart=>exact ⟨f,0,a0,rfl,rfl,by omega,rfl,Nat.le_refl _,HST.out.1,HST.out.2.1,HST.out.2.2,by rw [Nat.zero_add],by exact heap_b1 _ _,HW0.out⟩
 case round =>
  obtain ⟨g,S,a,rfl,rfl,hS,hgn,hgf,hgs2,hgw,hgo,hlim,hblk,hBl⟩:=hrel
  have bx0:=(cell_block hblk).1 0
  have bx1:=(cell_block hblk).1 1
  rw [HE0] at bx0 bx1
  simp only [List.getElem?_toArray,List.getElem?_cons_succ,List.getElem?_cons_zero] at bx0 bx1
  have hsz:w.heap.size<wr.heap.size:=(Array.getElem?_eq_some_iff.1 hblk).1
  have HBK:Hid (wr.heap[w.heap.size]?=some (.cells (treeA b (some ⟨gs,0,none⟩) ao sc ac) 62 (0,0))∧Below w.heap.size w wr):=⟨hblk,hBl⟩
  have HTr:Hid (TreeAt L wr b (some ⟨gs,0,none⟩) ao sc ac):=HT.out.below hBl
  have hc:=head_cases hgs2 hgw hgo
  have HLM:Hid (Mt.lim (S+g.both.1.len)=Mt.lim f.both.1.len):=hlim
  clear hgs2 hgw hgo hlim hblk hBl
  rcases hc with ⟨ha,h0⟩ | ⟨k,sr,r,x,ha,hk,hrep,hrk,hro,hlen,hst',hsw,hso,hsl,hx⟩
  ·have HF:Hid (Mt.lim f.both.1.len=S):=by show _=_;rw [← HLM.out,h0];unfold Mt.lim;omega
   subst ha
   clear h0 HLM
   go_wp2_with fail
   go_returns
   exact ⟨by rw [HF.out];rfl,HBK.out.2⟩
  ·subst ha
   obtain ⟨ga,hao,hga,hac,hcell⟩:=HTr.out.atomRow k hk
   subst hao
   have c19:=hcell 19 (by decide)
   change wr.cell? ⟨ga,k*20+19,none⟩=some (.int .i64 (b.aAt k).next) at c19
   have HRR:Hid (∀ W:World,Below wr.heap.size wr W→W.rangeAt ga (k*20+9) (ptL (Mt.rp r))):=fun W hW=>by rw [← hrep];exact rep_range (HTr.out.below hW) k hk
   have HRS:Hid (∀ (o:Nat) (z:World),o≤301→Calls Try.prog 91 #[.int .i64 (o:Int),ptV (Mt.rp r)] z fun e w'=>e=.returned (.int .i64 (Mt.lim (Mt.partLen o r):Nat))∧Below z.heap.size z w'):=fun o z ho=>repeatedSize_any o r z ho hro hrk
   have HAT:Hid (Calls Try.prog 90 #[treeV b (some ⟨gs,0,none⟩) (some ⟨ga,0,none⟩) sc ac,.int .i64 (k:Int)] wr fun e w'=>e=.returned (.int .i64 (Mt.lim x.len:Nat))∧Below wr.heap.size wr w'):=by
    rcases hx with ⟨hb,h1⟩ | ⟨t,i,q,h1,h2,h3,h4,h5,h6,h7,h8,h9,h10⟩
    ·have e1:Mt.lim x.len=1:=by rw [h1];rfl
     rw [e1];exact atomSize_leaf HTr.out k hk hna hb
    ·rw [h1];exact atomSize_grp HA.out HTr.out k hk hna hns t i h2 h3 h4 h5 (by have:=HL.out;omega) h7 q h8 h9 h10
   have HN:Hid (Mt.lim (Mt.lim (S+Mt.lim (Mt.partLen (Mt.lim x.len) r))+sr.both.1.len)=Mt.lim f.both.1.len):=by
    show _=_
    rw [Mt.lim_part _ _ hro,← Mt.part_len x r hro]
    exact lim_step S _ _ _ (by rw [← HLM.out,hlen])
   have HSR:Hid (Mt.standsF b 0 0 sr (b.aAt k).next n∧sr.wf∧sr.ok):=⟨hst',hsw,hso⟩
   have hk':(k:Int)<(b.atoms.length:Int):=by omega
   have hxl:=Mt.lim_le x.len
   have hpl:=Mt.lim_le (Mt.partLen (Mt.lim x.len) r)
   have hkb:((k:Int) != -1)=true:=by simp
   clear hcell hx hlen hst' hsw hso hro hrk hrep HLM
   generalize hNx:(b.aAt k).next=nx at *
   clear hNx
   generalize Mt.lim x.len=X at *
   unfold treeV at HAT
   go_wp2_with fail
   refine HAT.out.mono ?_
   rintro e w2 ⟨rfl,b2⟩
   have hs2:wr.heap.size≤w2.heap.size:=b2.size
   have bk2:w2.heap[w.heap.size]?=some (.cells (treeA b (some ⟨gs,0,none⟩) (some ⟨ga,0,none⟩) sc ac) 62 (0,0)):=(b2.block _ hsz).trans HBK.out.1
   have by0:=(cell_block bk2).1 0
   have by1:=(cell_block bk2).1 1
   rw [HE0] at by0 by1
   simp only [List.getElem?_toArray,List.getElem?_cons_succ,List.getElem?_cons_zero] at by0 by1
   have HR2:Hid (w2.rangeAt ga (k*20+9) (ptL (Mt.rp r))):=HRR.out w2 b2
   have HB2:Hid (Below w.heap.size w w2∧Below wr.heap.size wr w2∧w2.heap[w.heap.size]?=some (.cells (treeA b (some ⟨gs,0,none⟩) (some ⟨ga,0,none⟩) sc ac) 62 (0,0))):=⟨HBK.out.2.trans (b2.mono (by omega)),b2,bk2⟩
   have d19:=(b2.cell (p:=⟨ga,k*20+19,none⟩) hga).trans c19
   clear b2 bk2
   go_wp2_with (refine wpList_load_mid (by rfl) 103 (.tmp 31) (by rfl) ga (k*20+9) (by rfl) (ptL (Mt.rp r)) _ HR2.out Try.underlying103 rfl (by rw [Try.sizePT];rfl) ?_)
   refine (HRS.out X w2 hxl).mono ?_
   rintro e w3 ⟨rfl,b3⟩
   have hs3:w2.heap.size≤w3.heap.size:=b3.size
   have bk3:w3.heap[w.heap.size]?=some (.cells (treeA b (some ⟨gs,0,none⟩) (some ⟨ga,0,none⟩) sc ac) 62 (0,0)):=(b3.block _ (by omega)).trans HB2.out.2.2
   have bz0:=(cell_block bk3).1 0
   have bz1:=(cell_block bk3).1 1
   rw [HE0] at bz0 bz1
   simp only [List.getElem?_toArray,List.getElem?_cons_succ,List.getElem?_cons_zero] at bz0 bz1
   have e19:=(b3.cell (p:=⟨ga,k*20+19,none⟩) (by show ga<w2.heap.size;omega)).trans d19
   have HB3:Hid (Below w.heap.size w w3∧w3.heap[w.heap.size]?=some (.cells (treeA b (some ⟨gs,0,none⟩) (some ⟨ga,0,none⟩) sc ac) 62 (0,0))):=⟨HB2.out.1.trans (b3.mono (by omega)),bk3⟩
   clear b3 bk3
   generalize Mt.lim (Mt.partLen X r)=Y at *
   have hSl:=Mt.lim_le (S+Y)
   go_wp2_with (go_at_call 51;refine (limited_int _ (S+Y) (by omega) _).mono ?_;rintro e w' ⟨rfl,rfl⟩)
   go_roundg sr.flat.length
   case measure=>omega
   case rel=>exact ⟨sr,Mt.lim (S+Y),nx,rfl,rfl,hSl,rfl,by omega,HSR.out.1,HSR.out.2.1,HSR.out.2.2,HN.out,HB3.out.2,HB3.out.1⟩
def restLen (r:Option Mt.Fs):Nat:=match r with
 | none=>0
 | some g=>2+g.re.len
theorem re_rest (f:Mt.Fs):f.re.len=f.both.1.len+restLen f.rs:=Mt.re_len f
theorem lim_alt (S X R T:Nat) (h:Mt.lim (S+(2+(X+R)))=T):Mt.lim (Mt.lim (S+2+Mt.lim X)+R)=T:=by unfold Mt.lim at *;omega
def standsR (b:Mt.PB) (r:Option Mt.Fs) (a:Int):Prop:=match r with
 | none=>a=-1
 | some g=>∃ k:Nat,a=k∧k<b.seqs.length∧Mt.standsF b 0 0 g (b.sAt k).first (b.sAt k).next∧g.wf∧g.ok
def lenR (r:Option Mt.Fs):Nat:=match r with
 | none=>0
 | some g=>g.flat.length+1
theorem standsR_of {b:Mt.PB} {f:Mt.Fs} {a n:Int} (h:Mt.standsF b 0 0 f a n) (hw:f.wf) (hok:f.ok):standsR b f.rs n∧lenR f.rs≤f.flat.length:=by
 rcases Mt.stands_rs f a n h with ⟨e,h1⟩ | ⟨r,k,e,h1,h2,h3⟩
 ·rw [e];exact ⟨h1,Nat.zero_le _⟩
 ·have:=Mt.rs_less f r e
  rw [e];exact ⟨⟨k,h1,h2,h3,this.2.1 hw,this.2.2 hok⟩,this.1⟩
theorem alternativesSize_any {b:Mt.PB} {so ao:Option Addr} {sc ac N:Nat} (hA:AltC b so ao sc ac N) (hna:b.atoms.length≤1000) (hns:b.seqs.length≤1000) (f:Mt.Fs) (hw:f.wf) (hok:f.ok) (hl:f.flat.length≤N) (s:Nat) (hs:s<b.seqs.length) (hst:Mt.standsF b 0 0 f (b.sAt s).first (b.sAt s).next) {L:Nat} {w:World} (hT:TreeAt L w b so ao sc ac) :
  Calls Try.prog 50 #[treeV b so ao sc ac,.int .i64 (s:Int)] w fun e w'=>e=.returned (.int .i64 (Mt.lim f.re.len:Nat))∧Below w.heap.size w w':=by
 have HSQ:Hid (∀ (g:Mt.Fs) (k:Nat) (W:World),g.wf→g.ok→g.flat.length≤N→k<b.seqs.length→Mt.standsF b 0 0 g (b.sAt k).first (b.sAt k).next→TreeAt L W b so ao sc ac→Calls Try.prog 72 #[treeV b so ao sc ac,.int .i64 (k:Int)] W fun e w'=>e=.returned (.int .i64 (Mt.lim g.both.1.len:Nat))∧Below W.heap.size W w'):=fun g k W h1 h2 h3 h4 h5 h6=>sequenceSize_any hA hna hns g h1 h2 h3 k h4 h5 h6
 obtain ⟨gs,rfl,hgs,hsc,cs0,cs1⟩:=hT.seqCell s hs
 have HW0:Hid (Below w.heap.size w (w.alloc (.cells (treeA b (some ⟨gs,0,none⟩) ao sc ac) 62))):=(Below.refl _ _).alloc (Nat.le_refl _) _
 have HT:Hid (TreeAt L w b (some ⟨gs,0,none⟩) ao sc ac):=hT
 have HC1:Hid (Calls Try.prog 72 #[treeV b (some ⟨gs,0,none⟩) ao sc ac,.int .i64 (s:Int)] (w.alloc (.cells (treeA b (some ⟨gs,0,none⟩) ao sc ac) 62)) _):=HSQ.out f s _ hw hok hl hs hst (hT.below HW0.out)
 have HSR:Hid (standsR b f.rs (b.sAt s).next∧lenR f.rs≤f.flat.length):=standsR_of hst hw hok
 have HRE:Hid (f.re.len=f.both.1.len+restLen f.rs):=re_rest f
 have HL:Hid (f.flat.length≤N):=hl
 have hs':(s:Int)<(b.seqs.length:Int):=by omega
 have HE0:treeA b (some ⟨gs,0,none⟩) ao sc ac=#[.slice (some ⟨gs,0,none⟩) b.seqs.length sc,.slice ao b.atoms.length ac]:=rfl
 have hX:=Mt.lim_le f.both.1.len
 have HLX:Hid (Mt.lim (Mt.lim f.both.1.len+restLen f.rs)=Mt.lim f.re.len):=by show _=_;rw [HRE.out];unfold Mt.lim;omega
 generalize hn:(b.sAt s).next=n at *
 clear hT hA hst hw hok hn hl
 generalize f.rs=rs0 at *
 generalize Mt.lim f.both.1.len=X at *
 generalize Mt.lim f.re.len=F at *
 unfold treeV
 unfold treeV treeA at HC1
 go_enter Try.func50,Try.ntmps50
 go_wp2_with fail
 refine HC1.out.mono ?_
 rintro e w1 ⟨rfl,b1⟩
 have hblk:w1.heap[w.heap.size]?=some (.cells (treeA b (some ⟨gs,0,none⟩) ao sc ac) 62 (0,0)):=(b1.block _ (by simp)).trans (heap_b1 _ _)
 have bx0:=(cell_block hblk).1 0
 have bx1:=(cell_block hblk).1 1
 rw [HE0] at bx0 bx1
 simp only [List.getElem?_toArray,List.getElem?_cons_succ,List.getElem?_cons_zero] at bx0 bx1
 have HB1:Hid (w1.heap[w.heap.size]?=some (.cells (treeA b (some ⟨gs,0,none⟩) ao sc ac) 62 (0,0))∧Below w.heap.size w w1):=⟨hblk,HW0.out.trans (b1.mono (by simp))⟩
 have d1:=(HB1.out.2.cell (p:=⟨gs,s*2+1,none⟩) hgs).trans cs1
 have hsz1:w.heap.size<w1.heap.size:=(Array.getElem?_eq_some_iff.1 hblk).1
 clear b1 hblk HC1
 go_wp2_with fail
 go_loopg [5,6] (lenR rs0) (fun gn sz at' wr=>∃ (r:Option Mt.Fs) (S:Nat) (a:Int),sz=.int .i64 (S:Int)∧at'=.int .i64 a∧S≤301∧lenR r=gn∧gn≤lenR rs0∧standsR b r a∧Mt.lim (S+restLen r)=F∧wr.heap[w.heap.size]?=some (.cells (treeA b (some ⟨gs,0,none⟩) ao sc ac) 62 (0,0))∧Below w.heap.size w wr)
 case atStart=>exact ⟨rs0,X,n,rfl,rfl,hX,rfl,Nat.le_refl _,HSR.out.1,HLX.out,HB1.out.1,HB1.out.2⟩
 case round =>
  obtain ⟨r,S,a,rfl,rfl,hS,hgn,hgf,hsr,hlim,hblk,hBl⟩:=hrel
  have bx0:=(cell_block hblk).1 0
  have bx1:=(cell_block hblk).1 1
  rw [HE0] at bx0 bx1
  simp only [List.getElem?_toArray,List.getElem?_cons_succ,List.getElem?_cons_zero] at bx0 bx1
  have hsz:w.heap.size<wr.heap.size:=(Array.getElem?_eq_some_iff.1 hblk).1
  have HBK:Hid (wr.heap[w.heap.size]?=some (.cells (treeA b (some ⟨gs,0,none⟩) ao sc ac) 62 (0,0))∧Below w.heap.size w wr):=⟨hblk,hBl⟩
  have HLM:Hid (Mt.lim (S+restLen r)=F):=hlim
  clear hlim hblk hBl
  cases r with
  | none =>
   have ha:a=-1:=hsr
   have HF:Hid (F=S):=by show _=_;rw [← HLM.out];show Mt.lim (S+0)=S;unfold Mt.lim;omega
   subst ha
   clear HLM hsr
   go_wp2_with fail
   go_returns
   exact ⟨by rw [HF.out];rfl,HBK.out.2⟩
  | some g =>
   obtain ⟨k,rfl,hk,hgst,hgw,hgo⟩:=hsr
   have hgl:g.flat.length+1=gk:=hgn
   have hsl:=HSR.out.2
   have HC2:Hid (Calls Try.prog 72 #[treeV b (some ⟨gs,0,none⟩) ao sc ac,.int .i64 (k:Int)] wr _):=HSQ.out g k wr hgw hgo (by have:=HL.out;omega) hk hgst (HT.out.below HBK.out.2)
   obtain ⟨gs',e',_,_,_,k1⟩:=(HT.out.below HBK.out.2).seqCell k hk
   simp only [Option.some.injEq,Addr.mk.injEq,and_true,true_and] at e'
   subst e'
   have HSG:=standsR_of hgst hgw hgo
   have HSG':Hid (standsR b g.rs (b.sAt k).next∧lenR g.rs≤g.flat.length):=HSG
   have HNL:Hid (Mt.lim (Mt.lim (S+2+Mt.lim g.both.1.len)+restLen g.rs)=F):=by
    show _=_
    apply lim_alt
    rw [← HLM.out];show Mt.lim _=Mt.lim (S+(2+g.re.len));rw [re_rest g]
   have hk':(k:Int)<(b.seqs.length:Int):=by omega
   have hkb:((k:Int) != -1)=true:=by simp
   have hxl:=Mt.lim_le g.both.1.len
   clear HSG hgst hgw hgo HLM hgn
   generalize hNx:(b.sAt k).next=nx at *
   clear hNx
   generalize Mt.lim g.both.1.len=Y at *
   unfold treeV at HC2
   go_wp2_with fail
   refine HC2.out.mono ?_
   rintro e w2 ⟨rfl,b2⟩
   have bk2:w2.heap[w.heap.size]?=some (.cells (treeA b (some ⟨gs,0,none⟩) ao sc ac) 62 (0,0)):=(b2.block _ hsz).trans HBK.out.1
   have by0:=(cell_block bk2).1 0
   have by1:=(cell_block bk2).1 1
   rw [HE0] at by0 by1
   simp only [List.getElem?_toArray,List.getElem?_cons_succ,List.getElem?_cons_zero] at by0 by1
   have d2:=(b2.cell (p:=⟨gs,k*2+1,none⟩) (by show gs<wr.heap.size;omega)).trans k1
   have HB2:Hid (w2.heap[w.heap.size]?=some (.cells (treeA b (some ⟨gs,0,none⟩) ao sc ac) 62 (0,0))∧Below w.heap.size w w2):=⟨bk2,HBK.out.2.trans (b2.mono (by omega))⟩
   have hsz2:w.heap.size<w2.heap.size:=(Array.getElem?_eq_some_iff.1 bk2).1
   clear b2 bk2
   have hSl:=Mt.lim_le (S+2+Y)
   go_wp2_with (go_at_call 51;refine (limited_int _ (S+2+Y) (by omega) _).mono ?_;rintro e w' ⟨rfl,rfl⟩)
   go_roundg (lenR g.rs)
   case measure=>have:=HSG'.out.2;omega
   case rel=>exact ⟨g.rs,Mt.lim (S+2+Y),nx,rfl,rfl,hSl,rfl,by have:=HSG'.out.2;omega,HSG'.out.1,HNL.out,HB2.out.1,HB2.out.2⟩
theorem altC_all {b:Mt.PB} {so ao:Option Addr} {sc ac:Nat} (hna:b.atoms.length≤1000) (hns:b.seqs.length≤1000):∀ N,AltC b so ao sc ac N
 | 0=>fun f _ _ h=>by omega
 | N+1=>fun f hw hok h s hs hst L w hT=>alternativesSize_any (altC_all hna hns N) hna hns f hw hok (by omega) s hs hst hT
theorem Size_any {b:Mt.PB} {so ao:Option Addr} {sc ac:Nat} (hna:b.atoms.length≤1000) (hns:b.seqs.length≤1000) (f:Mt.Fs) (hw:f.wf) (hok:f.ok) (hs:0<b.seqs.length) (hst:Mt.standsF b 0 0 f (b.sAt 0).first (b.sAt 0).next) {L:Nat} {w:World} (hT:TreeAt L w b so ao sc ac) :
  Calls Try.prog 37 #[treeV b so ao sc ac] w fun e w'=>e=.returned (.int .i64 (Mt.lim (f.re.len+1):Nat))∧Below w.heap.size w w':=by
 have HC:Hid (Calls Try.prog 50 #[treeV b so ao sc ac,.int .i64 ((0:Nat):Int)] (w.alloc (.cells (treeA b so ao sc ac) 62)) _):=altC_all hna hns (f.flat.length+1) f hw hok (by omega) 0 hs hst L _ (hT.below ((Below.refl _ _).alloc (Nat.le_refl _) _))
 have HE:Hid (Mt.lim (f.re.len+1)=Mt.lim (Mt.lim f.re.len+1)):=by show _=_;unfold Mt.lim;omega
 rw [HE.out]
 have hl:=Mt.lim_le f.re.len
 generalize Mt.lim f.re.len=F at *
 clear hT hst hw hok
 unfold treeV
 unfold treeV treeA at HC
 go_enter Try.func37,Try.ntmps37
 go_wp2_with fail
 refine HC.out.mono ?_
 rintro e w1 ⟨rfl,b1⟩
 have HB:Hid (Below w.heap.size w w1):=((Below.refl _ _).alloc (Nat.le_refl _) _).trans (b1.mono (by simp))
 clear b1
 go_wp2_with (go_at_call 51;refine (limited_int _ (F+1) (by omega) _).mono ?_;rintro e w' ⟨rfl,rfl⟩)
 go_returns
 exact ⟨rfl,HB.out⟩
end Go.Proofs.Ytebpgfodelggoaa
