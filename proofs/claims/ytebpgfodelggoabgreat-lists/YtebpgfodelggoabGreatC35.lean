import Derived.Test.YtebpgfodelggoabGreatC34
import Derived.Deep.LoopGhost
import Derived.Test.YtebpgfodelggoabGreatC28
import Derived.Test.YtebpgfodelggoabGreatC07
import Derived.Deep.DeepCutAuto
set_option linter.unusedVariables false
set_option linter.unusedSimpArgs false
set_option maxRecDepth 100000
set_option maxHeartbeats 4000000
namespace Go.Proofs.YtebpgfodelggoabGreat
open Go.RowKit
theorem zLS {b:Mt.PB} {f:Mt.Fs} {a n:Int} (h:Mt.jF b 0 0 f a n) (hw:f.wf) (hok:f.ok) :
  (a=-1∧f.both.1.len=0) ∨
  ∃ (k:Nat) (s:Mt.Fs) (r:Option Mt.Tok) (x:Mt.Re),a=k∧k<b.atoms.length∧(b.aAt k).rep=Mt.rp r∧Mt.zLp r∧Mt.zDJ r∧f.both.1.len=(Mt.part r x).len+s.both.1.len∧Mt.jF b 0 0 s (b.aAt k).next n∧s.wf∧s.ok∧s.flat.length<f.flat.length ∧
   (((b.aAt k).body=-1∧x.len=1)∨∃ (t:Mt.Tok) (i:Mt.Fs) (q:Nat),x=Mt.zBK t i.re∧t.kind=6∧(0≤t.how∧t.how≤4)∧i.wf∧i.ok∧i.flat.length<f.flat.length∧(b.aAt k).tok=Mt.jW t∧(b.aAt k).body=q∧q<b.zT.length∧Mt.jF b 0 0 i (b.sAt q).first (b.sAt q).next):=by
 cases f with
 | nil=>exact Or.inl ⟨h.1,rfl⟩
 | bar t r=>exact Or.inl ⟨h.1,rfl⟩
 | leaf t r s =>
  obtain ⟨k,h1,_,h2,h3,h4,h5,h6⟩:=h
  exact Or.inr ⟨k,s,r,Mt.xQ t,h1,h2,h4,hw.2.1,hok.1,rfl,h6,hw.2.2,hok.2,by simp [Mt.Fs.flat];omega,Or.inl ⟨h5,Mt.zLz t⟩⟩
 | grp t i c r s =>
  obtain ⟨k,h1,_,h2,h3,h4,h5,⟨q,g1,_,g2,g3⟩,h6⟩:=h
  obtain ⟨w1,w2,w3,w4,w5⟩:=hw
  obtain ⟨o1,o2,o3,o4⟩:=hok
  exact Or.inr ⟨k,s,r,Mt.zBK t i.re,h1,h2,h4,w4,o1,rfl,h6,w5,o4,by simp [Mt.Fs.flat];omega,Or.inr ⟨t,i,q,rfl,w1,o2,w3,o3,by simp [Mt.Fs.flat];omega,h3,g1,g2,g3⟩⟩
theorem zPB (S X Y T:Nat) (h:Mt.lim (S+(X+Y))=T):Mt.lim (Mt.lim (S+Mt.lim X)+Y)=T:=by unfold Mt.lim at *;omega
theorem zNF {L:Nat} {w:World} {b:Mt.PB} {so:Option Addr} {sc ac:Nat} {ga:Nat} (h:qE L w b so (some ⟨ga,0,none⟩) sc ac) (k:Nat) (hk:k<b.atoms.length):w.rangeAt ga (k*20+9) (ptL (b.aAt k).rep):=by
 obtain ⟨ga',e,_,_,hc⟩:=h.zDk k hk
 simp only [Option.some.injEq,Addr.mk.injEq,and_true,true_and] at e
 subst e
 intro j v hv
 by_cases hj:j<8
 ·rw [show k*20+9+j=k*20+(9+j) by omega,hc (9+j) (by omega)]
  unfold paC
  rw [List.getElem?_append_right (by simp [ptL];omega)]
  rw [show 9+j-(ptL (b.aAt k).tok).length=j+1 by simp [ptL];omega,List.getElem?_cons_succ,List.getElem?_append_left (by simp [ptL];omega)]
  exact hv
 ·rw [List.getElem?_eq_none (by simp [ptL];omega)] at hv;simp at hv
theorem zEJ {b:Mt.PB} {so ao:Option Addr} {sc ac N:Nat} (hA:zSh b so ao sc ac N) (hna:b.atoms.length≤1000) (hns:b.zT.length≤1000) (f:Mt.Fs) (hw:f.wf) (hok:f.ok) (hl:f.flat.length≤N) (s:Nat) (hs:s<b.zT.length) (hst:Mt.jF b 0 0 f (b.sAt s).first (b.sAt s).next) {L:Nat} {w:World} (hT:qE L w b so ao sc ac) :
  Calls Tryz.prog 97 #[zAg b so ao sc ac,.int .i64 (s:Int)] w fun e w'=>e=.returned (.int .i64 (Mt.lim f.both.1.len:Nat))∧Below w.heap.size w w':=by
 obtain ⟨gs,rfl,hgs,hsc,cs0,cs1⟩:=hT.zB8 s hs
 have HT:Hid (qE L w b (some ⟨gs,0,none⟩) ao sc ac):=hT
 have HA:Hid (zSh b (some ⟨gs,0,none⟩) ao sc ac N):=hA
 have HST:Hid (Mt.jF b 0 0 f (b.sAt s).first (b.sAt s).next∧f.wf∧f.ok):=⟨hst,hw,hok⟩
 have HL:Hid (f.flat.length≤N):=hl
 have hs':(s:Int)<(b.zT.length:Int):=by omega
 have HW0:Hid (Below w.heap.size w (w.alloc (.cells (xC b (some ⟨gs,0,none⟩) ao sc ac) 36))):=(Below.refl _ _).alloc (Nat.le_refl _) _
 have HE0:xC b (some ⟨gs,0,none⟩) ao sc ac=#[.slice (some ⟨gs,0,none⟩) b.zT.length sc,.slice ao b.atoms.length ac]:=rfl
 generalize hn:(b.sAt s).next=n at *
 generalize hfi:(b.sAt s).first=a0 at *
 clear hT hA hst hw hok hn hfi
 unfold zAg
 go_enter Tryz.func97,Tryz.ntmps97
 go_wp2_with fail
 go_loopg [5,6] f.flat.length (fun gn sz at' wr=>∃ (g:Mt.Fs) (S:Nat) (a:Int),sz=.int .i64 (S:Int)∧at'=.int .i64 a∧S≤301∧g.flat.length=gn∧gn≤f.flat.length∧Mt.jF b 0 0 g a n∧g.wf∧g.ok∧Mt.lim (S+g.both.1.len)=Mt.lim f.both.1.len∧wr.heap[w.heap.size]?=some (.cells (xC b (some ⟨gs,0,none⟩) ao sc ac) 36 (0,0))∧Below w.heap.size w wr)
 case atStart=>exact ⟨f,0,a0,rfl,rfl,by omega,rfl,Nat.le_refl _,HST.out.1,HST.out.2.1,HST.out.2.2,by rw [Nat.zero_add],by exact kX _ _,HW0.out⟩
 case round =>
  obtain ⟨g,S,a,rfl,rfl,hS,hgn,hgf,zTu,hgw,hgo,hlim,hblk,hBl⟩:=hrel
  have bx0:=(zA hblk).1 0
  have bx1:=(zA hblk).1 1
  rw [HE0] at bx0 bx1
  simp only [List.getElem?_toArray,List.getElem?_cons_succ,List.getElem?_cons_zero] at bx0 bx1
  have hsz:w.heap.size<wr.heap.size:=(Array.getElem?_eq_some_iff.1 hblk).1
  have HBK:Hid (wr.heap[w.heap.size]?=some (.cells (xC b (some ⟨gs,0,none⟩) ao sc ac) 36 (0,0))∧Below w.heap.size w wr):=⟨hblk,hBl⟩
  have HTr:Hid (qE L wr b (some ⟨gs,0,none⟩) ao sc ac):=HT.out.below hBl
  have hc:=zLS zTu hgw hgo
  have HLM:Hid (Mt.lim (S+g.both.1.len)=Mt.lim f.both.1.len):=hlim
  clear zTu hgw hgo hlim hblk hBl
  rcases hc with ⟨ha,h0⟩ | ⟨k,sr,r,x,ha,hk,hrep,hrk,hro,hlen,hst',hsw,hso,hsl,hx⟩
  ·have HF:Hid (Mt.lim f.both.1.len=S):=by show _=_;rw [← HLM.out,h0];unfold Mt.lim;omega
   subst ha
   clear h0 HLM
   go_wp2_with fail
   go_returns
   exact ⟨by rw [HF.out];rfl,HBK.out.2⟩
  ·subst ha
   obtain ⟨ga,hao,hga,hac,hcell⟩:=HTr.out.zDk k hk
   subst hao
   have c19:=hcell 19 (by decide)
   change wr.cell? ⟨ga,k*20+19,none⟩=some (.int .i64 (b.aAt k).next) at c19
   have HRR:Hid (∀ W:World,Below wr.heap.size wr W→W.rangeAt ga (k*20+9) (ptL (Mt.rp r))):=fun W hW=>by rw [← hrep];exact zNF (HTr.out.below hW) k hk
   have HRS:Hid (∀ (o:Nat) (z:World),o≤301→Calls Tryz.prog 129 #[.int .i64 (o:Int),ptV (Mt.rp r)] z fun e w'=>e=.returned (.int .i64 (Mt.lim (Mt.zBh o r):Nat))∧Below z.heap.size z w'):=fun o z ho=>zEI o r z ho hro hrk
   have HAT:Hid (Calls Tryz.prog 128 #[zAg b (some ⟨gs,0,none⟩) (some ⟨ga,0,none⟩) sc ac,.int .i64 (k:Int)] wr fun e w'=>e=.returned (.int .i64 (Mt.lim x.len:Nat))∧Below wr.heap.size wr w'):=by
    rcases hx with ⟨hb,h1⟩ | ⟨t,i,q,h1,h2,h3,h4,h5,h6,h7,h8,h9,h10⟩
    ·have e1:Mt.lim x.len=1:=by rw [h1];rfl
     rw [e1];exact zHo HTr.out k hk hna hb
    ·rw [h1];exact zID HA.out HTr.out k hk hna hns t i h2 h3 h4 h5 (by have:=HL.out;omega) h7 q h8 h9 h10
   have HN:Hid (Mt.lim (Mt.lim (S+Mt.lim (Mt.zBh (Mt.lim x.len) r))+sr.both.1.len)=Mt.lim f.both.1.len):=by
    show _=_
    rw [Mt.zPf _ _ hro,← Mt.zPe x r hro]
    exact zPB S _ _ _ (by rw [← HLM.out,hlen])
   have HSR:Hid (Mt.jF b 0 0 sr (b.aAt k).next n∧sr.wf∧sr.ok):=⟨hst',hsw,hso⟩
   have hk':(k:Int)<(b.atoms.length:Int):=by omega
   have hxl:=Mt.zDI x.len
   have hpl:=Mt.zDI (Mt.zBh (Mt.lim x.len) r)
   have hkb:((k:Int) != -1)=true:=by simp
   clear hcell hx hlen hst' hsw hso hro hrk hrep HLM
   generalize hNx:(b.aAt k).next=nx at *
   clear hNx
   generalize Mt.lim x.len=X at *
   unfold zAg at HAT
   go_wp2_with fail
   refine HAT.out.mono ?_
   rintro e w2 ⟨rfl,b2⟩
   have hs2:wr.heap.size≤w2.heap.size:=b2.size
   have bk2:w2.heap[w.heap.size]?=some (.cells (xC b (some ⟨gs,0,none⟩) (some ⟨ga,0,none⟩) sc ac) 36 (0,0)):=(b2.block _ hsz).trans HBK.out.1
   have by0:=(zA bk2).1 0
   have by1:=(zA bk2).1 1
   rw [HE0] at by0 by1
   simp only [List.getElem?_toArray,List.getElem?_cons_succ,List.getElem?_cons_zero] at by0 by1
   have HR2:Hid (w2.rangeAt ga (k*20+9) (ptL (Mt.rp r))):=HRR.out w2 b2
   have HB2:Hid (Below w.heap.size w w2∧Below wr.heap.size wr w2∧w2.heap[w.heap.size]?=some (.cells (xC b (some ⟨gs,0,none⟩) (some ⟨ga,0,none⟩) sc ac) 36 (0,0))):=⟨HBK.out.2.trans (b2.mono (by omega)),b2,bk2⟩
   have d19:=(b2.cell (p:=⟨ga,k*20+19,none⟩) hga).trans c19
   clear b2 bk2
   go_wp2_with (refine wpList_load_mid (by rfl) 100 (.tmp 31) (by rfl) ga (k*20+9) (by rfl) (ptL (Mt.rp r)) _ HR2.out Tryz.underlying100 rfl (by rw [Tryz.sizePT];rfl) ?_)
   refine (HRS.out X w2 hxl).mono ?_
   rintro e w3 ⟨rfl,b3⟩
   have hs3:w2.heap.size≤w3.heap.size:=b3.size
   have bk3:w3.heap[w.heap.size]?=some (.cells (xC b (some ⟨gs,0,none⟩) (some ⟨ga,0,none⟩) sc ac) 36 (0,0)):=(b3.block _ (by omega)).trans HB2.out.2.2
   have bz0:=(zA bk3).1 0
   have bz1:=(zA bk3).1 1
   rw [HE0] at bz0 bz1
   simp only [List.getElem?_toArray,List.getElem?_cons_succ,List.getElem?_cons_zero] at bz0 bz1
   have e19:=(b3.cell (p:=⟨ga,k*20+19,none⟩) (by show ga<w2.heap.size;omega)).trans d19
   have HB3:Hid (Below w.heap.size w w3∧w3.heap[w.heap.size]?=some (.cells (xC b (some ⟨gs,0,none⟩) (some ⟨ga,0,none⟩) sc ac) 36 (0,0))):=⟨HB2.out.1.trans (b3.mono (by omega)),bk3⟩
   clear b3 bk3
   generalize Mt.lim (Mt.zBh X r)=Y at *
   have hSl:=Mt.zDI (S+Y)
   go_wp2_with (go_at_call 58;refine (xD _ (S+Y) (by omega) _).mono ?_;rintro e w' ⟨rfl,rfl⟩)
   go_roundg sr.flat.length
   case measure=>omega
   case rel=>exact ⟨sr,Mt.lim (S+Y),nx,rfl,rfl,hSl,rfl,by omega,HSR.out.1,HSR.out.2.1,HSR.out.2.2,HN.out,HB3.out.2,HB3.out.1⟩
def zEa (r:Option Mt.Fs):Nat:=match r with
 | none=>0
 | some g=>2+g.re.len
theorem zNG (f:Mt.Fs):f.re.len=f.both.1.len+zEa f.rs:=Mt.zSa f
theorem zRa (S X R T:Nat) (h:Mt.lim (S+(2+(X+R)))=T):Mt.lim (Mt.lim (S+2+Mt.lim X)+R)=T:=by unfold Mt.lim at *;omega
def zHp (b:Mt.PB) (r:Option Mt.Fs) (a:Int):Prop:=match r with
 | none=>a=-1
 | some g=>∃ k:Nat,a=k∧k<b.zT.length∧Mt.jF b 0 0 g (b.sAt k).first (b.sAt k).next∧g.wf∧g.ok
def zRb (r:Option Mt.Fs):Nat:=match r with
 | none=>0
 | some g=>g.flat.length+1
theorem zGG {b:Mt.PB} {f:Mt.Fs} {a n:Int} (h:Mt.jF b 0 0 f a n) (hw:f.wf) (hok:f.ok):zHp b f.rs n∧zRb f.rs≤f.flat.length:=by
 rcases Mt.zDK f a n h with ⟨e,h1⟩ | ⟨r,k,e,h1,h2,h3⟩
 ·rw [e];exact ⟨h1,Nat.zero_le _⟩
 ·have:=Mt.zHe f r e
  rw [e];exact ⟨⟨k,h1,h2,h3,this.2.1 hw,this.2.2 hok⟩,this.1⟩
theorem zCZ {b:Mt.PB} {so ao:Option Addr} {sc ac N:Nat} (hA:zSh b so ao sc ac N) (hna:b.atoms.length≤1000) (hns:b.zT.length≤1000) (f:Mt.Fs) (hw:f.wf) (hok:f.ok) (hl:f.flat.length≤N) (s:Nat) (hs:s<b.zT.length) (hst:Mt.jF b 0 0 f (b.sAt s).first (b.sAt s).next) {L:Nat} {w:World} (hT:qE L w b so ao sc ac) :
  Calls Tryz.prog 57 #[zAg b so ao sc ac,.int .i64 (s:Int)] w fun e w'=>e=.returned (.int .i64 (Mt.lim f.re.len:Nat))∧Below w.heap.size w w':=by
 have HSQ:Hid (∀ (g:Mt.Fs) (k:Nat) (W:World),g.wf→g.ok→g.flat.length≤N→k<b.zT.length→Mt.jF b 0 0 g (b.sAt k).first (b.sAt k).next→qE L W b so ao sc ac→Calls Tryz.prog 97 #[zAg b so ao sc ac,.int .i64 (k:Int)] W fun e w'=>e=.returned (.int .i64 (Mt.lim g.both.1.len:Nat))∧Below W.heap.size W w'):=fun g k W h1 h2 h3 h4 h5 h6=>zEJ hA hna hns g h1 h2 h3 k h4 h5 h6
 obtain ⟨gs,rfl,hgs,hsc,cs0,cs1⟩:=hT.zB8 s hs
 have HW0:Hid (Below w.heap.size w (w.alloc (.cells (xC b (some ⟨gs,0,none⟩) ao sc ac) 36))):=(Below.refl _ _).alloc (Nat.le_refl _) _
 have HT:Hid (qE L w b (some ⟨gs,0,none⟩) ao sc ac):=hT
 have HC1:Hid (Calls Tryz.prog 97 #[zAg b (some ⟨gs,0,none⟩) ao sc ac,.int .i64 (s:Int)] (w.alloc (.cells (xC b (some ⟨gs,0,none⟩) ao sc ac) 36)) _):=HSQ.out f s _ hw hok hl hs hst (hT.below HW0.out)
 have HSR:Hid (zHp b f.rs (b.sAt s).next∧zRb f.rs≤f.flat.length):=zGG hst hw hok
 have HRE:Hid (f.re.len=f.both.1.len+zEa f.rs):=zNG f
 have HL:Hid (f.flat.length≤N):=hl
 have hs':(s:Int)<(b.zT.length:Int):=by omega
 have HE0:xC b (some ⟨gs,0,none⟩) ao sc ac=#[.slice (some ⟨gs,0,none⟩) b.zT.length sc,.slice ao b.atoms.length ac]:=rfl
 have hX:=Mt.zDI f.both.1.len
 have HLX:Hid (Mt.lim (Mt.lim f.both.1.len+zEa f.rs)=Mt.lim f.re.len):=by show _=_;rw [HRE.out];unfold Mt.lim;omega
 generalize hn:(b.sAt s).next=n at *
 clear hT hA hst hw hok hn hl
 generalize f.rs=rs0 at *
 generalize Mt.lim f.both.1.len=X at *
 generalize Mt.lim f.re.len=F at *
 unfold zAg
 unfold zAg xC at HC1
 go_enter Tryz.func57,Tryz.ntmps57
 go_wp2_with fail
 refine HC1.out.mono ?_
 rintro e w1 ⟨rfl,b1⟩
 have hblk:w1.heap[w.heap.size]?=some (.cells (xC b (some ⟨gs,0,none⟩) ao sc ac) 36 (0,0)):=(b1.block _ (by simp)).trans (kX _ _)
 have bx0:=(zA hblk).1 0
 have bx1:=(zA hblk).1 1
 rw [HE0] at bx0 bx1
 simp only [List.getElem?_toArray,List.getElem?_cons_succ,List.getElem?_cons_zero] at bx0 bx1
 have HB1:Hid (w1.heap[w.heap.size]?=some (.cells (xC b (some ⟨gs,0,none⟩) ao sc ac) 36 (0,0))∧Below w.heap.size w w1):=⟨hblk,HW0.out.trans (b1.mono (by simp))⟩
 have d1:=(HB1.out.2.cell (p:=⟨gs,s*2+1,none⟩) hgs).trans cs1
 have hsz1:w.heap.size<w1.heap.size:=(Array.getElem?_eq_some_iff.1 hblk).1
 clear b1 hblk HC1
 go_wp2_with fail
 go_loopg [5,6] (zRb rs0) (fun gn sz at' wr=>∃ (r:Option Mt.Fs) (S:Nat) (a:Int),sz=.int .i64 (S:Int)∧at'=.int .i64 a∧S≤301∧zRb r=gn∧gn≤zRb rs0∧zHp b r a∧Mt.lim (S+zEa r)=F∧wr.heap[w.heap.size]?=some (.cells (xC b (some ⟨gs,0,none⟩) ao sc ac) 36 (0,0))∧Below w.heap.size w wr)
 case atStart=>exact ⟨rs0,X,n,rfl,rfl,hX,rfl,Nat.le_refl _,HSR.out.1,HLX.out,HB1.out.1,HB1.out.2⟩
 case round =>
  obtain ⟨r,S,a,rfl,rfl,hS,hgn,hgf,hsr,hlim,hblk,hBl⟩:=hrel
  have bx0:=(zA hblk).1 0
  have bx1:=(zA hblk).1 1
  rw [HE0] at bx0 bx1
  simp only [List.getElem?_toArray,List.getElem?_cons_succ,List.getElem?_cons_zero] at bx0 bx1
  have hsz:w.heap.size<wr.heap.size:=(Array.getElem?_eq_some_iff.1 hblk).1
  have HBK:Hid (wr.heap[w.heap.size]?=some (.cells (xC b (some ⟨gs,0,none⟩) ao sc ac) 36 (0,0))∧Below w.heap.size w wr):=⟨hblk,hBl⟩
  have HLM:Hid (Mt.lim (S+zEa r)=F):=hlim
  clear hlim hblk hBl
  cases r with
  | none =>
   have ha:a=-1:=hsr
   have HF:Hid (F=S):=by show _=_;rw [← HLM.out];show Mt.lim (S+0)=S;unfold Mt.lim;omega
   subst ha
   clear HLM hsr
   go_wp2_with fail
   go_returns
   exact ⟨by rw [HF.out];rfl,HBK.out.2⟩
  | some g =>
   obtain ⟨k,rfl,hk,zS3,hgw,hgo⟩:=hsr
   have hgl:g.flat.length+1=gk:=hgn
   have hsl:=HSR.out.2
   have HC2:Hid (Calls Tryz.prog 97 #[zAg b (some ⟨gs,0,none⟩) ao sc ac,.int .i64 (k:Int)] wr _):=HSQ.out g k wr hgw hgo (by have:=HL.out;omega) hk zS3 (HT.out.below HBK.out.2)
   obtain ⟨gs',e',_,_,_,k1⟩:=(HT.out.below HBK.out.2).zB8 k hk
   simp only [Option.some.injEq,Addr.mk.injEq,and_true,true_and] at e'
   subst e'
   have HSG:=zGG zS3 hgw hgo
   have zS4:Hid (zHp b g.rs (b.sAt k).next∧zRb g.rs≤g.flat.length):=HSG
   have HNL:Hid (Mt.lim (Mt.lim (S+2+Mt.lim g.both.1.len)+zEa g.rs)=F):=by
    show _=_
    apply zRa
    rw [← HLM.out];show Mt.lim _=Mt.lim (S+(2+g.re.len));rw [zNG g]
   have hk':(k:Int)<(b.zT.length:Int):=by omega
   have hkb:((k:Int) != -1)=true:=by simp
   have hxl:=Mt.zDI g.both.1.len
   clear HSG zS3 hgw hgo HLM hgn
   generalize hNx:(b.sAt k).next=nx at *
   clear hNx
   generalize Mt.lim g.both.1.len=Y at *
   unfold zAg at HC2
   go_wp2_with fail
   refine HC2.out.mono ?_
   rintro e w2 ⟨rfl,b2⟩
   have bk2:w2.heap[w.heap.size]?=some (.cells (xC b (some ⟨gs,0,none⟩) ao sc ac) 36 (0,0)):=(b2.block _ hsz).trans HBK.out.1
   have by0:=(zA bk2).1 0
   have by1:=(zA bk2).1 1
   rw [HE0] at by0 by1
   simp only [List.getElem?_toArray,List.getElem?_cons_succ,List.getElem?_cons_zero] at by0 by1
   have d2:=(b2.cell (p:=⟨gs,k*2+1,none⟩) (by show gs<wr.heap.size;omega)).trans k1
   have HB2:Hid (w2.heap[w.heap.size]?=some (.cells (xC b (some ⟨gs,0,none⟩) ao sc ac) 36 (0,0))∧Below w.heap.size w w2):=⟨bk2,HBK.out.2.trans (b2.mono (by omega))⟩
   have hsz2:w.heap.size<w2.heap.size:=(Array.getElem?_eq_some_iff.1 bk2).1
   clear b2 bk2
   have hSl:=Mt.zDI (S+2+Y)
   go_wp2_with (go_at_call 58;refine (xD _ (S+2+Y) (by omega) _).mono ?_;rintro e w' ⟨rfl,rfl⟩)
   go_roundg (zRb g.rs)
   case measure=>have:=zS4.out.2;omega
   case rel=>exact ⟨g.rs,Mt.lim (S+2+Y),nx,rfl,rfl,hSl,rfl,by have:=zS4.out.2;omega,zS4.out.1,HNL.out,HB2.out.1,HB2.out.2⟩
theorem zKI {b:Mt.PB} {so ao:Option Addr} {sc ac:Nat} (hna:b.atoms.length≤1000) (hns:b.zT.length≤1000):∀ N,zSh b so ao sc ac N
 | 0=>fun f _ _ h=>by omega
 | N+1=>fun f hw hok h s hs hst L w hT=>zCZ (zKI hna hns N) hna hns f hw hok (by omega) s hs hst hT
theorem zPC {b:Mt.PB} {so ao:Option Addr} {sc ac:Nat} (hna:b.atoms.length≤1000) (hns:b.zT.length≤1000) (f:Mt.Fs) (hw:f.wf) (hok:f.ok) (hs:0<b.zT.length) (hst:Mt.jF b 0 0 f (b.sAt 0).first (b.sAt 0).next) {L:Nat} {w:World} (hT:qE L w b so ao sc ac) :
  Calls Tryz.prog 34 #[zAg b so ao sc ac] w fun e w'=>e=.returned (.int .i64 (Mt.lim (f.re.len+1):Nat))∧Below w.heap.size w w':=by
 have HC:Hid (Calls Tryz.prog 57 #[zAg b so ao sc ac,.int .i64 ((0:Nat):Int)] (w.alloc (.cells (xC b so ao sc ac) 36)) _):=zKI hna hns (f.flat.length+1) f hw hok (by omega) 0 hs hst L _ (hT.below ((Below.refl _ _).alloc (Nat.le_refl _) _))
 have HE:Hid (Mt.lim (f.re.len+1)=Mt.lim (Mt.lim f.re.len+1)):=by show _=_;unfold Mt.lim;omega
 rw [HE.out]
 have hl:=Mt.zDI f.re.len
 generalize Mt.lim f.re.len=F at *
 clear hT hst hw hok
 unfold zAg
 unfold zAg xC at HC
 go_enter Tryz.func34,Tryz.ntmps34
 go_wp2_with fail
 refine HC.out.mono ?_
 rintro e w1 ⟨rfl,b1⟩
 have HB:Hid (Below w.heap.size w w1):=((Below.refl _ _).alloc (Nat.le_refl _) _).trans (b1.mono (by simp))
 clear b1
 go_wp2_with (go_at_call 58;refine (xD _ (F+1) (by omega) _).mono ?_;rintro e w' ⟨rfl,rfl⟩)
 go_returns
 exact ⟨rfl,HB.out⟩
def Reads (p:ByteArray) (w:World) (e:Ending) (w':World):Prop :=
 ((Mt.jQ p).1≠0→e=.returned (.tuple #[.agg #[.slice none 0 0,.slice none 0 0],.int .i64 (Mt.jQ p).1,.int .i64 (Mt.jQ p).2])) ∧
 ((Mt.jQ p).1=0→∃ so ao sc ac,e=.returned (.tuple #[zAg (Mt.PB.start.run (Mt.tokens p).1) so ao sc ac,.int .i64 0,.int .i64 0])∧qE w.heap.size w' (Mt.PB.start.run (Mt.tokens p).1) so ao sc ac)∧Below w.heap.size w w'
theorem zIE {p:ByteArray} {w w':World} {e:Ending} {E k:Int} (h:Mt.jQ p=(E,k)) (hE:E≠0) (he:e=.returned (.tuple #[.agg #[.slice none 0 0,.slice none 0 0],.int .i64 E,.int .i64 k])) (hb:Below w.heap.size w w'):Reads p w e w':=by
 refine ⟨fun _=>by rw [h];exact he,fun h0=>?_,hb⟩
 rw [h] at h0;exact absurd h0 hE
theorem qE.lower {L L':Nat} {w:World} {b:Mt.PB} {so ao:Option Addr} {sc ac:Nat} (h:qE L w b so ao sc ac) (hl:L'≤L):qE L' w b so ao sc ac:=by
 have nr:∀ (o:Option Addr) (n c:Nat) (e:TypeId) (sz:Nat) (xs:List Value),w.ownsRow L e sz (.slice o n c) n xs→w.ownsRow L' e sz (.slice o n c) n xs:=by
  intro o n c e sz xs h1
  refine ⟨h1.1,?_⟩
  rcases h1.2 with h' | ⟨g',cap',cur,hv,h0,hg,rest⟩
  ·exact .inl h'
  ·exact .inr ⟨g',cap',cur,hv,by omega,hg,rest⟩
 exact ⟨nr _ _ _ _ _ _ h.zT,nr _ _ _ _ _ _ h.atoms⟩
theorem qE.keep {L B:Nat} {w w':World} {b:Mt.PB} {so ao:Option Addr} {sc ac:Nat} (h:qE L w b so ao sc ac) (hk:∀ q,L≤q→q<w.heap.size→w'.heap[q]?=w.heap[q]?):qE L w' b so ao sc ac :=
 ⟨zJ h.zT (fun q hq=>hk q (World.ownsRow.lt h.zT q (by rw [zY];exact hq)).1 (World.ownsRow.lt h.zT q (by rw [zY];exact hq)).2),zJ h.atoms (fun q hq=>hk q (World.ownsRow.lt h.atoms q (by rw [zY];exact hq)).1 (World.ownsRow.lt h.atoms q (by rw [zY];exact hq)).2)⟩
theorem zPD (p:ByteArray) (w:World) (hm:p.size≤maxLen):Calls Tryz.prog 15 #[.string p] w (Reads p w):=by
 have HC:=zNE p (w.alloc (.cells zDO 36)) hm
 have hsz:(w.alloc (.cells zDO 36)).heap.size=w.heap.size+1:=by simp
 unfold Builds at HC
 rw [hsz] at HC
 by_cases h0:(Mt.tokens p).2.1=0
 ·obtain ⟨f,hw,hok,hfl,hst,hs0,hla,hls,hc1,hc2⟩:=Mt.zQb p h0
  have HC':Hid (Calls Tryz.prog _ _ _ _):=HC
  have HF:Hid (∀ (so ao:Option Addr) (sc ac L:Nat) (W:World),qE L W (Mt.PB.start.run (Mt.tokens p).1) so ao sc ac→Calls Tryz.prog 34 #[zAg (Mt.PB.start.run (Mt.tokens p).1) so ao sc ac] W fun e w'=>e=.returned (.int .i64 (Mt.lim (f.re.len+1):Nat))∧Below W.heap.size W w'):=fun so ao sc ac L W hT=>zPC (by omega) (by omega) f hw hok hs0 hst hT
  have hcr:Mt.jQ p=if 300<f.re.len+1 then (12,0) else (0,0):=by
   unfold Mt.jQ
   rw [if_neg (by omega)]
   by_cases x:300<f.re.len+1
   ·rw [if_pos x,if_pos (hc1.2 x)]
   ·rw [if_neg x,if_neg (fun y=>x (hc1.1 y))]
  have HCR:Hid (Mt.jQ p=if 300<f.re.len+1 then (12,0) else (0,0)):=hcr
  have H0:Hid ((Mt.tokens p).2.1=0):=h0
  have hll:=Mt.zDI (f.re.len+1)
  have HLL:Hid (300<f.re.len+1↔300<Mt.lim (f.re.len+1)):=by
   show _↔_;unfold Mt.lim;omega
  clear HC hc1 hc2 hst hw hok hfl hcr h0
  generalize hbb:Mt.PB.start.run (Mt.tokens p).1=b at *
  have HBB:Hid (Mt.PB.start.run (Mt.tokens p).1=b):=hbb
  clear hbb
  generalize Mt.lim (f.re.len+1)=F at *
  go_enter Tryz.func15,Tryz.ntmps15
  go_wp2_with fail
  refine HC'.out.mono ?_
  rintro e w1 ⟨_,hg,hb⟩
  obtain ⟨so,ao,sc,ac,rfl,hT⟩:=hg H0.out
  have hz1:w1.heap[w.heap.size]?=some (.cells zDO 36 (0,0)):=(hb.block _ (by omega)).trans (kX _ _)
  have HB1:Hid (Below w.heap.size w w1∧w1.heap[w.heap.size]?=some (.cells zDO 36 (0,0))∧qE (w.heap.size+1) w1 b so ao sc ac∧w.heap.size<w1.heap.size):=⟨((Below.refl _ _).alloc (Nat.le_refl _) _).trans (hb.mono (by omega)),hz1,hT,(Array.getElem?_eq_some_iff.1 hz1).1⟩
  clear hb hg hT hz1 HC'
  unfold zAg
  go_wp2_with (first | (refine zK 36 2 Tryz.sizeT (by rfl) (.tmp 5) (.tmp 11) (by rfl) w1.heap.size (xC b so ao sc ac) (by rfl) (by rfl) (by exact kX _ _) (by rfl) (by rfl) (by simp [xC,Value.oneCell']) ?_;intro w2 r1 r2 r3 r4) | (refine zW 36 2 Tryz.underlying36 rfl Tryz.sizeT (by rfl) (.tmp 5) (by rfl) w1.heap.size (by rfl) r1 (by rfl) ?_))
  have hb2:Below w1.heap.size w1 w2:=((Below.refl _ _).alloc (Nat.le_refl _) _).trans (r4 _ (Nat.le_refl _))
  have HB2:Hid (Below w.heap.size w w2∧w2.heap[w.heap.size]?=some (.cells zDO 36 (0,0))∧qE (w.heap.size+1) w2 b so ao sc ac∧w2.heap[w1.heap.size]?=some (.cells (xC b so ao sc ac) 36 (0,0))∧w1.heap.size<w2.heap.size):=⟨HB1.out.1.trans (hb2.mono (by have:=HB1.out.2.2.2;omega)),(hb2.block _ HB1.out.2.2.2).trans HB1.out.2.1,HB1.out.2.2.1.below hb2,r1,(Array.getElem?_eq_some_iff.1 r1).1⟩
  clear r1 r2 r3 r4 hb2
  have HS:=HF.out so ao sc ac _ w2 HB2.out.2.2.1
  refine HS.mono ?_
  clear HS
  rintro e w3 ⟨rfl,hb3⟩
  have HB3:Hid (Below w.heap.size w w3∧w3.heap[w.heap.size]?=some (.cells zDO 36 (0,0))∧qE (w.heap.size+1) w3 b so ao sc ac∧w3.heap[w1.heap.size]?=some (.cells (xC b so ao sc ac) 36 (0,0))):=⟨HB2.out.1.trans (hb3.mono (by have:=HB2.out.2.2.2.2;have:=HB1.out.2.2.2;omega)),(hb3.block _ (by have:=HB2.out.2.2.2.2;have:=HB1.out.2.2.2;omega)).trans HB2.out.2.1,HB2.out.2.2.1.below hb3,(hb3.block _ HB2.out.2.2.2.2).trans HB2.out.2.2.2.1⟩
  clear hb3
  by_cases hbig:300<F
  ·have HX:Hid (Mt.jQ p=(12,0)):=by show _=_;rw [HCR.out,if_pos (HLL.out.2 hbig)]
   have g1:decide (300<(F:Int))=true:=by simp;omega
   have g2:decide (300<F)=true:=by simpa using hbig
   go_wp2_with (refine zK 36 2 Tryz.sizeT (by rfl) (.tmp 2) (.tmp 22) (by rfl) w.heap.size zDO (by rfl) (by rfl) HB3.out.2.1 (by rfl) (by rfl) zCb ?_;intro w5 q1 q2 q3 q4)
   refine bodyPost_ret (zCa 36 2 Tryz.underlying36 rfl Tryz.sizeT rfl (by rfl) q1 (by rfl)) rfl ?_
   exact zIE HX.out (by decide) rfl (HB3.out.1.trans (q4 _ (Nat.le_refl _)))
  ·have HX:Hid (Mt.jQ p=(0,0)):=by show _=_;rw [HCR.out,if_neg (fun x=>hbig (HLL.out.1 x))]
   have g1:decide (300<(F:Int))=false:=by simp;omega
   have g2:decide (300<F)=false:=by simpa using hbig
   have HNE:Hid (w1.heap.size≠w.heap.size):=by have:=HB1.out.2.2.2;show _≠_;omega
   go_wp2_with (first | (refine zW 36 2 Tryz.underlying36 rfl Tryz.sizeT (by rfl) (.tmp 5) (by rfl) w1.heap.size (by rfl) HB3.out.2.2.2 (by rfl) ?_) | (refine zK 36 2 Tryz.sizeT (by rfl) (.tmp 2) (.tmp 23) (by rfl) w.heap.size (xC b so ao sc ac) (by rfl) (by rfl) HB3.out.2.1 (by rfl) (by rfl) (by simp [xC,Value.oneCell']) ?_;intro w5 q1 q2 q3 q4))
   refine bodyPost_ret (zCa 36 2 Tryz.underlying36 rfl Tryz.sizeT rfl (by rfl) q1 (by rfl)) rfl ?_
   refine ⟨fun h=>absurd (by rw [HX.out]) h,fun _=>⟨so,ao,sc,ac,by rw [HBB.out];rfl,?_⟩,HB3.out.1.trans (q4 _ (Nat.le_refl _))⟩
   rw [HBB.out]
   exact (qE.keep (B:=0) HB3.out.2.2.1 (fun q hq _=>q2 q (by omega))).lower (by omega)
 ·have hcr:Mt.jQ p=((Mt.tokens p).2.1,(Mt.tokens p).2.2):=by unfold Mt.jQ;rw [if_pos h0]
  have HCR:Hid (Mt.jQ p=((Mt.tokens p).2.1,(Mt.tokens p).2.2)):=hcr
  have HC':Hid (Calls Tryz.prog _ _ _ _):=HC
  have m2:((Mt.tokens p).2.1 != 0)=true:=by simpa using h0
  have H0:Hid ((Mt.tokens p).2.1≠0):=h0
  clear HC hcr h0
  generalize (Mt.tokens p).2.1=E at *
  generalize (Mt.tokens p).2.2=K at *
  go_enter Tryz.func15,Tryz.ntmps15
  go_wp2_with fail
  refine HC'.out.mono ?_
  rintro e w1 ⟨hg,_,hb⟩
  obtain rfl:=hg H0.out
  have hz1:w1.heap[w.heap.size]?=some (.cells zDO 36 (0,0)):=(hb.block _ (by omega)).trans (kX _ _)
  have hs1:w.heap.size<w1.heap.size:=(Array.getElem?_eq_some_iff.1 hz1).1
  have HB1:Hid (Below w.heap.size w w1∧w1.heap[w.heap.size]?=some (.cells zDO 36 (0,0))):=⟨((Below.refl _ _).alloc (Nat.le_refl _) _).trans (hb.mono (by omega)),hz1⟩
  clear hb hg hz1 HC'
  go_wp2_with (first | (refine zK 36 2 Tryz.sizeT (by rfl) (.tmp 5) (.tmp 11) (by rfl) w1.heap.size zDO (by rfl) (by rfl) (by exact kX _ _) (by rfl) (by rfl) zCb ?_;intro w2 r1 r2 r3 r4;have R2:Hid (Below w.heap.size w w2∧w2.heap[w.heap.size]?=some (.cells zDO 36 (0,0))):=⟨(HB1.out.1.alloc (by omega) _).trans (r4 _ (by omega)),(r2 _ (by omega)).trans ((kG _ _ _ hs1).trans HB1.out.2)⟩;clear r1 r2 r3 r4) | (refine zK 36 2 Tryz.sizeT (by rfl) (.tmp 2) (.tmp 16) (by rfl) w.heap.size zDO (by rfl) (by rfl) R2.out.2 (by rfl) (by rfl) zCb ?_;intro w5 q1 q2 q3 q4))
  refine bodyPost_ret (zCa 36 2 Tryz.underlying36 rfl Tryz.sizeT rfl (by rfl) q1 (by rfl)) rfl ?_
  exact zIE HCR.out H0.out rfl (R2.out.1.trans (q4 _ (Nat.le_refl _)))
def qH (i:Mt.Ins):Array Value:=#[.int .i64 i.op,.int .i64 i.x,.int .i64 i.y,.string ⟨i.set.toArray⟩]
theorem zBx (i:Mt.Ins):(qH i).all (·.oneCell')=true:=by simp [qH,Value.oneCell']
theorem zSi (i:Mt.Ins):(qH i).toList=zU i:=rfl
theorem zHq (i:Mt.Ins):(zU i).length=4:=rfl
theorem Tryz.sizeIn:(Tryz.prog.info? 48).map (·.size)=some 4:=by kernel_rfl
theorem Tryz.infoIn:(Tryz.prog.info? 48).map (fun i=>(i.zero,i.size,i.bytes))=some (some (.agg (qH Mt.jB)),4,40):=by kernel_rfl
structure LAt (L:Nat) (w:World) (g:Nat) (b:Mt.PB) (so ao:Option Addr) (sc ac:Nat) (co:Option Addr) (cc:Nat) (c:List Mt.Ins) (d:Int):Prop where
 cell:w.heap[g]?=some (.cells #[.slice so b.zT.length sc,.slice ao b.atoms.length ac,.slice co c.length cc,.int .i64 d] 115 (0,0))
 lo:L≤g
 tree:qE 0 w b so ao sc ac
 code:w.ownsRow L 48 4 (.slice co c.length cc) c.length (c.flatMap zU)
 ap:blk co≠some g∧blk so≠some g∧blk ao≠some g∧(∀ q,blk co=some q→blk so≠some q∧blk ao≠some q)
structure kU (g:Nat) (co co':Option Addr) (w w':World):Prop where
 os:w'.os=w.os
 tape:w'.tape=w.tape
 output:w'.output=w.output
 size:w.heap.size≤w'.heap.size
 block:∀ k,k<w.heap.size→k≠g→blk co≠some k→w'.heap[k]?=w.heap[k]?
 sub:∀ k,k<w.heap.size→blk co'=some k→blk co=some k
theorem kU.refl (g:Nat) (co:Option Addr) (w:World):kU g co co w w:=⟨rfl,rfl,rfl,Nat.le_refl _,fun _ _ _ _=>rfl,fun _ _ h=>h⟩
theorem kU.trans {g:Nat} {co c1 c2:Option Addr} {a b c:World} (h:kU g co c1 a b) (k:kU g c1 c2 b c):kU g co c2 a c :=
 ⟨k.os.trans h.os,k.tape.trans h.tape,k.output.trans h.output,Nat.le_trans h.size k.size,
 fun i hi h1 h2=>(k.block i (Nat.lt_of_lt_of_le hi h.size) h1 (fun e=>h2 (h.sub i hi e))).trans (h.block i hi h1 h2),fun i hi ho=>h.sub i hi (k.sub i (Nat.lt_of_lt_of_le hi h.size) ho)⟩
theorem kU.below {g:Nat} {co:Option Addr} {a b:World} (h:Below a.heap.size a b):kU g co co a b:=⟨h.os,h.tape,h.output,h.size,fun i hi _ _=>h.block i hi,fun _ _ h=>h⟩
theorem kU.drew {g:Nat} {co c1:Option Addr} {a w:World} (h:kU g co c1 a w):kU g co c1 a w.drew:=h.trans (kU.below (Below.refl _ _).drew)
theorem kU.set {g:Nat} {co c1:Option Addr} {a w:World} (h:kU g co c1 a w) {p:Addr} (hp:p.block=g∨blk c1=some p.block) (u:Value):kU g co c1 a (w.setCell p u) :=
 h.trans ⟨rfl,rfl,rfl,by simp [World.setCell],fun i hi h1 h2=>Below.heap_setCell _ _ _ _ (fun e=>by rcases hp with hp | hp;exact h1 (by rw [e,hp]);exact h2 (by rw [e,hp])),fun _ _ h=>h⟩
theorem kU.setMany {g:Nat} {co c1:Option Addr} {a w:World} (h:kU g co c1 a w) (q o:Nat) (vs:List Value) (hp:q=g∨blk c1=some q):kU g co c1 a (w.setCells q o vs) :=
 h.trans ⟨(below_setCells q vs o w 0 (Nat.zero_le _)).1.os,(below_setCells q vs o w 0 (Nat.zero_le _)).1.tape,(below_setCells q vs o w 0 (Nat.zero_le _)).1.output,Nat.le_of_eq (below_setCells q vs o w 0 (Nat.zero_le _)).2.symm,fun i hi h1 h2=>jS q vs o w i (fun e=>by rcases hp with hp | hp;exact h1 (by rw [e,hp]);exact h2 (by rw [e,hp])),fun _ _ h=>h⟩
section
variable {L:Nat} {w:World} {g:Nat} {b:Mt.PB} {so ao:Option Addr} {sc ac:Nat} {co:Option Addr} {cc:Nat} {c:List Mt.Ins} {d:Int}
theorem LAt.lt (h:LAt L w g b so ao sc ac co cc c d):g<w.heap.size∧(∀ k,blk co=some k→L≤k∧k<w.heap.size)∧(∀ k,blk so=some k→k<w.heap.size)∧(∀ k,blk ao=some k→k<w.heap.size) :=
 ⟨(Array.getElem?_eq_some_iff.1 h.cell).1,fun k hk=>World.ownsRow.lt h.code k (by rw [zY];exact hk),fun k hk=>(World.ownsRow.lt h.tree.zT k (by rw [zY];exact hk)).2,fun k hk=>(World.ownsRow.lt h.tree.atoms k (by rw [zY];exact hk)).2⟩
theorem LAt.below {w':World} (h:LAt L w g b so ao sc ac co cc c d) (hb:Below w.heap.size w w'):LAt L w' g b so ao sc ac co cc c d :=
 ⟨by rw [hb.block _ h.lt.1];exact h.cell,h.lo,h.tree.below hb,zJ h.code (fun q hq=>hb.block q (h.lt.2.1 q hq).2),h.ap⟩
theorem LAt.drew (h:LAt L w g b so ao sc ac co cc c d):LAt L w.drew g b so ao sc ac co cc c d:=⟨h.cell,h.lo,⟨zJ h.tree.zT (fun _ _=>rfl),zJ h.tree.atoms (fun _ _=>rfl)⟩,zJ h.code (fun _ _=>rfl),h.ap⟩
theorem kU.low {c1:Option Addr} {w':World} (h:LAt L w g b so ao sc ac co cc c d) (hs:kU g co c1 w w') (hL:L≤w.heap.size):Below L w w' :=
 ⟨hs.os,hs.tape,hs.output,hs.size,fun k hk=>hs.block k (by omega) (fun e=>by have:=h.lo;omega) (fun e=>by have:=(h.lt.2.1 k e).1;omega)⟩
theorem LAt.cells (h:LAt L w g b so ao sc ac co cc c d):w.cell? ⟨g,0,none⟩=some (.slice so b.zT.length sc)∧w.cell? ⟨g,1,none⟩=some (.slice ao b.atoms.length ac)∧w.cell? ⟨g,2,none⟩=some (.slice co c.length cc)∧w.cell? ⟨g,3,none⟩=some (.int .i64 d)∧(∀ k,w.frozen? ⟨g,k,none⟩=false):=by
 have hb:=zA h.cell
 exact ⟨hb.1 0,hb.1 1,hb.1 2,hb.1 3,hb.2⟩
theorem LAt.form (h:LAt L w g b so ao sc ac co cc c d) (hn:0<c.length):∃ gc,co=some ⟨gc,0,none⟩∧gc≠g∧gc<w.heap.size∧c.length≤cc:=by
 obtain ⟨gs,cap,hv,_,hlt⟩:=World.ownsRow.form h.code hn
 simp only [Value.slice.injEq] at hv
 obtain ⟨rfl,_,rfl⟩:=hv
 rcases h.code.2 with ⟨e,_⟩ | ⟨g',cap',cur,hv,_,_,hc,_⟩
 ·simp at e
 ·simp only [Value.slice.injEq] at hv
  exact ⟨gs,rfl,fun e=>h.ap.1 (by rw [zBv,e]),hlt,by omega⟩
theorem LAt.zHr {gc:Nat} (h:LAt L w g b so ao sc ac (some ⟨gc,0,none⟩) cc c d) (i j:Nat) (vs:List Value) (a':Mt.Ins) (hi:i<c.length) (hj:j+vs.length≤4) (he:zU a'=setMany (zU (c.getD i Mt.jB)) j vs) :
  LAt L (w.setCells gc (i*4+j) vs) g b so ao sc ac (some ⟨gc,0,none⟩) cc (c.set i a') d:=by
 have o:∀ k,k≠gc→(w.setCells gc (i*4+j) vs).heap[k]?=w.heap[k]?:=fun k hk=>jS gc vs _ w k hk
 have ne:gc≠g:=fun e=>h.ap.1 (by rw [zBv,e])
 refine ⟨?_,h.lo,⟨zJ h.tree.zT (fun k hk=>o k (fun e=>(h.ap.2.2.2 gc rfl).1 (by rw [← e];exact hk))),zJ h.tree.atoms (fun k hk=>o k (fun e=>(h.ap.2.2.2 gc rfl).2 (by rw [← e];exact hk)))⟩,?_,h.ap⟩
 ·rw [o g (Ne.symm ne),List.length_set];exact h.cell
 ·have r:=zBu vs (i*4+j) w _ h.code
  rw [zEv zU 4 zHq c i j vs a' hi hj (fun a ha=>by rw [he,List.getD_eq_getElem?_getD,ha];rfl)] at r
  simpa using r
theorem LAt.zKJ (h:LAt L w g b so ao sc ac co cc c d) (d':Int):LAt L (w.setCell ⟨g,3,none⟩ (.int .i64 d')) g b so ao sc ac co cc c d':=by
 have o:∀ k,k≠g→(w.setCell ⟨g,3,none⟩ (.int .i64 d')).heap[k]?=w.heap[k]?:=fun k hk=>Below.heap_setCell _ _ _ _ hk
 refine ⟨?_,h.lo,⟨zJ h.tree.zT (fun k hk=>o k (fun e=>h.ap.2.1 (by rw [← e];exact hk))),zJ h.tree.atoms (fun k hk=>o k (fun e=>h.ap.2.2.1 (by rw [← e];exact hk)))⟩,zJ h.code (fun k hk=>o k (fun e=>h.ap.1 (by rw [← e];exact hk))),h.ap⟩
 have:=Go.heap_setCell_same w g 3 _ _ (.int .i64 d') h.cell
 rw [this];rfl
theorem put_mem {w0 w1:World} {q cap:Nat} {x:Mt.Ins} (h:LAt L w g b so ao sc ac co cc c d) (h0:Below w.heap.size w w0) (hs0:w.heap.size<w0.heap.size) (hg:w0.grownBy w1 (blk co)) (hq:blk co=some q∨q=w0.heap.size)
  (hown:w1.ownsRow L 48 4 (.slice (some ⟨q,0,none⟩) (c.length+1) cap) (c.length+1) (c.flatMap zU++zU x)) :
  LAt L (w1.setCell ⟨g,2,none⟩ (.slice (some ⟨q,0,none⟩) (c.length+1) cap)) g b so ao sc ac (some ⟨q,0,none⟩) cap (c++[x]) d∧kU g co (some ⟨q,0,none⟩) w (w1.setCell ⟨g,2,none⟩ (.slice (some ⟨q,0,none⟩) (c.length+1) cap)):=by
 obtain ⟨lg,lc,ls,la⟩:=h.lt
 have n:q≠g∧blk so≠some q∧blk ao≠some q:=by
  rcases hq with e | e
  ·exact ⟨fun x=>h.ap.1 (by rw [e,x]),(h.ap.2.2.2 q e).1,(h.ap.2.2.2 q e).2⟩
  ·subst e
   exact ⟨by omega,fun e=>by have:=ls _ e;omega,fun e=>by have:=la _ e;omega⟩
 obtain ⟨n1,n2,n3⟩:=n
 have kk:∀ k,k<w.heap.size→blk co≠some k→w1.heap[k]?=w.heap[k]?:=fun k hk hr=>by rw [hg.block k (by have:=h0.size;omega) (fun e=>hr e.symm),h0.block k hk]
 have o:∀ k,k≠g→(w1.setCell ⟨g,2,none⟩ (.slice (some ⟨q,0,none⟩) (c.length+1) cap)).heap[k]?=w1.heap[k]?:=fun k hk=>Below.heap_setCell _ _ _ _ hk
 refine ⟨⟨?_,h.lo,⟨?_,?_⟩,?_,fun e=>n1 (by simpa [blk] using e),h.ap.2.1,h.ap.2.2.1,fun k hk=>by simp [blk] at hk;subst hk;exact ⟨n2,n3⟩⟩,?_⟩
 ·have hc:=Go.heap_setCell_same w1 g 2 _ _ (.slice (some ⟨q,0,none⟩) (c.length+1) cap) (by rw [kk g lg h.ap.1];exact h.cell)
  rw [hc];simp
 ·exact zJ h.tree.zT (fun k hk=>by rw [o k (fun e=>h.ap.2.1 (by rw [← e];exact hk)),kk k (ls k hk) (fun e=>(h.ap.2.2.2 k e).1 hk)])
 ·exact zJ h.tree.atoms (fun k hk=>by rw [o k (fun e=>h.ap.2.2.1 (by rw [← e];exact hk)),kk k (la k hk) (fun e=>(h.ap.2.2.2 k e).2 hk)])
 ·have e1:(c++[x]).length=c.length+1:=by simp
  have e2:(c++[x]).flatMap zU=c.flatMap zU++zU x:=by simp
  rw [e1,e2]
  exact zJ hown (fun k hk=>o k (by simp [blk] at hk;omega))
 ·refine ⟨hg.os.trans h0.os,hg.tape.trans h0.tape,hg.output.trans h0.output,?_,fun k hk h1 h2=>?_,fun k hk ho=>?_⟩
  ·have:=hg.size;have:=h0.size;simp [World.setCell];omega
  ·rw [o k h1,kk k hk h2]
  ·simp [blk] at ho
   subst ho
   rcases hq with hq | hq
   ·exact hq
   ·omega
end
theorem zKK (x:Mt.Ins) {i0:TypeInfo} (hz1:i0.size=4):Instr.fill (fun i=>some (i*i0.size,i0.size)) ((Array.range (1*i0.size)).map ((Value.agg (qH Mt.jB)).cells[· % (Value.agg (qH Mt.jB)).cells.size]!)) [(0,.agg (qH x))]=some (qH x):=by
 rw [hz1];unfold qH;kernel_rfl
theorem zNH {L:Nat} {w w1:World} {g:Nat} {b:Mt.PB} {so ao:Option Addr} {sc ac:Nat} {co:Option Addr} {cc:Nat} {c:List Mt.Ins} {d:Int} {T E:Array Value} {ty te:TypeId} {n k:Nat} (h:LAt L w g b so ao sc ac co cc c d) (hg:(((w.alloc (.cells T ty)).drew).alloc (.cells E te)).grownBy w1 (Value.slice co n k).ownBlock) :
  w1.heap[w.heap.size]?=some (.cells T ty (0,0))∧(∀ o,w1.cell? ⟨g,o,none⟩=w.cell? ⟨g,o,none⟩)∧(∀ o,w1.frozen? ⟨g,o,none⟩=w.frozen? ⟨g,o,none⟩):=by
 rw [zY] at hg
 have hlg:g<w.heap.size:=h.lt.1
 have h1:w1.heap[w.heap.size]?=some (.cells T ty (0,0)):=by
  rw [hg.block _ (by simp;omega) (fun e=>by have:=(h.lt.2.1 _ e.symm).2;omega),kG _ _ _ (by simp)]
  exact heap_alloc_new _ _
 have h2:w1.heap[g]?=w.heap[g]?:=by
  rw [hg.block _ (by simp;omega) (fun e=>h.ap.1 e.symm),kG _ _ _ (by simp;omega)]
  exact kG _ _ _ hlg
 exact ⟨h1,fun o=>World.cell?_of_block (a:=⟨g,o,none⟩) h2,fun o=>World.frozen?_of_block (a:=⟨g,o,none⟩) h2⟩
theorem xM {L:Nat} {w:World} {g:Nat} {b:Mt.PB} {so ao:Option Addr} {sc ac:Nat} {co:Option Addr} {cc:Nat} {c:List Mt.Ins} {d:Int} (x:Mt.Ins) (h:LAt L w g b so ao sc ac co cc c d) (hn:c.length≤1000000) :
  Calls Tryz.prog 71 #[.pointer (some ⟨g,0,none⟩),.agg (qH x)] w fun e w'=>e=.returned (.int .i64 c.length)∧∃ q cap,LAt L w' g b so ao sc ac (some ⟨q,0,none⟩) cap (c++[x]) d∧kU g co (some ⟨q,0,none⟩) w w':=by
 obtain ⟨i0,hi,hz0,hz1,hz2⟩:=info_parts Tryz.infoIn
 have HB:Hid (LAt L w g b so ao sc ac co cc c d):=h
 obtain ⟨c0,c1,c2,c3,hf⟩:=h.cells
 have f2:=hf 2
 have hg:g<w.heap.size:=h.lt.1
 have hL:L≤w.heap.size:=by have:=h.lo;omega
 have HO:Hid (w.ownsRow L 48 4 (.slice co c.length cc) c.length (c.flatMap zU)):=h.code
 clear h hf
 go_enter Tryz.func71,Tryz.ntmps71
 go_upto_region 2 with fail
 go_cut [] (fun wx=>∃ q cap,LAt L wx g b so ao sc ac (some ⟨q,0,none⟩) cap (c++[x]) d∧kU g co (some ⟨q,0,none⟩) w wx)
 case first =>
  have hcr:∀ z:World,z.heap[w.heap.size]?=some (.cells (qH x) 48 (0,0))→z.rangeAt w.heap.size 0 (qH x).toList:=fun z hz=>yV hz
  have S0:(w.alloc (.cells (qH x) 48)).heap[w.heap.size]?=some (.cells (qH x) 48 (0,0)):=heap_alloc_new _ _
  have C2:(w.alloc (.cells (qH x) 48)).cell? ⟨g,2,none⟩=some (.slice co c.length cc):=by rw [World.cell?_of_block (a:=⟨g,2,none⟩) (kG w _ g hg)];exact c2
  refine wp_region_held_drew (S:=fun z:World=>z.heap[w.heap.size]?=some (.cells (qH x) 48 (0,0))) (by kernel_rfl) S0 (fun hH=>?_)
  refine zP 0 11 (.pointer (some ⟨g,0,none⟩)) rfl rfl (by kernel_rfl) (by kernel_rfl) (by kernel_rfl) (fun _ _ _ h=>h) (Or.inl ⟨by rfl,fun z hz=>by clear hH hz hcr S0;go_simp⟩) (by assumption) ?_
  simp only [Act.put,List.setIfInBounds_toArray,List.set_cons_zero,List.set_cons_succ]
  refine zP 1 12 (.pointer (some ⟨g,0,none⟩)) rfl rfl (by kernel_rfl) (by kernel_rfl) (by kernel_rfl) (fun _ _ _ h=>h) (Or.inl ⟨by rfl,fun z hz=>by clear hH hz hcr S0;go_simp⟩) (by assumption) ?_
  simp only [Act.put,List.setIfInBounds_toArray,List.set_cons_zero,List.set_cons_succ]
  refine zP 2 13 (.pointer (some ⟨g,0,none⟩)) rfl rfl (by kernel_rfl) (by kernel_rfl) (by kernel_rfl) (fun _ _ _ h=>h) (Or.inl ⟨by rfl,fun z hz=>by clear hH hz hcr S0;go_simp⟩) (by assumption) ?_
  simp only [Act.put,List.setIfInBounds_toArray,List.set_cons_zero,List.set_cons_succ]
  refine zP 3 14 (.pointer (some ⟨g,2,none⟩)) rfl rfl (by kernel_rfl) (by kernel_rfl) (by kernel_rfl) (fun _ _ _ h=>h) (Or.inl ⟨by rfl,fun z hz=>by clear hH hz hcr S0;go_simp⟩) (by assumption) ?_
  simp only [Act.put,List.setIfInBounds_toArray,List.set_cons_zero,List.set_cons_succ]
  refine zP 5 16 (.agg (qH x)) rfl rfl (by kernel_rfl) (by kernel_rfl) (by kernel_rfl) (fun _ _ _ h=>h) (yieldsIf_load_mid (by rfl) _ _ rfl _ _ rfl _ _ hcr Tryz.underlying48 rfl (by rw [Tryz.sizeIn];rfl)) (by assumption) ?_
  simp only [Act.put,List.setIfInBounds_toArray,List.set_cons_zero,List.set_cons_succ]
  have S1:((w.alloc (.cells (qH x) 48)).drew.alloc (.cells (qH x) 48)).heap[w.heap.size]?=some (.cells (qH x) 48 (0,0)) :=
   (kG _ _ _ (by simp)).trans S0
  have hsz:(w.alloc (.cells (qH x) 48)).drew.heap.size=w.heap.size+1:=by simp
  have hnw:((w.alloc (.cells (qH x) 48)).drew.alloc (.cells (qH x) 48)).heap[w.heap.size+1]?=some (.cells (qH x) 48 (0,0)):=by
   rw [← hsz];exact heap_alloc_new _ _
  refine wpAnyH_ready (rs:=[4,6]) (by kernel_rfl) (by simp) ?_
  refine AllReadyH.cons rfl (fun K hK=>?_) (AllReadyH.cons rfl (fun K hK=>?_) AllReadyH.nil)
  all_goals
   first
   | (
     refine zAP rfl 42 48 (.tmp 16) rfl (qH x) i0 _ (.agg (qH x)) Tryz.underlying42 hi hz0 (by rw [hz1];decide) (by rw [hz1];decide) (by rfl) (zKK _ hz1) ?_
     refine hK.out _ _ S1 (fun hH2=>?_)
     clear hK K
     simp only [Act.put,List.setIfInBounds_toArray,List.set_cons_zero,List.set_cons_succ]
     refine wpAnyH_ready (rs:=[4]) (by kernel_rfl) (by simp) ?_
     refine AllReadyH.cons rfl (fun K hK=>?_) AllReadyH.nil
     try clear hH
     try clear hcr
     go_simp
     refine hK.out _ _ S1 (fun hH4=>?_)
     clear hK K
     )
   | (
     try clear hH
     try clear hcr
     go_simp
     refine hK.out _ _ S0 (fun hH4=>?_)
     clear hK K
     refine wpAnyH_ready (rs:=[6]) (by kernel_rfl) (by simp) ?_
     refine AllReadyH.cons rfl (fun K hK=>?_) AllReadyH.nil
     refine zAP rfl 42 48 (.tmp 16) rfl (qH x) i0 _ (.agg (qH x)) Tryz.underlying42 hi hz0 (by rw [hz1];decide) (by rw [hz1];decide) (by rfl) (zKK _ hz1) ?_
     refine hK.out _ _ S1 (fun hH2=>?_)
     clear hK K
     simp only [Act.put,List.setIfInBounds_toArray,List.set_cons_zero,List.set_cons_succ,hsz]
     )
  all_goals
   refine wpAnyH_ready (rs:=[7]) (by kernel_rfl) (by simp) ?_
   refine AllReadyH.cons rfl (fun K hK=>?_) AllReadyH.nil
   refine step_append_lies _ rfl (.tmp 15) (.tmp 17) 42 rfl L 48 i0 _ 4 40 Tryz.underlying42 hi hz0 hz1 hz2 rfl (by decide) (.slice co c.length cc) c.length (c.flatMap zU) (by rfl) (World.ownsRow.alloc (w:=(w.alloc (.cells (qH x) 48)).drew) (HO.out.alloc _) _) ⟨w.heap.size+1,0,none⟩ 1 1 (zU x) (by rfl) (by rfl) (World.news_of_block (cs:=(qH x)) hnw) (by intro u hu;simp [zU] at hu;rcases hu with h | h | h | h <;> subst h <;> rfl) (by decide) (by unfold maxLen;omega) (by omega) (by simp;omega) (w.heap.size+2) (by simp) ?_
   intro q cap w1 hown hgrow hq zLJ
   obtain ⟨A1,A2,A3⟩:=zNH HB.out hgrow
   refine hK.out _ _ A1 (fun hH3=>?_)
   clear hK K
   have d1:=(A2 2).trans c2
   have e1:=(A3 2).trans f2
   have HM:Hid (LAt L (w1.setCell ⟨g,2,none⟩ (.slice (some ⟨q,0,none⟩) (c.length+1) cap)) g b so ao sc ac (some ⟨q,0,none⟩) cap (c++[x]) d∧kU g co (some ⟨q,0,none⟩) w (w1.setCell ⟨g,2,none⟩ (.slice (some ⟨q,0,none⟩) (c.length+1) cap))) :=
    put_mem HB.out (w0:=(w.alloc (.cells (qH x) 48)).drew.alloc (.cells (qH x) 48)) ((((Below.refl _ _).alloc (Nat.le_refl _) _).drew).alloc (by simp) _) (by simp;omega) (by rw [zY] at hgrow;exact hgrow) (by rw [zY] at hq;simpa using hq) hown
   have SZ:w.heap.size<w1.heap.size:=(Array.getElem?_eq_some_iff.1 A1).1
   have S4:(w1.setCell ⟨g,2,none⟩ (.slice (some ⟨q,0,none⟩) (c.length+1) cap)).heap[w.heap.size]?=some (.cells (qH x) 48 (0,0)) :=
    (Below.heap_setCell _ _ _ _ (by show w.heap.size≠g;omega)).trans A1
   clear A2 A3 hgrow hown hq S0 S1
   simp only [Act.put,List.setIfInBounds_toArray,List.set_cons_zero,List.set_cons_succ]
   refine zP 8 19 (.pointer (some ⟨g,0,none⟩)) rfl rfl (by kernel_rfl) (by kernel_rfl) (by kernel_rfl) (fun _ _ _ h=>h) (Or.inl ⟨by rfl,fun z hz=>by clear hH3 hz S4;go_simp⟩) (by assumption) ?_
   simp only [Act.put,List.setIfInBounds_toArray,List.set_cons_zero,List.set_cons_succ]
   refine zP 9 20 (.pointer (some ⟨g,2,none⟩)) rfl rfl (by kernel_rfl) (by kernel_rfl) (by kernel_rfl) (fun _ _ _ h=>h) (Or.inl ⟨by rfl,fun z hz=>by clear hH3 hz S4;go_simp⟩) (by assumption) ?_
   simp only [Act.put,List.setIfInBounds_toArray,List.set_cons_zero,List.set_cons_succ]
   refine wpAnyH_ready (rs:=[10]) (by kernel_rfl) (by simp) ?_
   refine AllReadyH.cons rfl (fun K hK=>?_) AllReadyH.nil
   go_simp
   refine hK.out _ _ S4 (fun hH4=>?_)
   clear hK K
   refine wpAnyH_done (by kernel_rfl) ?_ _
   go_wp2_with fail
   go_meet
   case rel=>exact ⟨q,cap,HM.out.1,HM.out.2⟩
 case rest =>
  obtain ⟨q,cap,hP,hSt⟩:=hcut
  have HP:Hid (LAt L wc g b so ao sc ac (some ⟨q,0,none⟩) cap (c++[x]) d):=hP
  have HSt:Hid (kU g co (some ⟨q,0,none⟩) w wc):=hSt
  clear hP hSt
  go_wp2_with fail
  go_ret
  exact ⟨rfl,q,cap,HP.out,HSt.out⟩
end Go.Proofs.YtebpgfodelggoabGreat
