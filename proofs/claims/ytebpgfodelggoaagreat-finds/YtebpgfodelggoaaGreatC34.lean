import Derived.Test.YtebpgfodelggoaaGreatC33
import Derived.Deep.LoopGhost
set_option linter.unusedVariables false
set_option linter.unusedSimpArgs false
set_option maxRecDepth 100000
set_option maxHeartbeats 4000000
namespace Go.Proofs.YtebpgfodelggoaaGreat
open Go.RowKit
section
variable {L:Nat} {w:World} {b:Mt.PB} {so ao:Option Addr} {sc ac:Nat}
theorem qE.below {w':World} (h:qE L w b so ao sc ac) (hb:Below w.heap.size w w'):qE L w' b so ao sc ac :=
 ⟨zK h.zR (fun q hq=>hb.block q (World.ownsRow.lt h.zR q (by rw [zW];exact hq)).2),zK h.atoms (fun q hq=>hb.block q (World.ownsRow.lt h.atoms q (by rw [zW];exact hq)).2)⟩
theorem qE.zB2 (h:qE L w b so ao sc ac) (i:Nat) (hi:i<b.zR.length):∃ gs,so=some ⟨gs,0,none⟩∧gs<w.heap.size∧b.zR.length≤sc∧w.cell? ⟨gs,i*2,none⟩=some (.int .i64 (b.sAt i).first)∧w.cell? ⟨gs,i*2+1,none⟩=some (.int .i64 (b.sAt i).next):=by
 obtain ⟨gs,cap,hv,_,hlt⟩:=World.ownsRow.form h.zR (by omega)
 simp only [Value.slice.injEq] at hv
 obtain ⟨rfl,_,rfl⟩:=hv
 have c:∀ j,j<2→w.cell? ⟨gs,i*2+j,none⟩=(psC (b.sAt i))[j]?:=fun j hj=>by
  rw [World.ownsRow.cellAt h.zR _ (by omega),flat_get psC 2 zJu Mt.ps0 _ _ _ hi hj];rfl
 rcases h.zR.2 with ⟨e,_⟩ | ⟨g',cap',cur,hv,_,_,hc,_⟩
 ·simp at e
 ·simp only [Value.slice.injEq] at hv
  exact ⟨gs,rfl,hlt,by omega,c 0 (by decide),c 1 (by decide)⟩
theorem qE.zDc (h:qE L w b so ao sc ac) (i:Nat) (hi:i<b.atoms.length):∃ ga,ao=some ⟨ga,0,none⟩∧ga<w.heap.size∧b.atoms.length≤ac∧(∀ j,j<20→w.cell? ⟨ga,i*20+j,none⟩=(paC (b.aAt i))[j]?):=by
 obtain ⟨gs,cap,hv,_,hlt⟩:=World.ownsRow.form h.atoms (by omega)
 simp only [Value.slice.injEq] at hv
 obtain ⟨rfl,_,rfl⟩:=hv
 have c:∀ j,j<20→w.cell? ⟨gs,i*20+j,none⟩=(paC (b.aAt i))[j]?:=fun j hj=>by
  rw [World.ownsRow.cellAt h.atoms _ (by omega),flat_get paC 20 zDZ Mt.pa0 _ _ _ hi hj];rfl
 rcases h.atoms.2 with ⟨e,_⟩ | ⟨g',cap',cur,hv,_,_,hc,_⟩
 ·simp at e
 ·simp only [Value.slice.injEq] at hv
  exact ⟨gs,rfl,hlt,by omega,c⟩
end
theorem Tryz.sizeAt:(Tryz.prog.info? 200).map (·.size)=some 20:=by kernel_rfl
theorem zJA (a:Mt.PA):(paC a).toArray.all (·.oneCell')=true:=by
 rw [List.all_toArray];simp [paC,ptL,Value.oneCell']
def zRL (b:Mt.PB) (so ao:Option Addr) (sc ac:Nat) (N:Nat):Prop :=
 ∀ (f:Mt.Fs),f.wf→f.ok→f.flat.length<N→∀ (s:Nat),s<b.zR.length→Mt.jF b 0 0 f (b.sAt s).first (b.sAt s).next→∀ (L:Nat) (w:World),qE L w b so ao sc ac →
  Calls Tryz.prog 118 #[zAb b so ao sc ac,.int .i64 (s:Int)] w fun e w'=>e=.returned (.int .i64 (Mt.lim f.re.len:Nat))∧Below w.heap.size w w'
theorem zG9 {b:Mt.PB} {so ao:Option Addr} {sc ac:Nat} {L:Nat} {w:World} (hT:qE L w b so ao sc ac) (k:Nat) (hk:k<b.atoms.length) (hn:b.atoms.length≤1000) (hb:(b.aAt k).body=-1) :
  Calls Tryz.prog 159 #[zAb b so ao sc ac,.int .i64 (k:Int)] w fun e w'=>e=.returned (.int .i64 1)∧Below w.heap.size w w':=by
 obtain ⟨ga,rfl,hga,hac,hc⟩:=hT.zDc k hk
 have hR:∀ W:World,(∀ q,q<w.heap.size→W.heap[q]?=w.heap[q]?)→W.rangeAt ga (k*20) (paC (b.aAt k)):=fun W hW j v hv=>by
  by_cases hj:j<20
  ·rw [World.cell?_of_block (a:=⟨ga,k*20+j,none⟩) (hW ga hga),hc j hj];exact hv
  ·rw [List.getElem?_eq_none (by rw [zDZ];omega)] at hv;simp at hv
 have HR:Hid (∀ W:World,(∀ q,q<w.heap.size→W.heap[q]?=w.heap[q]?)→W.rangeAt ga (k*20) (paC (b.aAt k))):=hR
 have HBD:Hid ((b.aAt k).body=-1):=hb
 clear hR hc hT hb
 have hk':(k:Int)<(b.atoms.length:Int):=by omega
 unfold zAb
 generalize b.aAt k=A at *
 generalize b.atoms.length=N at *
 go_enter Tryz.func159,Tryz.ntmps159
 go_wp2_with (first | (refine wpList_load_mid (by rfl) 200 (.tmp 10) (by rfl) ga (k*20) (by rfl) (paC A) _ (HR.out _ (fun q hq=>zX _ _ _ hq)) Tryz.underlying200 rfl (by rw [Tryz.sizeAt];rfl) ?_) | (refine zI 200 20 Tryz.sizeAt (by rfl) (.tmp 5) (.tmp 11) (by rfl) (w.heap.size+1) (paC A).toArray (by rfl) (by rfl) (by exact zAH _ _ _) (by rfl) (by rfl) (zJA A) ?_;intro w3 r1 r2 r3 r4;have t17:=(zA r1).1 17;change w3.cell? ⟨w.heap.size+1,17,none⟩=some (.int .i64 A.body) at t17;rw [HBD.out] at t17;have R4:Hid (Below w.heap.size w w3):=(((Below.refl _ _).alloc (Nat.le_refl _) _).alloc (by simp) _).trans (r4 _ (by omega));clear r1 r2 r3 r4))
 go_returns
 exact ⟨rfl,R4.out⟩
theorem zIk {b:Mt.PB} {so ao:Option Addr} {sc ac N:Nat} (hA:zRL b so ao sc ac N) {L:Nat} {w:World} (hT:qE L w b so ao sc ac) (k:Nat) (hk:k<b.atoms.length) (hn:b.atoms.length≤1000) (hns:b.zR.length≤1000) (t:Mt.Tok) (i:Mt.Fs) (ht:t.kind=6) (hh:0≤t.how∧t.how≤4) (hw:i.wf) (ho:i.ok) (hl:i.flat.length<N)
  (htk:(b.aAt k).tok=Mt.jT t) (q:Nat) (hq:(b.aAt k).body=q) (hql:q<b.zR.length) (hs:Mt.jF b 0 0 i (b.sAt q).first (b.sAt q).next) :
  Calls Tryz.prog 159 #[zAb b so ao sc ac,.int .i64 (k:Int)] w fun e w'=>e=.returned (.int .i64 (Mt.lim (Mt.zBE t i.re).len:Nat))∧Below w.heap.size w w':=by
 have HC:Hid (∀ W:World,Below w.heap.size w W→Calls Tryz.prog 118 #[zAb b so ao sc ac,.int .i64 (q:Int)] W fun e w'=>e=.returned (.int .i64 (Mt.lim i.re.len:Nat))∧Below W.heap.size W w'):=fun W hW=>hA i hw ho hl q hql hs L W (hT.below hW)
 obtain ⟨ga,rfl,hga,hac,hc⟩:=hT.zDc k hk
 have hR:∀ W:World,(∀ q,q<w.heap.size→W.heap[q]?=w.heap[q]?)→W.rangeAt ga (k*20) (paC (b.aAt k)):=fun W hW j v hv=>by
  by_cases hj:j<20
  ·rw [World.cell?_of_block (a:=⟨ga,k*20+j,none⟩) (hW ga hga),hc j hj];exact hv
  ·rw [List.getElem?_eq_none (by rw [zDZ];omega)] at hv;simp at hv
 have HR:Hid (∀ W:World,(∀ q,q<w.heap.size→W.heap[q]?=w.heap[q]?)→W.rangeAt ga (k*20) (paC (b.aAt k))):=hR
 have HBD:Hid ((b.aAt k).body=q):=hq
 have hgr:(b.aAt k).tok.group=Mt.zOG t.how:=by rw [htk];simp [Mt.jT,ht]
 have HGR:Hid ((b.aAt k).tok.group=Mt.zOG t.how):=hgr
 have hll:=Mt.zDz i.re.len
 have hk':(k:Int)<(b.atoms.length:Int):=by omega
 have hg3:(Mt.zOG t.how==2)=decide (t.how=3):=by
  unfold Mt.zOG
  by_cases h4:t.how=4
  ·rw [if_pos h4,h4];rfl
  ·rw [if_neg h4]
   by_cases h3:t.how=3
   ·rw [if_pos h3,h3];rfl
   ·rw [if_neg h3];simp [h3];omega
 have HF:Hid (Mt.lim (Mt.zBE t i.re).len=if t.how=3 then Mt.lim i.re.len else Mt.lim (Mt.lim i.re.len+2)):=by
  show _=_
  rw [Mt.zNg]
  by_cases h3:t.how=3
  ·rw [if_pos h3,if_pos h3];rfl
  ·rw [if_neg h3,if_neg h3];unfold Mt.lim;omega
 clear hR hc hT hq hs hw ho hl hA htk hgr
 unfold zAb
 unfold zAb at HC
 generalize b.aAt k=A at *
 generalize b.atoms.length=NA at *
 generalize Mt.lim i.re.len=I at *
 cases h3:decide (t.how=3)
 ·rw [h3] at hg3
  have HF2:Hid (Mt.lim (Mt.zBE t i.re).len=Mt.lim (I+2)):=by show _=_;rw [HF.out,if_neg (by simpa using h3)]
  rw [HF2.out]
  clear HF HF2 h3
  go_enter Tryz.func159,Tryz.ntmps159
  go_wp2_with (first | (refine wpList_load_mid (by rfl) 200 (.tmp 10) (by rfl) ga (k*20) (by rfl) (paC A) _ (HR.out _ (fun q hq=>zX _ _ _ hq)) Tryz.underlying200 rfl (by rw [Tryz.sizeAt];rfl) ?_) | (refine zI 200 20 Tryz.sizeAt (by rfl) (.tmp 5) (.tmp 11) (by rfl) (w.heap.size+1) (paC A).toArray (by rfl) (by rfl) (by exact zAH _ _ _) (by rfl) (by rfl) (zJA A) ?_;intro w3 r1 r2 r3 r4;have t17:=(zA r1).1 17;change w3.cell? ⟨w.heap.size+1,17,none⟩=some (.int .i64 A.body) at t17;rw [HBD.out] at t17;have bx:=(r2 w.heap.size (by omega)).trans (zAX _ _ _);have bx0:=(zA bx).1 0;have bx1:=(zA bx).1 1;simp only [List.getElem?_toArray,List.getElem?_cons_succ,List.getElem?_cons_zero] at bx0 bx1;have R4:Hid (Below w.heap.size w w3∧w3.heap[w.heap.size+1]?=some (.cells (paC A).toArray 200 (0,0))∧w.heap.size+1<w3.heap.size):=⟨(((Below.refl _ _).alloc (Nat.le_refl _) _).alloc (by simp) _).trans (r4 _ (by omega)),r1,(Array.getElem?_eq_some_iff.1 r1).1⟩;clear r1 r2 r3 r4 bx))
  refine (HC.out w3 R4.out.1).mono ?_
  rintro e w4 ⟨rfl,b4⟩
  have g2:=(zA ((b4.block _ R4.out.2.2).trans R4.out.2.1)).1 2
  change w4.cell? ⟨w.heap.size+1,2,none⟩=some (.int .i64 A.tok.group) at g2
  rw [HGR.out] at g2
  have R5:Hid (Below w.heap.size w w4):=R4.out.1.trans (b4.mono (by have:=R4.out.2.2;omega))
  clear b4
  go_wp2_with (go_at_call 119;refine (xA _ (I+2) (by omega) _).mono ?_;rintro e w' ⟨rfl,rfl⟩)
  go_returns
  exact ⟨rfl,R5.out⟩
 ·rw [h3] at hg3
  have HF2:Hid (Mt.lim (Mt.zBE t i.re).len=I):=by show _=_;rw [HF.out,if_pos (by simpa using h3)]
  rw [HF2.out]
  clear HF HF2 h3
  go_enter Tryz.func159,Tryz.ntmps159
  go_wp2_with (first | (refine wpList_load_mid (by rfl) 200 (.tmp 10) (by rfl) ga (k*20) (by rfl) (paC A) _ (HR.out _ (fun q hq=>zX _ _ _ hq)) Tryz.underlying200 rfl (by rw [Tryz.sizeAt];rfl) ?_) | (refine zI 200 20 Tryz.sizeAt (by rfl) (.tmp 5) (.tmp 11) (by rfl) (w.heap.size+1) (paC A).toArray (by rfl) (by rfl) (by exact zAH _ _ _) (by rfl) (by rfl) (zJA A) ?_;intro w3 r1 r2 r3 r4;have t17:=(zA r1).1 17;change w3.cell? ⟨w.heap.size+1,17,none⟩=some (.int .i64 A.body) at t17;rw [HBD.out] at t17;have bx:=(r2 w.heap.size (by omega)).trans (zAX _ _ _);have bx0:=(zA bx).1 0;have bx1:=(zA bx).1 1;simp only [List.getElem?_toArray,List.getElem?_cons_succ,List.getElem?_cons_zero] at bx0 bx1;have R4:Hid (Below w.heap.size w w3∧w3.heap[w.heap.size+1]?=some (.cells (paC A).toArray 200 (0,0))∧w.heap.size+1<w3.heap.size):=⟨(((Below.refl _ _).alloc (Nat.le_refl _) _).alloc (by simp) _).trans (r4 _ (by omega)),r1,(Array.getElem?_eq_some_iff.1 r1).1⟩;clear r1 r2 r3 r4 bx))
  refine (HC.out w3 R4.out.1).mono ?_
  rintro e w4 ⟨rfl,b4⟩
  have g2:=(zA ((b4.block _ R4.out.2.2).trans R4.out.2.1)).1 2
  change w4.cell? ⟨w.heap.size+1,2,none⟩=some (.int .i64 A.tok.group) at g2
  rw [HGR.out] at g2
  have R5:Hid (Below w.heap.size w w4):=R4.out.1.trans (b4.mono (by have:=R4.out.2.2;omega))
  clear b4
  go_wp2_with fail
  go_returns
  exact ⟨rfl,R5.out⟩
theorem zLy {b:Mt.PB} {f:Mt.Fs} {a n:Int} (h:Mt.jF b 0 0 f a n) (hw:f.wf) (hok:f.ok) :
  (a=-1∧f.both.1.len=0) ∨
  ∃ (k:Nat) (s:Mt.Fs) (r:Option Mt.Tok) (x:Mt.Re),a=k∧k<b.atoms.length∧(b.aAt k).rep=Mt.rp r∧Mt.zK5 r∧Mt.zDA r∧f.both.1.len=(Mt.part r x).len+s.both.1.len∧Mt.jF b 0 0 s (b.aAt k).next n∧s.wf∧s.ok∧s.flat.length<f.flat.length ∧
   (((b.aAt k).body=-1∧x.len=1)∨∃ (t:Mt.Tok) (i:Mt.Fs) (q:Nat),x=Mt.zBE t i.re∧t.kind=6∧(0≤t.how∧t.how≤4)∧i.wf∧i.ok∧i.flat.length<f.flat.length∧(b.aAt k).tok=Mt.jT t∧(b.aAt k).body=q∧q<b.zR.length∧Mt.jF b 0 0 i (b.sAt q).first (b.sAt q).next):=by
 cases f with
 | nil=>exact Or.inl ⟨h.1,rfl⟩
 | bar t r=>exact Or.inl ⟨h.1,rfl⟩
 | leaf t r s =>
  obtain ⟨k,h1,_,h2,h3,h4,h5,h6⟩:=h
  exact Or.inr ⟨k,s,r,Mt.xM t,h1,h2,h4,hw.2.1,hok.1,rfl,h6,hw.2.2,hok.2,by simp [Mt.Fs.flat];omega,Or.inl ⟨h5,Mt.zLx t⟩⟩
 | grp t i c r s =>
  obtain ⟨k,h1,_,h2,h3,h4,h5,⟨q,g1,_,g2,g3⟩,h6⟩:=h
  obtain ⟨w1,w2,w3,w4,w5⟩:=hw
  obtain ⟨o1,o2,o3,o4⟩:=hok
  exact Or.inr ⟨k,s,r,Mt.zBE t i.re,h1,h2,h4,w4,o1,rfl,h6,w5,o4,by simp [Mt.Fs.flat];omega,Or.inr ⟨t,i,q,rfl,w1,o2,w3,o3,by simp [Mt.Fs.flat];omega,h3,g1,g2,g3⟩⟩
theorem zO8 (S X Y T:Nat) (h:Mt.lim (S+(X+Y))=T):Mt.lim (Mt.lim (S+Mt.lim X)+Y)=T:=by unfold Mt.lim at *;omega
theorem zNh {L:Nat} {w:World} {b:Mt.PB} {so:Option Addr} {sc ac:Nat} {ga:Nat} (h:qE L w b so (some ⟨ga,0,none⟩) sc ac) (k:Nat) (hk:k<b.atoms.length):w.rangeAt ga (k*20+9) (ptL (b.aAt k).rep):=by
 obtain ⟨ga',e,_,_,hc⟩:=h.zDc k hk
 simp only [Option.some.injEq,Addr.mk.injEq,and_true,true_and] at e
 subst e
 intro j v hv
 by_cases hj:j<8
 ·rw [show k*20+9+j=k*20+(9+j) by omega,hc (9+j) (by omega)]
  unfold paC
  rw [List.getElem?_append_right (by simp [ptL];omega)]
  rw [show 9+j-(ptL (b.aAt k).tok).length=j+1 by simp [ptL];omega,List.getElem?_cons_succ,List.getElem?_append_left (by simp [ptL];omega)]
  exact hv
 ·rw [List.getElem?_eq_none (by simp [ptL];omega)] at hv;simp at hv
theorem zEz {b:Mt.PB} {so ao:Option Addr} {sc ac N:Nat} (hA:zRL b so ao sc ac N) (hna:b.atoms.length≤1000) (hns:b.zR.length≤1000) (f:Mt.Fs) (hw:f.wf) (hok:f.ok) (hl:f.flat.length≤N) (s:Nat) (hs:s<b.zR.length) (hst:Mt.jF b 0 0 f (b.sAt s).first (b.sAt s).next) {L:Nat} {w:World} (hT:qE L w b so ao sc ac) :
  Calls Tryz.prog 145 #[zAb b so ao sc ac,.int .i64 (s:Int)] w fun e w'=>e=.returned (.int .i64 (Mt.lim f.both.1.len:Nat))∧Below w.heap.size w w':=by
 obtain ⟨gs,rfl,hgs,hsc,cs0,cs1⟩:=hT.zB2 s hs
 have HT:Hid (qE L w b (some ⟨gs,0,none⟩) ao sc ac):=hT
 have HA:Hid (zRL b (some ⟨gs,0,none⟩) ao sc ac N):=hA
 have HST:Hid (Mt.jF b 0 0 f (b.sAt s).first (b.sAt s).next∧f.wf∧f.ok):=⟨hst,hw,hok⟩
 have HL:Hid (f.flat.length≤N):=hl
 have hs':(s:Int)<(b.zR.length:Int):=by omega
 have HW0:Hid (Below w.heap.size w (w.alloc (.cells (vZ b (some ⟨gs,0,none⟩) ao sc ac) 107))):=(Below.refl _ _).alloc (Nat.le_refl _) _
 have HE0:vZ b (some ⟨gs,0,none⟩) ao sc ac=#[.slice (some ⟨gs,0,none⟩) b.zR.length sc,.slice ao b.atoms.length ac]:=rfl
 generalize hn:(b.sAt s).next=n at *
 generalize hfi:(b.sAt s).first=a0 at *
 clear hT hA hst hw hok hn hfi
 unfold zAb
 go_enter Tryz.func145,Tryz.ntmps145
 go_wp2_with fail
 go_loopg [5,6] f.flat.length (fun gn sz at' wr=>∃ (g:Mt.Fs) (S:Nat) (a:Int),sz=.int .i64 (S:Int)∧at'=.int .i64 a∧S≤301∧g.flat.length=gn∧gn≤f.flat.length∧Mt.jF b 0 0 g a n∧g.wf∧g.ok∧Mt.lim (S+g.both.1.len)=Mt.lim f.both.1.len∧wr.heap[w.heap.size]?=some (.cells (vZ b (some ⟨gs,0,none⟩) ao sc ac) 107 (0,0))∧Below w.heap.size w wr)
 case atStart=>exact ⟨f,0,a0,rfl,rfl,by omega,rfl,Nat.le_refl _,HST.out.1,HST.out.2.1,HST.out.2.2,by rw [Nat.zero_add],by exact jE _ _,HW0.out⟩
 case round =>
  obtain ⟨g,S,a,rfl,rfl,hS,hgn,hgf,zSU,hgw,hgo,hlim,hblk,hBl⟩:=hrel
  have bx0:=(zA hblk).1 0
  have bx1:=(zA hblk).1 1
  rw [HE0] at bx0 bx1
  simp only [List.getElem?_toArray,List.getElem?_cons_succ,List.getElem?_cons_zero] at bx0 bx1
  have hsz:w.heap.size<wr.heap.size:=(Array.getElem?_eq_some_iff.1 hblk).1
  have HBK:Hid (wr.heap[w.heap.size]?=some (.cells (vZ b (some ⟨gs,0,none⟩) ao sc ac) 107 (0,0))∧Below w.heap.size w wr):=⟨hblk,hBl⟩
  have HTr:Hid (qE L wr b (some ⟨gs,0,none⟩) ao sc ac):=HT.out.below hBl
  have hc:=zLy zSU hgw hgo
  have HLM:Hid (Mt.lim (S+g.both.1.len)=Mt.lim f.both.1.len):=hlim
  clear zSU hgw hgo hlim hblk hBl
  rcases hc with ⟨ha,h0⟩ | ⟨k,sr,r,x,ha,hk,hrep,hrk,hro,hlen,hst',hsw,hso,hsl,hx⟩
  ·have HF:Hid (Mt.lim f.both.1.len=S):=by show _=_;rw [← HLM.out,h0];unfold Mt.lim;omega
   subst ha
   clear h0 HLM
   go_wp2_with fail
   go_returns
   exact ⟨by rw [HF.out];rfl,HBK.out.2⟩
  ·subst ha
   obtain ⟨ga,hao,hga,hac,hcell⟩:=HTr.out.zDc k hk
   subst hao
   have c19:=hcell 19 (by decide)
   change wr.cell? ⟨ga,k*20+19,none⟩=some (.int .i64 (b.aAt k).next) at c19
   have HRR:Hid (∀ W:World,Below wr.heap.size wr W→W.rangeAt ga (k*20+9) (ptL (Mt.rp r))):=fun W hW=>by rw [← hrep];exact zNh (HTr.out.below hW) k hk
   have HRS:Hid (∀ (o:Nat) (z:World),o≤301→Calls Tryz.prog 160 #[.int .i64 (o:Int),ptV (Mt.rp r)] z fun e w'=>e=.returned (.int .i64 (Mt.lim (Mt.zBe o r):Nat))∧Below z.heap.size z w'):=fun o z ho=>zEy o r z ho hro hrk
   have HAT:Hid (Calls Tryz.prog 159 #[zAb b (some ⟨gs,0,none⟩) (some ⟨ga,0,none⟩) sc ac,.int .i64 (k:Int)] wr fun e w'=>e=.returned (.int .i64 (Mt.lim x.len:Nat))∧Below wr.heap.size wr w'):=by
    rcases hx with ⟨hb,h1⟩ | ⟨t,i,q,h1,h2,h3,h4,h5,h6,h7,h8,h9,h10⟩
    ·have e1:Mt.lim x.len=1:=by rw [h1];rfl
     rw [e1];exact zG9 HTr.out k hk hna hb
    ·rw [h1];exact zIk HA.out HTr.out k hk hna hns t i h2 h3 h4 h5 (by have:=HL.out;omega) h7 q h8 h9 h10
   have HN:Hid (Mt.lim (Mt.lim (S+Mt.lim (Mt.zBe (Mt.lim x.len) r))+sr.both.1.len)=Mt.lim f.both.1.len):=by
    show _=_
    rw [Mt.zO7 _ _ hro,← Mt.zO6 x r hro]
    exact zO8 S _ _ _ (by rw [← HLM.out,hlen])
   have HSR:Hid (Mt.jF b 0 0 sr (b.aAt k).next n∧sr.wf∧sr.ok):=⟨hst',hsw,hso⟩
   have hk':(k:Int)<(b.atoms.length:Int):=by omega
   have hxl:=Mt.zDz x.len
   have hpl:=Mt.zDz (Mt.zBe (Mt.lim x.len) r)
   have hkb:((k:Int) != -1)=true:=by simp
   clear hcell hx hlen hst' hsw hso hro hrk hrep HLM
   generalize hNx:(b.aAt k).next=nx at *
   clear hNx
   generalize Mt.lim x.len=X at *
   unfold zAb at HAT
   go_wp2_with fail
   refine HAT.out.mono ?_
   rintro e w2 ⟨rfl,b2⟩
   have hs2:wr.heap.size≤w2.heap.size:=b2.size
   have bk2:w2.heap[w.heap.size]?=some (.cells (vZ b (some ⟨gs,0,none⟩) (some ⟨ga,0,none⟩) sc ac) 107 (0,0)):=(b2.block _ hsz).trans HBK.out.1
   have by0:=(zA bk2).1 0
   have by1:=(zA bk2).1 1
   rw [HE0] at by0 by1
   simp only [List.getElem?_toArray,List.getElem?_cons_succ,List.getElem?_cons_zero] at by0 by1
   have HR2:Hid (w2.rangeAt ga (k*20+9) (ptL (Mt.rp r))):=HRR.out w2 b2
   have HB2:Hid (Below w.heap.size w w2∧Below wr.heap.size wr w2∧w2.heap[w.heap.size]?=some (.cells (vZ b (some ⟨gs,0,none⟩) (some ⟨ga,0,none⟩) sc ac) 107 (0,0))):=⟨HBK.out.2.trans (b2.mono (by omega)),b2,bk2⟩
   have d19:=(b2.cell (p:=⟨ga,k*20+19,none⟩) hga).trans c19
   clear b2 bk2
   go_wp2_with (refine wpList_load_mid (by rfl) 174 (.tmp 31) (by rfl) ga (k*20+9) (by rfl) (ptL (Mt.rp r)) _ HR2.out Tryz.underlying174 rfl (by rw [Tryz.sizePT];rfl) ?_)
   refine (HRS.out X w2 hxl).mono ?_
   rintro e w3 ⟨rfl,b3⟩
   have hs3:w2.heap.size≤w3.heap.size:=b3.size
   have bk3:w3.heap[w.heap.size]?=some (.cells (vZ b (some ⟨gs,0,none⟩) (some ⟨ga,0,none⟩) sc ac) 107 (0,0)):=(b3.block _ (by omega)).trans HB2.out.2.2
   have bz0:=(zA bk3).1 0
   have bz1:=(zA bk3).1 1
   rw [HE0] at bz0 bz1
   simp only [List.getElem?_toArray,List.getElem?_cons_succ,List.getElem?_cons_zero] at bz0 bz1
   have e19:=(b3.cell (p:=⟨ga,k*20+19,none⟩) (by show ga<w2.heap.size;omega)).trans d19
   have HB3:Hid (Below w.heap.size w w3∧w3.heap[w.heap.size]?=some (.cells (vZ b (some ⟨gs,0,none⟩) (some ⟨ga,0,none⟩) sc ac) 107 (0,0))):=⟨HB2.out.1.trans (b3.mono (by omega)),bk3⟩
   clear b3 bk3
   generalize Mt.lim (Mt.zBe X r)=Y at *
   have hSl:=Mt.zDz (S+Y)
   go_wp2_with (go_at_call 119;refine (xA _ (S+Y) (by omega) _).mono ?_;rintro e w' ⟨rfl,rfl⟩)
   go_roundg sr.flat.length
   case measure=>omega
   case rel=>exact ⟨sr,Mt.lim (S+Y),nx,rfl,rfl,hSl,rfl,by omega,HSR.out.1,HSR.out.2.1,HSR.out.2.2,HN.out,HB3.out.2,HB3.out.1⟩
def zD1 (r:Option Mt.Fs):Nat:=match r with
 | none=>0
 | some g=>2+g.re.len
theorem zNi (f:Mt.Fs):f.re.len=f.both.1.len+zD1 f.rs:=Mt.zRK f
theorem zQM (S X R T:Nat) (h:Mt.lim (S+(2+(X+R)))=T):Mt.lim (Mt.lim (S+2+Mt.lim X)+R)=T:=by unfold Mt.lim at *;omega
def zHa (b:Mt.PB) (r:Option Mt.Fs) (a:Int):Prop:=match r with
 | none=>a=-1
 | some g=>∃ k:Nat,a=k∧k<b.zR.length∧Mt.jF b 0 0 g (b.sAt k).first (b.sAt k).next∧g.wf∧g.ok
def zQN (r:Option Mt.Fs):Nat:=match r with
 | none=>0
 | some g=>g.flat.length+1
theorem zGr {b:Mt.PB} {f:Mt.Fs} {a n:Int} (h:Mt.jF b 0 0 f a n) (hw:f.wf) (hok:f.ok):zHa b f.rs n∧zQN f.rs≤f.flat.length:=by
 rcases Mt.zDB f a n h with ⟨e,h1⟩ | ⟨r,k,e,h1,h2,h3⟩
 ·rw [e];exact ⟨h1,Nat.zero_le _⟩
 ·have:=Mt.zG8 f r e
  rw [e];exact ⟨⟨k,h1,h2,h3,this.2.1 hw,this.2.2 hok⟩,this.1⟩
theorem zCU {b:Mt.PB} {so ao:Option Addr} {sc ac N:Nat} (hA:zRL b so ao sc ac N) (hna:b.atoms.length≤1000) (hns:b.zR.length≤1000) (f:Mt.Fs) (hw:f.wf) (hok:f.ok) (hl:f.flat.length≤N) (s:Nat) (hs:s<b.zR.length) (hst:Mt.jF b 0 0 f (b.sAt s).first (b.sAt s).next) {L:Nat} {w:World} (hT:qE L w b so ao sc ac) :
  Calls Tryz.prog 118 #[zAb b so ao sc ac,.int .i64 (s:Int)] w fun e w'=>e=.returned (.int .i64 (Mt.lim f.re.len:Nat))∧Below w.heap.size w w':=by
 have HSQ:Hid (∀ (g:Mt.Fs) (k:Nat) (W:World),g.wf→g.ok→g.flat.length≤N→k<b.zR.length→Mt.jF b 0 0 g (b.sAt k).first (b.sAt k).next→qE L W b so ao sc ac→Calls Tryz.prog 145 #[zAb b so ao sc ac,.int .i64 (k:Int)] W fun e w'=>e=.returned (.int .i64 (Mt.lim g.both.1.len:Nat))∧Below W.heap.size W w'):=fun g k W h1 h2 h3 h4 h5 h6=>zEz hA hna hns g h1 h2 h3 k h4 h5 h6
 obtain ⟨gs,rfl,hgs,hsc,cs0,cs1⟩:=hT.zB2 s hs
 have HW0:Hid (Below w.heap.size w (w.alloc (.cells (vZ b (some ⟨gs,0,none⟩) ao sc ac) 107))):=(Below.refl _ _).alloc (Nat.le_refl _) _
 have HT:Hid (qE L w b (some ⟨gs,0,none⟩) ao sc ac):=hT
 have HC1:Hid (Calls Tryz.prog 145 #[zAb b (some ⟨gs,0,none⟩) ao sc ac,.int .i64 (s:Int)] (w.alloc (.cells (vZ b (some ⟨gs,0,none⟩) ao sc ac) 107)) _):=HSQ.out f s _ hw hok hl hs hst (hT.below HW0.out)
 have HSR:Hid (zHa b f.rs (b.sAt s).next∧zQN f.rs≤f.flat.length):=zGr hst hw hok
 have HRE:Hid (f.re.len=f.both.1.len+zD1 f.rs):=zNi f
 have HL:Hid (f.flat.length≤N):=hl
 have hs':(s:Int)<(b.zR.length:Int):=by omega
 have HE0:vZ b (some ⟨gs,0,none⟩) ao sc ac=#[.slice (some ⟨gs,0,none⟩) b.zR.length sc,.slice ao b.atoms.length ac]:=rfl
 have hX:=Mt.zDz f.both.1.len
 have HLX:Hid (Mt.lim (Mt.lim f.both.1.len+zD1 f.rs)=Mt.lim f.re.len):=by show _=_;rw [HRE.out];unfold Mt.lim;omega
 generalize hn:(b.sAt s).next=n at *
 clear hT hA hst hw hok hn hl
 generalize f.rs=rs0 at *
 generalize Mt.lim f.both.1.len=X at *
 generalize Mt.lim f.re.len=F at *
 unfold zAb
 unfold zAb vZ at HC1
 go_enter Tryz.func118,Tryz.ntmps118
 go_wp2_with fail
 refine HC1.out.mono ?_
 rintro e w1 ⟨rfl,b1⟩
 have hblk:w1.heap[w.heap.size]?=some (.cells (vZ b (some ⟨gs,0,none⟩) ao sc ac) 107 (0,0)):=(b1.block _ (by simp)).trans (jE _ _)
 have bx0:=(zA hblk).1 0
 have bx1:=(zA hblk).1 1
 rw [HE0] at bx0 bx1
 simp only [List.getElem?_toArray,List.getElem?_cons_succ,List.getElem?_cons_zero] at bx0 bx1
 have HB1:Hid (w1.heap[w.heap.size]?=some (.cells (vZ b (some ⟨gs,0,none⟩) ao sc ac) 107 (0,0))∧Below w.heap.size w w1):=⟨hblk,HW0.out.trans (b1.mono (by simp))⟩
 have d1:=(HB1.out.2.cell (p:=⟨gs,s*2+1,none⟩) hgs).trans cs1
 have hsz1:w.heap.size<w1.heap.size:=(Array.getElem?_eq_some_iff.1 hblk).1
 clear b1 hblk HC1
 go_wp2_with fail
 go_loopg [5,6] (zQN rs0) (fun gn sz at' wr=>∃ (r:Option Mt.Fs) (S:Nat) (a:Int),sz=.int .i64 (S:Int)∧at'=.int .i64 a∧S≤301∧zQN r=gn∧gn≤zQN rs0∧zHa b r a∧Mt.lim (S+zD1 r)=F∧wr.heap[w.heap.size]?=some (.cells (vZ b (some ⟨gs,0,none⟩) ao sc ac) 107 (0,0))∧Below w.heap.size w wr)
 case atStart=>exact ⟨rs0,X,n,rfl,rfl,hX,rfl,Nat.le_refl _,HSR.out.1,HLX.out,HB1.out.1,HB1.out.2⟩
 case round =>
  obtain ⟨r,S,a,rfl,rfl,hS,hgn,hgf,hsr,hlim,hblk,hBl⟩:=hrel
  have bx0:=(zA hblk).1 0
  have bx1:=(zA hblk).1 1
  rw [HE0] at bx0 bx1
  simp only [List.getElem?_toArray,List.getElem?_cons_succ,List.getElem?_cons_zero] at bx0 bx1
  have hsz:w.heap.size<wr.heap.size:=(Array.getElem?_eq_some_iff.1 hblk).1
  have HBK:Hid (wr.heap[w.heap.size]?=some (.cells (vZ b (some ⟨gs,0,none⟩) ao sc ac) 107 (0,0))∧Below w.heap.size w wr):=⟨hblk,hBl⟩
  have HLM:Hid (Mt.lim (S+zD1 r)=F):=hlim
  clear hlim hblk hBl
  cases r with
  | none =>
   have ha:a=-1:=hsr
   have HF:Hid (F=S):=by show _=_;rw [← HLM.out];show Mt.lim (S+0)=S;unfold Mt.lim;omega
   subst ha
   clear HLM hsr
   go_wp2_with fail
   go_returns
   exact ⟨by rw [HF.out];rfl,HBK.out.2⟩
  | some g =>
   obtain ⟨k,rfl,hk,zSv,hgw,hgo⟩:=hsr
   have hgl:g.flat.length+1=gk:=hgn
   have hsl:=HSR.out.2
   have HC2:Hid (Calls Tryz.prog 145 #[zAb b (some ⟨gs,0,none⟩) ao sc ac,.int .i64 (k:Int)] wr _):=HSQ.out g k wr hgw hgo (by have:=HL.out;omega) hk zSv (HT.out.below HBK.out.2)
   obtain ⟨gs',e',_,_,_,k1⟩:=(HT.out.below HBK.out.2).zB2 k hk
   simp only [Option.some.injEq,Addr.mk.injEq,and_true,true_and] at e'
   subst e'
   have HSG:=zGr zSv hgw hgo
   have zSw:Hid (zHa b g.rs (b.sAt k).next∧zQN g.rs≤g.flat.length):=HSG
   have HNL:Hid (Mt.lim (Mt.lim (S+2+Mt.lim g.both.1.len)+zD1 g.rs)=F):=by
    show _=_
    apply zQM
    rw [← HLM.out];show Mt.lim _=Mt.lim (S+(2+g.re.len));rw [zNi g]
   have hk':(k:Int)<(b.zR.length:Int):=by omega
   have hkb:((k:Int) != -1)=true:=by simp
   have hxl:=Mt.zDz g.both.1.len
   clear HSG zSv hgw hgo HLM hgn
   generalize hNx:(b.sAt k).next=nx at *
   clear hNx
   generalize Mt.lim g.both.1.len=Y at *
   unfold zAb at HC2
   go_wp2_with fail
   refine HC2.out.mono ?_
   rintro e w2 ⟨rfl,b2⟩
   have bk2:w2.heap[w.heap.size]?=some (.cells (vZ b (some ⟨gs,0,none⟩) ao sc ac) 107 (0,0)):=(b2.block _ hsz).trans HBK.out.1
   have by0:=(zA bk2).1 0
   have by1:=(zA bk2).1 1
   rw [HE0] at by0 by1
   simp only [List.getElem?_toArray,List.getElem?_cons_succ,List.getElem?_cons_zero] at by0 by1
   have d2:=(b2.cell (p:=⟨gs,k*2+1,none⟩) (by show gs<wr.heap.size;omega)).trans k1
   have HB2:Hid (w2.heap[w.heap.size]?=some (.cells (vZ b (some ⟨gs,0,none⟩) ao sc ac) 107 (0,0))∧Below w.heap.size w w2):=⟨bk2,HBK.out.2.trans (b2.mono (by omega))⟩
   have hsz2:w.heap.size<w2.heap.size:=(Array.getElem?_eq_some_iff.1 bk2).1
   clear b2 bk2
   have hSl:=Mt.zDz (S+2+Y)
   go_wp2_with (go_at_call 119;refine (xA _ (S+2+Y) (by omega) _).mono ?_;rintro e w' ⟨rfl,rfl⟩)
   go_roundg (zQN g.rs)
   case measure=>have:=zSw.out.2;omega
   case rel=>exact ⟨g.rs,Mt.lim (S+2+Y),nx,rfl,rfl,hSl,rfl,by have:=zSw.out.2;omega,zSw.out.1,HNL.out,HB2.out.1,HB2.out.2⟩
theorem zKl {b:Mt.PB} {so ao:Option Addr} {sc ac:Nat} (hna:b.atoms.length≤1000) (hns:b.zR.length≤1000):∀ N,zRL b so ao sc ac N
 | 0=>fun f _ _ h=>by omega
 | N+1=>fun f hw hok h s hs hst L w hT=>zCU (zKl hna hns N) hna hns f hw hok (by omega) s hs hst hT
theorem zO9 {b:Mt.PB} {so ao:Option Addr} {sc ac:Nat} (hna:b.atoms.length≤1000) (hns:b.zR.length≤1000) (f:Mt.Fs) (hw:f.wf) (hok:f.ok) (hs:0<b.zR.length) (hst:Mt.jF b 0 0 f (b.sAt 0).first (b.sAt 0).next) {L:Nat} {w:World} (hT:qE L w b so ao sc ac) :
  Calls Tryz.prog 90 #[zAb b so ao sc ac] w fun e w'=>e=.returned (.int .i64 (Mt.lim (f.re.len+1):Nat))∧Below w.heap.size w w':=by
 have HC:Hid (Calls Tryz.prog 118 #[zAb b so ao sc ac,.int .i64 ((0:Nat):Int)] (w.alloc (.cells (vZ b so ao sc ac) 107)) _):=zKl hna hns (f.flat.length+1) f hw hok (by omega) 0 hs hst L _ (hT.below ((Below.refl _ _).alloc (Nat.le_refl _) _))
 have HE:Hid (Mt.lim (f.re.len+1)=Mt.lim (Mt.lim f.re.len+1)):=by show _=_;unfold Mt.lim;omega
 rw [HE.out]
 have hl:=Mt.zDz f.re.len
 generalize Mt.lim f.re.len=F at *
 clear hT hst hw hok
 unfold zAb
 unfold zAb vZ at HC
 go_enter Tryz.func90,Tryz.ntmps90
 go_wp2_with fail
 refine HC.out.mono ?_
 rintro e w1 ⟨rfl,b1⟩
 have HB:Hid (Below w.heap.size w w1):=((Below.refl _ _).alloc (Nat.le_refl _) _).trans (b1.mono (by simp))
 clear b1
 go_wp2_with (go_at_call 119;refine (xA _ (F+1) (by omega) _).mono ?_;rintro e w' ⟨rfl,rfl⟩)
 go_returns
 exact ⟨rfl,HB.out⟩
end Go.Proofs.YtebpgfodelggoaaGreat
namespace Mt
theorem count_le (p:ByteArray) (i:Int) (h:(count p i).2.2.2=true):(count p i).2.1=-1∨(count p i).1≤(count p i).2.1:=by
 rcases zEQ p i with ⟨a1,e⟩ | ⟨a1,a2,e⟩ | ⟨a1,a2,⟨a3,e⟩ | ⟨a3,a4,e⟩ | ⟨a3,a4,⟨a5,e⟩ | ⟨a5,⟨a6,e⟩ | ⟨a6,a7,e⟩ | ⟨a6,a7,a8,e⟩ | ⟨a6,a7,a8,a9,e⟩ | ⟨a6,a7,a8,a9,e⟩⟩⟩⟩
 ·rw [e];exact Or.inr (Int.le_refl _)
 ·rw [e];exact Or.inr (Int.le_refl _)
 ·rw [e];exact Or.inr (Int.le_refl _)
 ·rw [e];exact Or.inr (Int.le_refl _)
 ·rw [e];exact Or.inl rfl
 ·rw [e];exact Or.inr (Int.le_refl _)
 ·rw [e];exact Or.inr (Int.le_refl _)
 ·rw [e];exact Or.inr (Int.le_refl _)
 ·rw [e];exact Or.inr (Int.le_refl _)
 ·rw [e]
  simp only [decide_eq_false_iff_not] at a8
  exact Or.inr (by show (number p (i+1)).1≤(number p (i+1+(number p (i+1)).2+1)).1;omega)
theorem zNj (p:ByteArray) (i:Int) (h:(kI p i).2=true):(kI p i).1.m=-1∨(kI p i).1.n≤(kI p i).1.m:=by
 unfold kI at h ⊢
 by_cases h1:atB p i=43
 ·rw [if_pos h1];exact Or.inl rfl
 ·rw [if_neg h1] at h ⊢
  by_cases h2:atB p i=63
  ·rw [if_pos h2];exact Or.inr (by simp)
  ·rw [if_neg h2] at h ⊢
   by_cases h3:atB p i=123
   ·rw [if_pos h3] at h ⊢
    cases hc:(count p i).2.2.2
    ·rw [hc] at h;simp at h
    ·rw [if_pos rfl];exact count_le p i hc
   ·rw [if_neg h3];exact Or.inl rfl
theorem zJB (p:ByteArray) (i:Int):(escape p i).1.kind≠8:=by
 rcases zCf p i with ⟨a1,e⟩ | ⟨a0,a1,⟨a2,e⟩ | ⟨a2,a3,e⟩ | ⟨a2,a3,a4,a5,a6,a7,e⟩ | ⟨a2,a3,a4,e⟩⟩ <;> rw [e] <;> simp
theorem zIl (p:ByteArray) (i:Int):(opening p i).1.kind≠8:=by
 rcases zA3 p i with ⟨a1,e⟩ | ⟨a1,⟨a2,e⟩ | ⟨a2,a3,e⟩ | ⟨a2,a3,a4,e⟩ | ⟨a2,a3,a4,a5,e⟩ | ⟨a2,a3,a4,a5,e⟩⟩ <;> rw [e] <;> simp
theorem zLz (p:ByteArray) (i:Int):(jM p i).1.kind≠8:=by
 unfold jM;split <;> simp
theorem zNk (p:ByteArray) (i:Int) (h:(kK p i).2=0) (hk:(kK p i).1.kind=8):(kK p i).1.m=-1∨(kK p i).1.n≤(kK p i).1.m:=by
 unfold kK at h hk ⊢
 by_cases h1:atB p i=124
 ·rw [if_pos h1] at hk;simp at hk
 rw [if_neg h1] at h hk ⊢
 by_cases h2:atB p i=41
 ·rw [if_pos h2] at hk;simp at hk
 rw [if_neg h2] at h hk ⊢
 by_cases h3:atB p i=94
 ·rw [if_pos h3] at hk;simp at hk
 rw [if_neg h3] at h hk ⊢
 by_cases h4:atB p i=36
 ·rw [if_pos h4] at hk;simp at hk
 rw [if_neg h4] at h hk ⊢
 by_cases h5:atB p i=92
 ·rw [if_pos h5] at hk;exact absurd hk (zJB p i)
 rw [if_neg h5] at h hk ⊢
 by_cases h6:atB p i=91
 ·rw [if_pos h6] at hk;exact absurd hk (zLz p i)
 rw [if_neg h6] at h hk ⊢
 by_cases h7:atB p i=40
 ·rw [if_pos h7] at hk;exact absurd hk (zIl p i)
 rw [if_neg h7] at h hk ⊢
 by_cases h8:atB p i=42∨atB p i=43∨atB p i=63∨atB p i=123
 ·rw [if_pos h8] at h ⊢
  exact zNj p i (by cases x:(kI p i).2 <;> simp [x] at h ⊢)
 rw [if_neg h8] at h hk ⊢
 by_cases h9:atB p i=46
 ·rw [if_pos h9] at hk;simp at hk
 ·rw [if_neg h9] at hk;simp at hk
def zNl (l:List Tok):Prop:=∀ t∈l,t.kind=8→t.m=-1∨t.n≤t.m
theorem zJC (p:ByteArray):∀ (f:Nat) (l:List Tok) (i:Int),0≤i→i≤p.size→(p.size:Int)-i<f→zNl l→zNl (qD p l i).1:=by
 intro f
 induction f with
 | zero=>intro l i h0 h1 h2;omega
 | succ f ih =>
  intro l i h0 h1 h2 hl
  rw [vF p l i h0 h1]
  by_cases a:(p.size:Int)≤i
  ·rw [if_pos a];exact hl
  rw [if_neg a]
  by_cases b:(kK p i).2≠0
  ·rw [if_pos b];intro t ht;simp at ht
  rw [if_neg b]
  by_cases c:may l (kK p i).1≠0
  ·rw [if_pos c];intro t ht;simp at ht
  rw [if_neg c]
  have hn:=zBL p i h0 (by omega) (by omega)
  refine ih _ _ (by omega) (by omega) (by omega) (fun t ht hk=>?_)
  rcases List.mem_append.1 ht with ht | ht
  ·exact hl t ht hk
  ·simp at ht
   have jk:=zBW l (kK p i).1
   subst ht
   rw [jk.1] at hk
   have e:joined l (kK p i).1=(kK p i).1:=jk.2.2.2.2.1 (by unfold kR;simp [hk])
   rw [e];exact zNk p i (by omega) hk
theorem zJD (p:ByteArray) (h:(tokens p).2.1=0):zNl (tokens p).1:=by
 by_cases hp:p.size≤64
 ·have hr:=zJC p ((p.size:Int)+1).toNat [] 0 (by omega) (by omega) (by omega) (by intro t ht;simp at ht)
  unfold tokens at h ⊢
  rw [if_neg (by omega),vD p hp] at h ⊢
  split
  ·rename_i h1;rw [if_pos h1] at h;exact absurd h h1
  ·split
   ·intro t ht;simp at ht
   ·exact hr
 ·unfold tokens at h;rw [if_pos (by omega)] at h;simp at h
theorem zNm:∀ f:Fs,f.wf→(∀ t∈f.flat,t.kind=8→zGq t)→(∀ t∈f.flat,t.kind=6→0≤t.how∧t.how≤4)→f.ok
 | .nil,_,_,_=>trivial
 | .bar t r,hw,h1,h2=>zNm r hw.2 (fun u hu=>h1 u (by simp [Fs.flat,hu])) (fun u hu=>h2 u (by simp [Fs.flat,hu]))
 | .leaf t r s,hw,h1,h2=>⟨fun q hq=>h1 q (by simp [Fs.flat,hq]) (hw.2.1 q hq),zNm s hw.2.2 (fun u hu=>h1 u (by simp [Fs.flat,hu])) (fun u hu=>h2 u (by simp [Fs.flat,hu]))⟩
 | .grp t i c r s,hw,h1,h2=>⟨fun q hq=>h1 q (by simp [Fs.flat,hq]) (hw.2.2.2.1 q hq),h2 t (by simp [Fs.flat]) hw.1,zNm i hw.2.2.1 (fun u hu=>h1 u (by simp [Fs.flat,hu])) (fun u hu=>h2 u (by simp [Fs.flat,hu])),zNm s hw.2.2.2.2 (fun u hu=>h1 u (by simp [Fs.flat,hu])) (fun u hu=>h2 u (by simp [Fs.flat,hu]))⟩
theorem zFA:∀ (m:List Tok) (l:List Tok),zHu (l++m)→zJt (captures l) m
 | [],l,h=>trivial
 | t::r,l,h=>by
  have e:l++t::r=(l++[t])++r:=by simp
  refine ⟨fun hc=>?_,?_⟩
  ·have:=h l.length (by simp) (by rw [List.getD_eq_getElem?_getD,List.getElem?_append_right (Nat.le_refl _)];simpa using hc)
   rw [List.getD_eq_getElem?_getD,List.getElem?_append_right (Nat.le_refl _)] at this
   simpa using this
  ·have:=zFA r (l++[t]) (by rw [← e];exact h)
   rwa [zA6] at this
theorem zPa (b:PB) (t:PT):(b.next t).atoms.length≤b.atoms.length+1∧(b.next t).zR.length≤b.zR.length+1:=by
 have ha:∀ t,(b.addAtom t).atoms.length=b.atoms.length+1∧(b.addAtom t).zR.length=b.zR.length:=fun t=>by
  unfold PB.addAtom;split <;> simp
 unfold PB.next
 split
 ·simp [PB.bar]
 split
 ·have:=ha t
  unfold PB.opening PB.into PB.number
  cases decide (t.group=1) <;> simp [this.1,this.2]
 split
 ·simp [PB.close]
 split
 ·simp [PB.repeated]
 ·have:=ha t;omega
theorem zNn:∀ (l:List Tok) (b:PB),(b.run l).atoms.length≤b.atoms.length+l.length∧(b.run l).zR.length≤b.zR.length+l.length
 | [],b=>by simp [PB.run]
 | t::r,b=>by
  have h1:=zPa b (jT t)
  have h2:=zNn r (b.next (jT t))
  rw [PB.zDv];simp only [List.length_cons];omega
theorem zPb:PB.start.At:=⟨by decide,Or.inl rfl,fun _=>rfl,rfl⟩
theorem zPS (p:ByteArray) (h:(tokens p).2.1=0):∃ f:Fs,f.wf∧f.ok∧(tokens p).1=f.flat∧jF (PB.start.run (tokens p).1) 0 0 f ((PB.start.run (tokens p).1).sAt 0).first ((PB.start.run (tokens p).1).sAt 0).next∧0<(PB.start.run (tokens p).1).zR.length ∧
  (PB.start.run (tokens p).1).atoms.length≤64∧(PB.start.run (tokens p).1).zR.length≤65∧(300<(coded (tokens p).1).length↔300<f.re.len+1)∧(f.re.len+1≤300→coded (tokens p).1=f.re.code 0 0++[⟨13,0,0,[]⟩]):=by
 have hv:=zCp p h
 have hr:=zJD p h
 have hs:=(zAf p).2
 obtain ⟨f,hw,e⟩:=zFf hv.1 hv.2
 have hN:=zCM hv.1
 have hG:∀ t∈(tokens p).1,zEk t:=by
  intro t ht
  obtain ⟨k,hk,rfl⟩:=List.mem_iff_getElem.1 ht
  have:=(hv.1 k hk).2.1
  rw [List.getD_eq_getElem?_getD,List.getElem?_eq_getElem hk] at this
  exact this
 rw [e] at hr hs hN hG ⊢
 have hok:=zNm f hw (fun t ht hk=>by
  obtain ⟨_,_,_,_,g5⟩:=hG t ht
  have:=g5 hk
  have:=hr t ht hk
  exact ⟨by omega,by omega,by omega,by omega,by omega,by omega,this⟩) (fun t ht hk=>(hG t ht).2.2.2.1 hk)
 have hd:=zBI f hw (fun t ht hk=>(hG t ht).2.2.2.1 hk) PB.start zPb (zFA f.flat [] (by simpa using hN))
 have hl:=zNn f.flat PB.start
 have ht:=zFc f hw hs
 have hc:=zH2 f.flat
 rw [ht] at hc
 have st:=hd.stands
 have e0:PB.start.last=-1:=rfl
 rw [if_pos e0] at st
 refine ⟨f,hw,hok,rfl,yQ (Nat.zero_le _) (Nat.zero_le _) (fun _ _ _=>rfl) (fun _ _ _=>rfl) (Nat.le_refl _) (Nat.le_refl _) _ _ _ st,?_,?_,?_,?_,fun zR4=>?_⟩
 ·have:=hd.sl;exact Nat.lt_of_lt_of_le (by decide) this
 ·have:=hl.1;simp [PB.start] at this ⊢;omega
 ·have:=hl.2;simp [PB.start] at this ⊢;omega
 ·constructor
  ·intro x;omega
  ·intro x;exact hc.2 x
 ·have:=(zGj f.flat (by rw [hc.1 zR4];exact zR4)).1
  rwa [ht] at this
end Mt
