import Derived.Test.YtebpgfodelggoaaGreatDoorC33
import Derived.Test.YtebpgfodelggoaaGreatDoorC12
import Derived.Deep.LoopGhost
set_option linter.unusedVariables false
set_option linter.unusedSimpArgs false
set_option maxRecDepth 100000
set_option maxHeartbeats 4000000
namespace Go.Proofs.YtebpgfodelggoaaGreatDoor
open Go.RowKit
theorem limited_any (n:Nat) (w:World):Calls Tryz.prog 59 #[.int .i64 (n:Int)] w fun e w'=>e=.returned (.int .i64 (Mt.lim n:Nat))∧w=w':=by
 by_cases h:300<n
 ·have e:Mt.lim n=301:=by unfold Mt.lim;omega
  have b1:decide (300<(n:Int))=true:=by simp;omega
  have b2:decide (300<n)=true:=by simp;omega
  rw [e]
  clear e
  go_enter Tryz.func59,Tryz.ntmps59
  go_wp2
  go_ret
  exact ⟨rfl,rfl⟩
 ·have e:Mt.lim n=n:=by unfold Mt.lim;omega
  have b1:decide (300<(n:Int))=false:=by simp;omega
  have b2:decide (300<n)=false:=by simp;omega
  rw [e]
  clear e
  go_enter Tryz.func59,Tryz.ntmps59
  go_wp2
  go_ret
  exact ⟨rfl,rfl⟩
theorem rp_none:Mt.rp none=Mt.pt0:=rfl
theorem rp_some (q:Mt.Tok) (hk:q.kind=8):Mt.rp (some q)=⟨4,q.to,0,0,q.n,q.m,q.how+1,q.set⟩:=by
 show Mt.ptok q=_;unfold Mt.ptok;rw [hk];rfl
theorem limited_int (x:Int) (n:Nat) (h:x=n) (w:World):Calls Tryz.prog 59 #[.int .i64 x] w fun e w'=>e=.returned (.int .i64 (Mt.lim n:Nat))∧w=w':=by subst h;exact limited_any n w
theorem repeatedSize_any (o:Nat) (r:Option Mt.Tok) (w:World) (ho:o≤301) (hr:Mt.repsOk r) (hk:Mt.repK r) :
  Calls Tryz.prog 91 #[.int .i64 (o:Int),ptV (Mt.rp r)] w fun e w'=>e=.returned (.int .i64 (Mt.lim (Mt.partLen o r):Nat))∧Below w.heap.size w w':=by
 cases r with
 | none =>
  rw [rp_none]
  have e:Mt.lim (Mt.partLen o none)=o:=by show Mt.lim o=o;unfold Mt.lim;omega
  rw [e]
  clear e hr hk
  unfold ptV ptA Mt.pt0
  go_enter Tryz.func91,Tryz.ntmps91
  go_wp2_with fail
  go_ret
  exact ⟨rfl,by go_grown⟩
 | some q =>
  rw [rp_some q (hk q rfl)]
  obtain ⟨h1,h2,h3,h4,h5,h6,h7⟩:=hr q rfl
  obtain ⟨n,hn⟩:=Int.eq_ofNat_of_zero_le h1
  have hmul:n*o≤20*301:=Nat.mul_le_mul (by omega) ho
  have hmi:((n:Int)*(o:Int))=((n*o:Nat):Int):=by simp
  have m0:0≤(n:Int)*(o:Int):=by rw [hmi];omega
  have m1:(n:Int)*(o:Int)≤6020:=by rw [hmi];omega
  have HMI:Hid (((n:Int)*(o:Int))=((n*o:Nat):Int)):=hmi
  by_cases hm:q.m=-1
  ·have e0:Mt.partLen o (some q)=n*o+(o+3)+(if q.how=2 then 2 else 0):=by
    show Mt.repLen o q=_;unfold Mt.repLen;rw [if_pos hm,show q.n.toNat=n by omega]
   rw [e0,hm,hn]
   clear e0 hr hk h7 hmi hm hn hmul
   unfold ptV ptA
   by_cases hw:q.how=2
   ·rw [if_pos hw,hw]
    clear hw
    go_enter Tryz.func91,Tryz.ntmps91
    go_wp2_with fail
    refine (limited_int _ (n*o+(o+3)+2) (by have:=HMI.out;omega) _).mono ?_
    rintro e w1 ⟨rfl,rfl⟩
    go_wp2_with fail
    go_ret
    exact ⟨rfl,by go_grown⟩
   ·have hb:(q.how+1==3)=false:=by simp;omega
    rw [if_neg hw]
    clear hw
    go_enter Tryz.func91,Tryz.ntmps91
    go_wp2_with fail
    refine (limited_int _ (n*o+(o+3)+0) (by have:=HMI.out;omega) _).mono ?_
    rintro e w1 ⟨rfl,rfl⟩
    go_wp2_with fail
    go_ret
    exact ⟨rfl,by go_grown⟩
  ·obtain ⟨m,hmm⟩:=Int.eq_ofNat_of_zero_le (show 0≤q.m by omega)
   obtain ⟨d,hd⟩:∃ d:Nat,m=n+d:=⟨m-n,by omega⟩
   subst hd
   have e0:Mt.partLen o (some q)=n*o+d*(o+1)+(if q.how=2 then 2 else 0):=by
    show Mt.repLen o q=_;unfold Mt.repLen;rw [if_neg hm,show q.n.toNat=n by omega,show (q.m-q.n).toNat=d by omega]
   have hmul2:d*(o+1)≤20*302:=Nat.mul_le_mul (by omega) (by omega)
   have hmi2:((d:Int)*((o:Int)+1))=((d*(o+1):Nat):Int):=by simp
   have m2:0≤(d:Int)*((o:Int)+1):=by rw [hmi2];omega
   have m3:(d:Int)*((o:Int)+1)≤6040:=by rw [hmi2];omega
   have HMI2:Hid (((d:Int)*((o:Int)+1))=((d*(o+1):Nat):Int)):=hmi2
   have hb1:(((n+d:Nat):Int)==-1)=false:=by simp;omega
   have hd20:(d:Int)≤20:=by omega
   have hn20:(n:Int)≤20:=by omega
   have hsub:((n+d:Nat):Int)-(n:Int)=d:=by omega
   have hb2:(n:Int)+(d:Int)-(n:Int)=d:=by omega
   rw [e0,hmm,hn]
   clear e0 hr hk h7 hmi hm hn hmul hmul2 hmi2 hmm
   unfold ptV ptA
   by_cases hw:q.how=2
   ·rw [if_pos hw,hw]
    clear hw
    go_enter Tryz.func91,Tryz.ntmps91
    go_wp2_with fail
    refine (limited_int _ (n*o+d*(o+1)+2) (by have:=HMI.out;have:=HMI2.out;omega) _).mono ?_
    rintro e w1 ⟨rfl,rfl⟩
    go_wp2_with fail
    go_ret
    exact ⟨rfl,by go_grown⟩
   ·have hb:(q.how+1==3)=false:=by simp;omega
    rw [if_neg hw]
    clear hw
    go_enter Tryz.func91,Tryz.ntmps91
    go_wp2_with fail
    refine (limited_int _ (n*o+d*(o+1)+0) (by have:=HMI.out;have:=HMI2.out;omega) _).mono ?_
    rintro e w1 ⟨rfl,rfl⟩
    go_wp2_with fail
    go_ret
    exact ⟨rfl,by go_grown⟩
section
variable {L:Nat} {w:World} {b:Mt.PB} {so ao:Option Addr} {sc ac:Nat}
theorem TreeAt.below {w':World} (h:TreeAt L w b so ao sc ac) (hb:Below w.heap.size w w'):TreeAt L w' b so ao sc ac :=
 ⟨row_keep h.seqs (fun q hq=>hb.block q (World.ownsRow.lt h.seqs q (by rw [ownBlock_blk];exact hq)).2),row_keep h.atoms (fun q hq=>hb.block q (World.ownsRow.lt h.atoms q (by rw [ownBlock_blk];exact hq)).2)⟩
theorem TreeAt.seqCell (h:TreeAt L w b so ao sc ac) (i:Nat) (hi:i<b.seqs.length):∃ gs,so=some ⟨gs,0,none⟩∧gs<w.heap.size∧b.seqs.length≤sc∧w.cell? ⟨gs,i*2,none⟩=some (.int .i64 (b.sAt i).first)∧w.cell? ⟨gs,i*2+1,none⟩=some (.int .i64 (b.sAt i).next):=by
 obtain ⟨gs,cap,hv,_,hlt⟩:=World.ownsRow.form h.seqs (by omega)
 simp only [Value.slice.injEq] at hv
 obtain ⟨rfl,_,rfl⟩:=hv
 have c:∀ j,j<2→w.cell? ⟨gs,i*2+j,none⟩=(psC (b.sAt i))[j]?:=fun j hj=>by
  rw [World.ownsRow.cellAt h.seqs _ (by omega),flat_get psC 2 psC_len Mt.ps0 _ _ _ hi hj];rfl
 rcases h.seqs.2 with ⟨e,_⟩ | ⟨g',cap',cur,hv,_,_,hc,_⟩
 ·simp at e
 ·simp only [Value.slice.injEq] at hv
  exact ⟨gs,rfl,hlt,by omega,c 0 (by decide),c 1 (by decide)⟩
theorem TreeAt.atomRow (h:TreeAt L w b so ao sc ac) (i:Nat) (hi:i<b.atoms.length):∃ ga,ao=some ⟨ga,0,none⟩∧ga<w.heap.size∧b.atoms.length≤ac∧(∀ j,j<20→w.cell? ⟨ga,i*20+j,none⟩=(paC (b.aAt i))[j]?):=by
 obtain ⟨gs,cap,hv,_,hlt⟩:=World.ownsRow.form h.atoms (by omega)
 simp only [Value.slice.injEq] at hv
 obtain ⟨rfl,_,rfl⟩:=hv
 have c:∀ j,j<20→w.cell? ⟨gs,i*20+j,none⟩=(paC (b.aAt i))[j]?:=fun j hj=>by
  rw [World.ownsRow.cellAt h.atoms _ (by omega),flat_get paC 20 paC_len Mt.pa0 _ _ _ hi hj];rfl
 rcases h.atoms.2 with ⟨e,_⟩ | ⟨g',cap',cur,hv,_,_,hc,_⟩
 ·simp at e
 ·simp only [Value.slice.injEq] at hv
  exact ⟨gs,rfl,hlt,by omega,c⟩
end
theorem Tryz.sizeAt:(Tryz.prog.info? 134).map (·.size)=some 20:=by kernel_rfl
theorem paA_all (a:Mt.PA):(paC a).toArray.all (·.oneCell')=true:=by
 rw [List.all_toArray];simp [paC,ptL,Value.oneCell']
def AltC (b:Mt.PB) (so ao:Option Addr) (sc ac:Nat) (N:Nat):Prop :=
 ∀ (f:Mt.Fs),f.wf→f.ok→f.flat.length<N→∀ (s:Nat),s<b.seqs.length→Mt.standsF b 0 0 f (b.sAt s).first (b.sAt s).next→∀ (L:Nat) (w:World),TreeAt L w b so ao sc ac →
  Calls Tryz.prog 58 #[treeV b so ao sc ac,.int .i64 (s:Int)] w fun e w'=>e=.returned (.int .i64 (Mt.lim f.re.len:Nat))∧Below w.heap.size w w'
theorem atomSize_leaf {b:Mt.PB} {so ao:Option Addr} {sc ac:Nat} {L:Nat} {w:World} (hT:TreeAt L w b so ao sc ac) (k:Nat) (hk:k<b.atoms.length) (hn:b.atoms.length≤1000) (hb:(b.aAt k).body=-1) :
  Calls Tryz.prog 90 #[treeV b so ao sc ac,.int .i64 (k:Int)] w fun e w'=>e=.returned (.int .i64 1)∧Below w.heap.size w w':=by
 obtain ⟨ga,rfl,hga,hac,hc⟩:=hT.atomRow k hk
 have hR:∀ W:World,(∀ q,q<w.heap.size→W.heap[q]?=w.heap[q]?)→W.rangeAt ga (k*20) (paC (b.aAt k)):=fun W hW j v hv=>by
  by_cases hj:j<20
  ·rw [World.cell?_of_block (a:=⟨ga,k*20+j,none⟩) (hW ga hga),hc j hj];exact hv
  ·rw [List.getElem?_eq_none (by rw [paC_len];omega)] at hv;simp at hv
 have HR:Hid (∀ W:World,(∀ q,q<w.heap.size→W.heap[q]?=w.heap[q]?)→W.rangeAt ga (k*20) (paC (b.aAt k))):=hR
 have HBD:Hid ((b.aAt k).body=-1):=hb
 clear hR hc hT hb
 have hk':(k:Int)<(b.atoms.length:Int):=by omega
 unfold treeV
 generalize b.aAt k=A at *
 generalize b.atoms.length=N at *
 go_enter Tryz.func90,Tryz.ntmps90
 go_wp2_with (first | (refine wpList_load_mid (by rfl) 134 (.tmp 10) (by rfl) ga (k*20) (by rfl) (paC A) _ (HR.out _ (fun q hq=>heap_old _ _ _ hq)) Tryz.underlying134 rfl (by rw [Tryz.sizeAt];rfl) ?_) | (refine store_blk 134 20 Tryz.sizeAt (by rfl) (.tmp 5) (.tmp 11) (by rfl) (w.heap.size+1) (paC A).toArray (by rfl) (by rfl) (by exact heap_b3 _ _ _) (by rfl) (by rfl) (paA_all A) ?_;intro w3 r1 r2 r3 r4;have t17:=(cell_block r1).1 17;change w3.cell? ⟨w.heap.size+1,17,none⟩=some (.int .i64 A.body) at t17;rw [HBD.out] at t17;have R4:Hid (Below w.heap.size w w3):=(((Below.refl _ _).alloc (Nat.le_refl _) _).alloc (by simp) _).trans (r4 _ (by omega));clear r1 r2 r3 r4))
 go_returns
 exact ⟨rfl,R4.out⟩
theorem atomSize_grp {b:Mt.PB} {so ao:Option Addr} {sc ac N:Nat} (hA:AltC b so ao sc ac N) {L:Nat} {w:World} (hT:TreeAt L w b so ao sc ac) (k:Nat) (hk:k<b.atoms.length) (hn:b.atoms.length≤1000) (hns:b.seqs.length≤1000) (t:Mt.Tok) (i:Mt.Fs) (ht:t.kind=6) (hh:0≤t.how∧t.how≤4) (hw:i.wf) (ho:i.ok) (hl:i.flat.length<N)
  (htk:(b.aAt k).tok=Mt.ptok t) (q:Nat) (hq:(b.aAt k).body=q) (hql:q<b.seqs.length) (hs:Mt.standsF b 0 0 i (b.sAt q).first (b.sAt q).next) :
  Calls Tryz.prog 90 #[treeV b so ao sc ac,.int .i64 (k:Int)] w fun e w'=>e=.returned (.int .i64 (Mt.lim (Mt.grpRe t i.re).len:Nat))∧Below w.heap.size w w':=by
 have HC:Hid (∀ W:World,Below w.heap.size w W→Calls Tryz.prog 58 #[treeV b so ao sc ac,.int .i64 (q:Int)] W fun e w'=>e=.returned (.int .i64 (Mt.lim i.re.len:Nat))∧Below W.heap.size W w'):=fun W hW=>hA i hw ho hl q hql hs L W (hT.below hW)
 obtain ⟨ga,rfl,hga,hac,hc⟩:=hT.atomRow k hk
 have hR:∀ W:World,(∀ q,q<w.heap.size→W.heap[q]?=w.heap[q]?)→W.rangeAt ga (k*20) (paC (b.aAt k)):=fun W hW j v hv=>by
  by_cases hj:j<20
  ·rw [World.cell?_of_block (a:=⟨ga,k*20+j,none⟩) (hW ga hga),hc j hj];exact hv
  ·rw [List.getElem?_eq_none (by rw [paC_len];omega)] at hv;simp at hv
 have HR:Hid (∀ W:World,(∀ q,q<w.heap.size→W.heap[q]?=w.heap[q]?)→W.rangeAt ga (k*20) (paC (b.aAt k))):=hR
 have HBD:Hid ((b.aAt k).body=q):=hq
 have hgr:(b.aAt k).tok.group=Mt.grpP t.how:=by rw [htk];simp [Mt.ptok,ht]
 have HGR:Hid ((b.aAt k).tok.group=Mt.grpP t.how):=hgr
 have hll:=Mt.lim_le i.re.len
 have hk':(k:Int)<(b.atoms.length:Int):=by omega
 have hg3:(Mt.grpP t.how==2)=decide (t.how=3):=by
  unfold Mt.grpP
  by_cases h4:t.how=4
  ·rw [if_pos h4,h4];rfl
  ·rw [if_neg h4]
   by_cases h3:t.how=3
   ·rw [if_pos h3,h3];rfl
   ·rw [if_neg h3];simp [h3];omega
 have HF:Hid (Mt.lim (Mt.grpRe t i.re).len=if t.how=3 then Mt.lim i.re.len else Mt.lim (Mt.lim i.re.len+2)):=by
  show _=_
  rw [Mt.grpRe_len]
  by_cases h3:t.how=3
  ·rw [if_pos h3,if_pos h3];rfl
  ·rw [if_neg h3,if_neg h3];unfold Mt.lim;omega
 clear hR hc hT hq hs hw ho hl hA htk hgr
 unfold treeV
 unfold treeV at HC
 generalize b.aAt k=A at *
 generalize b.atoms.length=NA at *
 generalize Mt.lim i.re.len=I at *
 cases h3:decide (t.how=3)
 ·rw [h3] at hg3
  have HF2:Hid (Mt.lim (Mt.grpRe t i.re).len=Mt.lim (I+2)):=by show _=_;rw [HF.out,if_neg (by simpa using h3)]
  rw [HF2.out]
  clear HF HF2 h3
  go_enter Tryz.func90,Tryz.ntmps90
  go_wp2_with (first | (refine wpList_load_mid (by rfl) 134 (.tmp 10) (by rfl) ga (k*20) (by rfl) (paC A) _ (HR.out _ (fun q hq=>heap_old _ _ _ hq)) Tryz.underlying134 rfl (by rw [Tryz.sizeAt];rfl) ?_) | (refine store_blk 134 20 Tryz.sizeAt (by rfl) (.tmp 5) (.tmp 11) (by rfl) (w.heap.size+1) (paC A).toArray (by rfl) (by rfl) (by exact heap_b3 _ _ _) (by rfl) (by rfl) (paA_all A) ?_;intro w3 r1 r2 r3 r4;have t17:=(cell_block r1).1 17;change w3.cell? ⟨w.heap.size+1,17,none⟩=some (.int .i64 A.body) at t17;rw [HBD.out] at t17;have bx:=(r2 w.heap.size (by omega)).trans (heap_b2 _ _ _);have bx0:=(cell_block bx).1 0;have bx1:=(cell_block bx).1 1;simp only [List.getElem?_toArray,List.getElem?_cons_succ,List.getElem?_cons_zero] at bx0 bx1;have R4:Hid (Below w.heap.size w w3∧w3.heap[w.heap.size+1]?=some (.cells (paC A).toArray 134 (0,0))∧w.heap.size+1<w3.heap.size):=⟨(((Below.refl _ _).alloc (Nat.le_refl _) _).alloc (by simp) _).trans (r4 _ (by omega)),r1,(Array.getElem?_eq_some_iff.1 r1).1⟩;clear r1 r2 r3 r4 bx))
  refine (HC.out w3 R4.out.1).mono ?_
  rintro e w4 ⟨rfl,b4⟩
  have g2:=(cell_block ((b4.block _ R4.out.2.2).trans R4.out.2.1)).1 2
  change w4.cell? ⟨w.heap.size+1,2,none⟩=some (.int .i64 A.tok.group) at g2
  rw [HGR.out] at g2
  have R5:Hid (Below w.heap.size w w4):=R4.out.1.trans (b4.mono (by have:=R4.out.2.2;omega))
  clear b4
  go_wp2_with (go_at_call 59;refine (limited_int _ (I+2) (by omega) _).mono ?_;rintro e w' ⟨rfl,rfl⟩)
  go_returns
  exact ⟨rfl,R5.out⟩
 ·rw [h3] at hg3
  have HF2:Hid (Mt.lim (Mt.grpRe t i.re).len=I):=by show _=_;rw [HF.out,if_pos (by simpa using h3)]
  rw [HF2.out]
  clear HF HF2 h3
  go_enter Tryz.func90,Tryz.ntmps90
  go_wp2_with (first | (refine wpList_load_mid (by rfl) 134 (.tmp 10) (by rfl) ga (k*20) (by rfl) (paC A) _ (HR.out _ (fun q hq=>heap_old _ _ _ hq)) Tryz.underlying134 rfl (by rw [Tryz.sizeAt];rfl) ?_) | (refine store_blk 134 20 Tryz.sizeAt (by rfl) (.tmp 5) (.tmp 11) (by rfl) (w.heap.size+1) (paC A).toArray (by rfl) (by rfl) (by exact heap_b3 _ _ _) (by rfl) (by rfl) (paA_all A) ?_;intro w3 r1 r2 r3 r4;have t17:=(cell_block r1).1 17;change w3.cell? ⟨w.heap.size+1,17,none⟩=some (.int .i64 A.body) at t17;rw [HBD.out] at t17;have bx:=(r2 w.heap.size (by omega)).trans (heap_b2 _ _ _);have bx0:=(cell_block bx).1 0;have bx1:=(cell_block bx).1 1;simp only [List.getElem?_toArray,List.getElem?_cons_succ,List.getElem?_cons_zero] at bx0 bx1;have R4:Hid (Below w.heap.size w w3∧w3.heap[w.heap.size+1]?=some (.cells (paC A).toArray 134 (0,0))∧w.heap.size+1<w3.heap.size):=⟨(((Below.refl _ _).alloc (Nat.le_refl _) _).alloc (by simp) _).trans (r4 _ (by omega)),r1,(Array.getElem?_eq_some_iff.1 r1).1⟩;clear r1 r2 r3 r4 bx))
  refine (HC.out w3 R4.out.1).mono ?_
  rintro e w4 ⟨rfl,b4⟩
  have g2:=(cell_block ((b4.block _ R4.out.2.2).trans R4.out.2.1)).1 2
  change w4.cell? ⟨w.heap.size+1,2,none⟩=some (.int .i64 A.tok.group) at g2
  rw [HGR.out] at g2
  have R5:Hid (Below w.heap.size w w4):=R4.out.1.trans (b4.mono (by have:=R4.out.2.2;omega))
  clear b4
  go_wp2_with fail
  go_returns
  exact ⟨rfl,R5.out⟩
theorem head_cases {b:Mt.PB} {f:Mt.Fs} {a n:Int} (h:Mt.standsF b 0 0 f a n) (hw:f.wf) (hok:f.ok) :
  (a=-1∧f.both.1.len=0) ∨
  ∃ (k:Nat) (s:Mt.Fs) (r:Option Mt.Tok) (x:Mt.Re),a=k∧k<b.atoms.length∧(b.aAt k).rep=Mt.rp r∧Mt.repK r∧Mt.repsOk r∧f.both.1.len=(Mt.part r x).len+s.both.1.len∧Mt.standsF b 0 0 s (b.aAt k).next n∧s.wf∧s.ok∧s.flat.length<f.flat.length ∧
   (((b.aAt k).body=-1∧x.len=1)∨∃ (t:Mt.Tok) (i:Mt.Fs) (q:Nat),x=Mt.grpRe t i.re∧t.kind=6∧(0≤t.how∧t.how≤4)∧i.wf∧i.ok∧i.flat.length<f.flat.length∧(b.aAt k).tok=Mt.ptok t∧(b.aAt k).body=q∧q<b.seqs.length∧Mt.standsF b 0 0 i (b.sAt q).first (b.sAt q).next):=by
 cases f with
 | nil=>exact Or.inl ⟨h.1,rfl⟩
 | bar t r=>exact Or.inl ⟨h.1,rfl⟩
 | leaf t r s =>
  obtain ⟨k,h1,_,h2,h3,h4,h5,h6⟩:=h
  exact Or.inr ⟨k,s,r,Mt.leafRe t,h1,h2,h4,hw.2.1,hok.1,rfl,h6,hw.2.2,hok.2,by simp [Mt.Fs.flat];omega,Or.inl ⟨h5,Mt.leafRe_len t⟩⟩
 | grp t i c r s =>
  obtain ⟨k,h1,_,h2,h3,h4,h5,⟨q,g1,_,g2,g3⟩,h6⟩:=h
  obtain ⟨w1,w2,w3,w4,w5⟩:=hw
  obtain ⟨o1,o2,o3,o4⟩:=hok
  exact Or.inr ⟨k,s,r,Mt.grpRe t i.re,h1,h2,h4,w4,o1,rfl,h6,w5,o4,by simp [Mt.Fs.flat];omega,Or.inr ⟨t,i,q,rfl,w1,o2,w3,o3,by simp [Mt.Fs.flat];omega,h3,g1,g2,g3⟩⟩
theorem lim_step (S X Y T:Nat) (h:Mt.lim (S+(X+Y))=T):Mt.lim (Mt.lim (S+Mt.lim X)+Y)=T:=by unfold Mt.lim at *;omega
theorem rep_range {L:Nat} {w:World} {b:Mt.PB} {so:Option Addr} {sc ac:Nat} {ga:Nat} (h:TreeAt L w b so (some ⟨ga,0,none⟩) sc ac) (k:Nat) (hk:k<b.atoms.length):w.rangeAt ga (k*20+9) (ptL (b.aAt k).rep):=by
 obtain ⟨ga',e,_,_,hc⟩:=h.atomRow k hk
 simp only [Option.some.injEq,Addr.mk.injEq,and_true,true_and] at e
 subst e
 intro j v hv
 by_cases hj:j<8
 ·rw [show k*20+9+j=k*20+(9+j) by omega,hc (9+j) (by omega)]
  unfold paC
  rw [List.getElem?_append_right (by simp [ptL];omega)]
  rw [show 9+j-(ptL (b.aAt k).tok).length=j+1 by simp [ptL];omega,List.getElem?_cons_succ,List.getElem?_append_left (by simp [ptL];omega)]
  exact hv
 ·rw [List.getElem?_eq_none (by simp [ptL];omega)] at hv;simp at hv
theorem sequenceSize_any {b:Mt.PB} {so ao:Option Addr} {sc ac N:Nat} (hA:AltC b so ao sc ac N) (hna:b.atoms.length≤1000) (hns:b.seqs.length≤1000) (f:Mt.Fs) (hw:f.wf) (hok:f.ok) (hl:f.flat.length≤N) (s:Nat) (hs:s<b.seqs.length) (hst:Mt.standsF b 0 0 f (b.sAt s).first (b.sAt s).next) {L:Nat} {w:World} (hT:TreeAt L w b so ao sc ac) :
  Calls Tryz.prog 79 #[treeV b so ao sc ac,.int .i64 (s:Int)] w fun e w'=>e=.returned (.int .i64 (Mt.lim f.both.1.len:Nat))∧Below w.heap.size w w':=by
 obtain ⟨gs,rfl,hgs,hsc,cs0,cs1⟩:=hT.seqCell s hs
 have HT:Hid (TreeAt L w b (some ⟨gs,0,none⟩) ao sc ac):=hT
 have HA:Hid (AltC b (some ⟨gs,0,none⟩) ao sc ac N):=hA
 have HST:Hid (Mt.standsF b 0 0 f (b.sAt s).first (b.sAt s).next∧f.wf∧f.ok):=⟨hst,hw,hok⟩
 have HL:Hid (f.flat.length≤N):=hl
 have hs':(s:Int)<(b.seqs.length:Int):=by omega
 have HW0:Hid (Below w.heap.size w (w.alloc (.cells (treeA b (some ⟨gs,0,none⟩) ao sc ac) 74))):=(Below.refl _ _).alloc (Nat.le_refl _) _
 have HE0:treeA b (some ⟨gs,0,none⟩) ao sc ac=#[.slice (some ⟨gs,0,none⟩) b.seqs.length sc,.slice ao b.atoms.length ac]:=rfl
 generalize hn:(b.sAt s).next=n at *
 generalize hfi:(b.sAt s).first=a0 at *
 clear hT hA hst hw hok hn hfi
 unfold treeV
 go_enter Tryz.func79,Tryz.ntmps79
 go_wp2_with fail
 go_loopg [5,6] f.flat.length (fun gn sz at' wr=>∃ (g:Mt.Fs) (S:Nat) (a:Int),sz=.int .i64 (S:Int)∧at'=.int .i64 a∧S≤301∧g.flat.length=gn∧gn≤f.flat.length∧Mt.standsF b 0 0 g a n∧g.wf∧g.ok∧Mt.lim (S+g.both.1.len)=Mt.lim f.both.1.len∧wr.heap[w.heap.size]?=some (.cells (treeA b (some ⟨gs,0,none⟩) ao sc ac) 74 (0,0))∧Below w.heap.size w wr)
 case atStart=>exact ⟨f,0,a0,rfl,rfl,by omega,rfl,Nat.le_refl _,HST.out.1,HST.out.2.1,HST.out.2.2,by rw [Nat.zero_add],by exact heap_b1 _ _,HW0.out⟩
 case round =>
  obtain ⟨g,S,a,rfl,rfl,hS,hgn,hgf,hgs2,hgw,hgo,hlim,hblk,hBl⟩:=hrel
  have bx0:=(cell_block hblk).1 0
  have bx1:=(cell_block hblk).1 1
  rw [HE0] at bx0 bx1
  simp only [List.getElem?_toArray,List.getElem?_cons_succ,List.getElem?_cons_zero] at bx0 bx1
  have hsz:w.heap.size<wr.heap.size:=(Array.getElem?_eq_some_iff.1 hblk).1
  have HBK:Hid (wr.heap[w.heap.size]?=some (.cells (treeA b (some ⟨gs,0,none⟩) ao sc ac) 74 (0,0))∧Below w.heap.size w wr):=⟨hblk,hBl⟩
  have HTr:Hid (TreeAt L wr b (some ⟨gs,0,none⟩) ao sc ac):=HT.out.below hBl
  have hc:=head_cases hgs2 hgw hgo
  have HLM:Hid (Mt.lim (S+g.both.1.len)=Mt.lim f.both.1.len):=hlim
  clear hgs2 hgw hgo hlim hblk hBl
  rcases hc with ⟨ha,h0⟩ | ⟨k,sr,r,x,ha,hk,hrep,hrk,hro,hlen,hst',hsw,hso,hsl,hx⟩
  ·have HF:Hid (Mt.lim f.both.1.len=S):=by show _=_;rw [← HLM.out,h0];unfold Mt.lim;omega
   subst ha
   clear h0 HLM
   go_wp2_with fail
   go_returns
   exact ⟨by rw [HF.out];rfl,HBK.out.2⟩
  ·subst ha
   obtain ⟨ga,hao,hga,hac,hcell⟩:=HTr.out.atomRow k hk
   subst hao
   have c19:=hcell 19 (by decide)
   change wr.cell? ⟨ga,k*20+19,none⟩=some (.int .i64 (b.aAt k).next) at c19
   have HRR:Hid (∀ W:World,Below wr.heap.size wr W→W.rangeAt ga (k*20+9) (ptL (Mt.rp r))):=fun W hW=>by rw [← hrep];exact rep_range (HTr.out.below hW) k hk
   have HRS:Hid (∀ (o:Nat) (z:World),o≤301→Calls Tryz.prog 91 #[.int .i64 (o:Int),ptV (Mt.rp r)] z fun e w'=>e=.returned (.int .i64 (Mt.lim (Mt.partLen o r):Nat))∧Below z.heap.size z w'):=fun o z ho=>repeatedSize_any o r z ho hro hrk
   have HAT:Hid (Calls Tryz.prog 90 #[treeV b (some ⟨gs,0,none⟩) (some ⟨ga,0,none⟩) sc ac,.int .i64 (k:Int)] wr fun e w'=>e=.returned (.int .i64 (Mt.lim x.len:Nat))∧Below wr.heap.size wr w'):=by
    rcases hx with ⟨hb,h1⟩ | ⟨t,i,q,h1,h2,h3,h4,h5,h6,h7,h8,h9,h10⟩
    ·have e1:Mt.lim x.len=1:=by rw [h1];rfl
     rw [e1];exact atomSize_leaf HTr.out k hk hna hb
    ·rw [h1];exact atomSize_grp HA.out HTr.out k hk hna hns t i h2 h3 h4 h5 (by have:=HL.out;omega) h7 q h8 h9 h10
   have HN:Hid (Mt.lim (Mt.lim (S+Mt.lim (Mt.partLen (Mt.lim x.len) r))+sr.both.1.len)=Mt.lim f.both.1.len):=by
    show _=_
    rw [Mt.lim_part _ _ hro,← Mt.part_len x r hro]
    exact lim_step S _ _ _ (by rw [← HLM.out,hlen])
   have HSR:Hid (Mt.standsF b 0 0 sr (b.aAt k).next n∧sr.wf∧sr.ok):=⟨hst',hsw,hso⟩
   have hk':(k:Int)<(b.atoms.length:Int):=by omega
   have hxl:=Mt.lim_le x.len
   have hpl:=Mt.lim_le (Mt.partLen (Mt.lim x.len) r)
   have hkb:((k:Int) != -1)=true:=by simp
   clear hcell hx hlen hst' hsw hso hro hrk hrep HLM
   generalize hNx:(b.aAt k).next=nx at *
   clear hNx
   generalize Mt.lim x.len=X at *
   unfold treeV at HAT
   go_wp2_with fail
   refine HAT.out.mono ?_
   rintro e w2 ⟨rfl,b2⟩
   have hs2:wr.heap.size≤w2.heap.size:=b2.size
   have bk2:w2.heap[w.heap.size]?=some (.cells (treeA b (some ⟨gs,0,none⟩) (some ⟨ga,0,none⟩) sc ac) 74 (0,0)):=(b2.block _ hsz).trans HBK.out.1
   have by0:=(cell_block bk2).1 0
   have by1:=(cell_block bk2).1 1
   rw [HE0] at by0 by1
   simp only [List.getElem?_toArray,List.getElem?_cons_succ,List.getElem?_cons_zero] at by0 by1
   have HR2:Hid (w2.rangeAt ga (k*20+9) (ptL (Mt.rp r))):=HRR.out w2 b2
   have HB2:Hid (Below w.heap.size w w2∧Below wr.heap.size wr w2∧w2.heap[w.heap.size]?=some (.cells (treeA b (some ⟨gs,0,none⟩) (some ⟨ga,0,none⟩) sc ac) 74 (0,0))):=⟨HBK.out.2.trans (b2.mono (by omega)),b2,bk2⟩
   have d19:=(b2.cell (p:=⟨ga,k*20+19,none⟩) hga).trans c19
   clear b2 bk2
   go_wp2_with (refine wpList_load_mid (by rfl) 115 (.tmp 31) (by rfl) ga (k*20+9) (by rfl) (ptL (Mt.rp r)) _ HR2.out Tryz.underlying115 rfl (by rw [Tryz.sizePT];rfl) ?_)
   refine (HRS.out X w2 hxl).mono ?_
   rintro e w3 ⟨rfl,b3⟩
   have hs3:w2.heap.size≤w3.heap.size:=b3.size
   have bk3:w3.heap[w.heap.size]?=some (.cells (treeA b (some ⟨gs,0,none⟩) (some ⟨ga,0,none⟩) sc ac) 74 (0,0)):=(b3.block _ (by omega)).trans HB2.out.2.2
   have bz0:=(cell_block bk3).1 0
   have bz1:=(cell_block bk3).1 1
   rw [HE0] at bz0 bz1
   simp only [List.getElem?_toArray,List.getElem?_cons_succ,List.getElem?_cons_zero] at bz0 bz1
   have e19:=(b3.cell (p:=⟨ga,k*20+19,none⟩) (by show ga<w2.heap.size;omega)).trans d19
   have HB3:Hid (Below w.heap.size w w3∧w3.heap[w.heap.size]?=some (.cells (treeA b (some ⟨gs,0,none⟩) (some ⟨ga,0,none⟩) sc ac) 74 (0,0))):=⟨HB2.out.1.trans (b3.mono (by omega)),bk3⟩
   clear b3 bk3
   generalize Mt.lim (Mt.partLen X r)=Y at *
   have hSl:=Mt.lim_le (S+Y)
   go_wp2_with (go_at_call 59;refine (limited_int _ (S+Y) (by omega) _).mono ?_;rintro e w' ⟨rfl,rfl⟩)
   go_roundg sr.flat.length
   case measure=>omega
   case rel=>exact ⟨sr,Mt.lim (S+Y),nx,rfl,rfl,hSl,rfl,by omega,HSR.out.1,HSR.out.2.1,HSR.out.2.2,HN.out,HB3.out.2,HB3.out.1⟩
end Go.Proofs.YtebpgfodelggoaaGreatDoor
