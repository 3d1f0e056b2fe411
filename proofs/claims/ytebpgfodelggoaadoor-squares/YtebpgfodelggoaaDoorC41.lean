import Derived.Test.YtebpgfodelggoaaDoorC40
import Derived.Test.YtebpgfodelggoaaDoorC36
import Derived.Test.YtebpgfodelggoaaDoorC16
set_option linter.unusedVariables false
set_option linter.unusedSimpArgs false
set_option maxRecDepth 100000
set_option maxHeartbeats 4000000
namespace Go.Proofs.YtebpgfodelggoaaDoor
open Go.RowKit
theorem Tryd.sizeLy:(Tryd.prog.info? 90).map (·.size)=some 4:=by kernel_rfl
def lyA (b:Mt.PB) (so ao:Option Addr) (sc ac:Nat):Array Value:=#[.slice so b.seqs.length sc,.slice ao b.atoms.length ac,.slice none 0 0,.int .i64 0]
theorem layer_new {w w2:World} {b:Mt.PB} {so ao:Option Addr} {sc ac L0:Nat} (h:TreeAt L0 w b so ao sc ac) (hb:Below w.heap.size w w2) (hg:w2.heap[w.heap.size+1]?=some (.cells (lyA b so ao sc ac) 90 (0,0))) :
  LAt w.heap.size w2 (w.heap.size+1) b so ao sc ac none 0 [] 0:=by
 have ls:∀ k,blk so=some k→k<w.heap.size:=fun k hk=>(World.ownsRow.lt h.seqs k (by rw [ownBlock_blk];exact hk)).2
 have la:∀ k,blk ao=some k→k<w.heap.size:=fun k hk=>(World.ownsRow.lt h.atoms k (by rw [ownBlock_blk];exact hk)).2
 exact ⟨hg,by omega,(h.below hb).lower (Nat.zero_le _),World.ownsRow_nil _ _ _ _,by simp [blk],fun e=>by have:=ls _ e;omega,fun e=>by have:=la _ e;omega,fun q hq=>by simp [blk] at hq⟩
theorem Lay_any {b:Mt.PB} {so ao:Option Addr} {sc ac:Nat} (hna:b.atoms.length≤1000) (hns:b.seqs.length≤1000) (f:Mt.Fs) (hw:f.wf) (hok:f.ok) (hfl:f.flat.length≤1000) (hre:f.re.len≤900) (hs:0<b.seqs.length) (hst:Mt.standsF b 0 0 f (b.sAt 0).first (b.sAt 0).next) {L:Nat} {w:World} (hT:TreeAt L w b so ao sc ac) :
  Calls Tryd.prog 25 #[treeV b so ao sc ac] w fun e w'=>∃ v,e=.returned v∧ownIns w' w.heap.size v (f.re.code 0 0++[⟨13,0,0,[]⟩])∧Below w.heap.size w w':=by
 have HA:Hid (Lays w.heap.size (w.heap.size+1) b so ao sc ac 0 38 #[.pointer (some ⟨w.heap.size+1,0,none⟩),.int .i64 ((0:Nat):Int)] f.re):=altL_all hna hns (f.flat.length+1) f hw hok (by omega) 0 hs hst 0 (by omega) (by omega)
 have HT:Hid (TreeAt L w b so ao sc ac):=hT
 have hlen:(f.re.code 0 0).length=f.re.len:=Mt.Re.code_len _ _ _
 clear hT hst hw hok
 unfold treeV
 go_enter Tryd.func25,Tryd.ntmps25
 go_wp2_with (refine store_blk 90 4 Tryd.sizeLy (by rfl) (.tmp 3) (.tmp 5) (by rfl) (w.heap.size+1) (lyA b so ao sc ac) (by rfl) (by rfl) (by exact heap_b3 _ _ _) (by rfl) (by rfl) (by simp [lyA,Value.oneCell']) ?_;intro w2 r1 r2 r3 r4)
 have B2:Below w.heap.size w w2:=(((Below.refl _ _).alloc (Nat.le_refl _) _).alloc (by simp) _).trans (r4 _ (by omega))
 have A2:=layer_new HT.out B2 r1
 have H1':=HA.out w2 none 0 [] A2 (by simp;omega)
 simp only [List.nil_append,List.length_nil] at H1'
 have H1:Hid (Calls Tryd.prog 38 #[.pointer (some ⟨w.heap.size+1,0,none⟩),.int .i64 ((0:Nat):Int)] w2 _):=H1'
 have HB2:Hid (Below w.heap.size w w2∧LAt w.heap.size w2 (w.heap.size+1) b so ao sc ac none 0 [] 0):=⟨B2,A2⟩
 clear r1 r2 r3 r4 B2 A2 H1'
 go_wp2_with fail
 refine H1.out.mono ?_
 rintro e w3 ⟨rfl,co3,cc3,hA,hS⟩
 have H2:Hid (Calls Tryd.prog 39 #[.pointer (some ⟨w.heap.size+1,0,none⟩),.agg (insA ⟨13,0,0,[]⟩)] w3 _):=put_prog (x:=⟨13,0,0,[]⟩) hA (by show (f.re.code 0 0).length≤_;omega)
 have HS3:Hid (LStep (w.heap.size+1) none co3 w2 w3):=hS
 clear hA hS
 unfold insA at H2
 go_wp2_with fail
 refine H2.out.mono ?_
 rintro e w4 ⟨rfl,q,cap,hA,hS⟩
 have c2:=hA.cells.2.2.1
 have HO:Hid (ownIns w4 w.heap.size (.slice (some ⟨q,0,none⟩) (f.re.code 0 0++[(⟨13,0,0,[]⟩:Mt.Ins)]).length cap) (f.re.code 0 0++[⟨13,0,0,[]⟩])):=hA.code
 have HB4:Hid (Below w.heap.size w w4):=HB2.out.1.trans ((HS3.out.trans hS).low HB2.out.2 HB2.out.1.size)
 clear hA hS
 generalize hC:f.re.code 0 0++[(⟨13,0,0,[]⟩:Mt.Ins)]=C at *
 go_wp2_with fail
 go_ret
 exact ⟨_,rfl,by rw [hC];exact HO.out,HB4.out⟩
theorem Code_any (p:ByteArray) (w:World) (hm:p.size≤maxLen):Calls Tryd.prog 15 #[.string p] w fun e w'=>∃ v,e=.returned (.tuple #[v,.int .i64 (Mt.codeR p).2])∧ownIns w' w.heap.size v (Mt.codeR p).1∧Below w.heap.size w w':=by
 have HC:Hid (Calls Tryd.prog 24 #[.string p] w (Reads p w)):=read_any p w hm
 by_cases h0:(Mt.checkR p).1=0
 ·have ht0:(Mt.tokens p).2.1=0:=by
   unfold Mt.checkR at h0
   split at h0
   ·rename_i x;exact absurd h0 x
   ·rename_i x;simpa using x
  obtain ⟨f,hw,hok,hfl,hst,hs0,hla,hls,hc1,hc2⟩:=Mt.forest p ht0
  have h300:f.re.len+1≤300:=by
   unfold Mt.checkR at h0
   rw [if_neg (by omega)] at h0
   split at h0
   ·simp at h0
   ·rename_i x
    have:=fun y=>x (hc1.2 y)
    omega
  have hcr:Mt.codeR p=(f.re.code 0 0++[⟨13,0,0,[]⟩],0):=by unfold Mt.codeR;rw [if_neg (by omega),hc2 h300]
  have hts:=(Mt.tokens_small p).2
  rw [hfl] at hts
  rw [hcr]
  have HL:Hid (∀ (so ao:Option Addr) (sc ac L:Nat) (W:World),TreeAt L W (Mt.PB.start.run (Mt.tokens p).1) so ao sc ac→Calls Tryd.prog 25 #[treeV (Mt.PB.start.run (Mt.tokens p).1) so ao sc ac] W fun e w'=>∃ v,e=.returned v∧ownIns w' W.heap.size v (f.re.code 0 0++[⟨13,0,0,[]⟩])∧Below W.heap.size W w'):=fun so ao sc ac L W hT=>Lay_any (by omega) (by omega) f hw hok (by omega) (by omega) hs0 hst hT
  have H0:Hid ((Mt.checkR p).1=0):=h0
  clear hst hw hok hfl hc1 hc2 hcr h0 ht0
  generalize f.re.code 0 0++[(⟨13,0,0,[]⟩:Mt.Ins)]=C at *
  go_enter Tryd.func15,Tryd.ntmps15
  go_wp2_with fail
  refine HC.out.mono ?_
  rintro e w1 ⟨_,hg,hb⟩
  obtain ⟨so,ao,sc,ac,rfl,hT⟩:=hg H0.out
  have HB1:Hid (Below w.heap.size w w1∧TreeAt w.heap.size w1 (Mt.PB.start.run (Mt.tokens p).1) so ao sc ac):=⟨hb,hT⟩
  clear hb hg hT HC
  generalize Mt.PB.start.run (Mt.tokens p).1=b at *
  unfold treeV
  unfold treeV at HL
  go_wp2_with (first | (refine store_blk 69 2 Tryd.sizeT (by rfl) (.tmp 4) (.tmp 10) (by rfl) w1.heap.size (treeA b so ao sc ac) (by rfl) (by rfl) (by exact heap_b1 _ _) (by rfl) (by rfl) (by simp [treeA,Value.oneCell']) ?_;intro w2 r1 r2 r3 r4) | (refine load_blk 69 2 Tryd.underlying69 rfl Tryd.sizeT (by rfl) (.tmp 4) (by rfl) w1.heap.size (by rfl) r1 (by rfl) ?_))
  have hb2:Below w1.heap.size w1 w2:=((Below.refl _ _).alloc (Nat.le_refl _) _).trans (r4 _ (Nat.le_refl _))
  have hsz:=HB1.out.1.size
  have hsz2:=hb2.size
  have HB2:Hid (Below w.heap.size w w2∧w.heap.size≤w2.heap.size):=⟨HB1.out.1.trans (hb2.mono hsz),by omega⟩
  have H2:=HL.out so ao sc ac _ w2 (HB1.out.2.below hb2)
  refine H2.mono ?_
  clear H2 r1 r2 r3 r4 hb2
  rintro e w3 ⟨v,rfl,ho,hb3⟩
  have HO:Hid (ownIns w3 w.heap.size v C∧Below w.heap.size w w3):=⟨ho.base HB2.out.2,HB2.out.1.trans (hb3.mono HB2.out.2)⟩
  clear ho hb3
  go_wp2_with fail
  go_ret2
  exact ⟨_,rfl,HO.out.1,HO.out.2⟩
 ·have hcr:Mt.codeR p=([],(Mt.checkR p).1):=by unfold Mt.codeR;rw [if_pos h0]
  rw [hcr]
  have H0:Hid ((Mt.checkR p).1≠0):=h0
  have m2:((Mt.checkR p).1 != 0)=true:=by simpa using h0
  have HC':=HC.out
  unfold Reads at HC'
  have HCX:Hid (Calls Tryd.prog 24 #[.string p] w _):=HC'
  clear hcr h0 HC' HC
  generalize (Mt.checkR p).1=E at *
  generalize (Mt.checkR p).2=K at *
  go_enter Tryd.func15,Tryd.ntmps15
  go_wp2_with fail
  refine HCX.out.mono ?_
  rintro e w1 ⟨hg,_,hb⟩
  obtain rfl:=hg H0.out
  have HB:Hid (Below w.heap.size w w1):=hb
  clear hb hg HCX
  go_wp2_with (refine store_blk 69 2 Tryd.sizeT (by rfl) (.tmp 4) (.tmp 10) (by rfl) w1.heap.size nil2 (by rfl) (by rfl) (by exact heap_b1 _ _) (by rfl) (by rfl) nil2_all ?_;intro w2 r1 r2 r3 r4;have R2:Hid (Below w.heap.size w w2):=(HB.out.alloc (HB.out.size) _).trans (r4 _ HB.out.size);clear r1 r2 r3 r4)
  go_ret2
  exact ⟨_,rfl,World.ownsRow_nil _ _ _ _,R2.out⟩
def someB (p:ByteArray) (n:Nat):ByteArray:=if n<p.size then p.extract 0 n else p
theorem someB_size (p:ByteArray) (n:Nat):(someB p n).size≤n∧(someB p n).size≤p.size:=by
 unfold someB
 split
 ·simp [ByteArray.size_extract];omega
 ·omega
theorem some_any (p:ByteArray) (n:Nat) (w:World) (hm:p.size≤maxLen) (hn:n≤1000):Calls Tryd.prog 5 #[.string p,.int .i64 (n:Int)] w fun e w'=>e=.returned (.string (someB p n))∧w=w':=by
 unfold maxLen at hm
 unfold someB
 by_cases h:n<p.size
 ·have d1:decide ((n:Int)<(p.size:Int))=true:=by simpa using h
  rw [if_pos h]
  go_enter Tryd.func5,Tryd.ntmps5
  go_wp2_with fail
  go_ret
  exact ⟨rfl,rfl⟩
 ·have d1:decide ((n:Int)<(p.size:Int))=false:=by simpa using h
  rw [if_neg h]
  go_enter Tryd.func5,Tryd.ntmps5
  go_wp2_with fail
  go_ret
  exact ⟨rfl,rfl⟩
def stC (q:List Int):List Value:=(List.range 43).map fun i=>Value.int .i64 (Mt.gt q i)
def stA (q:List Int):Array Value:=(stC q).toArray
theorem stC_len (q:List Int):(stC q).length=43:=by simp [stC]
theorem stA_size (q:List Int):(stA q).size=43:=by simp [stA,stC]
theorem stA_at (q:List Int) (j:Nat) (hj:j<43):(stA q)[j]?=some (.int .i64 (Mt.gt q j)):=by
 simp [stA,stC,hj]
theorem stA_list (q:List Int):(stA q).toList=stC q:=rfl
theorem stA_all (q:List Int):(stA q).all (·.oneCell')=true:=by
 rw [Array.all_eq_true]
 intro i hi
 simp [stA,stC,Value.oneCell']
theorem stC_all (q:List Int):∀ u∈stC q,u.oneCell'=true:=by
 intro u hu
 simp only [stC,List.mem_map] at hu
 obtain ⟨i,_,rfl⟩:=hu
 rfl
theorem stA_set (q:List Int) (hq:q.length=43) (j:Nat) (v:Int):(stA q).setIfInBounds j (.int .i64 v)=stA (q.set j v):=by
 apply Array.ext
 ·simp [stA,stC]
 ·intro i h1 h2
  have hi:i<43:=by simpa [stA,stC] using h2
  rw [Array.getElem_setIfInBounds (by simpa [stA,stC] using hi)]
  simp only [stA,stC,List.getElem_toArray,List.getElem_map,List.getElem_range]
  rw [Mt.gt_set]
  by_cases e:j=i
  ·rw [if_pos e,if_pos ⟨e,by omega⟩]
  ·rw [if_neg e,if_neg (by omega)]
def oInts (w:World) (v:Value) (b:List Int):Prop:=w.ownsRow 0 3 1 v b.length (b.map (Value.int .i64))
def oBools (w:World) (v:Value) (b:List Bool):Prop:=w.ownsRow 0 4 1 v b.length (b.map Value.bool)
theorem Tryd.sizeSt:(Tryd.prog.info? 59).map (·.size)=some 43:=by kernel_rfl
structure Pk where
 L:Nat
 g:Nat
 gc:Nat
 gl:Nat
 gs:Nat
 gh:Nat
 cc:Nat
 cl:Nat
 cs:Nat
 ch:Nat
 c:List Mt.Ins
 t:ByteArray
 budget:Int
 lp:List Int
 sl:List Int
structure PlayAt (k:Pk) (w:World) (steps:Int) (hd:List Bool) (room:Int) (wo:Option Addr) (wc:Nat) (W:List (List Int)):Prop where
 cell:w.heap[k.g]?=some (.cells #[.slice (some ⟨k.gc,0,none⟩) k.c.length k.cc,.string k.t,.int .i64 k.budget,.int .i64 steps,.int .i64 ((k.t.size:Int)+1),.slice (some ⟨k.gl,0,none⟩) k.c.length k.cl,.slice (some ⟨k.gs,0,none⟩) k.c.length k.cs,.slice (some ⟨k.gh,0,none⟩) hd.length k.ch,.int .i64 room,.slice wo W.length wc] 55 (0,0))
 code:ownIns w 0 (.slice (some ⟨k.gc,0,none⟩) k.c.length k.cc) k.c
 lps:oInts w (.slice (some ⟨k.gl,0,none⟩) k.lp.length k.cl) k.lp
 sls:oInts w (.slice (some ⟨k.gs,0,none⟩) k.sl.length k.cs) k.sl
 hds:oBools w (.slice (some ⟨k.gh,0,none⟩) hd.length k.ch) hd
 wt:w.ownsRow k.L 59 43 (.slice wo W.length wc) W.length (W.flatMap stC)
 lo:k.L≤k.g∧k.L≤k.gh
 ll:k.lp.length=k.c.length
 ls:k.sl.length=k.c.length
 apg:k.gc≠k.g∧k.gl≠k.g∧k.gs≠k.g∧k.gh≠k.g
 aph:k.gc≠k.gh∧k.gl≠k.gh∧k.gs≠k.gh
 apw:blk wo≠some k.g∧blk wo≠some k.gc∧blk wo≠some k.gl∧blk wo≠some k.gs∧blk wo≠some k.gh
structure PStep (k:Pk) (wo wo':Option Addr) (w w':World):Prop where
 os:w'.os=w.os
 tape:w'.tape=w.tape
 output:w'.output=w.output
 size:w.heap.size≤w'.heap.size
 block:∀ i,i<w.heap.size→i≠k.g→i≠k.gh→blk wo≠some i→w'.heap[i]?=w.heap[i]?
 sub:∀ i,i<w.heap.size→blk wo'=some i→blk wo=some i
theorem PStep.refl (k:Pk) (wo:Option Addr) (w:World):PStep k wo wo w w:=⟨rfl,rfl,rfl,Nat.le_refl _,fun _ _ _ _ _=>rfl,fun _ _ h=>h⟩
theorem PStep.trans {k:Pk} {wo w1 w2:Option Addr} {a b c:World} (h:PStep k wo w1 a b) (j:PStep k w1 w2 b c):PStep k wo w2 a c :=
 ⟨j.os.trans h.os,j.tape.trans h.tape,j.output.trans h.output,Nat.le_trans h.size j.size,
 fun i hi h1 h2 h3=>(j.block i (Nat.lt_of_lt_of_le hi h.size) h1 h2 (fun e=>h3 (h.sub i hi e))).trans (h.block i hi h1 h2 h3),fun i hi ho=>h.sub i hi (j.sub i (Nat.lt_of_lt_of_le hi h.size) ho)⟩
theorem PStep.below {k:Pk} {wo:Option Addr} {a b:World} (h:Below a.heap.size a b):PStep k wo wo a b:=⟨h.os,h.tape,h.output,h.size,fun i hi _ _ _=>h.block i hi,fun _ _ h=>h⟩
theorem PStep.drew {k:Pk} {wo w1:Option Addr} {a w:World} (h:PStep k wo w1 a w):PStep k wo w1 a w.drew:=h.trans (PStep.below (Below.refl _ _).drew)
theorem PStep.set {k:Pk} {wo w1:Option Addr} {a w:World} (h:PStep k wo w1 a w) {p:Addr} (hp:p.block=k.g∨p.block=k.gh∨blk w1=some p.block) (u:Value):PStep k wo w1 a (w.setCell p u) :=
 h.trans ⟨rfl,rfl,rfl,by simp [World.setCell],fun i hi h1 h2 h3=>Below.heap_setCell _ _ _ _ (fun e=>by rcases hp with hp | hp | hp;exact h1 (by rw [e,hp]);exact h2 (by rw [e,hp]);exact h3 (by rw [e,hp])),fun _ _ h=>h⟩
section
variable {k:Pk} {w:World} {steps:Int} {hd:List Bool} {room:Int} {wo:Option Addr} {wc:Nat} {W:List (List Int)}
theorem PlayAt.lt (h:PlayAt k w steps hd room wo wc W):k.g<w.heap.size∧k.gc<w.heap.size∧k.gl<w.heap.size∧k.gs<w.heap.size∧k.gh<w.heap.size∧(∀ i,blk wo=some i→k.L≤i∧i<w.heap.size) :=
 ⟨(Array.getElem?_eq_some_iff.1 h.cell).1,(World.ownsRow.lt h.code k.gc rfl).2,(World.ownsRow.lt h.lps k.gl rfl).2,(World.ownsRow.lt h.sls k.gs rfl).2,(World.ownsRow.lt h.hds k.gh rfl).2,fun i hi=>World.ownsRow.lt h.wt i (by rw [ownBlock_blk];exact hi)⟩
theorem PlayAt.same {w':World} (h:PlayAt k w steps hd room wo wc W) (hg:w'.heap[k.g]?=w.heap[k.g]?) (hc:w'.heap[k.gc]?=w.heap[k.gc]?) (hl:w'.heap[k.gl]?=w.heap[k.gl]?) (hs:w'.heap[k.gs]?=w.heap[k.gs]?) (hh:w'.heap[k.gh]?=w.heap[k.gh]?) (hw:∀ i,blk wo=some i→w'.heap[i]?=w.heap[i]?):PlayAt k w' steps hd room wo wc W :=
 ⟨by rw [hg];exact h.cell,row_keep h.code (fun q hq=>by cases hq;exact hc),row_keep h.lps (fun q hq=>by cases hq;exact hl),row_keep h.sls (fun q hq=>by cases hq;exact hs),row_keep h.hds (fun q hq=>by cases hq;exact hh),row_keep h.wt hw,h.lo,h.ll,h.ls,h.apg,h.aph,h.apw⟩
theorem PlayAt.below {w':World} (h:PlayAt k w steps hd room wo wc W) (hb:Below w.heap.size w w'):PlayAt k w' steps hd room wo wc W:=by
 obtain ⟨l1,l2,l3,l4,l5,l6⟩:=h.lt
 exact h.same (hb.block _ l1) (hb.block _ l2) (hb.block _ l3) (hb.block _ l4) (hb.block _ l5) (fun i hi=>hb.block _ (l6 i hi).2)
theorem PlayAt.drew (h:PlayAt k w steps hd room wo wc W):PlayAt k w.drew steps hd room wo wc W:=h.same rfl rfl rfl rfl rfl (fun _ _=>rfl)
theorem PStep.low {wo':Option Addr} {w':World} (h:PlayAt k w steps hd room wo wc W) (hs:PStep k wo wo' w w') (hL:k.L≤w.heap.size):Below k.L w w' :=
 ⟨hs.os,hs.tape,hs.output,hs.size,fun i hi=>hs.block i (by omega) (fun e=>by have:=h.lo.1;omega) (fun e=>by have:=h.lo.2;omega) (fun e=>by have:=(h.lt.2.2.2.2.2 i e).1;omega)⟩
theorem PlayAt.cells (h:PlayAt k w steps hd room wo wc W):w.cell? ⟨k.g,0,none⟩=some (.slice (some ⟨k.gc,0,none⟩) k.c.length k.cc)∧w.cell? ⟨k.g,1,none⟩=some (.string k.t)∧w.cell? ⟨k.g,2,none⟩=some (.int .i64 k.budget)∧w.cell? ⟨k.g,3,none⟩=some (.int .i64 steps)∧w.cell? ⟨k.g,4,none⟩=some (.int .i64 ((k.t.size:Int)+1))
  ∧ w.cell? ⟨k.g,5,none⟩=some (.slice (some ⟨k.gl,0,none⟩) k.c.length k.cl)∧w.cell? ⟨k.g,6,none⟩=some (.slice (some ⟨k.gs,0,none⟩) k.c.length k.cs)∧w.cell? ⟨k.g,7,none⟩=some (.slice (some ⟨k.gh,0,none⟩) hd.length k.ch)∧w.cell? ⟨k.g,8,none⟩=some (.int .i64 room)∧w.cell? ⟨k.g,9,none⟩=some (.slice wo W.length wc)∧(∀ j,w.frozen? ⟨k.g,j,none⟩=false):=by
 have hb:=cell_block h.cell
 exact ⟨hb.1 0,hb.1 1,hb.1 2,hb.1 3,hb.1 4,hb.1 5,hb.1 6,hb.1 7,hb.1 8,hb.1 9,hb.2⟩
theorem PlayAt.setSteps (h:PlayAt k w steps hd room wo wc W) (v:Int):PlayAt k (w.setCell ⟨k.g,3,none⟩ (.int .i64 v)) v hd room wo wc W:=by
 have o:∀ i,i≠k.g→(w.setCell ⟨k.g,3,none⟩ (.int .i64 v)).heap[i]?=w.heap[i]?:=fun i hi=>Below.heap_setCell _ _ _ _ hi
 refine ⟨?_,row_keep h.code (fun q hq=>by cases hq;exact o _ h.apg.1),row_keep h.lps (fun q hq=>by cases hq;exact o _ h.apg.2.1),row_keep h.sls (fun q hq=>by cases hq;exact o _ h.apg.2.2.1),row_keep h.hds (fun q hq=>by cases hq;exact o _ h.apg.2.2.2),row_keep h.wt (fun q hq=>o q (fun e=>h.apw.1 (by rw [← e];exact hq))),h.lo,h.ll,h.ls,h.apg,h.aph,h.apw⟩
 have:=Go.heap_setCell_same w k.g 3 _ _ (.int .i64 v) h.cell
 rw [this];rfl
theorem PlayAt.setRoom (h:PlayAt k w steps hd room wo wc W) (v:Int):PlayAt k (w.setCell ⟨k.g,8,none⟩ (.int .i64 v)) steps hd v wo wc W:=by
 have o:∀ i,i≠k.g→(w.setCell ⟨k.g,8,none⟩ (.int .i64 v)).heap[i]?=w.heap[i]?:=fun i hi=>Below.heap_setCell _ _ _ _ hi
 refine ⟨?_,row_keep h.code (fun q hq=>by cases hq;exact o _ h.apg.1),row_keep h.lps (fun q hq=>by cases hq;exact o _ h.apg.2.1),row_keep h.sls (fun q hq=>by cases hq;exact o _ h.apg.2.2.1),row_keep h.hds (fun q hq=>by cases hq;exact o _ h.apg.2.2.2),row_keep h.wt (fun q hq=>o q (fun e=>h.apw.1 (by rw [← e];exact hq))),h.lo,h.ll,h.ls,h.apg,h.aph,h.apw⟩
 have:=Go.heap_setCell_same w k.g 8 _ _ (.int .i64 v) h.cell
 rw [this];rfl
theorem PlayAt.setHeld (h:PlayAt k w steps hd room wo wc W) (i:Nat):PlayAt k (w.setCell ⟨k.gh,i,none⟩ (.bool true)) steps (hd.set i true) room wo wc W:=by
 have o:∀ j,j≠k.gh→(w.setCell ⟨k.gh,i,none⟩ (.bool true)).heap[j]?=w.heap[j]?:=fun j hj=>Below.heap_setCell _ _ _ _ hj
 have hk:=(World.ownsRow.stored h.hds i (.bool true)).1
 refine ⟨?_,row_keep h.code (fun q hq=>by cases hq;exact o _ h.aph.1),row_keep h.lps (fun q hq=>by cases hq;exact o _ h.aph.2.1),row_keep h.sls (fun q hq=>by cases hq;exact o _ h.aph.2.2),?_,row_keep h.wt (fun q hq=>o q (fun e=>h.apw.2.2.2.2 (by rw [← e];exact hq))),h.lo,h.ll,h.ls,h.apg,h.aph,h.apw⟩
 ·rw [o k.g (Ne.symm h.apg.2.2.2),List.length_set];exact h.cell
 ·unfold oBools
  rw [List.length_set,List.map_set];exact hk
theorem stFlat_len (W:List (List Int)):(W.flatMap stC).length=W.length*43:=by
 induction W with
 | nil=>rfl
 | cons a r ih=>rw [List.flatMap_cons,List.length_append,stC_len,ih,List.length_cons,Nat.add_mul];omega
theorem stFlat_take:∀ (W:List (List Int)) (n:Nat),(W.flatMap stC).take (n*43)=(W.take n).flatMap stC
 | [],n=>by simp
 | a::r,0=>by simp
 | a::r,n+1=>by
  rw [List.flatMap_cons,List.take_succ_cons,List.flatMap_cons,List.take_append,stC_len,List.take_of_length_le (by rw [stC_len,Nat.add_mul];omega),show (n+1)*43-43=n*43 by omega,stFlat_take r n]
theorem stFlat_at:∀ (W:List (List Int)) (i j:Nat),i<W.length→j<43→(W.flatMap stC)[i*43+j]?=some (.int .i64 (Mt.gt (W.getD i []) j))
 | [],i,j,h,_=>by simp at h
 | a::r,0,j,_,hj=>by
  rw [List.flatMap_cons,List.getElem?_append_left (by rw [stC_len];omega)]
  simp [stC,hj]
 | a::r,i+1,j,h,hj=>by
  rw [List.flatMap_cons,List.getElem?_append_right (by rw [stC_len];omega),stC_len,show (i+1)*43+j-43=i*43+j by omega,stFlat_at r i j (by simpa using h) hj]
  simp
theorem PlayAt.cut (h:PlayAt k w steps hd room wo wc W) (n:Nat) (hn:n≤W.length):PlayAt k (w.setCell ⟨k.g,9,none⟩ (.slice wo n wc)) steps hd room wo wc (W.take n):=by
 have o:∀ i,i≠k.g→(w.setCell ⟨k.g,9,none⟩ (.slice wo n wc)).heap[i]?=w.heap[i]?:=fun i hi=>Below.heap_setCell _ _ _ _ hi
 have hl:(W.take n).length=n:=by rw [List.length_take];omega
 refine ⟨?_,row_keep h.code (fun q hq=>by cases hq;exact o _ h.apg.1),row_keep h.lps (fun q hq=>by cases hq;exact o _ h.apg.2.1),row_keep h.sls (fun q hq=>by cases hq;exact o _ h.apg.2.2.1),row_keep h.hds (fun q hq=>by cases hq;exact o _ h.apg.2.2.2),?_,h.lo,h.ll,h.ls,h.apg,h.aph,h.apw⟩
 ·have:=Go.heap_setCell_same w k.g 9 _ _ (.slice wo n wc) h.cell
  rw [this,hl];rfl
 ·rw [hl]
  refine row_keep (w:=w) ?_ (fun q hq=>o q (fun e=>h.apw.1 (by rw [← e];exact hq)))
  have h0:=h.wt
  refine ⟨by rw [stFlat_len,hl],?_⟩
  rcases h0.2 with ⟨e,e2⟩ | ⟨gw,cap,cur,e,r1,r2,r3,r4,r5,r6⟩
  ·left
   simp only [Value.slice.injEq] at e
   obtain ⟨rfl,_,rfl⟩:=e
   have:n=0:=by omega
   subst this;exact ⟨rfl,rfl⟩
  ·right
   simp only [Value.slice.injEq] at e
   obtain ⟨rfl,_,rfl⟩:=e
   refine ⟨gw,wc,cur,rfl,r1,r2,by omega,r4,r5,?_⟩
   rw [← stFlat_take,← r6,List.take_take]
   congr 1
   have:=Nat.mul_le_mul_right 43 hn
   omega
theorem wait_mem {w0 w1:World} {q cap:Nat} {x:List Int} (h:PlayAt k w steps hd room wo wc W) (h0:Below w.heap.size w w0) (hs0:w.heap.size<w0.heap.size) (hg:w0.grownBy w1 (blk wo)) (hq:blk wo=some q∨q=w0.heap.size)
  (hown:w1.ownsRow k.L 59 43 (.slice (some ⟨q,0,none⟩) (W.length+1) cap) (W.length+1) (W.flatMap stC++stC x)) :
  PlayAt k (w1.setCell ⟨k.g,9,none⟩ (.slice (some ⟨q,0,none⟩) (W.length+1) cap)) steps hd room (some ⟨q,0,none⟩) cap (W++[x])∧PStep k wo (some ⟨q,0,none⟩) w (w1.setCell ⟨k.g,9,none⟩ (.slice (some ⟨q,0,none⟩) (W.length+1) cap)):=by
 obtain ⟨l1,l2,l3,l4,l5,l6⟩:=h.lt
 have n:q≠k.g∧q≠k.gc∧q≠k.gl∧q≠k.gs∧q≠k.gh:=by
  rcases hq with e | e
  ·exact ⟨fun x=>h.apw.1 (by rw [e,x]),fun x=>h.apw.2.1 (by rw [e,x]),fun x=>h.apw.2.2.1 (by rw [e,x]),fun x=>h.apw.2.2.2.1 (by rw [e,x]),fun x=>h.apw.2.2.2.2 (by rw [e,x])⟩
  ·omega
 obtain ⟨n1,n2,n3,n4,n5⟩:=n
 have kk:∀ i,i<w.heap.size→blk wo≠some i→w1.heap[i]?=w.heap[i]?:=fun i hi hr=>by rw [hg.block i (by have:=h0.size;omega) (fun e=>hr e.symm),h0.block i hi]
 have o:∀ i,i≠k.g→(w1.setCell ⟨k.g,9,none⟩ (.slice (some ⟨q,0,none⟩) (W.length+1) cap)).heap[i]?=w1.heap[i]?:=fun i hi=>Below.heap_setCell _ _ _ _ hi
 have ne:∀ i,i≠q→blk (some (⟨q,0,none⟩:Addr))≠some i:=fun i hi e=>hi (by simp [blk] at e;exact e.symm)
 refine ⟨⟨?_,row_keep h.code (fun i hi=>by cases hi;rw [o _ h.apg.1,kk _ l2 h.apw.2.1]),row_keep h.lps (fun i hi=>by cases hi;rw [o _ h.apg.2.1,kk _ l3 h.apw.2.2.1]),row_keep h.sls (fun i hi=>by cases hi;rw [o _ h.apg.2.2.1,kk _ l4 h.apw.2.2.2.1]),row_keep h.hds (fun i hi=>by cases hi;rw [o _ h.apg.2.2.2,kk _ l5 h.apw.2.2.2.2]),?_,h.lo,h.ll,h.ls,h.apg,h.aph,ne _ (Ne.symm n1),ne _ (Ne.symm n2),ne _ (Ne.symm n3),ne _ (Ne.symm n4),ne _ (Ne.symm n5)⟩,?_⟩
 ·have hc:=Go.heap_setCell_same w1 k.g 9 _ _ (.slice (some ⟨q,0,none⟩) (W.length+1) cap) (by rw [kk k.g l1 h.apw.1];exact h.cell)
  rw [hc];simp
 ·have e1:(W++[x]).length=W.length+1:=by simp
  have e2:(W++[x]).flatMap stC=W.flatMap stC++stC x:=by simp
  rw [e1,e2]
  exact row_keep hown (fun i hi=>o i (by simp [blk] at hi;omega))
 ·refine ⟨hg.os.trans h0.os,hg.tape.trans h0.tape,hg.output.trans h0.output,?_,fun i hi h1 h2 h3=>?_,fun i hi ho=>?_⟩
  ·have:=hg.size;have:=h0.size;simp [World.setCell];omega
  ·rw [o i h1,kk i hi h3]
  ·simp [blk] at ho
   subst ho
   rcases hq with hq | hq
   ·exact hq
   ·omega
end
end Go.Proofs.YtebpgfodelggoaaDoor
