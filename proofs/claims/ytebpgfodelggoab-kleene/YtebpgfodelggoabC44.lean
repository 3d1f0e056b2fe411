import Derived.Test.YtebpgfodelggoabC43
import Derived.Test.YtebpgfodelggoabC11
import Derived.Test.YtebpgfodelggoabC35
import Derived.Test.YtebpgfodelggoabC37
import Derived.Test.YtebpgfodelggoabC13
import Derived.Test.YtebpgfodelggoabC07
import Derived.Laws.ResultCell
set_option linter.unusedVariables false
set_option linter.unusedSimpArgs false
set_option maxRecDepth 100000
set_option maxHeartbeats 4000000
namespace Go.Proofs.Ytebpgfodelggoab
open Go.RowKit
theorem Try.sizeLy:(Try.prog.info? 108).map (·.size)=some 4:=by kernel_rfl
def lyA (b:Mt.PB) (so ao:Option Addr) (sc ac:Nat):Array Value:=#[.slice so b.seqs.length sc,.slice ao b.atoms.length ac,.slice none 0 0,.int .i64 0]
theorem layer_new {w w2:World} {b:Mt.PB} {so ao:Option Addr} {sc ac L0:Nat} (h:TreeAt L0 w b so ao sc ac) (hb:Below w.heap.size w w2) (hg:w2.heap[w.heap.size+1]?=some (.cells (lyA b so ao sc ac) 108 (0,0))) :
  LAt w.heap.size w2 (w.heap.size+1) b so ao sc ac none 0 [] 0:=by
 have ls:∀ k,blk so=some k→k<w.heap.size:=fun k hk=>(World.ownsRow.lt h.seqs k (by rw [ownBlock_blk];exact hk)).2
 have la:∀ k,blk ao=some k→k<w.heap.size:=fun k hk=>(World.ownsRow.lt h.atoms k (by rw [ownBlock_blk];exact hk)).2
 exact ⟨hg,by omega,(h.below hb).lower (Nat.zero_le _),World.ownsRow_nil _ _ _ _,by simp [blk],fun e=>by have:=ls _ e;omega,fun e=>by have:=la _ e;omega,fun q hq=>by simp [blk] at hq⟩
theorem Lay_any {b:Mt.PB} {so ao:Option Addr} {sc ac:Nat} (hna:b.atoms.length≤1000) (hns:b.seqs.length≤1000) (f:Mt.Fs) (hw:f.wf) (hok:f.ok) (hfl:f.flat.length≤1000) (hre:f.re.len≤900) (hs:0<b.seqs.length) (hst:Mt.standsF b 0 0 f (b.sAt 0).first (b.sAt 0).next) {L:Nat} {w:World} (hT:TreeAt L w b so ao sc ac) :
  Calls Try.prog 35 #[treeV b so ao sc ac] w fun e w'=>∃ v,e=.returned v∧ownIns w' w.heap.size v (f.re.code 0 0++[⟨13,0,0,[]⟩])∧Below w.heap.size w w':=by
 have HA:Hid (Lays w.heap.size (w.heap.size+1) b so ao sc ac 0 52 #[.pointer (some ⟨w.heap.size+1,0,none⟩),.int .i64 ((0:Nat):Int)] f.re):=altL_all hna hns (f.flat.length+1) f hw hok (by omega) 0 hs hst 0 (by omega) (by omega)
 have HT:Hid (TreeAt L w b so ao sc ac):=hT
 have hlen:(f.re.code 0 0).length=f.re.len:=Mt.Re.code_len _ _ _
 clear hT hst hw hok
 unfold treeV
 go_enter Try.func35,Try.ntmps35
 go_wp2_with (refine store_blk 108 4 Try.sizeLy (by rfl) (.tmp 3) (.tmp 5) (by rfl) (w.heap.size+1) (lyA b so ao sc ac) (by rfl) (by rfl) (by exact heap_b3 _ _ _) (by rfl) (by rfl) (by simp [lyA,Value.oneCell']) ?_;intro w2 r1 r2 r3 r4)
 have B2:Below w.heap.size w w2:=(((Below.refl _ _).alloc (Nat.le_refl _) _).alloc (by simp) _).trans (r4 _ (by omega))
 have A2:=layer_new HT.out B2 r1
 have H1':=HA.out w2 none 0 [] A2 (by simp;omega)
 simp only [List.nil_append,List.length_nil] at H1'
 have H1:Hid (Calls Try.prog 52 #[.pointer (some ⟨w.heap.size+1,0,none⟩),.int .i64 ((0:Nat):Int)] w2 _):=H1'
 have HB2:Hid (Below w.heap.size w w2∧LAt w.heap.size w2 (w.heap.size+1) b so ao sc ac none 0 [] 0):=⟨B2,A2⟩
 clear r1 r2 r3 r4 B2 A2 H1'
 go_wp2_with fail
 refine H1.out.mono ?_
 rintro e w3 ⟨rfl,co3,cc3,hA,hS⟩
 have H2:Hid (Calls Try.prog 53 #[.pointer (some ⟨w.heap.size+1,0,none⟩),.agg (insA ⟨13,0,0,[]⟩)] w3 _):=put_prog (x:=⟨13,0,0,[]⟩) hA (by show (f.re.code 0 0).length≤_;omega)
 have HS3:Hid (LStep (w.heap.size+1) none co3 w2 w3):=hS
 clear hA hS
 unfold insA at H2
 go_wp2_with fail
 refine H2.out.mono ?_
 rintro e w4 ⟨rfl,q,cap,hA,hS⟩
 have c2:=hA.cells.2.2.1
 have HO:Hid (ownIns w4 w.heap.size (.slice (some ⟨q,0,none⟩) (f.re.code 0 0++[(⟨13,0,0,[]⟩:Mt.Ins)]).length cap) (f.re.code 0 0++[⟨13,0,0,[]⟩])):=hA.code
 have HB4:Hid (Below w.heap.size w w4):=HB2.out.1.trans ((HS3.out.trans hS).low HB2.out.2 HB2.out.1.size)
 clear hA hS
 generalize hC:f.re.code 0 0++[(⟨13,0,0,[]⟩:Mt.Ins)]=C at *
 go_wp2_with fail
 go_ret
 exact ⟨_,rfl,by rw [hC];exact HO.out,HB4.out⟩
theorem Code_any (p:ByteArray) (w:World) (hm:p.size≤maxLen):Calls Try.prog 19 #[.string p] w fun e w'=>∃ v,e=.returned (.tuple #[v,.int .i64 (Mt.codeR p).2])∧ownIns w' w.heap.size v (Mt.codeR p).1∧Below w.heap.size w w':=by
 have HC:Hid (Calls Try.prog 34 #[.string p] w (Reads p w)):=read_any p w hm
 by_cases h0:(Mt.checkR p).1=0
 ·have ht0:(Mt.tokens p).2.1=0:=by
   unfold Mt.checkR at h0
   split at h0
   ·rename_i x;exact absurd h0 x
   ·rename_i x;simpa using x
  obtain ⟨f,hw,hok,hfl,hst,hs0,hla,hls,hc1,hc2⟩:=Mt.forest p ht0
  have h300:f.re.len+1≤300:=by
   unfold Mt.checkR at h0
   rw [if_neg (by omega)] at h0
   split at h0
   ·simp at h0
   ·rename_i x
    have:=fun y=>x (hc1.2 y)
    omega
  have hcr:Mt.codeR p=(f.re.code 0 0++[⟨13,0,0,[]⟩],0):=by unfold Mt.codeR;rw [if_neg (by omega),hc2 h300]
  have hts:=(Mt.tokens_small p).2
  rw [hfl] at hts
  rw [hcr]
  have HL:Hid (∀ (so ao:Option Addr) (sc ac L:Nat) (W:World),TreeAt L W (Mt.PB.start.run (Mt.tokens p).1) so ao sc ac→Calls Try.prog 35 #[treeV (Mt.PB.start.run (Mt.tokens p).1) so ao sc ac] W fun e w'=>∃ v,e=.returned v∧ownIns w' W.heap.size v (f.re.code 0 0++[⟨13,0,0,[]⟩])∧Below W.heap.size W w'):=fun so ao sc ac L W hT=>Lay_any (by omega) (by omega) f hw hok (by omega) (by omega) hs0 hst hT
  have H0:Hid ((Mt.checkR p).1=0):=h0
  clear hst hw hok hfl hc1 hc2 hcr h0 ht0
  generalize f.re.code 0 0++[(⟨13,0,0,[]⟩:Mt.Ins)]=C at *
  go_enter Try.func19,Try.ntmps19
  go_wp2_with fail
  refine HC.out.mono ?_
  rintro e w1 ⟨_,hg,hb⟩
  obtain ⟨so,ao,sc,ac,rfl,hT⟩:=hg H0.out
  have HB1:Hid (Below w.heap.size w w1∧TreeAt w.heap.size w1 (Mt.PB.start.run (Mt.tokens p).1) so ao sc ac):=⟨hb,hT⟩
  clear hb hg hT HC
  generalize Mt.PB.start.run (Mt.tokens p).1=b at *
  unfold treeV
  unfold treeV at HL
  go_wp2_with (first | (refine store_blk 80 2 Try.sizeT (by rfl) (.tmp 4) (.tmp 10) (by rfl) w1.heap.size (treeA b so ao sc ac) (by rfl) (by rfl) (by exact heap_b1 _ _) (by rfl) (by rfl) (by simp [treeA,Value.oneCell']) ?_;intro w2 r1 r2 r3 r4) | (refine load_blk 80 2 Try.underlying80 rfl Try.sizeT (by rfl) (.tmp 4) (by rfl) w1.heap.size (by rfl) r1 (by rfl) ?_))
  have hb2:Below w1.heap.size w1 w2:=((Below.refl _ _).alloc (Nat.le_refl _) _).trans (r4 _ (Nat.le_refl _))
  have hsz:=HB1.out.1.size
  have hsz2:=hb2.size
  have HB2:Hid (Below w.heap.size w w2∧w.heap.size≤w2.heap.size):=⟨HB1.out.1.trans (hb2.mono hsz),by omega⟩
  have H2:=HL.out so ao sc ac _ w2 (HB1.out.2.below hb2)
  refine H2.mono ?_
  clear H2 r1 r2 r3 r4 hb2
  rintro e w3 ⟨v,rfl,ho,hb3⟩
  have HO:Hid (ownIns w3 w.heap.size v C∧Below w.heap.size w w3):=⟨ho.base HB2.out.2,HB2.out.1.trans (hb3.mono HB2.out.2)⟩
  clear ho hb3
  go_wp2_with fail
  go_ret2
  exact ⟨_,rfl,HO.out.1,HO.out.2⟩
 ·have hcr:Mt.codeR p=([],(Mt.checkR p).1):=by unfold Mt.codeR;rw [if_pos h0]
  rw [hcr]
  have H0:Hid ((Mt.checkR p).1≠0):=h0
  have m2:((Mt.checkR p).1 != 0)=true:=by simpa using h0
  have HC':=HC.out
  unfold Reads at HC'
  have HCX:Hid (Calls Try.prog 34 #[.string p] w _):=HC'
  clear hcr h0 HC' HC
  generalize (Mt.checkR p).1=E at *
  generalize (Mt.checkR p).2=K at *
  go_enter Try.func19,Try.ntmps19
  go_wp2_with fail
  refine HCX.out.mono ?_
  rintro e w1 ⟨hg,_,hb⟩
  obtain rfl:=hg H0.out
  have HB:Hid (Below w.heap.size w w1):=hb
  clear hb hg HCX
  go_wp2_with (refine store_blk 80 2 Try.sizeT (by rfl) (.tmp 4) (.tmp 10) (by rfl) w1.heap.size nil2 (by rfl) (by rfl) (by exact heap_b1 _ _) (by rfl) (by rfl) nil2_all ?_;intro w2 r1 r2 r3 r4;have R2:Hid (Below w.heap.size w w2):=(HB.out.alloc (HB.out.size) _).trans (r4 _ HB.out.size);clear r1 r2 r3 r4)
  go_ret2
  exact ⟨_,rfl,World.ownsRow_nil _ _ _ _,R2.out⟩
def rInts (w:World) (base:Nat) (v:Value) (b:List Int):Prop:=w.ownsRow base 3 1 v b.length (b.map (Value.int .i64))
def rBools (w:World) (base:Nat) (v:Value) (b:List Bool):Prop:=w.ownsRow base 4 1 v b.length (b.map Value.bool)
theorem Try.infoI:(Try.prog.info? 3).map (fun i=>(i.zero,i.size,i.bytes))=some (some (.int .i64 0),1,8):=by kernel_rfl
theorem Try.infoB:(Try.prog.info? 4).map (fun i=>(i.zero,i.size,i.bytes))=some (some (.bool false),1,1):=by kernel_rfl
theorem rInts.below {w w':World} {base:Nat} {v:Value} {l:List Int} (h:rInts w base v l) (hb:Below w.heap.size w w'):rInts w' base v l:=owns_below h hb
theorem rBools.below {w w':World} {base:Nat} {v:Value} {l:List Bool} (h:rBools w base v l) (hb:Below w.heap.size w w'):rBools w' base v l:=owns_below h hb
theorem rInts.made {w:World} {base:Nat} {v:Value} {n:Nat} (h:w.ownsRow base 3 1 v n (madeCells (Value.int .i64 0).cells (n*1)).toList):rInts w base v (List.replicate n 0):=by
 unfold rInts
 rw [List.length_replicate,List.map_replicate]
 have e:(madeCells (Value.int .i64 0).cells (n*1)).toList=List.replicate n (Value.int .i64 0):=by
  rw [Nat.mul_one];exact toList_madeCells_one _ _
 rw [e] at h;exact h
theorem rBools.made {w:World} {base:Nat} {v:Value} {n:Nat} (h:w.ownsRow base 4 1 v n (madeCells (Value.bool false).cells (n*1)).toList):rBools w base v (List.replicate n false):=by
 unfold rBools
 rw [List.length_replicate,List.map_replicate]
 have e:(madeCells (Value.bool false).cells (n*1)).toList=List.replicate n (Value.bool false):=by
  rw [Nat.mul_one];exact toList_madeCells_one _ _
 rw [e] at h;exact h
section
variable {w:World} {base g n cap:Nat}
theorem rInts.at {l:List Int} (h:rInts w base (.slice (some ⟨g,0,none⟩) n cap) l) (i:Nat) (hi:i<l.length) (hn:n=l.length):w.cell? ⟨g,i,none⟩=some (.int .i64 (l.getD i 0))∧w.frozen? ⟨g,i,none⟩=false:=by
 subst hn
 refine ⟨?_,World.ownsRow.frozenAt h i⟩
 rw [World.ownsRow.cellAt h i (by omega),List.getD_eq_getElem?_getD,List.getElem?_map,List.getElem?_eq_getElem hi];rfl
theorem rBools.at {l:List Bool} (h:rBools w base (.slice (some ⟨g,0,none⟩) n cap) l) (i:Nat) (hi:i<l.length) (hn:n=l.length):w.cell? ⟨g,i,none⟩=some (.bool (l.getD i false))∧w.frozen? ⟨g,i,none⟩=false:=by
 subst hn
 refine ⟨?_,World.ownsRow.frozenAt h i⟩
 rw [World.ownsRow.cellAt h i (by omega),List.getD_eq_getElem?_getD,List.getElem?_map,List.getElem?_eq_getElem hi];rfl
theorem rInts.set {l:List Int} (h:rInts w base (.slice (some ⟨g,0,none⟩) n cap) l) (hn:n=l.length) (i:Nat) (v:Int):rInts (w.setCell ⟨g,i,none⟩ (.int .i64 v)) base (.slice (some ⟨g,0,none⟩) n cap) (l.set i v):=by
 subst hn
 unfold rInts
 rw [List.length_set,List.map_set];exact (World.ownsRow.stored h i (.int .i64 v)).1
theorem rBools.set {l:List Bool} (h:rBools w base (.slice (some ⟨g,0,none⟩) n cap) l) (hn:n=l.length) (i:Nat) (v:Bool):rBools (w.setCell ⟨g,i,none⟩ (.bool v)) base (.slice (some ⟨g,0,none⟩) n cap) (l.set i v):=by
 subst hn
 unfold rBools
 rw [List.length_set,List.map_set];exact (World.ownsRow.stored h i (.bool v)).1
end
def fill {α:Type} (f:Nat→α) (z:α) (k n:Nat):List α:=(List.range n).map fun i=>if i<k then f i else z
theorem fill_len {α:Type} (f:Nat→α) (z:α) (k n:Nat):(fill f z k n).length=n:=by simp [fill]
theorem fill_zero {α:Type} (f:Nat→α) (z:α) (n:Nat):fill f z 0 n=List.replicate n z:=by
 unfold fill
 apply List.ext_getElem
 ·simp
 ·intro i h1 h2;simp
theorem fill_all {α:Type} (f:Nat→α) (z:α) (n:Nat):fill f z n n=(List.range n).map f:=by
 unfold fill
 apply List.map_congr_left
 intro i hi
 rw [if_pos (List.mem_range.1 hi)]
theorem fill_set {α:Type} (f:Nat→α) (z:α) (k n:Nat):(fill f z k n).set k (f k)=fill f z (k+1) n:=by
 unfold fill
 apply List.ext_getElem
 ·simp
 ·intro i h1 h2
  rw [List.getElem_set]
  simp only [List.getElem_map,List.getElem_range]
  by_cases h:k=i
  ·subst h;simp
  ·rw [if_neg h]
   by_cases h3:i<k
   ·rw [if_pos h3,if_pos (by omega)]
   ·rw [if_neg h3,if_neg (by omega)]
def loopList (c:List Mt.Ins):List Int:=(List.range c.length).map fun p=>(Mt.loopsAt c p:Int)
theorem loopList_len (c:List Mt.Ins):(loopList c).length=c.length:=by simp [loopList]
theorem loopList_at (c:List Mt.Ins) (p:Nat) (h:p<c.length):(loopList c).getD p 0=(Mt.loopsAt c p:Int):=by
 unfold loopList
 rw [List.getD_eq_getElem?_getD,List.getElem?_map,List.getElem?_range h];rfl
theorem Loops_any (c:List Mt.Ins) (hcl:∀ k,(c.take k).countP Mt.isMark=(c.take k).countP Mt.isAgain+Mt.loopsAt c k) (hl:c.length≤300) (g cap:Nat) (w:World) (h:ownIns w 0 (.slice (some ⟨g,0,none⟩) c.length cap) c) :
  Calls Try.prog 49 #[.slice (some ⟨g,0,none⟩) c.length cap] w fun e w'=>e=.returned (.slice (some ⟨w.heap.size,0,none⟩) c.length c.length)∧rInts w' w.heap.size (.slice (some ⟨w.heap.size,0,none⟩) c.length c.length) (loopList c)∧Below w.heap.size w w':=by
 obtain ⟨i0,hi,hz0,hz1,hz2⟩:=info_parts Try.infoI
 have HC:Hid (∀ k j,k<c.length→j<4→w.cell? ⟨g,k*4+j,none⟩=(insCells (c.getD k Mt.ins0))[j]?):=fun k j hk hj=>by
  have h':=h
  unfold ownIns at h'
  rw [World.ownsRow.cellAt h' (k*4+j) (by omega),ins_flat_at c k j hk hj]
 have hg:g<w.heap.size:=(World.ownsRow.lt h g rfl).2
 have HCL:Hid (∀ k,(c.take k).countP Mt.isMark=(c.take k).countP Mt.isAgain+Mt.loopsAt c k):=hcl
 clear h hcl
 go_enter Try.func49,Try.ntmps49
 go_wp2_with (first | (at_make;refine wpList_make_full _ rfl (.tmp 8) (.tmp 8) 51 rfl w.heap.size 3 i0 (.int .i64 0) 1 Try.underlying51 hi hz0 hz1 .i64 .i64 _ _ c.length rfl rfl rfl rfl (by rw [hz2];omega) (by unfold maxLen;omega) (Nat.le_refl _) ?_;intro w1 hmk hgr))
 have hB1:Below w.heap.size w w1:=(Below.refl _ _).grown hgr (Nat.le_refl _) (fun q hq=>by simp at hq)
 have HM:Hid (rInts w1 w.heap.size (.slice (some ⟨w.heap.size,0,none⟩) c.length c.length) (fill (fun p=>(Mt.loopsAt c p:Int)) 0 0 c.length)):=by rw [fill_zero];exact rInts.made hmk
 clear hmk hgr
 go_loopw [4,12] (fun lo i wr=>∃ k:Nat,k≤c.length∧i=.int .i64 k∧lo=.int .i64 (Mt.loopsAt c k:Nat)∧rInts wr w.heap.size (.slice (some ⟨w.heap.size,0,none⟩) c.length c.length) (fill (fun p=>(Mt.loopsAt c p:Int)) 0 k c.length)∧Below w.heap.size w wr) (fun _ i _=>c.length-(intOf i).toNat)
 case atStart =>
  refine ⟨0,Nat.zero_le _,rfl,?_,HM.out,hB1⟩
  have:=HCL.out 0
  simp at this
  rw [← this];rfl
 case round =>
  obtain ⟨k,hk,rfl,rfl,hown,hbr⟩:=hrel
  have hsz:=hbr.size
  by_cases hlt:k<c.length
  ·have hR:wr.rangeAt g (k*4) (insCells (c.getD k Mt.ins0)):=fun j u hj=>by
    by_cases h4:j<4
    ·rw [(hbr.cell (p:=⟨g,k*4+j,none⟩) hg),HC.out k j hlt h4];exact hj
    ·rw [List.getElem?_eq_none (by rw [insC_len];omega)] at hj;simp at hj
   have n1:=HCL.out k
   have n2:=HCL.out (k+1)
   rw [Mt.count_next _ c k hlt,Mt.count_next _ c k hlt] at n2
   have bl:=Mt.loopsAt_le c k
   have hk':(k:Int)<(c.length:Int):=by omega
   generalize c.getD k Mt.ins0=I at *
   have HI:Hid (((I.op==4)=true∧Mt.loopsAt c (k+1)=Mt.loopsAt c k+1)∨((I.op==4)=false∧(I.op==5)=true∧Mt.loopsAt c (k+1)+1=Mt.loopsAt c k)∨((I.op==4)=false∧(I.op==5)=false∧Mt.loopsAt c (k+1)=Mt.loopsAt c k)):=by
    show _∨_
    unfold Mt.isMark Mt.isAgain at *
    simp only [beq_iff_eq,beq_eq_false_iff_ne,decide_eq_true_eq] at *
    by_cases e4:I.op=4
    ·rw [if_pos e4,if_neg (by omega)] at n2;exact Or.inl ⟨e4,by omega⟩
    ·rw [if_neg e4] at n2
     by_cases e5:I.op=5
     ·rw [if_pos e5] at n2;exact Or.inr (Or.inl ⟨e4,e5,by omega⟩)
     ·rw [if_neg e5] at n2;exact Or.inr (Or.inr ⟨e4,e5,by omega⟩)
   clear n1 n2
   have HST:Hid (∀ w3:World,(∀ q,q≠wr.heap.size→w3.heap[q]?=(wr.alloc (.cells (insA Mt.ins0) 70)).heap[q]?)→(∀ L,L≤wr.heap.size→Below L (wr.alloc (.cells (insA Mt.ins0) 70)) w3)→Below w.heap.size w w3∧rInts w3 w.heap.size (.slice (some ⟨w.heap.size,0,none⟩) c.length c.length) (fill (fun p=>(Mt.loopsAt c p:Int)) 0 k c.length)):=fun w3 h2 h3 =>
    ⟨(hbr.alloc hsz _).trans (h3 _ hsz),hown.below (((Below.refl _ _).alloc (Nat.le_refl _) _).trans (h3 _ (Nat.le_refl _)))⟩
   have hwl:w.heap.size<wr.heap.size:=(World.ownsRow.lt hown w.heap.size rfl).2
   clear hown hbr
   generalize hLk:Mt.loopsAt c k=lk at *
   rcases HI.out with ⟨e4,hn⟩ | ⟨e4,e5,hn⟩ | ⟨e4,e5,hn⟩
   all_goals
    have HN:Hid (_=_):=hn
    clear hn
    go_upto_region 6 with (first | (refine wpList_load_mid (by rfl) 70 (.tmp 15) (by rfl) g (k*4) (by rfl) (insCells I) _ hR Try.underlying70 rfl (by rw [Try.sizeIn];rfl) ?_) | (refine store_blk 70 4 Try.sizeIn (by rfl) (.tmp 6) (.tmp 16) (by rfl) wr.heap.size (insA I) (by rfl) (by rfl) (by exact heap_b1 _ _) (by rfl) (by rfl) (insA_all I) ?_;intro w3 r1 r2 r3 r4))
    obtain ⟨B3,O3⟩:=HST.out w3 r2 r4
    obtain ⟨x1,x2⟩:=O3.at k (by rw [fill_len];exact hlt) (by rw [fill_len])
    have O4:=O3.set (by rw [fill_len]) k (lk:Int)
    rw [← hLk] at O4
    rw [fill_set (fun p=>(Mt.loopsAt c p:Int)) 0 k c.length] at O4
    rw [hLk] at O4
    have B4:=B3.setCell (p:=⟨w.heap.size,k,none⟩) (Nat.le_refl _) (.int .i64 (lk:Int))
    have t0:(w3.setCell ⟨w.heap.size,k,none⟩ (.int .i64 (lk:Int))).cell? ⟨wr.heap.size,0,none⟩=some (.int .i64 I.op):=by
     rw [World.cell?_of_block (a:=⟨wr.heap.size,0,none⟩) (Below.heap_setCell w3 ⟨w.heap.size,k,none⟩ _ wr.heap.size (by show wr.heap.size≠w.heap.size;omega))]
     exact (cell_block r1).1 0
    have HO4:Hid (rInts (w3.setCell ⟨w.heap.size,k,none⟩ (.int .i64 (lk:Int))) w.heap.size (.slice (some ⟨w.heap.size,0,none⟩) c.length c.length) (fill (fun p=>(Mt.loopsAt c p:Int)) 0 (k+1) c.length)∧Below w.heap.size w (w3.setCell ⟨w.heap.size,k,none⟩ (.int .i64 (lk:Int)))):=⟨O4,B4⟩
    clear r1 r2 r3 r4 B3 O3 O4 B4 hR
    generalize (fill (fun p=>(Mt.loopsAt c p:Int)) 0 k c.length).getD k 0=zz at *
    go_upto_region 7 with fail
    generalize w3.setCell ⟨w.heap.size,k,none⟩ (.int .i64 (lk:Int))=w4 at *
    clear x1 x2
    go_wp2_with fail
    go_roundw
    case rel=>exact ⟨k+1,by omega,by go_num,by have hn:=HN.out;first | (rw [hn];go_num) | (rw [← hn];go_num) | (rw [hn]),HO4.out.1,HO4.out.2⟩
    case measure=>simp [intOf];omega
  ·have hk2:k=c.length:=by omega
   subst hk2
   rw [fill_all] at hown
   have HBR:Hid (Below w.heap.size w wr):=hbr
   have HOW:Hid (rInts wr w.heap.size (.slice (some ⟨w.heap.size,0,none⟩) c.length c.length) (loopList c)):=hown
   clear hbr hown
   go_wp2_with fail
   go_ret
   exact ⟨rfl,HOW.out,HBR.out⟩
def startTo (p:Int) (a b:Nat):List Int:=0::p::((List.replicate a (-1)++List.replicate (20-a) 0)++(List.replicate 10 0++(List.replicate b (-1)++List.replicate (11-b) 0)))
theorem startTo_len (p:Int) (a b:Nat) (ha:a≤20) (hb:b≤11):(startTo p a b).length=43:=by simp [startTo];omega
theorem startTo_all (p:Int):startTo p 20 11=Mt.startQ p:=by unfold startTo Mt.startQ Mt.nowhere;rfl
theorem startTo_place (p:Int) (a:Nat) (ha:a<20):(startTo p a 0).set (2+a) (-1)=startTo p (a+1) 0:=by
 unfold startTo
 rw [show 2+a=a+1+1 by omega,List.set_cons_succ,List.set_cons_succ,List.append_assoc,List.set_append_right _ _ (by simp),show a-(List.replicate a (-1:Int)).length=0 by simp,show 20-a=(20-(a+1))+1 by omega,List.replicate_succ (n:=20-(a+1)),List.cons_append,List.set_cons_zero,List.replicate_succ' (n:=a)]
 simp
theorem startTo_mark (p:Int) (b:Nat) (hb:b<11):(startTo p 20 b).set (32+b) (-1)=startTo p 20 (b+1):=by
 have e:∀ j,startTo p 20 j=(0::p::(List.replicate 20 (-1)++List.replicate 10 0))++(List.replicate j (-1)++List.replicate (11-j) 0):=fun j=>by simp [startTo]
 rw [e b,e (b+1),List.set_append_right _ _ (by simp)]
 rw [show 32+b-(0::p::(List.replicate 20 (-1:Int)++List.replicate 10 0)).length=b by simp]
 rw [List.set_append_right _ _ (by simp),show b-(List.replicate b (-1:Int)).length=0 by simp,show 11-b=(11-(b+1))+1 by omega,List.replicate_succ (n:=11-(b+1)),List.set_cons_zero,List.replicate_succ' (n:=b)]
 simp
def lit43 (p:Int):Array Value:=#[.int .i64 0,.int .i64 p,.int .i64 0,.int .i64 0,.int .i64 0,.int .i64 0,.int .i64 0,.int .i64 0,.int .i64 0,.int .i64 0,.int .i64 0,.int .i64 0,.int .i64 0,.int .i64 0,.int .i64 0,.int .i64 0,.int .i64 0,.int .i64 0,.int .i64 0,.int .i64 0,.int .i64 0,.int .i64 0,.int .i64 0,.int .i64 0,.int .i64 0,.int .i64 0,.int .i64 0,.int .i64 0,.int .i64 0,.int .i64 0,.int .i64 0,.int .i64 0,.int .i64 0,.int .i64 0,.int .i64 0,.int .i64 0,.int .i64 0,.int .i64 0,.int .i64 0,.int .i64 0,.int .i64 0,.int .i64 0,.int .i64 0]
theorem lit43_is (p:Int):lit43 p=stA (startTo p 0 0):=by
 apply Array.ext
 ·rfl
 ·intro i h1 h2
  have hi:i<43:=h1
  have e:=stA_at (startTo p 0 0) i hi
  rw [Array.getElem?_eq_getElem h2] at e
  injection e with e
  rw [e]
  match i,hi with
  | 0,_=>rfl
  | 1,_=>rfl
  | i+2,hi =>
   have hz:Mt.gt (startTo p 0 0) (i+2)=0:=by
    unfold Mt.gt startTo
    rw [List.getD_eq_getElem?_getD,List.getElem?_cons_succ,List.getElem?_cons_succ]
    simp only [List.replicate_zero,List.nil_append,Nat.sub_zero]
    rw [List.replicate_append_replicate,List.replicate_append_replicate,List.getElem?_replicate]
    split <;> rfl
   rw [hz]
   have:(lit43 p)[i+2]?=some (.int .i64 0):=by
    have hl:(lit43 p).toList=.int .i64 0::.int .i64 p::List.replicate 41 (.int .i64 0):=rfl
    rw [← Array.getElem?_toList,hl,List.getElem?_cons_succ,List.getElem?_cons_succ,List.getElem?_replicate,if_pos (by omega)]
   rw [Array.getElem?_eq_getElem h1] at this
   injection this
theorem firstState_any (p:Int) (w:World):Calls Try.prog 45 #[.int .i64 p] w fun e w'=>e=.returned (.agg (stA (Mt.startQ p)))∧Below w.heap.size w w':=by
 obtain ⟨W1,hW1⟩:∃ W1,W1=w.alloc (.cells (stA []) 100):=⟨_,rfl⟩
 have B1:Below w.heap.size w W1:=by rw [hW1];exact (Below.refl _ _).alloc (Nat.le_refl _) _
 have T1:W1.heap[w.heap.size]?=some (.cells (stA []) 100 (0,0)):=by rw [hW1];exact heap_alloc_new _ _
 have Z1:W1.heap.size=w.heap.size+1:=by rw [hW1];simp
 go_enter Try.func45,Try.ntmps45
 go_upto_region 1 with fail
 show Code.wp _ _ _ _ (w.alloc (.cells (stA []) 100))
 rw [← hW1]
 clear hW1
 generalize hnn:w.heap.size=n at *
 have HZ1:Hid (W1.heap.size=n+1):=Z1
 clear Z1
 refine wp_region_lit ?_
 refine wpList_plain (by rfl) (fun K hK=>?_)
 go_simp
 refine hK _ _ ?_
 clear hK K
 refine wpList_buildTo (by rfl) 100 #[(1,.tmp 6)] (by rfl) (some 7) rfl (lit43 p) (by kernel_rfl) ?_
 simp only [Act.put,List.setIfInBounds_toArray,List.set_cons_zero,List.set_cons_succ]
 go_upto_region 2 with (refine store_blk 100 43 Try.sizeSt (by rfl) (.tmp 3) (.tmp 7) (by rfl) W1.heap.size (lit43 p) (by rfl) (by rfl) (by exact heap_b1 _ _) (by rfl) (by rw [lit43_is];exact stA_size _) (by rw [lit43_is];exact stA_all _) ?_;intro w2 r1 r2 r3 r4)
 rw [lit43_is] at r1
 have Z1:W1.heap.size=n+1:=HZ1.out
 have R1:w2.heap[n]?=some (.cells (stA []) 100 (0,0)):=by rw [r2 n (by omega),heap_old _ _ _ (by omega)];exact T1
 have B2:Below n w w2:=(B1.alloc (by omega) _).trans (r4 n (by omega))
 rw [Z1] at r1
 rw [Z1]
 have Z2:w2.heap.size=n+2:=by rw [r3];simp [Z1]
 clear B1 T1 r2 r3 r4
 go_wp2_with fail
 go_loopw [8] (fun i wr=>∃ a:Nat,a≤20∧i=.int .i64 a∧wr.heap[n+1]?=some (.cells (stA (startTo p a 0)) 100 (0,0))∧wr.heap[n]?=some (.cells (stA []) 100 (0,0))∧Below n w wr∧wr.heap.size=n+2) (fun i _=>20-(intOf i).toNat)
 case atStart=>exact ⟨0,Nat.zero_le _,rfl,r1,R1,B2,Z2⟩
 case round =>
  obtain ⟨a,ha,rfl,hb,hr,hB,hZ⟩:=hrel
  by_cases hlt:a<20
  ·have x1:wr.cell? ⟨n+1,2+a,none⟩=some (.int .i64 (Mt.gt (startTo p a 0) (2+a))):=by rw [(cell_block hb).1];exact stA_at _ _ (by omega)
   have f1:=(cell_block hb).2 (2+a)
   have hlt':(a:Int)<20:=by omega
   have HN:Hid ((wr.setCell ⟨n+1,2+a,none⟩ (.int .i64 (-1))).heap[n+1]?=some (.cells (stA (startTo p (a+1) 0)) 100 (0,0))∧(wr.setCell ⟨n+1,2+a,none⟩ (.int .i64 (-1))).heap[n]?=some (.cells (stA []) 100 (0,0))∧Below n w (wr.setCell ⟨n+1,2+a,none⟩ (.int .i64 (-1)))∧(wr.setCell ⟨n+1,2+a,none⟩ (.int .i64 (-1))).heap.size=n+2):=by
    refine ⟨?_,(Below.heap_setCell _ _ _ _ (by show n≠n+1;omega)).trans hr,hB.setCell (p:=⟨n+1,2+a,none⟩) (by show n≤n+1;omega) _,by simp [World.setCell,hZ]⟩
    have:=Go.heap_setCell_same wr (n+1) (2+a) _ _ (.int .i64 (-1)) hb
    rw [stA_set _ (startTo_len p a 0 (by omega) (by omega)),startTo_place p a hlt] at this
    exact this
   clear hb hr hB hZ r1 R1 B2
   generalize Mt.gt (startTo p a 0) (2+a)=zz at *
   go_wp2_with fail
   go_roundw
   case rel=>exact ⟨a+1,by omega,by go_num,HN.out⟩
   case measure=>simp [intOf];omega
  ·have ha2:a=20:=by omega
   subst ha2
   rename World=>wz
   clear r1 R1 B2
   have HBB:Hid (Below n w wz∧wz.heap.size=n+2):=⟨hB,hZ⟩
   clear hB hZ
   go_wp2_with fail
   go_loopw [15] (fun i wr=>∃ b:Nat,b≤11∧i=.int .i64 b∧wr.heap[n+1]?=some (.cells (stA (startTo p 20 b)) 100 (0,0))∧wr.heap[n]?=some (.cells (stA []) 100 (0,0))∧Below n w wr∧wr.heap.size=n+2) (fun i _=>11-(intOf i).toNat)
   case atStart=>exact ⟨0,Nat.zero_le _,rfl,hb,hr,HBB.out.1,HBB.out.2⟩
   case round =>
    obtain ⟨b,hb11,rfl,hb,hr,hB,hZ⟩:=hrel
    by_cases hlt:b<11
    ·have x1:wr.cell? ⟨n+1,32+b,none⟩=some (.int .i64 (Mt.gt (startTo p 20 b) (32+b))):=by rw [(cell_block hb).1];exact stA_at _ _ (by omega)
     have f1:=(cell_block hb).2 (32+b)
     have hlt':(b:Int)<11:=by omega
     have HN:Hid ((wr.setCell ⟨n+1,32+b,none⟩ (.int .i64 (-1))).heap[n+1]?=some (.cells (stA (startTo p 20 (b+1))) 100 (0,0))∧(wr.setCell ⟨n+1,32+b,none⟩ (.int .i64 (-1))).heap[n]?=some (.cells (stA []) 100 (0,0))∧Below n w (wr.setCell ⟨n+1,32+b,none⟩ (.int .i64 (-1)))∧(wr.setCell ⟨n+1,32+b,none⟩ (.int .i64 (-1))).heap.size=n+2):=by
      refine ⟨?_,(Below.heap_setCell _ _ _ _ (by show n≠n+1;omega)).trans hr,hB.setCell (p:=⟨n+1,32+b,none⟩) (by show n≤n+1;omega) _,by simp [World.setCell,hZ]⟩
      have:=Go.heap_setCell_same wr (n+1) (32+b) _ _ (.int .i64 (-1)) hb
      rw [stA_set _ (startTo_len p 20 b (by omega) (by omega)),startTo_mark p b hlt] at this
      exact this
     clear hb hr hB hZ
     generalize Mt.gt (startTo p 20 b) (32+b)=zz at *
     go_wp2_with fail
     go_roundw
     case rel=>exact ⟨b+1,by omega,by go_num,HN.out⟩
     case measure=>simp [intOf];omega
    ·have hb2:b=11:=by omega
     subst hb2
     rw [startTo_all] at hb
     have HBB2:Hid (Below n w wr):=hB
     clear hB hZ
     go_wp2_with (first | (refine load_blk 100 43 Try.underlying100 rfl Try.sizeSt (by rfl) (.tmp 3) (by rfl) (n+1) (by rfl) hb (stA_size _) ?_) | (refine store_blk 100 43 Try.sizeSt (by rfl) (.tmp 2) (.tmp 22) (by rfl) n (stA (Mt.startQ p)) (by rfl) (by rfl) hr (stA_size _) (stA_size _) (stA_all _) ?_;intro w4 r1 r2 r3 r4))
     refine bodyPost_ret (ret_blk1 100 43 Try.underlying100 rfl Try.sizeSt rfl (by rfl) r1 (stA_size _)) rfl ⟨rfl,by rw [hnn];exact HBB2.out.trans (r4 n (Nat.le_refl _))⟩
theorem twenty {l:List Int} (h:l.length=20):∃ a0 a1 a2 a3 a4 a5 a6 a7 a8 a9 a10 a11 a12 a13 a14 a15 a16 a17 a18 a19,l=[a0,a1,a2,a3,a4,a5,a6,a7,a8,a9,a10,a11,a12,a13,a14,a15,a16,a17,a18,a19]:=by
 match l,h with
 | [a0,a1,a2,a3,a4,a5,a6,a7,a8,a9,a10,a11,a12,a13,a14,a15,a16,a17,a18,a19],_=>exact ⟨a0,a1,a2,a3,a4,a5,a6,a7,a8,a9,a10,a11,a12,a13,a14,a15,a16,a17,a18,a19,rfl⟩
theorem built_found (l:List Int) (h:l.length=20) (b:Bool) (u:Int):Try.prog.built 31 [(0,.bool b),(1,.agg (l.map (Value.int .i64)).toArray),(2,.int .i64 u)]=some (fpA ⟨b,l,u⟩):=by
 obtain ⟨a0,a1,a2,a3,a4,a5,a6,a7,a8,a9,a10,a11,a12,a13,a14,a15,a16,a17,a18,a19,rfl⟩:=twenty h
 unfold fpA
 simp only [List.map_cons,List.map_nil,List.cons_append,List.nil_append]
 kernel_rfl
theorem built_none (l:List Int) (h:l.length=20) (u:Int):Try.prog.built 31 [(1,.agg (l.map (Value.int .i64)).toArray),(2,.int .i64 u)]=some (fpA ⟨false,l,u⟩):=by
 obtain ⟨a0,a1,a2,a3,a4,a5,a6,a7,a8,a9,a10,a11,a12,a13,a14,a15,a16,a17,a18,a19,rfl⟩:=twenty h
 unfold fpA
 simp only [List.map_cons,List.map_nil,List.cons_append,List.nil_append]
 kernel_rfl
def placesOf (e:List Int):List Int:=(List.range 20).map fun i=>Mt.gt e (2+i)
theorem placesOf_len (e:List Int):(placesOf e).length=20:=by simp [placesOf]
theorem places_stC (e:List Int):((stC e).drop 2).take 20=(placesOf e).map (Value.int .i64):=by
 apply List.ext_getElem?
 intro j
 by_cases h:j<20
 ·rw [List.getElem?_take_of_lt h,List.getElem?_drop]
  unfold stC placesOf
  rw [List.getElem?_map,List.getElem?_range (by omega),List.getElem?_map,List.getElem?_map,List.getElem?_range h];rfl
 ·rw [List.getElem?_eq_none (by simp [stC];omega),List.getElem?_eq_none (by simp [placesOf];omega)]
theorem places_found (e:List Int) (he:e.length=43) (p:Int):((placesOf e).set 0 p).set 1 (Mt.gt e 1)=Mt.foundAt p e:=by
 apply List.ext_getElem?
 intro j
 have hl:(Mt.foundAt p e).length=20:=by simp [Mt.foundAt,he]
 by_cases h:j<20
 ·rw [List.getElem?_set,List.getElem?_set]
  match j with
  | 0=>simp [placesOf,Mt.foundAt]
  | 1=>simp [placesOf,Mt.foundAt]
  | j+2 =>
   rw [if_neg (by omega),if_neg (by omega)]
   unfold placesOf Mt.foundAt Mt.gt
   rw [List.getElem?_map,List.getElem?_range h,List.getElem?_cons_succ,List.getElem?_cons_succ,List.getElem?_take_of_lt (by omega),List.getElem?_drop,show 4+j=2+(j+2) by omega]
   simp only [Option.map_some]
   rw [List.getD_eq_getElem?_getD,List.getElem?_eq_getElem (by omega)];rfl
 ·rw [List.getElem?_eq_none (by simp [placesOf];omega),List.getElem?_eq_none (by omega)]
theorem match_any (p:Int) (e:List Int) (he:e.length=43) (u:Int) (w:World):Calls Try.prog 48 #[.int .i64 p,.agg (stA e),.int .i64 u] w fun r w'=>r=.returned (.agg (fpA ⟨true,Mt.foundAt p e,u⟩))∧Below w.heap.size w w':=by
 obtain ⟨W1,hW1⟩:∃ W1,W1=(w.alloc (.cells (stA e) 100)).alloc (.cells (fpA Mt.fnd0) 31):=⟨_,rfl⟩
 have B1:Below w.heap.size w W1:=by rw [hW1];exact ((Below.refl _ _).alloc (Nat.le_refl _) _).alloc (by simp) _
 have T1:W1.heap[w.heap.size]?=some (.cells (stA e) 100 (0,0)):=by rw [hW1];exact heap_b2 _ _ _
 have U1:W1.heap[w.heap.size+1]?=some (.cells (fpA Mt.fnd0) 31 (0,0)):=by rw [hW1];exact heap_b3 _ _ _
 have HZ1:Hid (W1.heap.size=w.heap.size+2):=by rw [hW1];show _=_;simp
 have R1:=stC_range T1 2 20
 rw [places_stC] at R1
 have hlP:=placesOf_len e
 generalize hP:placesOf e=P at *
 have HBF:=built_found P hlP true u
 go_enter Try.func48,Try.ntmps48
 go_upto_region 1 with fail
 show Code.wp _ _ _ _ ((w.alloc (.cells (stA e) 100)).alloc (.cells (fpA Mt.fnd0) 31))
 rw [← hW1]
 clear hW1
 generalize hnn:w.heap.size=n at *
 refine wp_region_lit ?_
 refine wpList_plain (by rfl) (fun K hK=>?_)
 go_simp
 refine hK _ _ ?_
 clear hK K
 refine wpList_load_mid (by rfl) 29 (.tmp 8) (by rfl) n 2 (by rfl) (P.map (Value.int .i64)) _ R1 Try.underlying29 rfl (by rw [Try.underArr20];simp [hlP]) ?_
 simp only [Act.put,List.setIfInBounds_toArray,List.set_cons_zero,List.set_cons_succ]
 refine wpList_plain (by rfl) (fun K hK=>?_)
 go_simp
 refine hK _ _ ?_
 clear hK K
 refine wpList_buildTo (by rfl) 31 #[(0,.const (.bool true)),(1,.tmp 9),(2,.tmp 10)] (by rfl) (some 11) rfl (fpA ⟨true,P,u⟩) (by simp only [List.map_toArray,List.map_cons,List.map_nil];exact HBF) ?_
 simp only [Act.put,List.setIfInBounds_toArray,List.set_cons_zero,List.set_cons_succ]
 clear HBF R1
 go_upto_region 2 with (refine store_blk 31 22 Try.sizeFd (by rfl) (.tmp 7) (.tmp 11) (by rfl) W1.heap.size (fpA ⟨true,P,u⟩) (by rfl) (by rfl) (by exact heap_b1 _ _) (by rfl) (fpA_size _ hlP) (fpA_all _) ?_;intro w2 r1 r2 r3 r4)
 have Z1:=HZ1.out
 have T2:w2.heap[n]?=some (.cells (stA e) 100 (0,0)):=by rw [r2 n (by omega),heap_old _ _ _ (by omega)];exact T1
 have U2:w2.heap[n+1]?=some (.cells (fpA Mt.fnd0) 31 (0,0)):=by rw [r2 (n+1) (by omega),heap_old _ _ _ (by omega)];exact U1
 have B2:Below n w w2:=(B1.alloc (by omega) _).trans (r4 n (by omega))
 rw [Z1] at r1
 rw [Z1]
 have x1:w2.cell? ⟨n,1,none⟩=some (.int .i64 (Mt.gt e 1)):=by rw [(cell_block T2).1 1];exact stA_at e 1 (by omega)
 have y1:w2.cell? ⟨n+2,1,none⟩=some (.int .i64 (P.getD 0 0)):=by rw [(cell_block r1).1 1];exact fpA_at true P u 0 (by omega)
 have y2:w2.cell? ⟨n+2,2,none⟩=some (.int .i64 (P.getD 1 0)):=by rw [(cell_block r1).1 2];exact fpA_at true P u 1 (by omega)
 have f1:=(cell_block r1).2 1
 have f2:=(cell_block r1).2 2
 have T3:((w2.setCell ⟨n+2,1,none⟩ (.int .i64 p)).setCell ⟨n+2,2,none⟩ (.int .i64 (Mt.gt e 1))).heap[n+2]?=some (.cells (fpA ⟨true,Mt.foundAt p e,u⟩) 31 (0,0)):=by
  have a1:=Go.heap_setCell_same w2 (n+2) 1 _ _ (.int .i64 p) r1
  rw [show (1:Nat)=1+0 from rfl,fpA_set true P u 0 p (by omega)] at a1
  have a2:=Go.heap_setCell_same _ (n+2) 2 _ _ (.int .i64 (Mt.gt e 1)) a1
  rw [show (2:Nat)=1+1 from rfl,fpA_set true _ u 1 _ (by simp;omega),← hP,places_found e he] at a2
  exact a2
 have U3:((w2.setCell ⟨n+2,1,none⟩ (.int .i64 p)).setCell ⟨n+2,2,none⟩ (.int .i64 (Mt.gt e 1))).heap[n+1]?=some (.cells (fpA Mt.fnd0) 31 (0,0)):=by
  rw [Below.heap_setCell _ _ _ _ (by show n+1≠n+2;omega),Below.heap_setCell _ _ _ _ (by show n+1≠n+2;omega)];exact U2
 have HB3:Hid (Below n w ((w2.setCell ⟨n+2,1,none⟩ (.int .i64 p)).setCell ⟨n+2,2,none⟩ (.int .i64 (Mt.gt e 1)))):=(B2.setCell (p:=⟨n+2,1,none⟩) (by show n≤n+2;omega) _).setCell (p:=⟨n+2,2,none⟩) (by show n≤n+2;omega) _
 have hF:(Mt.foundAt p e).length=20:=by simp [Mt.foundAt,he]
 clear r1 r2 r3 r4 T1 U1 B1 T2 U2 B2 Z1 HZ1
 generalize hFF:Mt.foundAt p e=F at *
 generalize Mt.gt e 1=ee at *
 generalize P.getD 0 0=z0 at *
 generalize P.getD 1 0=z1 at *
 go_wp2_with (first | (refine load_blk 31 22 Try.underlying31 rfl Try.sizeFd (by rfl) (.tmp 7) (by rfl) (n+2) (by rfl) T3 (fpA_size _ hF) ?_) | (refine store_blk 31 22 Try.sizeFd (by rfl) (.tmp 6) (.tmp 19) (by rfl) (n+1) (fpA ⟨true,F,u⟩) (by rfl) (by rfl) U3 (by rfl) (fpA_size _ hF) (fpA_all _) ?_;intro w4 q1 q2 q3 q4))
 refine bodyPost_ret (ret_blk1 31 22 Try.underlying31 rfl Try.sizeFd rfl (by rfl) q1 (fpA_size _ hF)) rfl ⟨by rw [hFF],by rw [hnn];exact HB3.out.trans (q4 n (by omega))⟩
def slotsTo (E:Mt.Env) (k:Nat):List Int:=(List.range E.c.length).map fun p:Nat=>if p<k∧E.inn.getD p false=true then (E.base p:Int) else -1
theorem slotsTo_len (E:Mt.Env) (k:Nat):(slotsTo E k).length=E.c.length:=by simp [slotsTo]
theorem slotsTo_zero (E:Mt.Env):slotsTo E 0=List.replicate E.c.length (-1):=by
 unfold slotsTo
 apply List.ext_getElem
 ·simp
 ·intro i h1 h2;simp
theorem slotsTo_at (E:Mt.Env) (p:Nat) (h:p<E.c.length):(slotsTo E E.c.length).getD p 0=if E.inn.getD p false=true then (E.base p:Int) else -1:=by
 unfold slotsTo
 rw [List.getD_eq_getElem?_getD,List.getElem?_map,List.getElem?_range h]
 simp only [Option.map_some,Option.getD_some]
 by_cases hi:E.inn.getD p false=true
 ·rw [if_pos ⟨h,hi⟩,if_pos hi]
 ·rw [if_neg (fun x=>hi x.2),if_neg hi]
theorem slotsTo_skip (E:Mt.Env) (k:Nat) (h:E.inn.getD k false=false):slotsTo E (k+1)=slotsTo E k:=by
 unfold slotsTo
 apply List.map_congr_left
 intro p _
 by_cases e:p=k
 ·subst e;rw [if_neg (fun x=>by rw [h] at x;cases x.2),if_neg (by omega)]
 ·by_cases hlt:p<k
  ·by_cases hi:E.inn.getD p false=true
   ·rw [if_pos ⟨by omega,hi⟩,if_pos ⟨hlt,hi⟩]
   ·rw [if_neg (fun x=>hi x.2),if_neg (fun x=>hi x.2)]
  ·rw [if_neg (by omega),if_neg (by omega)]
theorem slotsTo_set (E:Mt.Env) (k:Nat) (hk:k<E.c.length) (h:E.inn.getD k false=true):slotsTo E (k+1)=(slotsTo E k).set k (E.base k:Int):=by
 unfold slotsTo
 apply List.ext_getElem
 ·simp
 ·intro i h1 h2
  rw [List.getElem_set]
  simp only [List.getElem_map,List.getElem_range]
  by_cases e:k=i
  ·subst e;rw [if_pos rfl,if_pos ⟨by omega,h⟩]
  ·rw [if_neg e]
   by_cases hlt:i<k
   ·by_cases hi:E.inn.getD i false=true
    ·rw [if_pos ⟨by omega,hi⟩,if_pos ⟨hlt,hi⟩]
    ·rw [if_neg (fun x=>hi x.2),if_neg (fun x=>hi x.2)]
   ·rw [if_neg (by omega),if_neg (by omega)]
theorem nums_walk (E:Mt.Env):∀ (j:Nat),j<(Mt.numsTo E.inn E.c.length).length→∃ p:Nat,p<E.c.length∧(Mt.numsTo E.inn E.c.length).getD j 0=(p:Int)∧E.inn.getD p false=true∧(Mt.numsTo E.inn p).length=j:=by
 have key:∀ (L j:Nat),j<(Mt.numsTo E.inn L).length→∃ p:Nat,p<L∧(Mt.numsTo E.inn L).getD j 0=(p:Int)∧E.inn.getD p false=true∧(Mt.numsTo E.inn p).length=j:=by
  intro L
  induction L with
  | zero=>intro j h;simp [Mt.numsTo] at h
  | succ L ih =>
   intro j h
   rw [Mt.numsTo_next] at h ⊢
   by_cases hlt:j<(Mt.numsTo E.inn L).length
   ·obtain ⟨p,h1,h2,h3,h4⟩:=ih j hlt
    refine ⟨p,by omega,?_,h3,h4⟩
    rw [List.getD_eq_getElem?_getD,List.getElem?_append_left hlt,← List.getD_eq_getElem?_getD];exact h2
   ·rw [List.length_append] at h
    cases hi:E.inn.getD L false with
    | false=>rw [hi] at h;simp at h;omega
    | true =>
     rw [hi] at h
     simp at h
     refine ⟨L,by omega,?_,hi,by omega⟩
     rw [List.getD_eq_getElem?_getD,List.getElem?_append_right (by omega)]
     have:j-(Mt.numsTo E.inn L).length=0:=by omega
     rw [this];simp
 exact key E.c.length
theorem slots_jump (E:Mt.Env) (a:Nat):∀ d,(∀ i,a≤i→i<a+d→E.inn.getD i false=false)→slotsTo E (a+d)=slotsTo E a∧E.base (a+d)=E.base a∧(Mt.numsTo E.inn (a+d)).length=(Mt.numsTo E.inn a).length
 | 0,_=>⟨rfl,rfl,rfl⟩
 | d+1,h=>by
  obtain ⟨h1,h2,h3⟩:=slots_jump E a d (fun i hi hj=>h i hi (by omega))
  have hn:=h (a+d) (by omega) (by omega)
  refine ⟨by rw [← Nat.add_assoc,slotsTo_skip E _ hn];exact h1,by rw [← Nat.add_assoc,E.base_skip _ hn];exact h2,?_⟩
  rw [← Nat.add_assoc,Mt.numsTo_next,hn];simpa using h3
theorem nums_same (E:Mt.Env) (a:Nat):∀ d,(Mt.numsTo E.inn (a+d)).length=(Mt.numsTo E.inn a).length→∀ i,a≤i→i<a+d→E.inn.getD i false=false
 | 0,_,i,h1,h2=>by omega
 | d+1,h,i,h1,h2=>by
  rw [← Nat.add_assoc,Mt.numsTo_next,List.length_append] at h
  have hmono:(Mt.numsTo E.inn a).length≤(Mt.numsTo E.inn (a+d)).length:=by
   clear h h2
   induction d with
   | zero=>exact Nat.le_refl _
   | succ d ih=>rw [← Nat.add_assoc,Mt.numsTo_next,List.length_append];omega
  cases hi:E.inn.getD (a+d) false with
  | true=>rw [hi] at h;simp at h;omega
  | false =>
   by_cases e:i=a+d
   ·rw [e];exact hi
   ·exact nums_same E a d (by rw [hi] at h;simpa using h) i h1 (by omega)
end Go.Proofs.Ytebpgfodelggoab
