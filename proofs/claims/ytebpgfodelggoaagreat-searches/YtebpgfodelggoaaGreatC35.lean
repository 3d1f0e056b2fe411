import Derived.Test.YtebpgfodelggoaaGreatC34
import Derived.Test.YtebpgfodelggoaaGreatC07
import Derived.Deep.DeepCutAuto
set_option linter.unusedVariables false
set_option linter.unusedSimpArgs false
set_option maxRecDepth 100000
set_option maxHeartbeats 4000000
namespace Go.Proofs.YtebpgfodelggoaaGreat
open Go.RowKit
def Reads (p:ByteArray) (w:World) (e:Ending) (w':World):Prop :=
 ((Mt.jS p).1≠0→e=.returned (.tuple #[.agg #[.slice none 0 0,.slice none 0 0],.int .i64 (Mt.jS p).1,.int .i64 (Mt.jS p).2])) ∧
 ((Mt.jS p).1=0→∃ so ao sc ac,e=.returned (.tuple #[zAb (Mt.PB.start.run (Mt.tokens p).1) so ao sc ac,.int .i64 0,.int .i64 0])∧qE w.heap.size w' (Mt.PB.start.run (Mt.tokens p).1) so ao sc ac)∧Below w.heap.size w w'
theorem zIm {p:ByteArray} {w w':World} {e:Ending} {E k:Int} (h:Mt.jS p=(E,k)) (hE:E≠0) (he:e=.returned (.tuple #[.agg #[.slice none 0 0,.slice none 0 0],.int .i64 E,.int .i64 k])) (hb:Below w.heap.size w w'):Reads p w e w':=by
 refine ⟨fun _=>by rw [h];exact he,fun h0=>?_,hb⟩
 rw [h] at h0;exact absurd h0 hE
theorem qE.lower {L L':Nat} {w:World} {b:Mt.PB} {so ao:Option Addr} {sc ac:Nat} (h:qE L w b so ao sc ac) (hl:L'≤L):qE L' w b so ao sc ac:=by
 have nr:∀ (o:Option Addr) (n c:Nat) (e:TypeId) (sz:Nat) (xs:List Value),w.ownsRow L e sz (.slice o n c) n xs→w.ownsRow L' e sz (.slice o n c) n xs:=by
  intro o n c e sz xs h1
  refine ⟨h1.1,?_⟩
  rcases h1.2 with h' | ⟨g',cap',cur,hv,h0,hg,rest⟩
  ·exact .inl h'
  ·exact .inr ⟨g',cap',cur,hv,by omega,hg,rest⟩
 exact ⟨nr _ _ _ _ _ _ h.zR,nr _ _ _ _ _ _ h.atoms⟩
theorem qE.keep {L B:Nat} {w w':World} {b:Mt.PB} {so ao:Option Addr} {sc ac:Nat} (h:qE L w b so ao sc ac) (hk:∀ q,L≤q→q<w.heap.size→w'.heap[q]?=w.heap[q]?):qE L w' b so ao sc ac :=
 ⟨zK h.zR (fun q hq=>hk q (World.ownsRow.lt h.zR q (by rw [zW];exact hq)).1 (World.ownsRow.lt h.zR q (by rw [zW];exact hq)).2),zK h.atoms (fun q hq=>hk q (World.ownsRow.lt h.atoms q (by rw [zW];exact hq)).1 (World.ownsRow.lt h.atoms q (by rw [zW];exact hq)).2)⟩
theorem zPc (p:ByteArray) (w:World) (hm:p.size≤maxLen):Calls Tryz.prog 55 #[.string p] w (Reads p w):=by
 have HC:=zNf p (w.alloc (.cells zDy 107)) hm
 have hsz:(w.alloc (.cells zDy 107)).heap.size=w.heap.size+1:=by simp
 unfold Builds at HC
 rw [hsz] at HC
 by_cases h0:(Mt.tokens p).2.1=0
 ·obtain ⟨f,hw,hok,hfl,hst,hs0,hla,hls,hc1,hc2⟩:=Mt.zPS p h0
  have HC':Hid (Calls Tryz.prog _ _ _ _):=HC
  have HF:Hid (∀ (so ao:Option Addr) (sc ac L:Nat) (W:World),qE L W (Mt.PB.start.run (Mt.tokens p).1) so ao sc ac→Calls Tryz.prog 90 #[zAb (Mt.PB.start.run (Mt.tokens p).1) so ao sc ac] W fun e w'=>e=.returned (.int .i64 (Mt.lim (f.re.len+1):Nat))∧Below W.heap.size W w'):=fun so ao sc ac L W hT=>zO9 (by omega) (by omega) f hw hok hs0 hst hT
  have hcr:Mt.jS p=if 300<f.re.len+1 then (12,0) else (0,0):=by
   unfold Mt.jS
   rw [if_neg (by omega)]
   by_cases x:300<f.re.len+1
   ·rw [if_pos x,if_pos (hc1.2 x)]
   ·rw [if_neg x,if_neg (fun y=>x (hc1.1 y))]
  have HCR:Hid (Mt.jS p=if 300<f.re.len+1 then (12,0) else (0,0)):=hcr
  have H0:Hid ((Mt.tokens p).2.1=0):=h0
  have hll:=Mt.zDz (f.re.len+1)
  have HLL:Hid (300<f.re.len+1↔300<Mt.lim (f.re.len+1)):=by
   show _↔_;unfold Mt.lim;omega
  clear HC hc1 hc2 hst hw hok hfl hcr h0
  generalize hbb:Mt.PB.start.run (Mt.tokens p).1=b at *
  have HBB:Hid (Mt.PB.start.run (Mt.tokens p).1=b):=hbb
  clear hbb
  generalize Mt.lim (f.re.len+1)=F at *
  go_enter Tryz.func55,Tryz.ntmps55
  go_wp2_with fail
  refine HC'.out.mono ?_
  rintro e w1 ⟨_,hg,hb⟩
  obtain ⟨so,ao,sc,ac,rfl,hT⟩:=hg H0.out
  have hz1:w1.heap[w.heap.size]?=some (.cells zDy 107 (0,0)):=(hb.block _ (by omega)).trans (jE _ _)
  have HB1:Hid (Below w.heap.size w w1∧w1.heap[w.heap.size]?=some (.cells zDy 107 (0,0))∧qE (w.heap.size+1) w1 b so ao sc ac∧w.heap.size<w1.heap.size):=⟨((Below.refl _ _).alloc (Nat.le_refl _) _).trans (hb.mono (by omega)),hz1,hT,(Array.getElem?_eq_some_iff.1 hz1).1⟩
  clear hb hg hT hz1 HC'
  unfold zAb
  go_wp2_with (first | (refine zI 107 2 Tryz.sizeT (by rfl) (.tmp 5) (.tmp 11) (by rfl) w1.heap.size (vZ b so ao sc ac) (by rfl) (by rfl) (by exact jE _ _) (by rfl) (by rfl) (by simp [vZ,Value.oneCell']) ?_;intro w2 r1 r2 r3 r4) | (refine zZ 107 2 Tryz.underlying107 rfl Tryz.sizeT (by rfl) (.tmp 5) (by rfl) w1.heap.size (by rfl) r1 (by rfl) ?_))
  have hb2:Below w1.heap.size w1 w2:=((Below.refl _ _).alloc (Nat.le_refl _) _).trans (r4 _ (Nat.le_refl _))
  have HB2:Hid (Below w.heap.size w w2∧w2.heap[w.heap.size]?=some (.cells zDy 107 (0,0))∧qE (w.heap.size+1) w2 b so ao sc ac∧w2.heap[w1.heap.size]?=some (.cells (vZ b so ao sc ac) 107 (0,0))∧w1.heap.size<w2.heap.size):=⟨HB1.out.1.trans (hb2.mono (by have:=HB1.out.2.2.2;omega)),(hb2.block _ HB1.out.2.2.2).trans HB1.out.2.1,HB1.out.2.2.1.below hb2,r1,(Array.getElem?_eq_some_iff.1 r1).1⟩
  clear r1 r2 r3 r4 hb2
  have HS:=HF.out so ao sc ac _ w2 HB2.out.2.2.1
  refine HS.mono ?_
  clear HS
  rintro e w3 ⟨rfl,hb3⟩
  have HB3:Hid (Below w.heap.size w w3∧w3.heap[w.heap.size]?=some (.cells zDy 107 (0,0))∧qE (w.heap.size+1) w3 b so ao sc ac∧w3.heap[w1.heap.size]?=some (.cells (vZ b so ao sc ac) 107 (0,0))):=⟨HB2.out.1.trans (hb3.mono (by have:=HB2.out.2.2.2.2;have:=HB1.out.2.2.2;omega)),(hb3.block _ (by have:=HB2.out.2.2.2.2;have:=HB1.out.2.2.2;omega)).trans HB2.out.2.1,HB2.out.2.2.1.below hb3,(hb3.block _ HB2.out.2.2.2.2).trans HB2.out.2.2.2.1⟩
  clear hb3
  by_cases hbig:300<F
  ·have HX:Hid (Mt.jS p=(12,0)):=by show _=_;rw [HCR.out,if_pos (HLL.out.2 hbig)]
   have g1:decide (300<(F:Int))=true:=by simp;omega
   have g2:decide (300<F)=true:=by simpa using hbig
   go_wp2_with (refine zI 107 2 Tryz.sizeT (by rfl) (.tmp 2) (.tmp 22) (by rfl) w.heap.size zDy (by rfl) (by rfl) HB3.out.2.1 (by rfl) (by rfl) zB5 ?_;intro w5 q1 q2 q3 q4)
   refine bodyPost_ret (zB4 107 2 Tryz.underlying107 rfl Tryz.sizeT rfl (by rfl) q1 (by rfl)) rfl ?_
   exact zIm HX.out (by decide) rfl (HB3.out.1.trans (q4 _ (Nat.le_refl _)))
  ·have HX:Hid (Mt.jS p=(0,0)):=by show _=_;rw [HCR.out,if_neg (fun x=>hbig (HLL.out.1 x))]
   have g1:decide (300<(F:Int))=false:=by simp;omega
   have g2:decide (300<F)=false:=by simpa using hbig
   have HNE:Hid (w1.heap.size≠w.heap.size):=by have:=HB1.out.2.2.2;show _≠_;omega
   go_wp2_with (first | (refine zZ 107 2 Tryz.underlying107 rfl Tryz.sizeT (by rfl) (.tmp 5) (by rfl) w1.heap.size (by rfl) HB3.out.2.2.2 (by rfl) ?_) | (refine zI 107 2 Tryz.sizeT (by rfl) (.tmp 2) (.tmp 23) (by rfl) w.heap.size (vZ b so ao sc ac) (by rfl) (by rfl) HB3.out.2.1 (by rfl) (by rfl) (by simp [vZ,Value.oneCell']) ?_;intro w5 q1 q2 q3 q4))
   refine bodyPost_ret (zB4 107 2 Tryz.underlying107 rfl Tryz.sizeT rfl (by rfl) q1 (by rfl)) rfl ?_
   refine ⟨fun h=>absurd (by rw [HX.out]) h,fun _=>⟨so,ao,sc,ac,by rw [HBB.out];rfl,?_⟩,HB3.out.1.trans (q4 _ (Nat.le_refl _))⟩
   rw [HBB.out]
   exact (qE.keep (B:=0) HB3.out.2.2.1 (fun q hq _=>q2 q (by omega))).lower (by omega)
 ·have hcr:Mt.jS p=((Mt.tokens p).2.1,(Mt.tokens p).2.2):=by unfold Mt.jS;rw [if_pos h0]
  have HCR:Hid (Mt.jS p=((Mt.tokens p).2.1,(Mt.tokens p).2.2)):=hcr
  have HC':Hid (Calls Tryz.prog _ _ _ _):=HC
  have m2:((Mt.tokens p).2.1 != 0)=true:=by simpa using h0
  have H0:Hid ((Mt.tokens p).2.1≠0):=h0
  clear HC hcr h0
  generalize (Mt.tokens p).2.1=E at *
  generalize (Mt.tokens p).2.2=K at *
  go_enter Tryz.func55,Tryz.ntmps55
  go_wp2_with fail
  refine HC'.out.mono ?_
  rintro e w1 ⟨hg,_,hb⟩
  obtain rfl:=hg H0.out
  have hz1:w1.heap[w.heap.size]?=some (.cells zDy 107 (0,0)):=(hb.block _ (by omega)).trans (jE _ _)
  have hs1:w.heap.size<w1.heap.size:=(Array.getElem?_eq_some_iff.1 hz1).1
  have HB1:Hid (Below w.heap.size w w1∧w1.heap[w.heap.size]?=some (.cells zDy 107 (0,0))):=⟨((Below.refl _ _).alloc (Nat.le_refl _) _).trans (hb.mono (by omega)),hz1⟩
  clear hb hg hz1 HC'
  go_wp2_with (first | (refine zI 107 2 Tryz.sizeT (by rfl) (.tmp 5) (.tmp 11) (by rfl) w1.heap.size zDy (by rfl) (by rfl) (by exact jE _ _) (by rfl) (by rfl) zB5 ?_;intro w2 r1 r2 r3 r4;have R2:Hid (Below w.heap.size w w2∧w2.heap[w.heap.size]?=some (.cells zDy 107 (0,0))):=⟨(HB1.out.1.alloc (by omega) _).trans (r4 _ (by omega)),(r2 _ (by omega)).trans ((zX _ _ _ hs1).trans HB1.out.2)⟩;clear r1 r2 r3 r4) | (refine zI 107 2 Tryz.sizeT (by rfl) (.tmp 2) (.tmp 16) (by rfl) w.heap.size zDy (by rfl) (by rfl) R2.out.2 (by rfl) (by rfl) zB5 ?_;intro w5 q1 q2 q3 q4))
  refine bodyPost_ret (zB4 107 2 Tryz.underlying107 rfl Tryz.sizeT rfl (by rfl) q1 (by rfl)) rfl ?_
  exact zIm HCR.out H0.out rfl (R2.out.1.trans (q4 _ (Nat.le_refl _)))
def qG (i:Mt.Ins):Array Value:=#[.int .i64 i.op,.int .i64 i.x,.int .i64 i.y,.string ⟨i.set.toArray⟩]
theorem zBr (i:Mt.Ins):(qG i).all (·.oneCell')=true:=by simp [qG,Value.oneCell']
theorem zRM (i:Mt.Ins):(qG i).toList=zT i:=rfl
theorem zHb (i:Mt.Ins):(zT i).length=4:=rfl
theorem Tryz.sizeIn:(Tryz.prog.info? 112).map (·.size)=some 4:=by kernel_rfl
theorem Tryz.infoIn:(Tryz.prog.info? 112).map (fun i=>(i.zero,i.size,i.bytes))=some (some (.agg (qG Mt.jA)),4,40):=by kernel_rfl
structure LAt (L:Nat) (w:World) (g:Nat) (b:Mt.PB) (so ao:Option Addr) (sc ac:Nat) (co:Option Addr) (cc:Nat) (c:List Mt.Ins) (d:Int):Prop where
 cell:w.heap[g]?=some (.cells #[.slice so b.zR.length sc,.slice ao b.atoms.length ac,.slice co c.length cc,.int .i64 d] 144 (0,0))
 lo:L≤g
 tree:qE 0 w b so ao sc ac
 code:w.ownsRow L 112 4 (.slice co c.length cc) c.length (c.flatMap zT)
 ap:blk co≠some g∧blk so≠some g∧blk ao≠some g∧(∀ q,blk co=some q→blk so≠some q∧blk ao≠some q)
structure kT (g:Nat) (co co':Option Addr) (w w':World):Prop where
 os:w'.os=w.os
 tape:w'.tape=w.tape
 output:w'.output=w.output
 size:w.heap.size≤w'.heap.size
 block:∀ k,k<w.heap.size→k≠g→blk co≠some k→w'.heap[k]?=w.heap[k]?
 sub:∀ k,k<w.heap.size→blk co'=some k→blk co=some k
theorem kT.refl (g:Nat) (co:Option Addr) (w:World):kT g co co w w:=⟨rfl,rfl,rfl,Nat.le_refl _,fun _ _ _ _=>rfl,fun _ _ h=>h⟩
theorem kT.trans {g:Nat} {co c1 c2:Option Addr} {a b c:World} (h:kT g co c1 a b) (k:kT g c1 c2 b c):kT g co c2 a c :=
 ⟨k.os.trans h.os,k.tape.trans h.tape,k.output.trans h.output,Nat.le_trans h.size k.size,
 fun i hi h1 h2=>(k.block i (Nat.lt_of_lt_of_le hi h.size) h1 (fun e=>h2 (h.sub i hi e))).trans (h.block i hi h1 h2),fun i hi ho=>h.sub i hi (k.sub i (Nat.lt_of_lt_of_le hi h.size) ho)⟩
theorem kT.below {g:Nat} {co:Option Addr} {a b:World} (h:Below a.heap.size a b):kT g co co a b:=⟨h.os,h.tape,h.output,h.size,fun i hi _ _=>h.block i hi,fun _ _ h=>h⟩
theorem kT.drew {g:Nat} {co c1:Option Addr} {a w:World} (h:kT g co c1 a w):kT g co c1 a w.drew:=h.trans (kT.below (Below.refl _ _).drew)
theorem kT.set {g:Nat} {co c1:Option Addr} {a w:World} (h:kT g co c1 a w) {p:Addr} (hp:p.block=g∨blk c1=some p.block) (u:Value):kT g co c1 a (w.setCell p u) :=
 h.trans ⟨rfl,rfl,rfl,by simp [World.setCell],fun i hi h1 h2=>Below.heap_setCell _ _ _ _ (fun e=>by rcases hp with hp | hp;exact h1 (by rw [e,hp]);exact h2 (by rw [e,hp])),fun _ _ h=>h⟩
theorem kT.setMany {g:Nat} {co c1:Option Addr} {a w:World} (h:kT g co c1 a w) (q o:Nat) (vs:List Value) (hp:q=g∨blk c1=some q):kT g co c1 a (w.setCells q o vs) :=
 h.trans ⟨(below_setCells q vs o w 0 (Nat.zero_le _)).1.os,(below_setCells q vs o w 0 (Nat.zero_le _)).1.tape,(below_setCells q vs o w 0 (Nat.zero_le _)).1.output,Nat.le_of_eq (below_setCells q vs o w 0 (Nat.zero_le _)).2.symm,fun i hi h1 h2=>jQ q vs o w i (fun e=>by rcases hp with hp | hp;exact h1 (by rw [e,hp]);exact h2 (by rw [e,hp])),fun _ _ h=>h⟩
section
variable {L:Nat} {w:World} {g:Nat} {b:Mt.PB} {so ao:Option Addr} {sc ac:Nat} {co:Option Addr} {cc:Nat} {c:List Mt.Ins} {d:Int}
theorem LAt.lt (h:LAt L w g b so ao sc ac co cc c d):g<w.heap.size∧(∀ k,blk co=some k→L≤k∧k<w.heap.size)∧(∀ k,blk so=some k→k<w.heap.size)∧(∀ k,blk ao=some k→k<w.heap.size) :=
 ⟨(Array.getElem?_eq_some_iff.1 h.cell).1,fun k hk=>World.ownsRow.lt h.code k (by rw [zW];exact hk),fun k hk=>(World.ownsRow.lt h.tree.zR k (by rw [zW];exact hk)).2,fun k hk=>(World.ownsRow.lt h.tree.atoms k (by rw [zW];exact hk)).2⟩
theorem LAt.below {w':World} (h:LAt L w g b so ao sc ac co cc c d) (hb:Below w.heap.size w w'):LAt L w' g b so ao sc ac co cc c d :=
 ⟨by rw [hb.block _ h.lt.1];exact h.cell,h.lo,h.tree.below hb,zK h.code (fun q hq=>hb.block q (h.lt.2.1 q hq).2),h.ap⟩
theorem LAt.drew (h:LAt L w g b so ao sc ac co cc c d):LAt L w.drew g b so ao sc ac co cc c d:=⟨h.cell,h.lo,⟨zK h.tree.zR (fun _ _=>rfl),zK h.tree.atoms (fun _ _=>rfl)⟩,zK h.code (fun _ _=>rfl),h.ap⟩
theorem kT.low {c1:Option Addr} {w':World} (h:LAt L w g b so ao sc ac co cc c d) (hs:kT g co c1 w w') (hL:L≤w.heap.size):Below L w w' :=
 ⟨hs.os,hs.tape,hs.output,hs.size,fun k hk=>hs.block k (by omega) (fun e=>by have:=h.lo;omega) (fun e=>by have:=(h.lt.2.1 k e).1;omega)⟩
theorem LAt.cells (h:LAt L w g b so ao sc ac co cc c d):w.cell? ⟨g,0,none⟩=some (.slice so b.zR.length sc)∧w.cell? ⟨g,1,none⟩=some (.slice ao b.atoms.length ac)∧w.cell? ⟨g,2,none⟩=some (.slice co c.length cc)∧w.cell? ⟨g,3,none⟩=some (.int .i64 d)∧(∀ k,w.frozen? ⟨g,k,none⟩=false):=by
 have hb:=zA h.cell
 exact ⟨hb.1 0,hb.1 1,hb.1 2,hb.1 3,hb.2⟩
theorem LAt.form (h:LAt L w g b so ao sc ac co cc c d) (hn:0<c.length):∃ gc,co=some ⟨gc,0,none⟩∧gc≠g∧gc<w.heap.size∧c.length≤cc:=by
 obtain ⟨gs,cap,hv,_,hlt⟩:=World.ownsRow.form h.code hn
 simp only [Value.slice.injEq] at hv
 obtain ⟨rfl,_,rfl⟩:=hv
 rcases h.code.2 with ⟨e,_⟩ | ⟨g',cap',cur,hv,_,_,hc,_⟩
 ·simp at e
 ·simp only [Value.slice.injEq] at hv
  exact ⟨gs,rfl,fun e=>h.ap.1 (by rw [zBp,e]),hlt,by omega⟩
theorem LAt.zHc {gc:Nat} (h:LAt L w g b so ao sc ac (some ⟨gc,0,none⟩) cc c d) (i j:Nat) (vs:List Value) (a':Mt.Ins) (hi:i<c.length) (hj:j+vs.length≤4) (he:zT a'=setMany (zT (c.getD i Mt.jA)) j vs) :
  LAt L (w.setCells gc (i*4+j) vs) g b so ao sc ac (some ⟨gc,0,none⟩) cc (c.set i a') d:=by
 have o:∀ k,k≠gc→(w.setCells gc (i*4+j) vs).heap[k]?=w.heap[k]?:=fun k hk=>jQ gc vs _ w k hk
 have ne:gc≠g:=fun e=>h.ap.1 (by rw [zBp,e])
 refine ⟨?_,h.lo,⟨zK h.tree.zR (fun k hk=>o k (fun e=>(h.ap.2.2.2 gc rfl).1 (by rw [← e];exact hk))),zK h.tree.atoms (fun k hk=>o k (fun e=>(h.ap.2.2.2 gc rfl).2 (by rw [← e];exact hk)))⟩,?_,h.ap⟩
 ·rw [o g (Ne.symm ne),List.length_set];exact h.cell
 ·have r:=zCu vs (i*4+j) w _ h.code
  rw [zEl zT 4 zHb c i j vs a' hi hj (fun a ha=>by rw [he,List.getD_eq_getElem?_getD,ha];rfl)] at r
  simpa using r
theorem LAt.zKm (h:LAt L w g b so ao sc ac co cc c d) (d':Int):LAt L (w.setCell ⟨g,3,none⟩ (.int .i64 d')) g b so ao sc ac co cc c d':=by
 have o:∀ k,k≠g→(w.setCell ⟨g,3,none⟩ (.int .i64 d')).heap[k]?=w.heap[k]?:=fun k hk=>Below.heap_setCell _ _ _ _ hk
 refine ⟨?_,h.lo,⟨zK h.tree.zR (fun k hk=>o k (fun e=>h.ap.2.1 (by rw [← e];exact hk))),zK h.tree.atoms (fun k hk=>o k (fun e=>h.ap.2.2.1 (by rw [← e];exact hk)))⟩,zK h.code (fun k hk=>o k (fun e=>h.ap.1 (by rw [← e];exact hk))),h.ap⟩
 have:=Go.heap_setCell_same w g 3 _ _ (.int .i64 d') h.cell
 rw [this];rfl
theorem put_mem {w0 w1:World} {q cap:Nat} {x:Mt.Ins} (h:LAt L w g b so ao sc ac co cc c d) (h0:Below w.heap.size w w0) (hs0:w.heap.size<w0.heap.size) (hg:w0.grownBy w1 (blk co)) (hq:blk co=some q∨q=w0.heap.size)
  (hown:w1.ownsRow L 112 4 (.slice (some ⟨q,0,none⟩) (c.length+1) cap) (c.length+1) (c.flatMap zT++zT x)) :
  LAt L (w1.setCell ⟨g,2,none⟩ (.slice (some ⟨q,0,none⟩) (c.length+1) cap)) g b so ao sc ac (some ⟨q,0,none⟩) cap (c++[x]) d∧kT g co (some ⟨q,0,none⟩) w (w1.setCell ⟨g,2,none⟩ (.slice (some ⟨q,0,none⟩) (c.length+1) cap)):=by
 obtain ⟨lg,lc,ls,la⟩:=h.lt
 have n:q≠g∧blk so≠some q∧blk ao≠some q:=by
  rcases hq with e | e
  ·exact ⟨fun x=>h.ap.1 (by rw [e,x]),(h.ap.2.2.2 q e).1,(h.ap.2.2.2 q e).2⟩
  ·subst e
   exact ⟨by omega,fun e=>by have:=ls _ e;omega,fun e=>by have:=la _ e;omega⟩
 obtain ⟨n1,n2,n3⟩:=n
 have kk:∀ k,k<w.heap.size→blk co≠some k→w1.heap[k]?=w.heap[k]?:=fun k hk hr=>by rw [hg.block k (by have:=h0.size;omega) (fun e=>hr e.symm),h0.block k hk]
 have o:∀ k,k≠g→(w1.setCell ⟨g,2,none⟩ (.slice (some ⟨q,0,none⟩) (c.length+1) cap)).heap[k]?=w1.heap[k]?:=fun k hk=>Below.heap_setCell _ _ _ _ hk
 refine ⟨⟨?_,h.lo,⟨?_,?_⟩,?_,fun e=>n1 (by simpa [blk] using e),h.ap.2.1,h.ap.2.2.1,fun k hk=>by simp [blk] at hk;subst hk;exact ⟨n2,n3⟩⟩,?_⟩
 ·have hc:=Go.heap_setCell_same w1 g 2 _ _ (.slice (some ⟨q,0,none⟩) (c.length+1) cap) (by rw [kk g lg h.ap.1];exact h.cell)
  rw [hc];simp
 ·exact zK h.tree.zR (fun k hk=>by rw [o k (fun e=>h.ap.2.1 (by rw [← e];exact hk)),kk k (ls k hk) (fun e=>(h.ap.2.2.2 k e).1 hk)])
 ·exact zK h.tree.atoms (fun k hk=>by rw [o k (fun e=>h.ap.2.2.1 (by rw [← e];exact hk)),kk k (la k hk) (fun e=>(h.ap.2.2.2 k e).2 hk)])
 ·have e1:(c++[x]).length=c.length+1:=by simp
  have e2:(c++[x]).flatMap zT=c.flatMap zT++zT x:=by simp
  rw [e1,e2]
  exact zK hown (fun k hk=>o k (by simp [blk] at hk;omega))
 ·refine ⟨hg.os.trans h0.os,hg.tape.trans h0.tape,hg.output.trans h0.output,?_,fun k hk h1 h2=>?_,fun k hk ho=>?_⟩
  ·have:=hg.size;have:=h0.size;simp [World.setCell];omega
  ·rw [o k h1,kk k hk h2]
  ·simp [blk] at ho
   subst ho
   rcases hq with hq | hq
   ·exact hq
   ·omega
end
theorem zKn (x:Mt.Ins) {i0:TypeInfo} (hz1:i0.size=4):Instr.fill (fun i=>some (i*i0.size,i0.size)) ((Array.range (1*i0.size)).map ((Value.agg (qG Mt.jA)).cells[· % (Value.agg (qG Mt.jA)).cells.size]!)) [(0,.agg (qG x))]=some (qG x):=by
 rw [hz1];unfold qG;kernel_rfl
theorem zNo {L:Nat} {w w1:World} {g:Nat} {b:Mt.PB} {so ao:Option Addr} {sc ac:Nat} {co:Option Addr} {cc:Nat} {c:List Mt.Ins} {d:Int} {T E:Array Value} {ty te:TypeId} {n k:Nat} (h:LAt L w g b so ao sc ac co cc c d) (hg:(((w.alloc (.cells T ty)).drew).alloc (.cells E te)).grownBy w1 (Value.slice co n k).ownBlock) :
  w1.heap[w.heap.size]?=some (.cells T ty (0,0))∧(∀ o,w1.cell? ⟨g,o,none⟩=w.cell? ⟨g,o,none⟩)∧(∀ o,w1.frozen? ⟨g,o,none⟩=w.frozen? ⟨g,o,none⟩):=by
 rw [zW] at hg
 have hlg:g<w.heap.size:=h.lt.1
 have h1:w1.heap[w.heap.size]?=some (.cells T ty (0,0)):=by
  rw [hg.block _ (by simp;omega) (fun e=>by have:=(h.lt.2.1 _ e.symm).2;omega),zX _ _ _ (by simp)]
  exact heap_alloc_new _ _
 have h2:w1.heap[g]?=w.heap[g]?:=by
  rw [hg.block _ (by simp;omega) (fun e=>h.ap.1 e.symm),zX _ _ _ (by simp;omega)]
  exact zX _ _ _ hlg
 exact ⟨h1,fun o=>World.cell?_of_block (a:=⟨g,o,none⟩) h2,fun o=>World.frozen?_of_block (a:=⟨g,o,none⟩) h2⟩
end Go.Proofs.YtebpgfodelggoaaGreat
