import Derived.Test.YtebpgfodelggoabGreatKC39
import Derived.Test.YtebpgfodelggoabGreatKC24
import Derived.Test.YtebpgfodelggoabGreatKC32
import Derived.Test.YtebpgfodelggoabGreatKC25
import Derived.Test.YtebpgfodelggoabGreatKC18
import Derived.Test.YtebpgfodelggoabGreatKC36
import Derived.Test.YtebpgfodelggoabGreatKC31
import Derived.Laws.ResultCell
import Derived.Test.YtebpgfodelggoabGreatKC33
set_option linter.unusedVariables false
set_option linter.unusedSimpArgs false
set_option maxRecDepth 100000
set_option maxHeartbeats 4000000
namespace Go.Proofs.YtebpgfodelggoabGreat
open Go.RowKit
theorem Tryz.sizeLy:(Tryz.prog.info? 115).map (·.size)=some 4:=by kernel_rfl
def lyA(b:Mt.PB)(so ao:Option Addr)(sc ac:Nat):Array Value:=#[.slice so b.kN.length sc,.slice ao b.zG.length ac,.slice none 0 0,.int .i64 0]
theorem zMF{w w2:World}{b:Mt.PB}{so ao:Option Addr}{sc ac L0:Nat}(h:yM L0 w b so ao sc ac)(hb:Below w.heap.size w w2)(hg:w2.heap[w.heap.size+1]?=some (.cells (lyA b so ao sc ac) 115 (0,0))) :
  LAt w.heap.size w2 (w.heap.size+1) b so ao sc ac none 0 [] 0:=by
 have ls:∀k,blk so=some k->k<w.heap.size:=λk hk=>(World.ownsRow.lt h.kN k (by rw[kU];exact hk)).2
 have la:∀k,blk ao=some k->k<w.heap.size:=λk hk=>(World.ownsRow.lt h.zG k (by rw[kU];exact hk)).2
 exact⟨hg,by omega,(h.below hb).lower (Nat.zero_le _),World.ownsRow_nil _ _ _ _,by simp[blk],λe=>by have:=ls _ e;omega,λe=>by have:=la _ e;omega,λq hq=>by simp[blk]at hq⟩
theorem zPV{b:Mt.PB}{so ao:Option Addr}{sc ac:Nat}(hna:b.zG.length<=1000)(hns:b.kN.length<=1000)(f:Mt.Fs)(hw:f.wf)(hok:f.ok)(hfl:f.kL.length<=1000)(hre:f.re.len<=900)(hs:0<b.kN.length)(zTJ:Mt.qG b 0 0 f (b.zTO 0).first (b.zTO 0).next){L:Nat}{w:World}(hT:yM L w b so ao sc ac) :
  Calls Tryz.prog 41 #[fQ b so ao sc ac] w λe w'=>∃v,e=.returned v/\zF w' w.heap.size v (f.re.code 0 0++[⟨13,0,0,[]⟩])/\Below w.heap.size w w':=by
 have HA:Hid (Lays w.heap.size (w.heap.size+1) b so ao sc ac 0 70 #[.pointer (some ⟨w.heap.size+1,0,none⟩),.int .i64 ((0:Nat):Int)] f.re):=zJp hna hns (f.kL.length+1) f hw hok (by omega) 0 hs zTJ 0 (by omega) (by omega);have HT:Hid (yM L w b so ao sc ac):=hT;have hlen:(f.re.code 0 0).length=f.re.len:=Mt.Re.zQ _ _ _;clear hT zTJ hw hok;unfold fQ;go_enter Tryz.func41,Tryz.ntmps41
 go_wp2_with (refine zM 115 4 Tryz.sizeLy (by rfl) (.tmp 3) (.tmp 5) (by rfl) (w.heap.size+1) (lyA b so ao sc ac) (by rfl) (by rfl) (by exact mF _ _ _) (by rfl) (by rfl) (by simp[lyA,Value.oneCell']) ?_;intro w2 r1 r2 r3 r4)
 have B2:Below w.heap.size w w2:=(((Below.refl _ _).alloc (lG _) _).alloc (by simp) _).trans (r4 _ (by omega));have A2:=zMF HT.out B2 r1;have H1':=HA.out w2 none 0 [] A2 (by simp;omega);simp only[List.nil_append,List.length_nil]at H1';have H1:Hid (Calls Tryz.prog 70 #[.pointer (some ⟨w.heap.size+1,0,none⟩),.int .i64 ((0:Nat):Int)] w2 _):=H1';have HB2:Hid (Below w.heap.size w w2/\LAt w.heap.size w2 (w.heap.size+1) b so ao sc ac none 0 [] 0):=⟨B2,A2⟩
 clear r1 r2 r3 r4 B2 A2 H1';go_wp2_with fail
 refine H1.out.mono ?_;rintro e w3 ⟨rfl,co3,cc3,hA,hS⟩;have H2:Hid (Calls Tryz.prog 71 #[.pointer (some ⟨w.heap.size+1,0,none⟩),.agg (yR ⟨13,0,0,[]⟩)] w3 _):=dY (x:=⟨13,0,0,[]⟩) hA (by show(f.re.code 0 0).length<=_;omega);have HS3:Hid (jQ (w.heap.size+1) none co3 w2 w3):=hS;clear hA hS;unfold yR at H2;go_wp2_with fail
 refine H2.out.mono ?_;rintro e w4 ⟨rfl,q,cap,hA,hS⟩;have c2:=hA.cells.2.2.1;have HO:Hid (zF w4 w.heap.size (.slice (some ⟨q,0,none⟩) (f.re.code 0 0++[(⟨13,0,0,[]⟩:Mt.zTG)]).length cap) (f.re.code 0 0++[⟨13,0,0,[]⟩])):=hA.code;have HB4:Hid (Below w.heap.size w w4):=HB2.out.1.trans ((HS3.out.trans hS).low HB2.out.2 HB2.out.1.size);clear hA hS;generalize hC:f.re.code 0 0++[(⟨13,0,0,[]⟩:Mt.zTG)]=C at *;go_wp2_with fail
 go_ret;exact⟨_,rfl,by rw[hC];exact HO.out,HB4.out⟩
theorem zC9(p:ByteArray)(w:World)(hm:p.size<=maxLen):Calls Tryz.prog 18 #[.string p] w λe w'=>∃v,e=.returned (.tuple #[v,.int .i64 (Mt.kC p).2])/\zF w' w.heap.size v (Mt.kC p).1/\Below w.heap.size w w':=by
 have HC:Hid (Calls Tryz.prog 15 #[.string p] w (Reads p w)):=zJb p w hm;by_cases h0:(Mt.jN p).1=0
 ·have ht0:(Mt.zY p).2.1=0:=by
   unfold Mt.jN at h0;split at h0
   ·rename_i x;exact absurd h0 x
   ·rename_i x;simpa using x
  obtain⟨f,hw,hok,hfl,zTJ,hs0,hla,hls,hc1,hc2⟩:=Mt.zON p ht0
  have zQ5:f.re.len+1<=300:=by
   unfold Mt.jN at h0;rw[if_neg (by omega)]at h0;split at h0
   ·simp at h0
   ·rename_i x
    have:=λy=>x (hc1.2 y)
    omega
  have hcr:Mt.kC p=(f.re.code 0 0++[⟨13,0,0,[]⟩],0):=by unfold Mt.kC;rw[if_neg (by omega),hc2 zQ5]
  have hts:=(Mt.fZ p).2;rw[hfl]at hts;rw[hcr];have HL:Hid (∀(so ao:Option Addr) (sc ac L:Nat) (W:World),yM L W (Mt.PB.start.run (Mt.zY p).1) so ao sc ac->Calls Tryz.prog 41 #[fQ (Mt.PB.start.run (Mt.zY p).1) so ao sc ac] W λe w'=>∃v,e=.returned v/\zF w' W.heap.size v (f.re.code 0 0++[⟨13,0,0,[]⟩])/\Below W.heap.size W w'):=λso ao sc ac L W hT=>zPV (by omega) (by omega) f hw hok (by omega) (by omega) hs0 zTJ hT
  have H0:Hid ((Mt.jN p).1=0):=h0;clear zTJ hw hok hfl hc1 hc2 hcr h0 ht0;generalize f.re.code 0 0++[(⟨13,0,0,[]⟩:Mt.zTG)]=C at *;go_enter Tryz.func18,Tryz.ntmps18
  go_wp2_with fail
  refine HC.out.mono ?_;rintro e w1 ⟨_,hg,hb⟩;obtain⟨so,ao,sc,ac,rfl,hT⟩:=hg H0.out;have HB1:Hid (Below w.heap.size w w1/\yM w.heap.size w1 (Mt.PB.start.run (Mt.zY p).1) so ao sc ac):=⟨hb,hT⟩
  clear hb hg hT HC;generalize Mt.PB.start.run (Mt.zY p).1=b at *;unfold fQ;unfold fQ at HL;go_wp2_with (first|(refine zM 36 2 Tryz.sizeT (by rfl) (.tmp 4) (.tmp 10) (by rfl) w1.heap.size (dO b so ao sc ac) (by rfl) (by rfl) (by exact jR _ _) (by rfl) (by rfl) (by simp[dO,Value.oneCell']) ?_;intro w2 r1 r2 r3 r4)|(refine kQ 36 2 Tryz.underlying36 rfl Tryz.sizeT (by rfl) (.tmp 4) (by rfl) w1.heap.size (by rfl) r1 (by rfl) ?_))
  have zTK:Below w1.heap.size w1 w2:=((Below.refl _ _).alloc (lG _) _).trans (r4 _ (lG _));have hsz:=HB1.out.1.size;have hsz2:=zTK.size;have HB2:Hid (Below w.heap.size w w2/\w.heap.size<=w2.heap.size):=⟨HB1.out.1.trans (zTK.mono hsz),by omega⟩
  have H2:=HL.out so ao sc ac _ w2 (HB1.out.2.below zTK);refine H2.mono ?_;clear H2 r1 r2 r3 r4 zTK;rintro e w3 ⟨v,rfl,ho,zTL⟩;have HO:Hid (zF w3 w.heap.size v C/\Below w.heap.size w w3):=⟨ho.base HB2.out.2,HB2.out.1.trans (zTL.mono HB2.out.2)⟩
  clear ho zTL;go_wp2_with fail
  go_ret2
  exact⟨_,rfl,HO.out.1,HO.out.2⟩
 ·have hcr:Mt.kC p=([],(Mt.jN p).1):=by unfold Mt.kC;rw[if_pos h0]
  rw[hcr];have H0:Hid ((Mt.jN p).1≠0):=h0;have m2:((Mt.jN p).1 != 0)=true:=by simpa using h0
  have HC':=HC.out;unfold Reads at HC';have HCX:Hid (Calls Tryz.prog 15 #[.string p] w _):=HC';clear hcr h0 HC' HC;generalize (Mt.jN p).1=E at *;generalize (Mt.jN p).2=K at *;go_enter Tryz.func18,Tryz.ntmps18
  go_wp2_with fail
  refine HCX.out.mono ?_;rintro e w1 ⟨hg,_,hb⟩;obtain rfl:=hg H0.out;have HB:Hid (Below w.heap.size w w1):=hb;clear hb hg HCX;go_wp2_with (refine zM 36 2 Tryz.sizeT (by rfl) (.tmp 4) (.tmp 10) (by rfl) w1.heap.size zBY (by rfl) (by rfl) (by exact jR _ _) (by rfl) (by rfl) zAj ?_;intro w2 r1 r2 r3 r4;have R2:Hid (Below w.heap.size w w2):=(HB.out.alloc (HB.out.size) _).trans (r4 _ HB.out.size);clear r1 r2 r3 r4)
  go_ret2
  exact⟨_,rfl,World.ownsRow_nil _ _ _ _,R2.out⟩
def qK(w:World)(base:Nat)(v:Value)(b:List Int):Prop:=w.ownsRow base 3 1 v b.length (b.map (Value.int .i64))
def qQ(w:World)(base:Nat)(v:Value)(b:List Bool):Prop:=w.ownsRow base 4 1 v b.length (b.map Value.bool)
theorem Tryz.infoI:(Tryz.prog.info? 3).map (λi=>(i.zero,i.size,i.bytes))=some (some (.int .i64 0),1,8):=by kernel_rfl
theorem Tryz.infoB:(Tryz.prog.info? 4).map (λi=>(i.zero,i.size,i.bytes))=some (some (.bool false),1,1):=by kernel_rfl
theorem qK.below{w w':World}{base:Nat}{v:Value}{l:List Int}(h:qK w base v l)(hb:Below w.heap.size w w'):qK w' base v l:=qH h hb
theorem qQ.below{w w':World}{base:Nat}{v:Value}{l:List Bool}(h:qQ w base v l)(hb:Below w.heap.size w w'):qQ w' base v l:=qH h hb
theorem qK.made{w:World}{base:Nat}{v:Value}{n:Nat}(h:w.ownsRow base 3 1 v n (madeCells (Value.int .i64 0).cells (n*1)).toList):qK w base v (List.replicate n 0):=by
 unfold qK;rw[List.length_replicate,List.map_replicate]
 have e:(madeCells (Value.int .i64 0).cells (n*1)).toList=List.replicate n (Value.int .i64 0):=by
  rw[Nat.mul_one];exact toList_madeCells_one _ _
 rw[e]at h;exact h
theorem qQ.made{w:World}{base:Nat}{v:Value}{n:Nat}(h:w.ownsRow base 4 1 v n (madeCells (Value.bool false).cells (n*1)).toList):qQ w base v (List.replicate n false):=by
 unfold qQ;rw[List.length_replicate,List.map_replicate]
 have e:(madeCells (Value.bool false).cells (n*1)).toList=List.replicate n (Value.bool false):=by
  rw[Nat.mul_one];exact toList_madeCells_one _ _
 rw[e]at h;exact h
section
variable {w:World} {base g n cap:Nat}
theorem qK.at{l:List Int}(h:qK w base (.slice (some ⟨g,0,none⟩) n cap) l)(i:Nat)(hi:i<l.length)(hn:n=l.length):w.cell? ⟨g,i,none⟩=some (.int .i64 (l.getD i 0))/\w.frozen? ⟨g,i,none⟩=false:=by
 subst hn;refine⟨?_,World.ownsRow.frozenAt h i⟩;rw[World.ownsRow.cellAt h i (by omega),lH,List.getElem?_map,lK hi];rfl
theorem qQ.at{l:List Bool}(h:qQ w base (.slice (some ⟨g,0,none⟩) n cap) l)(i:Nat)(hi:i<l.length)(hn:n=l.length):w.cell? ⟨g,i,none⟩=some (.bool (l.getD i false))/\w.frozen? ⟨g,i,none⟩=false:=by
 subst hn;refine⟨?_,World.ownsRow.frozenAt h i⟩;rw[World.ownsRow.cellAt h i (by omega),lH,List.getElem?_map,lK hi];rfl
theorem qK.set{l:List Int}(h:qK w base (.slice (some ⟨g,0,none⟩) n cap) l)(hn:n=l.length)(i:Nat)(v:Int):qK (w.setCell ⟨g,i,none⟩ (.int .i64 v)) base (.slice (some ⟨g,0,none⟩) n cap) (l.set i v):=by
 subst hn;unfold qK;rw[List.length_set,List.map_set];exact(World.ownsRow.stored h i (.int .i64 v)).1
theorem qQ.set{l:List Bool}(h:qQ w base (.slice (some ⟨g,0,none⟩) n cap) l)(hn:n=l.length)(i:Nat)(v:Bool):qQ (w.setCell ⟨g,i,none⟩ (.bool v)) base (.slice (some ⟨g,0,none⟩) n cap) (l.set i v):=by
 subst hn;unfold qQ;rw[List.length_set,List.map_set];exact(World.ownsRow.stored h i (.bool v)).1
end
def fill{α:Type}(f:Nat->α)(z:α)(k n:Nat):List α:=(List.range n).map λi=>if i<k then f i else z
theorem fK{α:Type}(f:Nat->α)(z:α)(k n:Nat):(fill f z k n).length=n:=by simp[fill]
theorem zB1{α:Type}(f:Nat->α)(z:α)(n:Nat):fill f z 0 n=List.replicate n z:=by
 unfold fill;apply List.ext_getElem
 ·simp
 ·intro i h1 h2;simp
theorem zDa{α:Type}(f:Nat->α)(z:α)(n:Nat):fill f z n n=(List.range n).map f:=by
 unfold fill;apply List.map_congr_left;intro i hi;rw[if_pos (List.mem_range.1 hi)]
theorem zDb{α:Type}(f:Nat->α)(z:α)(k n:Nat):(fill f z k n).set k (f k)=fill f z (k+1) n:=by
 unfold fill;apply List.ext_getElem
 ·simp
 ·intro i h1 h2;rw[List.getElem_set];simp only[List.getElem_map,List.getElem_range];by_cases h:k=i
  ·subst h;simp
  ·rw[if_neg h];by_cases h3:i<k
   ·rw[if_pos h3,if_pos (by omega)]
   ·rw[if_neg h3,if_neg (by omega)]
def dH(c:List Mt.zTG):List Int:=(List.range c.length).map λp=>(Mt.jI c p:Int)
theorem xI(c:List Mt.zTG):(dH c).length=c.length:=by simp[dH]
theorem zBx(c:List Mt.zTG)(p:Nat)(h:p<c.length):(dH c).getD p 0=(Mt.jI c p:Int):=by
 unfold dH;rw[lH,List.getElem?_map,List.getElem?_range h];rfl
theorem zHn(c:List Mt.zTG)(hcl:∀k,(c.take k).countP Mt.vK=(c.take k).countP Mt.vX+Mt.jI c k)(hl:c.length<=300)(g cap:Nat)(w:World)(h:zF w 0 (.slice (some ⟨g,0,none⟩) c.length cap) c) :
  Calls Tryz.prog 42 #[.slice (some ⟨g,0,none⟩) c.length cap] w λe w'=>e=.returned (.slice (some ⟨w.heap.size,0,none⟩) c.length c.length)/\qK w' w.heap.size (.slice (some ⟨w.heap.size,0,none⟩) c.length c.length) (dH c)/\Below w.heap.size w w':=by
 obtain⟨i0,hi,hz0,hz1,hz2⟩:=info_parts Tryz.infoI
 have HC:Hid (∀k j,k<c.length->j<4->w.cell? ⟨g,k*4+j,none⟩=(kM (c.getD k Mt.jY))[j]?):=λk j hk hj=>by
  have h':=h;unfold zF at h';rw[World.ownsRow.cellAt h' (k*4+j) (by omega),bX c k j hk hj]
 have hg:g<w.heap.size:=(World.ownsRow.lt h g rfl).2;have HCL:Hid (∀k,(c.take k).countP Mt.vK=(c.take k).countP Mt.vX+Mt.jI c k):=hcl;clear h hcl;go_enter Tryz.func42,Tryz.ntmps42
 go_wp2_with (first|(at_make;refine wpList_make_full _ rfl (.tmp 8) (.tmp 8) 51 rfl w.heap.size 3 i0 (.int .i64 0) 1 Tryz.underlying51 hi hz0 hz1 .i64 .i64 _ _ c.length rfl rfl rfl rfl (by rw[hz2];omega) (by unfold maxLen;omega) (lG _) ?_;intro w1 hmk hgr))
 have hB1:Below w.heap.size w w1:=(Below.refl _ _).grown hgr (lG _) (λq hq=>by simp at hq);have HM:Hid (qK w1 w.heap.size (.slice (some ⟨w.heap.size,0,none⟩) c.length c.length) (fill (λp=>(Mt.jI c p:Int)) 0 0 c.length)):=by rw[zB1];exact qK.made hmk
 clear hmk hgr
 go_loopw [4,12] (λlo i wr=>∃k:Nat,k<=c.length/\i=.int .i64 k/\lo=.int .i64 (Mt.jI c k:Nat)/\qK wr w.heap.size (.slice (some ⟨w.heap.size,0,none⟩) c.length c.length) (fill (λp=>(Mt.jI c p:Int)) 0 k c.length)/\Below w.heap.size w wr) (λ_ i _=>c.length-(intOf i).toNat)
 case atStart =>
  refine⟨0,Nat.zero_le _,rfl,?_,HM.out,hB1⟩;have:=HCL.out 0;simp at this;rw[<-this];rfl
 case round =>
  obtain⟨k,hk,rfl,rfl,jS,hbr⟩:=hrel;have hsz:=hbr.size;by_cases zTI:k<c.length
  ·have hR:wr.rangeAt g (k*4) (kM (c.getD k Mt.jY)):=λj u hj=>by
    by_cases h4:j<4
    ·rw[(hbr.cell (p:=⟨g,k*4+j,none⟩) hg),HC.out k j zTI h4];exact hj
    ·rw[List.getElem?_eq_none (by rw[zFN];omega)]at hj;simp at hj
   have n1:=HCL.out k;have n2:=HCL.out (k+1);rw[Mt.zES _ c k zTI,Mt.zES _ c k zTI]at n2;have bl:=Mt.nM c k;have hk':(k:Int)<(c.length:Int):=by omega
   generalize c.getD k Mt.jY=I at *
   have HI:Hid (((I.op==4)=true/\Mt.jI c (k+1)=Mt.jI c k+1)\/((I.op==4)=false/\(I.op==5)=true/\Mt.jI c (k+1)+1=Mt.jI c k)\/((I.op==4)=false/\(I.op==5)=false/\Mt.jI c (k+1)=Mt.jI c k)):=by
    show _\/_;unfold Mt.vK Mt.vX at *;simp only[beq_iff_eq,beq_eq_false_iff_ne,decide_eq_true_eq]at *;by_cases e4:I.op=4
    ·rw[if_pos e4,if_neg (by omega)]at n2;exact Or.inl ⟨e4,by omega⟩
    ·rw[if_neg e4]at n2;by_cases e5:I.op=5
     ·rw[if_pos e5]at n2;exact Or.inr (Or.inl ⟨e4,e5,by omega⟩)
     ·rw[if_neg e5]at n2;exact Or.inr (Or.inr ⟨e4,e5,by omega⟩)
   clear n1 n2
   have HST:Hid (∀w3:World,(∀q,q≠wr.heap.size->w3.heap[q]?=(wr.alloc (.cells (yR Mt.jY) 48)).heap[q]?)->(∀L,L<=wr.heap.size->Below L (wr.alloc (.cells (yR Mt.jY) 48)) w3)->Below w.heap.size w w3/\qK w3 w.heap.size (.slice (some ⟨w.heap.size,0,none⟩) c.length c.length) (fill (λp=>(Mt.jI c p:Int)) 0 k c.length)):=λw3 h2 h3 =>
    ⟨(hbr.alloc hsz _).trans (h3 _ hsz),jS.below (((Below.refl _ _).alloc (lG _) _).trans (h3 _ (lG _)))⟩
   have hwl:w.heap.size<wr.heap.size:=(World.ownsRow.lt jS w.heap.size rfl).2;clear jS hbr;generalize hLk:Mt.jI c k=lk at *;rcases HI.out with ⟨e4,hn⟩ | ⟨e4,e5,hn⟩ | ⟨e4,e5,hn⟩
   all_goals
    have HN:Hid (_=_):=hn;clear hn;go_upto_region 6 with (first|(refine wpList_load_mid (by rfl) 48 (.tmp 15) (by rfl) g (k*4) (by rfl) (kM I) _ hR Tryz.underlying48 rfl (by rw[Tryz.sizeIn];rfl) ?_)|(refine zM 48 4 Tryz.sizeIn (by rfl) (.tmp 6) (.tmp 16) (by rfl) wr.heap.size (yR I) (by rfl) (by rfl) (by exact jR _ _) (by rfl) (by rfl) (tN I) ?_;intro w3 r1 r2 r3 r4))
    obtain⟨B3,O3⟩:=HST.out w3 r2 r4;obtain⟨x1,x2⟩:=O3.at k (by rw[fK];exact zTI) (by rw[fK]);have O4:=O3.set (by rw[fK]) k (lk:Int);rw[<-hLk]at O4;rw[zDb (λp=>(Mt.jI c p:Int)) 0 k c.length]at O4;rw[hLk]at O4;have B4:=B3.setCell (p:=⟨w.heap.size,k,none⟩) (lG _) (.int .i64 (lk:Int))
    have t0:(w3.setCell ⟨w.heap.size,k,none⟩ (.int .i64 (lk:Int))).cell? ⟨wr.heap.size,0,none⟩=some (.int .i64 I.op):=by
     rw[World.cell?_of_block (a:=⟨wr.heap.size,0,none⟩) (Below.heap_setCell w3 ⟨w.heap.size,k,none⟩ _ wr.heap.size (by show wr.heap.size≠w.heap.size;omega))];exact(zC r1).1 0
    have HO4:Hid (qK (w3.setCell ⟨w.heap.size,k,none⟩ (.int .i64 (lk:Int))) w.heap.size (.slice (some ⟨w.heap.size,0,none⟩) c.length c.length) (fill (λp=>(Mt.jI c p:Int)) 0 (k+1) c.length)/\Below w.heap.size w (w3.setCell ⟨w.heap.size,k,none⟩ (.int .i64 (lk:Int)))):=⟨O4,B4⟩
    clear r1 r2 r3 r4 B3 O3 O4 B4 hR;generalize (fill (λp=>(Mt.jI c p:Int)) 0 k c.length).getD k 0=zz at *;go_upto_region 7 with fail
    generalize w3.setCell ⟨w.heap.size,k,none⟩ (.int .i64 (lk:Int))=w4 at *;clear x1 x2;go_wp2_with fail
    go_roundw
    case rel=>exact⟨k+1,by omega,by go_num,by have hn:=HN.out;first|(rw[hn];go_num)|(rw[<-hn];go_num)|(rw[hn]),HO4.out.1,HO4.out.2⟩
    case measure=>simp[intOf];omega
  ·have hk2:k=c.length:=by omega
   subst hk2;rw[zDa]at jS;have HBR:Hid (Below w.heap.size w wr):=hbr;have HOW:Hid (qK wr w.heap.size (.slice (some ⟨w.heap.size,0,none⟩) c.length c.length) (dH c)):=jS;clear hbr jS;go_wp2_with fail
   go_ret;exact⟨rfl,HOW.out,HBR.out⟩
def vT(p:Int)(a b:Nat):List Int:=0::p::((List.replicate a (-1)++List.replicate (20-a) 0)++(List.replicate 10 0++(List.replicate b (-1)++List.replicate (11-b) 0)))
theorem zEc(p:Int)(a b:Nat)(ha:a<=20)(hb:b<=11):(vT p a b).length=43:=by simp[vT];omega
theorem zIB(p:Int):vT p 20 11=Mt.nU p:=by unfold vT Mt.nU Mt.nowhere;rfl
theorem zFZ(p:Int)(a:Nat)(ha:a<20):(vT p a 0).set (2+a) (-1)=vT p (a+1) 0:=by
 unfold vT;rw[show 2+a=a+1+1 by omega,lF,lF,List.append_assoc,List.set_append_right _ _ (by simp),show a-(List.replicate a (-1:Int)).length=0 by simp,show 20-a=(20-(a+1))+1 by omega,List.replicate_succ (n:=20-(a+1)),List.cons_append,lD,List.replicate_succ' (n:=a)];simp
theorem zHo(p:Int)(b:Nat)(hb:b<11):(vT p 20 b).set (32+b) (-1)=vT p 20 (b+1):=by
 have e:∀j,vT p 20 j=(0::p::(List.replicate 20 (-1)++List.replicate 10 0))++(List.replicate j (-1)++List.replicate (11-j) 0):=λj=>by simp[vT]
 rw[e b,e (b+1),List.set_append_right _ _ (by simp)];rw[show 32+b-(0::p::(List.replicate 20 (-1:Int)++List.replicate 10 0)).length=b by simp];rw[List.set_append_right _ _ (by simp),show b-(List.replicate b (-1:Int)).length=0 by simp,show 11-b=(11-(b+1))+1 by omega,List.replicate_succ (n:=11-(b+1)),lD,List.replicate_succ' (n:=b)];simp
def zMG(p:Int):Array Value:=#[.int .i64 0,.int .i64 p,.int .i64 0,.int .i64 0,.int .i64 0,.int .i64 0,.int .i64 0,.int .i64 0,.int .i64 0,.int .i64 0,.int .i64 0,.int .i64 0,.int .i64 0,.int .i64 0,.int .i64 0,.int .i64 0,.int .i64 0,.int .i64 0,.int .i64 0,.int .i64 0,.int .i64 0,.int .i64 0,.int .i64 0,.int .i64 0,.int .i64 0,.int .i64 0,.int .i64 0,.int .i64 0,.int .i64 0,.int .i64 0,.int .i64 0,.int .i64 0,.int .i64 0,.int .i64 0,.int .i64 0,.int .i64 0,.int .i64 0,.int .i64 0,.int .i64 0,.int .i64 0,.int .i64 0,.int .i64 0,.int .i64 0]
theorem zF0(p:Int):zMG p=zTS (vT p 0 0):=by
 apply Array.ext
 ·rfl
 ·intro i h1 h2;have hi:i<43:=h1;have e:=yN (vT p 0 0) i hi;rw[Array.getElem?_eq_getElem h2]at e;injection e with e;rw[e]
  match i,hi with
  | 0,_=>rfl
  | 1,_=>rfl
  | i+2,hi =>
   have hz:Mt.gt (vT p 0 0) (i+2)=0:=by
    unfold Mt.gt vT;rw[lH,List.getElem?_cons_succ,List.getElem?_cons_succ];simp only[List.replicate_zero,List.nil_append,Nat.sub_zero];rw[List.replicate_append_replicate,List.replicate_append_replicate,List.getElem?_replicate];split <;> rfl
   rw[hz]
   have:(zMG p)[i+2]?=some (.int .i64 0):=by
    have hl:(zMG p).toList=.int .i64 0::.int .i64 p::List.replicate 41 (.int .i64 0):=rfl;rw[<-Array.getElem?_toList,hl,List.getElem?_cons_succ,List.getElem?_cons_succ,List.getElem?_replicate,if_pos (by omega)]
   rw[Array.getElem?_eq_getElem h1]at this;injection this
theorem zBh(p:Int)(w:World):Calls Tryz.prog 77 #[.int .i64 p] w λe w'=>e=.returned (.agg (zTS (Mt.nU p)))/\Below w.heap.size w w':=by
 obtain⟨W1,hW1⟩:∃W1,W1=w.alloc (.cells (zTS []) 130):=⟨_,rfl⟩
 have B1:Below w.heap.size w W1:=by rw[hW1];exact(Below.refl _ _).alloc (lG _) _
 have T1:W1.heap[w.heap.size]?=some (.cells (zTS []) 130 (0,0)):=by rw[hW1];exact heap_alloc_new _ _
 have Z1:W1.heap.size=w.heap.size+1:=by rw[hW1];simp
 go_enter Tryz.func77,Tryz.ntmps77
 go_upto_region 1 with fail
 show Code.wp _ _ _ _ (w.alloc (.cells (zTS []) 130));rw[<-hW1];clear hW1;generalize hnn:w.heap.size=n at *;have HZ1:Hid (W1.heap.size=n+1):=Z1;clear Z1;refine wp_region_lit ?_;refine wpList_plain (by rfl) (λK hK=>?_)
 go_simp
 refine hK _ _ ?_;clear hK K;refine wpList_buildTo (by rfl) 130 #[(1,.tmp 6)] (by rfl) (some 7) rfl (zMG p) (by kernel_rfl) ?_;simp only[Act.put,lC,lD,lF];go_upto_region 2 with (refine zM 130 43 Tryz.sizeSt (by rfl) (.tmp 3) (.tmp 7) (by rfl) W1.heap.size (zMG p) (by rfl) (by rfl) (by exact jR _ _) (by rfl) (by rw[zF0];exact kK _) (by rw[zF0];exact mH _) ?_;intro w2 r1 r2 r3 r4)
 rw[zF0]at r1;have Z1:W1.heap.size=n+1:=HZ1.out;have R1:w2.heap[n]?=some (.cells (zTS []) 130 (0,0)):=by rw[r2 n (by omega),kT _ _ _ (by omega)];exact T1
 have B2:Below n w w2:=(B1.alloc (by omega) _).trans (r4 n (by omega));rw[Z1]at r1;rw[Z1];have Z2:w2.heap.size=n+2:=by rw[r3];simp[Z1]
 clear B1 T1 r2 r3 r4;go_wp2_with fail
 go_loopw [8] (λi wr=>∃a:Nat,a<=20/\i=.int .i64 a/\wr.heap[n+1]?=some (.cells (zTS (vT p a 0)) 130 (0,0))/\wr.heap[n]?=some (.cells (zTS []) 130 (0,0))/\Below n w wr/\wr.heap.size=n+2) (λi _=>20-(intOf i).toNat)
 case atStart=>exact⟨0,Nat.zero_le _,rfl,r1,R1,B2,Z2⟩
 case round =>
  obtain⟨a,ha,rfl,hb,hr,hB,hZ⟩:=hrel;by_cases zTI:a<20
  ·have x1:wr.cell? ⟨n+1,2+a,none⟩=some (.int .i64 (Mt.gt (vT p a 0) (2+a))):=by rw[(zC hb).1];exact yN _ _ (by omega)
   have f1:=(zC hb).2 (2+a);have hlt':(a:Int)<20:=by omega
   have HN:Hid ((wr.setCell ⟨n+1,2+a,none⟩ (.int .i64 (-1))).heap[n+1]?=some (.cells (zTS (vT p (a+1) 0)) 130 (0,0))/\(wr.setCell ⟨n+1,2+a,none⟩ (.int .i64 (-1))).heap[n]?=some (.cells (zTS []) 130 (0,0))/\Below n w (wr.setCell ⟨n+1,2+a,none⟩ (.int .i64 (-1)))/\(wr.setCell ⟨n+1,2+a,none⟩ (.int .i64 (-1))).heap.size=n+2):=by
    refine⟨?_,(Below.heap_setCell _ _ _ _ (by show n≠n+1;omega)).trans hr,hB.setCell (p:=⟨n+1,2+a,none⟩) (by show n<=n+1;omega) _,by simp[World.setCell,hZ]⟩;have:=Go.heap_setCell_same wr (n+1) (2+a) _ _ (.int .i64 (-1)) hb;rw[nV _ (zEc p a 0 (by omega) (by omega)),zFZ p a zTI]at this;exact this
   clear hb hr hB hZ r1 R1 B2;generalize Mt.gt (vT p a 0) (2+a)=zz at *;go_wp2_with fail
   go_roundw
   case rel=>exact⟨a+1,by omega,by go_num,HN.out⟩
   case measure=>simp[intOf];omega
  ·have ha2:a=20:=by omega
   subst ha2
   rename World=>wz
   clear r1 R1 B2;have HBB:Hid (Below n w wz/\wz.heap.size=n+2):=⟨hB,hZ⟩
   clear hB hZ;go_wp2_with fail
   go_loopw [15] (λi wr=>∃b:Nat,b<=11/\i=.int .i64 b/\wr.heap[n+1]?=some (.cells (zTS (vT p 20 b)) 130 (0,0))/\wr.heap[n]?=some (.cells (zTS []) 130 (0,0))/\Below n w wr/\wr.heap.size=n+2) (λi _=>11-(intOf i).toNat)
   case atStart=>exact⟨0,Nat.zero_le _,rfl,hb,hr,HBB.out.1,HBB.out.2⟩
   case round =>
    obtain⟨b,zTr,rfl,hb,hr,hB,hZ⟩:=hrel;by_cases zTI:b<11
    ·have x1:wr.cell? ⟨n+1,32+b,none⟩=some (.int .i64 (Mt.gt (vT p 20 b) (32+b))):=by rw[(zC hb).1];exact yN _ _ (by omega)
     have f1:=(zC hb).2 (32+b);have hlt':(b:Int)<11:=by omega
     have HN:Hid ((wr.setCell ⟨n+1,32+b,none⟩ (.int .i64 (-1))).heap[n+1]?=some (.cells (zTS (vT p 20 (b+1))) 130 (0,0))/\(wr.setCell ⟨n+1,32+b,none⟩ (.int .i64 (-1))).heap[n]?=some (.cells (zTS []) 130 (0,0))/\Below n w (wr.setCell ⟨n+1,32+b,none⟩ (.int .i64 (-1)))/\(wr.setCell ⟨n+1,32+b,none⟩ (.int .i64 (-1))).heap.size=n+2):=by
      refine⟨?_,(Below.heap_setCell _ _ _ _ (by show n≠n+1;omega)).trans hr,hB.setCell (p:=⟨n+1,32+b,none⟩) (by show n<=n+1;omega) _,by simp[World.setCell,hZ]⟩;have:=Go.heap_setCell_same wr (n+1) (32+b) _ _ (.int .i64 (-1)) hb;rw[nV _ (zEc p 20 b (by omega) (by omega)),zHo p b zTI]at this;exact this
     clear hb hr hB hZ;generalize Mt.gt (vT p 20 b) (32+b)=zz at *;go_wp2_with fail
     go_roundw
     case rel=>exact⟨b+1,by omega,by go_num,HN.out⟩
     case measure=>simp[intOf];omega
    ·have zTK:b=11:=by omega
     subst zTK;rw[zIB]at hb;have zSR:Hid (Below n w wr):=hB;clear hB hZ;go_wp2_with (first|(refine kQ 130 43 Tryz.underlying130 rfl Tryz.sizeSt (by rfl) (.tmp 3) (by rfl) (n+1) (by rfl) hb (kK _) ?_)|(refine zM 130 43 Tryz.sizeSt (by rfl) (.tmp 2) (.tmp 22) (by rfl) n (zTS (Mt.nU p)) (by rfl) (by rfl) hr (kK _) (kK _) (mH _) ?_;intro w4 r1 r2 r3 r4))
     refine bodyPost_ret (zC6 130 43 Tryz.underlying130 rfl Tryz.sizeSt rfl (by rfl) r1 (kK _)) rfl ⟨rfl,by rw[hnn];exact zSR.out.trans (r4 n (lG _))⟩
def fpA(f:Mt.Fnd):Array Value:=(Value.bool f.ok::(f.at'.map (Value.int .i64)++[Value.int .i64 f.steps])).toArray
theorem yP(f:Mt.Fnd)(h:f.at'.length=20):(fpA f).size=22:=by simp[fpA,h]
theorem mZ(f:Mt.Fnd):(fpA f).all (·.oneCell')=true:=by
 unfold fpA;rw[List.all_toArray,List.all_eq_true];intro u hu;simp only[List.mem_cons,List.mem_append,List.mem_map,List.not_mem_nil,or_false]at hu;rcases hu with rfl | ⟨i,_,rfl⟩ | rfl <;> rfl
theorem zMH(b:Bool)(l:List Int)(u:Int)(i:Nat)(v:Int)(hi:i<l.length):(fpA ⟨b,l,u⟩).setIfInBounds (1+i) (.int .i64 v)=fpA ⟨b,l.set i v,u⟩:=by
 unfold fpA;dsimp only;rw[lC,show 1+i=i+1 by omega,lF,List.set_append_left _ _ (by simpa using hi),List.map_set]
theorem zMI(b:Bool)(l:List Int)(u:Int)(i:Nat)(hi:i<l.length):(fpA ⟨b,l,u⟩)[1+i]?=some (.int .i64 (l.getD i 0)):=by
 unfold fpA;dsimp only;rw[List.getElem?_toArray,show 1+i=i+1 by omega,List.getElem?_cons_succ,List.getElem?_append_left (by simpa using hi),List.getElem?_map,lH,lK hi];rfl
theorem Tryz.sizeFd:(Tryz.prog.info? 57).map (·.size)=some 22:=by kernel_rfl
theorem zQY(f:Mt.Fnd):(fpA f)[0]?=some (.bool f.ok):=by unfold fpA;rfl
theorem zMJ(f:Mt.Fnd)(h:f.at'.length=20)(k:Nat)(hk:k<20):(fpA f)[1+k]?=some (.int .i64 (f.at'.getD k 0)):=zMI f.ok f.at' f.steps k (by omega)
theorem zMK(f:Mt.Fnd)(h:f.at'.length=20):(fpA f)[21]?=some (.int .i64 f.steps):=by
 unfold fpA;rw[List.getElem?_toArray,List.getElem?_cons_succ,List.getElem?_append_right (by simp[h]),List.length_map,h];rfl
theorem twenty{l:List Int}(h:l.length=20):∃a0 a1 a2 a3 a4 a5 a6 a7 a8 a9 a10 a11 a12 a13 a14 a15 a16 a17 a18 a19,l=[a0,a1,a2,a3,a4,a5,a6,a7,a8,a9,a10,a11,a12,a13,a14,a15,a16,a17,a18,a19]:=by
 match l,h with
 | [a0,a1,a2,a3,a4,a5,a6,a7,a8,a9,a10,a11,a12,a13,a14,a15,a16,a17,a18,a19],_=>exact⟨a0,a1,a2,a3,a4,a5,a6,a7,a8,a9,a10,a11,a12,a13,a14,a15,a16,a17,a18,a19,rfl⟩
theorem zIC(l:List Int)(h:l.length=20)(b:Bool)(u:Int):Tryz.prog.built 57 [(0,.bool b),(1,.agg (l.map (Value.int .i64)).toArray),(2,.int .i64 u)]=some (fpA ⟨b,l,u⟩):=by
 obtain⟨a0,a1,a2,a3,a4,a5,a6,a7,a8,a9,a10,a11,a12,a13,a14,a15,a16,a17,a18,a19,rfl⟩:=twenty h;unfold fpA;simp only[List.map_cons,List.map_nil,List.cons_append,List.nil_append];kernel_rfl
theorem zKD(l:List Int)(h:l.length=20)(u:Int):Tryz.prog.built 57 [(1,.agg (l.map (Value.int .i64)).toArray),(2,.int .i64 u)]=some (fpA ⟨false,l,u⟩):=by
 obtain⟨a0,a1,a2,a3,a4,a5,a6,a7,a8,a9,a10,a11,a12,a13,a14,a15,a16,a17,a18,a19,rfl⟩:=twenty h;unfold fpA;simp only[List.map_cons,List.map_nil,List.cons_append,List.nil_append];kernel_rfl
def placesOf(e:List Int):List Int:=(List.range 20).map λi=>Mt.gt e (2+i)
theorem zHp(e:List Int):(placesOf e).length=20:=by simp[placesOf]
theorem zE3(e:List Int):((stC e).drop 2).take 20=(placesOf e).map (Value.int .i64):=by
 apply List.ext_getElem?;intro j;by_cases h:j<20
 ·rw[List.getElem?_take_of_lt h,List.getElem?_drop];unfold stC placesOf;rw[List.getElem?_map,List.getElem?_range (by omega),List.getElem?_map,List.getElem?_map,List.getElem?_range h];rfl
 ·rw[List.getElem?_eq_none (by simp[stC];omega),List.getElem?_eq_none (by simp[placesOf];omega)]
theorem zHq(e:List Int)(he:e.length=43)(p:Int):((placesOf e).set 0 p).set 1 (Mt.gt e 1)=Mt.yX p e:=by
 apply List.ext_getElem?;intro j;have hl:(Mt.yX p e).length=20:=by simp[Mt.yX,he]
 by_cases h:j<20
 ·rw[List.getElem?_set,List.getElem?_set]
  match j with
  | 0=>simp[placesOf,Mt.yX]
  | 1=>simp[placesOf,Mt.yX]
  | j+2 =>
   rw[if_neg (by omega),if_neg (by omega)];unfold placesOf Mt.yX Mt.gt;rw[List.getElem?_map,List.getElem?_range h,List.getElem?_cons_succ,List.getElem?_cons_succ,List.getElem?_take_of_lt (by omega),List.getElem?_drop,show 4+j=2+(j+2) by omega];simp only[Option.map_some];rw[lH,lK (by omega)];rfl
 ·rw[List.getElem?_eq_none (by simp[placesOf];omega),List.getElem?_eq_none (by omega)]
theorem zML(p:Int)(e:List Int)(he:e.length=43)(u:Int)(w:World):Calls Tryz.prog 80 #[.int .i64 p,.agg (zTS e),.int .i64 u] w λr w'=>r=.returned (.agg (fpA ⟨true,Mt.yX p e,u⟩))/\Below w.heap.size w w':=by
 obtain⟨W1,hW1⟩:∃W1,W1=(w.alloc (.cells (zTS e) 130)).alloc (.cells (fpA Mt.vJ) 57):=⟨_,rfl⟩
 have B1:Below w.heap.size w W1:=by rw[hW1];exact((Below.refl _ _).alloc (lG _) _).alloc (by simp) _
 have T1:W1.heap[w.heap.size]?=some (.cells (zTS e) 130 (0,0)):=by rw[hW1];exact mX _ _ _
 have U1:W1.heap[w.heap.size+1]?=some (.cells (fpA Mt.vJ) 57 (0,0)):=by rw[hW1];exact mF _ _ _
 have HZ1:Hid (W1.heap.size=w.heap.size+2):=by rw[hW1];show _=_;simp
 have R1:=zBZ T1 2 20;rw[zE3]at R1;have hlP:=zHp e;generalize hP:placesOf e=P at *;have HBF:=zIC P hlP true u;go_enter Tryz.func80,Tryz.ntmps80
 go_upto_region 1 with fail
 show Code.wp _ _ _ _ ((w.alloc (.cells (zTS e) 130)).alloc (.cells (fpA Mt.vJ) 57));rw[<-hW1];clear hW1;generalize hnn:w.heap.size=n at *;refine wp_region_lit ?_;refine wpList_plain (by rfl) (λK hK=>?_)
 go_simp
 refine hK _ _ ?_;clear hK K;refine wpList_load_mid (by rfl) 55 (.tmp 8) (by rfl) n 2 (by rfl) (P.map (Value.int .i64)) _ R1 Tryz.underlying55 rfl (by rw[Tryz.underArr20];simp[hlP]) ?_;simp only[Act.put,lC,lD,lF];refine wpList_plain (by rfl) (λK hK=>?_)
 go_simp
 refine hK _ _ ?_;clear hK K;refine wpList_buildTo (by rfl) 57 #[(0,.const (.bool true)),(1,.tmp 9),(2,.tmp 10)] (by rfl) (some 11) rfl (fpA ⟨true,P,u⟩) (by simp only[List.map_toArray,List.map_cons,List.map_nil];exact HBF) ?_;simp only[Act.put,lC,lD,lF];clear HBF R1;go_upto_region 2 with (refine zM 57 22 Tryz.sizeFd (by rfl) (.tmp 7) (.tmp 11) (by rfl) W1.heap.size (fpA ⟨true,P,u⟩) (by rfl) (by rfl) (by exact jR _ _) (by rfl) (yP _ hlP) (mZ _) ?_;intro w2 r1 r2 r3 r4)
 have Z1:=HZ1.out;have T2:w2.heap[n]?=some (.cells (zTS e) 130 (0,0)):=by rw[r2 n (by omega),kT _ _ _ (by omega)];exact T1
 have U2:w2.heap[n+1]?=some (.cells (fpA Mt.vJ) 57 (0,0)):=by rw[r2 (n+1) (by omega),kT _ _ _ (by omega)];exact U1
 have B2:Below n w w2:=(B1.alloc (by omega) _).trans (r4 n (by omega));rw[Z1]at r1;rw[Z1];have x1:w2.cell? ⟨n,1,none⟩=some (.int .i64 (Mt.gt e 1)):=by rw[(zC T2).1 1];exact yN e 1 (by omega)
 have y1:w2.cell? ⟨n+2,1,none⟩=some (.int .i64 (P.getD 0 0)):=by rw[(zC r1).1 1];exact zMI true P u 0 (by omega)
 have y2:w2.cell? ⟨n+2,2,none⟩=some (.int .i64 (P.getD 1 0)):=by rw[(zC r1).1 2];exact zMI true P u 1 (by omega)
 have f1:=(zC r1).2 1;have f2:=(zC r1).2 2
 have T3:((w2.setCell ⟨n+2,1,none⟩ (.int .i64 p)).setCell ⟨n+2,2,none⟩ (.int .i64 (Mt.gt e 1))).heap[n+2]?=some (.cells (fpA ⟨true,Mt.yX p e,u⟩) 57 (0,0)):=by
  have a1:=Go.heap_setCell_same w2 (n+2) 1 _ _ (.int .i64 p) r1;rw[show(1:Nat)=1+0 from rfl,zMH true P u 0 p (by omega)]at a1;have a2:=Go.heap_setCell_same _ (n+2) 2 _ _ (.int .i64 (Mt.gt e 1)) a1;rw[show(2:Nat)=1+1 from rfl,zMH true _ u 1 _ (by simp;omega),<-hP,zHq e he]at a2;exact a2
 have U3:((w2.setCell ⟨n+2,1,none⟩ (.int .i64 p)).setCell ⟨n+2,2,none⟩ (.int .i64 (Mt.gt e 1))).heap[n+1]?=some (.cells (fpA Mt.vJ) 57 (0,0)):=by
  rw[Below.heap_setCell _ _ _ _ (by show n+1≠n+2;omega),Below.heap_setCell _ _ _ _ (by show n+1≠n+2;omega)];exact U2
 have HB3:Hid (Below n w ((w2.setCell ⟨n+2,1,none⟩ (.int .i64 p)).setCell ⟨n+2,2,none⟩ (.int .i64 (Mt.gt e 1)))):=(B2.setCell (p:=⟨n+2,1,none⟩) (by show n<=n+2;omega) _).setCell (p:=⟨n+2,2,none⟩) (by show n<=n+2;omega) _;have hF:(Mt.yX p e).length=20:=by simp[Mt.yX,he]
 clear r1 r2 r3 r4 T1 U1 B1 T2 U2 B2 Z1 HZ1;generalize hFF:Mt.yX p e=F at *;generalize Mt.gt e 1=ee at *;generalize P.getD 0 0=z0 at *;generalize P.getD 1 0=z1 at *;go_wp2_with (first|(refine kQ 57 22 Tryz.underlying57 rfl Tryz.sizeFd (by rfl) (.tmp 7) (by rfl) (n+2) (by rfl) T3 (yP _ hF) ?_)|(refine zM 57 22 Tryz.sizeFd (by rfl) (.tmp 6) (.tmp 19) (by rfl) (n+1) (fpA ⟨true,F,u⟩) (by rfl) (by rfl) U3 (by rfl) (yP _ hF) (mZ _) ?_;intro w4 q1 q2 q3 q4))
 refine bodyPost_ret (zC6 57 22 Tryz.underlying57 rfl Tryz.sizeFd rfl (by rfl) q1 (yP _ hF)) rfl ⟨by rw[hFF],by rw[hnn];exact HB3.out.trans (q4 n (by omega))⟩
def vP(E:Mt.Env)(k:Nat):List Int:=(List.range E.c.length).map λp:Nat=>if p<k/\E.zTM.getD p false=true then(E.base p:Int)else -1
theorem dQ(E:Mt.Env)(k:Nat):(vP E k).length=E.c.length:=by simp[vP]
theorem zHr(E:Mt.Env):vP E 0=List.replicate E.c.length (-1):=by
 unfold vP;apply List.ext_getElem
 ·simp
 ·intro i h1 h2;simp
theorem zKE(E:Mt.Env)(p:Nat)(h:p<E.c.length):(vP E E.c.length).getD p 0=if E.zTM.getD p false=true then(E.base p:Int)else -1:=by
 unfold vP;rw[lH,List.getElem?_map,List.getElem?_range h];simp only[Option.map_some,Option.getD_some];by_cases hi:E.zTM.getD p false=true
 ·rw[if_pos ⟨h,hi⟩,if_pos hi]
 ·rw[if_neg (λx=>hi x.2),if_neg hi]
theorem zHs(E:Mt.Env)(k:Nat)(h:E.zTM.getD k false=false):vP E (k+1)=vP E k:=by
 unfold vP;apply List.map_congr_left;intro p _;by_cases e:p=k
 ·subst e;rw[if_neg (λx=>by rw[h]at x;cases x.2),if_neg (by omega)]
 ·by_cases zTI:p<k
  ·by_cases hi:E.zTM.getD p false=true
   ·rw[if_pos ⟨by omega,hi⟩,if_pos ⟨zTI,hi⟩]
   ·rw[if_neg (λx=>hi x.2),if_neg (λx=>hi x.2)]
  ·rw[if_neg (by omega),if_neg (by omega)]
theorem zID(E:Mt.Env)(k:Nat)(hk:k<E.c.length)(h:E.zTM.getD k false=true):vP E (k+1)=(vP E k).set k (E.base k:Int):=by
 unfold vP;apply List.ext_getElem
 ·simp
 ·intro i h1 h2;rw[List.getElem_set];simp only[List.getElem_map,List.getElem_range];by_cases e:k=i
  ·subst e;rw[if_pos rfl,if_pos ⟨by omega,h⟩]
  ·rw[if_neg e];by_cases zTI:i<k
   ·by_cases hi:E.zTM.getD i false=true
    ·rw[if_pos ⟨by omega,hi⟩,if_pos ⟨zTI,hi⟩]
    ·rw[if_neg (λx=>hi x.2),if_neg (λx=>hi x.2)]
   ·rw[if_neg (by omega),if_neg (by omega)]
theorem zMM(E:Mt.Env):∀(j:Nat),j<(Mt.kY E.zTM E.c.length).length->∃p:Nat,p<E.c.length/\(Mt.kY E.zTM E.c.length).getD j 0=(p:Int)/\E.zTM.getD p false=true/\(Mt.kY E.zTM p).length=j:=by
 have key:∀(L j:Nat),j<(Mt.kY E.zTM L).length->∃p:Nat,p<L/\(Mt.kY E.zTM L).getD j 0=(p:Int)/\E.zTM.getD p false=true/\(Mt.kY E.zTM p).length=j:=by
  intro L;induction L with
  | zero=>intro j h;simp[Mt.kY]at h
  | succ L ih =>
   intro j h;rw[Mt.xK]at h |-;by_cases zTI:j<(Mt.kY E.zTM L).length
   ·obtain⟨p,h1,h2,h3,h4⟩:=ih j zTI;refine⟨p,by omega,?_,h3,h4⟩;rw[lH,List.getElem?_append_left zTI,<-lH];exact h2
   ·rw[lM]at h;cases hi:E.zTM.getD L false with
    | false=>rw[hi]at h;simp at h;omega
    | true =>
     rw[hi]at h;simp at h;refine⟨L,by omega,?_,hi,by omega⟩;rw[lH,List.getElem?_append_right (by omega)];have:j-(Mt.kY E.zTM L).length=0:=by omega
     rw[this];simp
 exact key E.c.length
theorem zCr(E:Mt.Env)(a:Nat):∀d,(∀i,a<=i->i<a+d->E.zTM.getD i false=false)->vP E (a+d)=vP E a/\E.base (a+d)=E.base a/\(Mt.kY E.zTM (a+d)).length=(Mt.kY E.zTM a).length
 | 0,_=>⟨rfl,rfl,rfl⟩
 | d+1,h=>by
  obtain⟨h1,h2,h3⟩:=zCr E a d (λi hi hj=>h i hi (by omega));have hn:=h (a+d) (by omega) (by omega);refine⟨by rw[<-Nat.add_assoc,zHs E _ hn];exact h1,by rw[<-Nat.add_assoc,E.zMs _ hn];exact h2,?_⟩;rw[<-Nat.add_assoc,Mt.xK,hn];simpa using h3
theorem zEd(E:Mt.Env)(a:Nat):∀d,(Mt.kY E.zTM (a+d)).length=(Mt.kY E.zTM a).length->∀i,a<=i->i<a+d->E.zTM.getD i false=false
 | 0,_,i,h1,h2=>by omega
 | d+1,h,i,h1,h2=>by
  rw[<-Nat.add_assoc,Mt.xK,lM]at h
  have hmono:(Mt.kY E.zTM a).length<=(Mt.kY E.zTM (a+d)).length:=by
   clear h h2;induction d with
   | zero=>exact lG _
   | succ d ih=>rw[<-Nat.add_assoc,Mt.xK,lM];omega
  cases hi:E.zTM.getD (a+d) false with
  | true=>rw[hi]at h;simp at h;omega
  | false =>
   by_cases e:i=a+d
   ·rw[e];exact hi
   ·exact zEd E a d (by rw[hi]at h;simpa using h) i h1 (by omega)
