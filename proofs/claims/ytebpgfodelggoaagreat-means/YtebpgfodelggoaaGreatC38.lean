import Derived.Test.YtebpgfodelggoaaGreatC36
import Derived.Test.YtebpgfodelggoaaGreatC37
set_option linter.all false
set_option maxRecDepth 100000
set_option maxHeartbeats 16000000
namespace Go.Proofs.YtebpgfodelggoaaGreat
open Go.RowKit _root_.Go.Proofs.Tryz Mt
def zB0(o:Stp):Stp:={ o with t:=if 10<o.t.size then o.t.extract 0 10 else o.t }
theorem Zc o:(zB0 o).t.size<=10:=by
 unfold zB0;dsimp only;split
 ·simp;omega
 ·omega
theorem NT p t jK G j zA h:(pI p t jK G j zA h).2≠0->(pI p t jK G j zA h).1=yD:=by
 unfold pI;split
 ·exact λ_=>rfl
 split
 ·exact λ_=>rfl
 split
 ·exact λ_=>rfl
 ·exact λI=>absurd rfl I
def OG(o:Stp)(f:Hz):Prop:=∃(jK:Nat) (_:o.jK=(jK:Int)) (M:Hz) (sd:Bool),(M.at'.length=20/\∀z:World,CT 14 #[.string o.p,.string o.t,.int .i64 o.jK] z λe w'=>e=.returned (.tuple #[uw M,.bool sd])/\Below z.heap.size z w')/\(sd=true->∀z:World,CT 15 #[uw f,uw M] z λe w'=>e=.returned (.bool true)/\Below z.heap.size z w')
theorem GN{j}{G}{h}{a}{w}{Q}(Z:Region.wanted h (yielded j a.tmps)=true)(x)(U:h.op=.load 29 x)
  (b) (a0:a.eval x=.pointer (some ⟨b,0,none⟩)) {t} {A} (J:w.heap[b]?=some (.cells A t (0,0))) (Y:A.size=22)
  (I:wpList prog j Q G (a.put h.dst (.agg A)) w):wpList prog j Q (h::G) a w:=
 BigFrame.wpList_want Z λ_ O=>wp_load_mid 29 x U b 0 a0 A.toList _ (xJ J) underlying29 rfl (by rw[av];simp[Y]) (O _ _ I)
theorem zB1 f:(xZ f)[0]?=some (.bool f.ok):=rfl
theorem Mh f m(O:f.at'.length=20)(J:f.ok=m.ok)(I:f.at'=m.at') w:
  Calls prog 15 #[uw f,uw m] w λe w'=>e=.returned (.bool true)/\Below w.heap.size w w':=by
 unfold uw;have Y:Hid (∀k,k<20->(xZ f)[1+k]?=some (.int .i64 (f.at'.getD k 0))):=λk h=>VF f O k h
 have a0:Hid (∀k,k<20->(xZ m)[1+k]?=some (.int .i64 (f.at'.getD k 0))):=λk h=>by rw[I];exact VF m (by rw[<-I];exact O) k h
 have Z:Hid ((xZ f)[0]?=some (.bool f.ok)):=zB1 f;have a1:Hid ((xZ m)[0]?=some (.bool f.ok)):=by show _=_;rw[J];exact zB1 m
 clear J I;generalize xZ f=A at *;generalize xZ m=B at *
 go_in
 go_wp2_with fail
 go_loopw [5] (λi wr=>∃k d:Nat,k<=20/\i=.int .i64 k/\wr=((w.alloc (.cells A 29)).alloc (.cells B 29)).drewN d) (λi _=>20-(intOf i).toNat)
 case atStart=>exact⟨0,0,gD _,rfl,rfl⟩
 case round =>
  obtain⟨k,d,h,rfl,rfl⟩:=hrel;have j:((w.alloc (.cells A 29)).alloc (.cells B 29)).heap[w.heap.size]?=some (.cells A 29 (0,0)):=ny _ _ _;have G:((w.alloc (.cells A 29)).alloc (.cells B 29)).heap[w.heap.size+1]?=some (.cells B 29 (0,0)):=au _ _ _;have a4:Below w.heap.size w ((w.alloc (.cells A 29)).alloc (.cells B 29)):=((lK _ _).alloc (lF _) _).alloc (by simp) _;have s1:((w.alloc (.cells A 29)).alloc (.cells B 29)).heap.size=w.heap.size+1+1:=by simp
  generalize ((w.alloc (.cells A 29)).alloc (.cells B 29))=z at *;have a8:w.heap.size<z.heap.size:=by omega
  have a9:w.heap.size+1<z.heap.size:=by omega
  by_cases U:k<20
  ·have a2:z.cell? ⟨w.heap.size,1+k,none⟩=some (.int .i64 (f.at'.getD k 0)):=((zB j).1 _).trans (Y.o k U);have a3:z.cell? ⟨w.heap.size+1,1+k,none⟩=some (.int .i64 (f.at'.getD k 0)):=((zB G).1 _).trans (a0.o k U);generalize f.at'.getD k 0=a5 at *;have a6:(0:Int)<=(k:Int):=by omega
   have a7:(k:Int)<20:=by omega
   clear j G s1;go_wp2_with fail
   go_quiet (fail)
   go_wp2_with fail
   go_roundw
   case rel=>exact⟨k+1,_,by omega,by go_num,rfl⟩
   case measure=>simp[intOf];omega
  ·have a2:z.cell? ⟨w.heap.size,0,none⟩=some (.bool f.ok):=((zB j).1 _).trans Z.o;have a3:z.cell? ⟨w.heap.size+1,0,none⟩=some (.bool f.ok):=((zB G).1 _).trans a1.o;clear j G s1;go_wp2_with fail
   go_ret;exact⟨jM (by simp),below_drewN a4 _⟩
theorem OH l t:∀f i w,i+f<=t.size+1->(nP l t f i w).1.2.length=20
 | 0,i,w,_=>rfl
 | f+1,i,w,h=>by
  have j:=Ir l 283 0 0 l.length w (GJ (t:=t) (i:=i) (by omega));rw[nP];split
  ·rfl
  ·split
   ·rename_i x xs e
    have:=(j x (by rw[e];simp)).len;simp[this]
   ·exact OH l t f (i+1) _ (by omega)
theorem VG o(a1:o.p.size<=maxLen)(a3:o.t.size<=10)(h:(pI o.p o.t o.jK o.kZ o.vK o.zA o.zD).2=0):OG o (pI o.p o.t o.jK o.kZ o.vK o.zA o.zD).1:=by
 have G:(jA o.p).2=0:=by
  unfold pI at h;by_cases G:(jA o.p).2=0
  ·exact G
  ·rw[lG G]at h;exact absurd h G
 have j:mV o.t.size o.jK o.kZ o.vK o.zA o.zD=0:=by
  unfold pI at h;rw[lC (by omega)]at h;by_cases j:mV o.t.size o.jK o.kZ o.vK o.zA o.zD=0
  ·exact j
  ·rw[lG j]at h;exact absurd h j
 have I:(xB (jA o.p).1 o.t o.kZ o.vK o.zA o.zD o.jK.toNat).2=false:=by
  unfold pI at h;rw[lC (by omega),lC (by omega)]at h;cases I:(xB (jA o.p).1 o.t o.kZ o.vK o.zA o.zD o.jK.toNat).2
  ·rfl
  ·rw[I]at h;simp at h
 have a0:(pI o.p o.t o.jK o.kZ o.vK o.zA o.zD).1=(xB (jA o.p).1 o.t o.kZ o.vK o.zA o.zD o.jK.toNat).1:=by
  unfold pI;rw[lC (by omega),lC (by omega),I];rfl
 have Y:=OE o.p o.t o.jK o.kZ o.vK o.zA o.zD;rw[a0]at Y |-
 obtain⟨a4,a7,a8,a9,a5⟩:0<=o.jK/\o.jK<=o.t.size/\0<=o.zA/\o.zA<=5000/\0<=o.zD:=by
  unfold mV at j;rw[lC (by omega)]at j;split at j
  ·rename_i a6;omega
  ·omega
 have J:(qW o.p).1=0:=by rw[<-NS];exact G
 have U:o.jK=((o.jK.toNat:Nat):Int):=(oN a4).symm;have O:=λz=>SY o.p o.t o.jK.toNat z a1 (by omega) (by omega) (zBZ o.p J) (GI o.p J).1
 rw[<-U]at O;refine⟨o.jK.toNat,U,⟨(nP (zP o.p).1 o.t (o.t.size+1-o.jK.toNat) o.jK.toNat 0).1.1,(nP (zP o.p).1 o.t (o.t.size+1-o.jK.toNat) o.jK.toNat 0).1.2,0⟩,_,⟨OH _ _ _ _ _ (by omega),O⟩,λa2 z=>?_⟩;have Z:=YM J a3 o.kZ o.vK o.zA o.zD (by unfold Uv;omega) a5 (jK:=o.jK.toNat) (by omega) (F:=(nP (zP o.p).1 o.t (o.t.size+1-o.jK.toNat) o.jK.toNat 0).1) I (Prod.ext rfl a2);exact Mh _ _ Y Z.1 Z.2 z
theorem VH(j3:OD) o w(k3:o.p.size<=maxLen)(l1:o.t.size<=maxLen):
  Calls prog 8 #[opV o] w λe w'=>e=.returned (.bool true)/\Below w.heap.size w w':=by
 obtain⟨h,e5⟩:∃h,h=zB0 o:=⟨_,rfl⟩
 have k5:h.t.size<=10:=by rw[e5];exact Zc o
 have g5:h.p.size<=maxLen:=by rw[e5];exact k3
 have i8:Hid (10<o.t.size->(sw o).setIfInBounds 2 (.string (o.t.extract 0 10))=sw h):=λj=>by rw[e5];unfold zB0;rw[lG j];rfl
 have i7:Hid (¬10<o.t.size->sw o=sw h):=λj=>by rw[e5];unfold zB0;rw[lC j]
 clear e5;have d4:Hid (∀z:World,CT 11 #[opV h] z λe w'=>e=.returned (.agg #[.int .i64 h.kZ,.int .i64 h.vK,.int .i64 h.zA,.int .i64 h.zD])/\Below z.heap.size z w'):=λz=>Ta h z
 have e8:Hid (∀z:World,CT 10 #[.string h.p,.string h.t,.int .i64 h.jK,.agg #[.int .i64 h.kZ,.int .i64 h.vK,.int .i64 h.zA,.int .i64 h.zD]] z λe w'=>e=.returned (.tuple #[uw (pI h.p h.t h.jK h.kZ h.vK h.zA h.zD).1,.int .i64 (pI h.p h.t h.jK h.kZ h.vK h.zA h.zD).2])/\Below z.heap.size z w'):=λz=>j3 h.p h.t h.jK h.kZ h.vK h.zA h.zD z g5 (by unfold maxLen;omega)
 have e9:Hid (∀z:World,CT 12 #[.string h.p,.string h.t,.int .i64 h.jK,.agg #[.int .i64 h.kZ,.int .i64 h.vK,.int .i64 h.zA,.int .i64 h.zD]] z λe w'=>e=.returned (.tuple #[uw (pI h.p h.t h.jK h.kZ h.vK h.zA h.zD).1,.int .i64 (pI h.p h.t h.jK h.kZ h.vK h.zA h.zD).2])/\Below z.heap.size z w'):=λz=>SX h.p h.t h.jK h.kZ h.vK h.zA h.zD z g5 (by unfold maxLen;omega)
 have a9:Hid ((pI h.p h.t h.jK h.kZ h.vK h.zA h.zD).1.at'.length=20):=OE _ _ _ _ _ _ _;have i9:Hid ((pI h.p h.t h.jK h.kZ h.vK h.zA h.zD).2≠0->(pI h.p h.t h.jK h.kZ h.vK h.zA h.zD).1=yD):=NT _ _ _ _ _ _ _;have h2:Hid ((pI h.p h.t h.jK h.kZ h.vK h.zA h.zD).2=0->OG h (pI h.p h.t h.jK h.kZ h.vK h.zA h.zD).1):=λj=>VG h g5 k5 j
 generalize pI h.p h.t h.jK h.kZ h.vK h.zA h.zD=R at *;have l2:Obj.cells #[Value.bool false,Value.int IntKind.i64 0,Value.int IntKind.i64 0,Value.int IntKind.i64 0,Value.int IntKind.i64 0,Value.int IntKind.i64 0,Value.int IntKind.i64 0,Value.int IntKind.i64 0,Value.int IntKind.i64 0,Value.int IntKind.i64 0,Value.int IntKind.i64 0,Value.int IntKind.i64 0,Value.int IntKind.i64 0,Value.int IntKind.i64 0,Value.int IntKind.i64 0,Value.int IntKind.i64 0,Value.int IntKind.i64 0,Value.int IntKind.i64 0,Value.int IntKind.i64 0,Value.int IntKind.i64 0,Value.int IntKind.i64 0,Value.int IntKind.i64 0] 29=bg:=rfl;unfold opV
 go_in
 go_upto_region 1 with fail
 have f2:(w.alloc (.cells (sw o) 26 (0,0))).heap[w.heap.size]?=some (.cells (sw o) 26 (0,0)):=gF _ _;have i1:Below w.heap.size w (w.alloc (.cells (sw o) 26 (0,0))):=(lK _ _).alloc (lF _) _;have s0:w.heap.size<(w.alloc (.cells (sw o) 26 (0,0))).heap.size:=by simp
 have f7:Hid ((w.alloc (.cells (sw o) 26 (0,0))).heap[w.heap.size]?=some (.cells (sw o) 26 (0,0))):=f2;have f5:Hid (Below w.heap.size w (w.alloc (.cells (sw o) 26 (0,0)))):=i1;have f9:Hid (w.heap.size<(w.alloc (.cells (sw o) 26 (0,0))).heap.size):=s0;have g3:(w.alloc (.cells (sw o) 26 (0,0))).cell? ⟨w.heap.size,2,none⟩=some (.string o.t):=(zB f2).1 2;have k0:(w.alloc (.cells (sw o) 26 (0,0))).frozen? ⟨w.heap.size,2,none⟩=false:=(zB f2).2 2;clear f2 i1 s0;generalize w.alloc (.cells (sw o) 26 (0,0))=Y at *
 go_upto_if 12 with fail
 go_cut [] (λb8=>b8.heap[w.heap.size]?=some (.cells (sw h) 26 (0,0))/\w.heap.size<b8.heap.size/\Below w.heap.size w b8)
 case first =>
  by_cases i3:10<o.t.size
  ·have k1:decide ((o.t.size:Int)>10)=true:=decide_eq_true (by omega);have l0:(10:Int)<=(o.t.size:Int):=by omega
   go_wp2_with fail
   go_meet
   have i6:=lX Y w.heap.size 2 _ _ (.string (o.t.extract 0 10)) f7.o;rw[i8.o i3]at i6;exact⟨i6,by simpa[World.setCell]using f9.o,f5.o.setCell (p:=⟨w.heap.size,2,none⟩) (lF _) _⟩
  ·have k1:decide ((o.t.size:Int)>10)=false:=eZ (by omega);go_wp2_with fail
   go_meet
   refine⟨?_,f9.o,f5.o⟩;rw[<-i7.o i3];exact f7.o
 case rest =>
 obtain⟨d3,c0,c5⟩:=hcut;clear f7 f5 f9 g3 k0 Y;obtain⟨Y,rfl⟩:∃Y:World,Y=wc:=⟨_,rfl⟩
 have c6:Hid (Y.heap[w.heap.size]?=some (.cells (sw h) 26 (0,0))):=d3;clear d3;go_upto_region 3 with fail
 have c8:True:=trivial;have c7:w.heap.size<Y.drew.heap.size:=c0;have d5:Y.drew.heap[w.heap.size]?=some (.cells (sw h) 26 (0,0)):=c6.o;have c9:Below w.heap.size w Y.drew:=c5.drew
 go_cut [3,4] (λs3 s4 b8=>s4=.int .i64 R.2/\∃b,s3=.pointer (some ⟨b,0,none⟩)/\b8.heap[b]?=some (.cells (xZ R.1) 29 (0,0))/\b8.heap[w.heap.size]?=some (.cells (sw h) 26 (0,0))/\w.heap.size<b/\b<b8.heap.size/\Below w.heap.size w b8)
 case first =>
  have a6:∀z:World,z.heap[w.heap.size]?=some (.cells (sw h) 26 (0,0))->z.cell? ⟨w.heap.size,1,none⟩=some (.string h.p):=λz hz=>(zB hz).1 1
  have a7:∀z:World,z.heap[w.heap.size]?=some (.cells (sw h) 26 (0,0))->z.cell? ⟨w.heap.size,2,none⟩=some (.string h.t):=λz hz=>(zB hz).1 2
  have a8:∀z:World,z.heap[w.heap.size]?=some (.cells (sw h) 26 (0,0))->z.cell? ⟨w.heap.size,3,none⟩=some (.int .i64 h.jK):=λz hz=>(zB hz).1 3
  have b3:∀z:World,z.heap[w.heap.size]?=some (.cells (sw h) 26 (0,0))->z.rangeAt w.heap.size 0 (sw h).toList:=λz hz=>xJ hz
  refine wp_region_held_drew (S:=λz:World=>z.heap[w.heap.size]?=some (.cells (sw h) 26 (0,0))) (by kernel_rfl) c6.o (λb6=>?_);refine qJ 0 18 (.pointer (some ⟨w.heap.size,1,none⟩)) rfl (by kernel_rfl) (λ_ _ _ j=>j) (λz hz=>by clear hz b6 a6 a7 a8 b3;go_simp) (by assumption) ?_;refine qJ 1 19 (.string h.p) rfl (by kernel_rfl) (λ_ _ _ j=>j) (λz hz=>by have e0:=a6 z hz;have e1:=a7 z hz;have e2:=a8 z hz;clear hz b6 a6 a7 a8 b3;go_simp) (by assumption) ?_;refine qJ 2 20 (.pointer (some ⟨w.heap.size,2,none⟩)) rfl (by kernel_rfl) (λ_ _ _ j=>j) (λz hz=>by clear hz b6 a6 a7 a8 b3;go_simp) (by assumption) ?_;refine qJ 3 21 (.string h.t) rfl (by kernel_rfl) (λ_ _ _ j=>j) (λz hz=>by have e0:=a6 z hz;have e1:=a7 z hz;have e2:=a8 z hz;clear hz b6 a6 a7 a8 b3;go_simp) (by assumption) ?_;refine qJ 4 22 (.pointer (some ⟨w.heap.size,3,none⟩)) rfl (by kernel_rfl) (λ_ _ _ j=>j) (λz hz=>by clear hz b6 a6 a7 a8 b3;go_simp) (by assumption) ?_;refine qJ 5 23 (.int .i64 h.jK) rfl (by kernel_rfl) (λ_ _ _ j=>j) (λz hz=>by have e0:=a6 z hz;have e1:=a7 z hz;have e2:=a8 z hz;clear hz b6 a6 a7 a8 b3;go_simp) (by assumption) ?_;refine MN 6 24 (opV h) rfl (by kernel_rfl) (λ_ _ _ j=>j) (yieldsIf_load_mid (by rfl) _ _ rfl _ _ rfl _ _ b3 underlying26 rfl (by rw[WT];rfl)) (by assumption) ?_;simp only[Act.put,lD,lJ,lI];clear a6 a7 a8 b3 b6;refine wpAnyH_ready (rs:=[7,12]) (by kernel_rfl) (by simp) ?_;refine AllReadyH.cons rfl (λK U=>?_) (AllReadyH.cons rfl (λK U=>?_) AllReadyH.nil)
  ·go_simp
   refine(d4.o Y.drew).mono ?_;rintro e w1 ⟨rfl,G⟩;have b7:w1.heap[w.heap.size]?=some (.cells (sw h) 26 (0,0)):=(G.block _ c7).trans d5;have a5:w.heap.size<w1.heap.size:=by have:=G.size;have:=c7;omega
   have b5:Below w.heap.size w w1:=c9.trans (G.mono (by have:=c7;have:=c9.size;omega))
   go_simp
   refine U.out _ _ b7 (λJ=>?_);clear U K;refine wpAnyH_ready (rs:=[8,12]) (by kernel_rfl) (by simp) ?_;refine AllReadyH.cons rfl (λK U=>?_) (AllReadyH.cons rfl (λK U=>?_) AllReadyH.nil)
   ·clear G J
    go_simp
    refine(e8.o w1).mono ?_;rintro e a0 ⟨rfl,G⟩;have b1:a0.heap[w.heap.size]?=some (.cells (sw h) 26 (0,0)):=(G.block _ a5).trans b7;have a2:w.heap.size<a0.heap.size:=by have:=G.size;have:=a5;omega
    have b0:Below w.heap.size w a0:=b5.trans (G.mono (by have:=a5;have:=b5.size;omega))
    go_simp
    refine U.out _ _ b1 (λJ=>?_);clear U K;refine qJ 9 17 (.tuple #[uw R.1,.int .i64 R.2]) rfl (by kernel_rfl) (λ_ _ _ j=>j) (λz hz=>by clear hz J;go_simp) (by assumption) ?_;refine qJ 10 27 (uw R.1) rfl (by kernel_rfl) (λ_ _ _ j=>j) (λz hz=>by clear hz J;go_simp) (by assumption) ?_;refine qJ 11 28 (.int .i64 R.2) rfl (by kernel_rfl) (λ_ _ _ j=>j) (λz hz=>by clear hz J;go_simp) (by assumption) ?_;simp only[Act.put,lD,lJ,lI];refine wpAnyH_ready (rs:=[12]) (by kernel_rfl) (by simp) ?_;refine AllReadyH.cons rfl (λK U=>?_) AllReadyH.nil
    go_simp
    have a3:(a0.alloc bg).heap[a0.heap.size]?=some (.cells (xZ yD) 29 (0,0)):=gF _ _;have b2:(a0.alloc bg).heap[w.heap.size]?=some (.cells (sw h) 26 (0,0)):=(kQ _ _ _ a2).trans b1;have c1:w.heap.size<=a0.heap.size:=by have:=b0.size;have:=a2;omega
    have b9:Below w.heap.size w (a0.alloc bg):=b0.alloc c1 _;refine U.out _ _ b2 (λJ=>?_);clear U K G;have d6:=a2;generalize e3:a0.heap.size=O at *;generalize a0.alloc bg=I at *;have q:=a3;refine ay 13 _ rfl rfl (by kernel_rfl) _ _ _ rfl (O) 0 (xZ R.1) (by kernel_rfl) (by kernel_rfl) (vC (zB q).1 (zB q).2 _ (by rw[kH _ a9.o,kH yD rfl];exact lF _)) (by rw[av,kH _ a9.o]) (bU _) rfl ?_;have b4:=xM q (xZ R.1) (by rw[kH _ a9.o,kH yD rfl]);have a1:=(yM (O) (xZ R.1).toList 0 I w.heap.size (by omega)).trans b2;have a4:=below_setCells (O) (xZ R.1).toList 0 I w.heap.size (by omega);have c2:(O)<I.heap.size:=(lM.1 q).1;have c3:(O)<(World.setCells I (O) 0 (xZ R.1).toList).heap.size:=by rw[a4.2];exact c2
    have c4:=b9.trans a4.1;generalize World.setCells I (O) 0 (xZ R.1).toList=d8 at *;refine⟨a1,?_⟩;have J:=a1;refine qJ 14 4 (.int .i64 R.2) rfl (by kernel_rfl) (λ_ _ _ j=>j) (λz hz=>by clear hz J;go_simp) (by assumption) ?_;simp only[Act.put,lD,lJ,lI];refine rP (by kernel_rfl) ?_ _;go_wp2_with fail
    go_meet
    exact⟨rfl,_,rfl,b4,a1,by omega,c3,c4⟩
   ·clear G J
    go_simp
    have a3:(w1.alloc bg).heap[w1.heap.size]?=some (.cells (xZ yD) 29 (0,0)):=gF _ _;have b1:(w1.alloc bg).heap[w.heap.size]?=some (.cells (sw h) 26 (0,0)):=(kQ _ _ _ a5).trans b7;have c1:w.heap.size<=w1.heap.size:=by have:=b5.size;have:=a5;omega
    have b0:Below w.heap.size w (w1.alloc bg):=b5.alloc c1 _;have g9:(w1.alloc bg).heap.size=w1.heap.size+1:=by simp
    refine U.out _ _ b1 (λJ=>?_);clear U K;have a2:w.heap.size<(w1.alloc bg).heap.size:=by rw[g9];omega
    have g2:w.heap.size<w1.heap.size:=by have:=a5;omega
    generalize g4:w1.heap.size=O at *;generalize w1.alloc bg=a0 at *;refine wpAnyH_ready (rs:=[8]) (by kernel_rfl) (by simp) ?_;refine AllReadyH.cons rfl (λK U=>?_) AllReadyH.nil;clear J
    go_simp
    refine(e8.o a0).mono ?_;rintro e I ⟨rfl,G⟩;have b2:I.heap[w.heap.size]?=some (.cells (sw h) 26 (0,0)):=(G.block _ a2).trans b1;have d6:w.heap.size<I.heap.size:=by have:=G.size;have:=a2;omega
    have b9:Below w.heap.size w I:=b0.trans (G.mono (by have:=a2;have:=b0.size;omega));have g1:I.heap[O]?=some (.cells (xZ yD) 29 (0,0)):=(G.block _ (by omega)).trans a3
    go_simp
    refine U.out _ _ b2 (λJ=>?_);clear U K;clear G a3;have a3:=g1;refine qJ 9 17 (.tuple #[uw R.1,.int .i64 R.2]) rfl (by kernel_rfl) (λ_ _ _ j=>j) (λz hz=>by clear hz J;go_simp) (by assumption) ?_;refine qJ 10 27 (uw R.1) rfl (by kernel_rfl) (λ_ _ _ j=>j) (λz hz=>by clear hz J;go_simp) (by assumption) ?_;refine qJ 11 28 (.int .i64 R.2) rfl (by kernel_rfl) (λ_ _ _ j=>j) (λz hz=>by clear hz J;go_simp) (by assumption) ?_;simp only[Act.put,lD,lJ,lI];have q:=a3;refine ay 13 _ rfl rfl (by kernel_rfl) _ _ _ rfl (O) 0 (xZ R.1) (by kernel_rfl) (by kernel_rfl) (vC (zB q).1 (zB q).2 _ (by rw[kH _ a9.o,kH yD rfl];exact lF _)) (by rw[av,kH _ a9.o]) (bU _) rfl ?_;have b4:=xM q (xZ R.1) (by rw[kH _ a9.o,kH yD rfl]);have a1:=(yM (O) (xZ R.1).toList 0 I w.heap.size (by omega)).trans b2;have a4:=below_setCells (O) (xZ R.1).toList 0 I w.heap.size (by omega);have c2:(O)<I.heap.size:=(lM.1 q).1;have c3:(O)<(World.setCells I (O) 0 (xZ R.1).toList).heap.size:=by rw[a4.2];exact c2
    have c4:=b9.trans a4.1;generalize World.setCells I (O) 0 (xZ R.1).toList=d8 at *;refine⟨a1,?_⟩;have J:=a1;refine qJ 14 4 (.int .i64 R.2) rfl (by kernel_rfl) (λ_ _ _ j=>j) (λz hz=>by clear hz J;go_simp) (by assumption) ?_;simp only[Act.put,lD,lJ,lI];refine rP (by kernel_rfl) ?_ _;go_wp2_with fail
    go_meet
    exact⟨rfl,_,rfl,b4,a1,by omega,c3,c4⟩
  ·go_simp
   have a3:(Y.alloc bg).drew.heap[Y.heap.size]?=some (.cells (xZ yD) 29 (0,0)):=gF _ _;have b7:(Y.alloc bg).drew.heap[w.heap.size]?=some (.cells (sw h) 26 (0,0)):=(kQ _ _ _ c0).trans c6.o;have c1:w.heap.size<=Y.heap.size:=by have:=c5.size;have:=c0;omega
   have b5:Below w.heap.size w (Y.alloc bg).drew:=(c5.alloc c1 _).drew;have g8:(Y.alloc bg).drew.heap.size=Y.heap.size+1:=by simp
   refine U.out _ _ b7 (λJ=>?_);clear U K;have a5:w.heap.size<(Y.alloc bg).drew.heap.size:=by rw[g8];omega
   have g2:w.heap.size<Y.heap.size:=c0;generalize g4:Y.heap.size=O at *;generalize (Y.alloc bg).drew=w1 at *;refine wpAnyH_ready (rs:=[7]) (by kernel_rfl) (by simp) ?_;refine AllReadyH.cons rfl (λK U=>?_) AllReadyH.nil;clear J
   go_simp
   refine(d4.o w1).mono ?_;rintro e a0 ⟨rfl,G⟩;have b1:a0.heap[w.heap.size]?=some (.cells (sw h) 26 (0,0)):=(G.block _ a5).trans b7;have a2:w.heap.size<a0.heap.size:=by have:=G.size;have:=a5;omega
   have b0:Below w.heap.size w a0:=b5.trans (G.mono (by have:=a5;have:=b5.size;omega));have d9:a0.heap[O]?=some (.cells (xZ yD) 29 (0,0)):=(G.block _ (by omega)).trans a3;have k4:=G.size
   go_simp
   refine U.out _ _ b1 (λJ=>?_);clear U K;clear G a3;refine wpAnyH_ready (rs:=[8]) (by kernel_rfl) (by simp) ?_;refine AllReadyH.cons rfl (λK U=>?_) AllReadyH.nil;clear J
   go_simp
   refine(e8.o a0).mono ?_;rintro e I ⟨rfl,G⟩;have b2:I.heap[w.heap.size]?=some (.cells (sw h) 26 (0,0)):=(G.block _ a2).trans b1;have d6:w.heap.size<I.heap.size:=by have:=G.size;have:=a2;omega
   have b9:Below w.heap.size w I:=b0.trans (G.mono (by have:=a2;have:=b0.size;omega));have a3:I.heap[O]?=some (.cells (xZ yD) 29 (0,0)):=(G.block _ (by omega)).trans d9
   go_simp
   refine U.out _ _ b2 (λJ=>?_);clear U K;clear G d9;refine qJ 9 17 (.tuple #[uw R.1,.int .i64 R.2]) rfl (by kernel_rfl) (λ_ _ _ j=>j) (λz hz=>by clear hz J;go_simp) (by assumption) ?_;refine qJ 10 27 (uw R.1) rfl (by kernel_rfl) (λ_ _ _ j=>j) (λz hz=>by clear hz J;go_simp) (by assumption) ?_;refine qJ 11 28 (.int .i64 R.2) rfl (by kernel_rfl) (λ_ _ _ j=>j) (λz hz=>by clear hz J;go_simp) (by assumption) ?_;simp only[Act.put,lD,lJ,lI];have q:=a3;refine ay 13 _ rfl rfl (by kernel_rfl) _ _ _ rfl (O) 0 (xZ R.1) (by kernel_rfl) (by kernel_rfl) (vC (zB q).1 (zB q).2 _ (by rw[kH _ a9.o,kH yD rfl];exact lF _)) (by rw[av,kH _ a9.o]) (bU _) rfl ?_;have b4:=xM q (xZ R.1) (by rw[kH _ a9.o,kH yD rfl]);have a1:=(yM (O) (xZ R.1).toList 0 I w.heap.size (by omega)).trans b2;have a4:=below_setCells (O) (xZ R.1).toList 0 I w.heap.size (by omega);have c2:(O)<I.heap.size:=(lM.1 q).1;have c3:(O)<(World.setCells I (O) 0 (xZ R.1).toList).heap.size:=by rw[a4.2];exact c2
   have c4:=b9.trans a4.1;generalize World.setCells I (O) 0 (xZ R.1).toList=d8 at *;refine⟨a1,?_⟩;have J:=a1;refine qJ 14 4 (.int .i64 R.2) rfl (by kernel_rfl) (λ_ _ _ j=>j) (λz hz=>by clear hz J;go_simp) (by assumption) ?_;simp only[Act.put,lD,lJ,lI];refine rP (by kernel_rfl) ?_ _;go_wp2_with fail
   go_meet
   exact⟨rfl,_,rfl,b4,a1,by omega,c3,c4⟩
 case rest =>
 obtain⟨rfl,d0,rfl,h8,d3,l3,k7,i0⟩:=hcut;obtain⟨Z,rfl⟩:∃Z:World,Z=wc:=⟨_,rfl⟩
 clear c5 c7 d5 c9 c0 c6 c8 Y;have h3:Hid (Z.heap[d0]?=some (.cells (xZ R.1) 29 (0,0))):=h8;have h5:Hid (Below w.heap.size w Z):=i0;obtain⟨Y,c8⟩:∃Y,Y=Z:=⟨_,rfl⟩
 have c6:Hid (Y.heap[w.heap.size]?=some (.cells (sw h) 26 (0,0))):=by show _=_;rw[c8];exact d3
 have c5:Below Z.heap.size Z Y:=by rw[c8];exact lK _ _
 have c0:w.heap.size<Y.heap.size:=by rw[c8];omega
 have c7:w.heap.size<Y.drew.heap.size:=c0;have d5:Y.drew.heap[w.heap.size]?=some (.cells (sw h) 26 (0,0)):=c6.o;have c9:Below Z.heap.size Z Y.drew:=c5.drew;rw[<-c8];have j1:Hid (Y=Z):=c8;have h4:Hid (Z.heap[w.heap.size]?=some (.cells (sw h) 26 (0,0))):=d3;have h6:Hid (w.heap.size<Z.heap.size):=by show _<_;omega
 clear h8 d3 i0 c8;go_upto_region 4 with fail
 go_cut [5,6] (λs5 s6 b8=>s6=.int .i64 R.2/\∃b,s5=.pointer (some ⟨b,0,none⟩)/\b8.heap[b]?=some (.cells (xZ R.1) 29 (0,0))/\Z.heap.size<=b/\b<b8.heap.size/\Below Z.heap.size Z b8)
 case first =>
  have a6:∀z:World,z.heap[w.heap.size]?=some (.cells (sw h) 26 (0,0))->z.cell? ⟨w.heap.size,1,none⟩=some (.string h.p):=λz hz=>(zB hz).1 1
  have a7:∀z:World,z.heap[w.heap.size]?=some (.cells (sw h) 26 (0,0))->z.cell? ⟨w.heap.size,2,none⟩=some (.string h.t):=λz hz=>(zB hz).1 2
  have a8:∀z:World,z.heap[w.heap.size]?=some (.cells (sw h) 26 (0,0))->z.cell? ⟨w.heap.size,3,none⟩=some (.int .i64 h.jK):=λz hz=>(zB hz).1 3
  have b3:∀z:World,z.heap[w.heap.size]?=some (.cells (sw h) 26 (0,0))->z.rangeAt w.heap.size 0 (sw h).toList:=λz hz=>xJ hz
  refine wp_region_held_drew (S:=λz:World=>z.heap[w.heap.size]?=some (.cells (sw h) 26 (0,0))) (by kernel_rfl) c6.o (λb6=>?_);refine qJ 0 30 (.pointer (some ⟨w.heap.size,1,none⟩)) rfl (by kernel_rfl) (λ_ _ _ j=>j) (λz hz=>by clear hz b6 a6 a7 a8 b3;go_simp) (by assumption) ?_;refine qJ 1 31 (.string h.p) rfl (by kernel_rfl) (λ_ _ _ j=>j) (λz hz=>by have e0:=a6 z hz;have e1:=a7 z hz;have e2:=a8 z hz;clear hz b6 a6 a7 a8 b3;go_simp) (by assumption) ?_;refine qJ 2 32 (.pointer (some ⟨w.heap.size,2,none⟩)) rfl (by kernel_rfl) (λ_ _ _ j=>j) (λz hz=>by clear hz b6 a6 a7 a8 b3;go_simp) (by assumption) ?_;refine qJ 3 33 (.string h.t) rfl (by kernel_rfl) (λ_ _ _ j=>j) (λz hz=>by have e0:=a6 z hz;have e1:=a7 z hz;have e2:=a8 z hz;clear hz b6 a6 a7 a8 b3;go_simp) (by assumption) ?_;refine qJ 4 34 (.pointer (some ⟨w.heap.size,3,none⟩)) rfl (by kernel_rfl) (λ_ _ _ j=>j) (λz hz=>by clear hz b6 a6 a7 a8 b3;go_simp) (by assumption) ?_;refine qJ 5 35 (.int .i64 h.jK) rfl (by kernel_rfl) (λ_ _ _ j=>j) (λz hz=>by have e0:=a6 z hz;have e1:=a7 z hz;have e2:=a8 z hz;clear hz b6 a6 a7 a8 b3;go_simp) (by assumption) ?_;refine MN 6 36 (opV h) rfl (by kernel_rfl) (λ_ _ _ j=>j) (yieldsIf_load_mid (by rfl) _ _ rfl _ _ rfl _ _ b3 underlying26 rfl (by rw[WT];rfl)) (by assumption) ?_;simp only[Act.put,lD,lJ,lI];clear a6 a7 a8 b3 b6;refine wpAnyH_ready (rs:=[7,12]) (by kernel_rfl) (by simp) ?_;refine AllReadyH.cons rfl (λK U=>?_) (AllReadyH.cons rfl (λK U=>?_) AllReadyH.nil)
  ·go_simp
   refine(d4.o Y.drew).mono ?_;rintro e w1 ⟨rfl,G⟩;have b7:w1.heap[w.heap.size]?=some (.cells (sw h) 26 (0,0)):=(G.block _ c7).trans d5;have a5:w.heap.size<w1.heap.size:=by have:=G.size;have:=c7;omega
   have b5:Below Z.heap.size Z w1:=c9.trans (G.mono (by have:=c7;have:=c9.size;omega))
   go_simp
   refine U.out _ _ b7 (λJ=>?_);clear U K;refine wpAnyH_ready (rs:=[8,12]) (by kernel_rfl) (by simp) ?_;refine AllReadyH.cons rfl (λK U=>?_) (AllReadyH.cons rfl (λK U=>?_) AllReadyH.nil)
   ·clear G J
    go_simp
    refine(e9.o w1).mono ?_;rintro e a0 ⟨rfl,G⟩;have b1:a0.heap[w.heap.size]?=some (.cells (sw h) 26 (0,0)):=(G.block _ a5).trans b7;have a2:w.heap.size<a0.heap.size:=by have:=G.size;have:=a5;omega
    have b0:Below Z.heap.size Z a0:=b5.trans (G.mono (by have:=a5;have:=b5.size;omega))
    go_simp
    refine U.out _ _ b1 (λJ=>?_);clear U K;refine qJ 9 29 (.tuple #[uw R.1,.int .i64 R.2]) rfl (by kernel_rfl) (λ_ _ _ j=>j) (λz hz=>by clear hz J;go_simp) (by assumption) ?_;refine qJ 10 39 (uw R.1) rfl (by kernel_rfl) (λ_ _ _ j=>j) (λz hz=>by clear hz J;go_simp) (by assumption) ?_;refine qJ 11 40 (.int .i64 R.2) rfl (by kernel_rfl) (λ_ _ _ j=>j) (λz hz=>by clear hz J;go_simp) (by assumption) ?_;simp only[Act.put,lD,lJ,lI];refine wpAnyH_ready (rs:=[12]) (by kernel_rfl) (by simp) ?_;refine AllReadyH.cons rfl (λK U=>?_) AllReadyH.nil
    go_simp
    have a3:(a0.alloc bg).heap[a0.heap.size]?=some (.cells (xZ yD) 29 (0,0)):=gF _ _;have b2:(a0.alloc bg).heap[w.heap.size]?=some (.cells (sw h) 26 (0,0)):=(kQ _ _ _ a2).trans b1;have c1:Z.heap.size<=a0.heap.size:=by have:=b0.size;have:=a2;omega
    have b9:Below Z.heap.size Z (a0.alloc bg):=b0.alloc c1 _;refine U.out _ _ b2 (λJ=>?_);clear U K G;have d6:=a2;generalize e3:a0.heap.size=O at *;generalize a0.alloc bg=I at *;have q:=a3;refine ay 13 _ rfl rfl (by kernel_rfl) _ _ _ rfl (O) 0 (xZ R.1) (by kernel_rfl) (by kernel_rfl) (vC (zB q).1 (zB q).2 _ (by rw[kH _ a9.o,kH yD rfl];exact lF _)) (by rw[av,kH _ a9.o]) (bU _) rfl ?_;have b4:=xM q (xZ R.1) (by rw[kH _ a9.o,kH yD rfl]);have a1:=(yM (O) (xZ R.1).toList 0 I w.heap.size (by omega)).trans b2;have a4:=below_setCells (O) (xZ R.1).toList 0 I Z.heap.size (by omega);have c2:(O)<I.heap.size:=(lM.1 q).1;have c3:(O)<(World.setCells I (O) 0 (xZ R.1).toList).heap.size:=by rw[a4.2];exact c2
    have c4:=b9.trans a4.1;generalize World.setCells I (O) 0 (xZ R.1).toList=d8 at *;refine⟨a1,?_⟩;have J:=a1;refine qJ 14 6 (.int .i64 R.2) rfl (by kernel_rfl) (λ_ _ _ j=>j) (λz hz=>by clear hz J;go_simp) (by assumption) ?_;simp only[Act.put,lD,lJ,lI];refine rP (by kernel_rfl) ?_ _;go_wp2_with fail
    go_meet
    exact⟨rfl,_,rfl,b4,by omega,c3,c4⟩
   ·clear G J
    go_simp
    have a3:(w1.alloc bg).heap[w1.heap.size]?=some (.cells (xZ yD) 29 (0,0)):=gF _ _;have b1:(w1.alloc bg).heap[w.heap.size]?=some (.cells (sw h) 26 (0,0)):=(kQ _ _ _ a5).trans b7;have c1:Z.heap.size<=w1.heap.size:=by have:=b5.size;have:=a5;omega
    have b0:Below Z.heap.size Z (w1.alloc bg):=b5.alloc c1 _;have g9:(w1.alloc bg).heap.size=w1.heap.size+1:=by simp
    refine U.out _ _ b1 (λJ=>?_);clear U K;have a2:w.heap.size<(w1.alloc bg).heap.size:=by rw[g9];omega
    have g2:w.heap.size<w1.heap.size:=by have:=a5;omega
    generalize g4:w1.heap.size=O at *;generalize w1.alloc bg=a0 at *;refine wpAnyH_ready (rs:=[8]) (by kernel_rfl) (by simp) ?_;refine AllReadyH.cons rfl (λK U=>?_) AllReadyH.nil;clear J
    go_simp
    refine(e9.o a0).mono ?_;rintro e I ⟨rfl,G⟩;have b2:I.heap[w.heap.size]?=some (.cells (sw h) 26 (0,0)):=(G.block _ a2).trans b1;have d6:w.heap.size<I.heap.size:=by have:=G.size;have:=a2;omega
    have b9:Below Z.heap.size Z I:=b0.trans (G.mono (by have:=a2;have:=b0.size;omega));have g1:I.heap[O]?=some (.cells (xZ yD) 29 (0,0)):=(G.block _ (by omega)).trans a3
    go_simp
    refine U.out _ _ b2 (λJ=>?_);clear U K;clear G a3;have a3:=g1;refine qJ 9 29 (.tuple #[uw R.1,.int .i64 R.2]) rfl (by kernel_rfl) (λ_ _ _ j=>j) (λz hz=>by clear hz J;go_simp) (by assumption) ?_;refine qJ 10 39 (uw R.1) rfl (by kernel_rfl) (λ_ _ _ j=>j) (λz hz=>by clear hz J;go_simp) (by assumption) ?_;refine qJ 11 40 (.int .i64 R.2) rfl (by kernel_rfl) (λ_ _ _ j=>j) (λz hz=>by clear hz J;go_simp) (by assumption) ?_;simp only[Act.put,lD,lJ,lI];have q:=a3;refine ay 13 _ rfl rfl (by kernel_rfl) _ _ _ rfl (O) 0 (xZ R.1) (by kernel_rfl) (by kernel_rfl) (vC (zB q).1 (zB q).2 _ (by rw[kH _ a9.o,kH yD rfl];exact lF _)) (by rw[av,kH _ a9.o]) (bU _) rfl ?_;have b4:=xM q (xZ R.1) (by rw[kH _ a9.o,kH yD rfl]);have a1:=(yM (O) (xZ R.1).toList 0 I w.heap.size (by omega)).trans b2;have a4:=below_setCells (O) (xZ R.1).toList 0 I Z.heap.size (by omega);have c2:(O)<I.heap.size:=(lM.1 q).1;have c3:(O)<(World.setCells I (O) 0 (xZ R.1).toList).heap.size:=by rw[a4.2];exact c2
    have c4:=b9.trans a4.1;generalize World.setCells I (O) 0 (xZ R.1).toList=d8 at *;refine⟨a1,?_⟩;have J:=a1;refine qJ 14 6 (.int .i64 R.2) rfl (by kernel_rfl) (λ_ _ _ j=>j) (λz hz=>by clear hz J;go_simp) (by assumption) ?_;simp only[Act.put,lD,lJ,lI];refine rP (by kernel_rfl) ?_ _;go_wp2_with fail
    go_meet
    exact⟨rfl,_,rfl,b4,by omega,c3,c4⟩
  ·go_simp
   have a3:(Y.alloc bg).drew.heap[Y.heap.size]?=some (.cells (xZ yD) 29 (0,0)):=gF _ _;have b7:(Y.alloc bg).drew.heap[w.heap.size]?=some (.cells (sw h) 26 (0,0)):=(kQ _ _ _ c0).trans c6.o;have c1:Z.heap.size<=Y.heap.size:=by have:=c5.size;have:=c0;omega
   have b5:Below Z.heap.size Z (Y.alloc bg).drew:=(c5.alloc c1 _).drew;have g8:(Y.alloc bg).drew.heap.size=Y.heap.size+1:=by simp
   refine U.out _ _ b7 (λJ=>?_);clear U K;have a5:w.heap.size<(Y.alloc bg).drew.heap.size:=by rw[g8];omega
   have g2:w.heap.size<Y.heap.size:=c0;generalize g4:Y.heap.size=O at *;generalize (Y.alloc bg).drew=w1 at *;refine wpAnyH_ready (rs:=[7]) (by kernel_rfl) (by simp) ?_;refine AllReadyH.cons rfl (λK U=>?_) AllReadyH.nil;clear J
   go_simp
   refine(d4.o w1).mono ?_;rintro e a0 ⟨rfl,G⟩;have b1:a0.heap[w.heap.size]?=some (.cells (sw h) 26 (0,0)):=(G.block _ a5).trans b7;have a2:w.heap.size<a0.heap.size:=by have:=G.size;have:=a5;omega
   have b0:Below Z.heap.size Z a0:=b5.trans (G.mono (by have:=a5;have:=b5.size;omega));have d9:a0.heap[O]?=some (.cells (xZ yD) 29 (0,0)):=(G.block _ (by omega)).trans a3;have k4:=G.size
   go_simp
   refine U.out _ _ b1 (λJ=>?_);clear U K;clear G a3;refine wpAnyH_ready (rs:=[8]) (by kernel_rfl) (by simp) ?_;refine AllReadyH.cons rfl (λK U=>?_) AllReadyH.nil;clear J
   go_simp
   refine(e9.o a0).mono ?_;rintro e I ⟨rfl,G⟩;have b2:I.heap[w.heap.size]?=some (.cells (sw h) 26 (0,0)):=(G.block _ a2).trans b1;have d6:w.heap.size<I.heap.size:=by have:=G.size;have:=a2;omega
   have b9:Below Z.heap.size Z I:=b0.trans (G.mono (by have:=a2;have:=b0.size;omega));have a3:I.heap[O]?=some (.cells (xZ yD) 29 (0,0)):=(G.block _ (by omega)).trans d9
   go_simp
   refine U.out _ _ b2 (λJ=>?_);clear U K;clear G d9;refine qJ 9 29 (.tuple #[uw R.1,.int .i64 R.2]) rfl (by kernel_rfl) (λ_ _ _ j=>j) (λz hz=>by clear hz J;go_simp) (by assumption) ?_;refine qJ 10 39 (uw R.1) rfl (by kernel_rfl) (λ_ _ _ j=>j) (λz hz=>by clear hz J;go_simp) (by assumption) ?_;refine qJ 11 40 (.int .i64 R.2) rfl (by kernel_rfl) (λ_ _ _ j=>j) (λz hz=>by clear hz J;go_simp) (by assumption) ?_;simp only[Act.put,lD,lJ,lI];have q:=a3;refine ay 13 _ rfl rfl (by kernel_rfl) _ _ _ rfl (O) 0 (xZ R.1) (by kernel_rfl) (by kernel_rfl) (vC (zB q).1 (zB q).2 _ (by rw[kH _ a9.o,kH yD rfl];exact lF _)) (by rw[av,kH _ a9.o]) (bU _) rfl ?_;have b4:=xM q (xZ R.1) (by rw[kH _ a9.o,kH yD rfl]);have a1:=(yM (O) (xZ R.1).toList 0 I w.heap.size (by omega)).trans b2;have a4:=below_setCells (O) (xZ R.1).toList 0 I Z.heap.size (by omega);have c2:(O)<I.heap.size:=(lM.1 q).1;have c3:(O)<(World.setCells I (O) 0 (xZ R.1).toList).heap.size:=by rw[a4.2];exact c2
   have c4:=b9.trans a4.1;generalize World.setCells I (O) 0 (xZ R.1).toList=d8 at *;refine⟨a1,?_⟩;have J:=a1;refine qJ 14 6 (.int .i64 R.2) rfl (by kernel_rfl) (λ_ _ _ j=>j) (λz hz=>by clear hz J;go_simp) (by assumption) ?_;simp only[Act.put,lD,lJ,lI];refine rP (by kernel_rfl) ?_ _;go_wp2_with fail
   go_meet
   exact⟨rfl,_,rfl,b4,by omega,c3,c4⟩
 case rest =>
 obtain⟨rfl,k9,rfl,j6,l4,l5,f0⟩:=hcut;have d7:Hid (wc.heap[d0]?=some (.cells (xZ R.1) 29 (0,0))):=(f0.block _ k7).trans h3.o;have f1:Hid (wc.heap[w.heap.size]?=some (.cells (sw h) 26 (0,0))):=(f0.block _ h6.o).trans h4.o;have f3:Hid (Below w.heap.size w wc):=h5.o.trans (f0.mono (by have:=h6.o;omega));have i5:w.heap.size<=wc.heap.size:=f3.o.size;clear j6 f0 h3 h5 c9 d5 c7 c0 c5 c6 j1 e8 e9 d4 h4;have l6:(R.2 != R.2)=false:=by simp
 cases i4:(R.2 != 0)
 ·have f8:R.2=0:=by simpa using i4
  obtain⟨jK,k2,M,g7,g0,h7⟩:=h2.o f8;have f6:Hid (M.at'.length=20):=g0.1;have j2:Hid (∀z:World,CT 14 #[.string h.p,.string h.t,.int .i64 h.jK] z λe w'=>e=.returned (.tuple #[uw M,.bool g7])/\Below z.heap.size z w'):=g0.2;have j8:wc.cell? ⟨w.heap.size,1,none⟩=some (.string h.p):=(zB f1.o).1 1;have g3:wc.cell? ⟨w.heap.size,2,none⟩=some (.string h.t):=(zB f1.o).1 2;have j9:wc.cell? ⟨w.heap.size,3,none⟩=some (.int .i64 h.jK):=(zB f1.o).1 3;have h1:Hid (g7=true->∀z:World,CT 15 #[uw R.1,uw M] z λe w'=>e=.returned (.bool true)/\Below z.heap.size z w'):=h7;have k8:Hid (R.2=0):=f8;clear h2 g0 h7 f8 k2;go_wp2_with fail
  refine(j2.o wc).mono ?_;rintro e I ⟨rfl,e3⟩;have h9:Hid (I.heap[d0]?=some (.cells (xZ R.1) 29 (0,0))):=(e3.block _ (lM.1 d7.o).1).trans d7.o;have d1:Hid (Below w.heap.size w I):=f3.o.trans (e3.mono i5);have k6:d0<I.heap.size:=(lM.1 h9.o).1;clear e3 j8 g3 j9 f1 d7;unfold uw;cases g7
  ·go_wp2_with (first|(refine qY (by rfl) (.tmp 7) (.tmp 57) (by rfl) I.heap.size (xZ M) (by rfl) (by rfl) (by exact gF _ _) (by rfl) (kH _ f6.o) (bU _) ?_;intro e6 b4 a1 g6 a4;have e7:Hid (Below w.heap.size w e6):=(d1.o.alloc d1.o.size _).trans (a4 _ d1.o.size);clear b4 a1 g6 a4) | fail)
   go_ret;exact⟨jM (by simp),e7.o⟩
  ·have d2:=h1.o rfl;unfold uw at d2;have j4:Hid (∀z:World,CT 15 #[.agg (xZ R.1),.agg (xZ M)] z λe w'=>e=.returned (.bool true)/\Below z.heap.size z w'):=d2;clear d2 h1;go_wp2_with (first|(refine qY (by rfl) (.tmp 7) (.tmp 57) (by rfl) I.heap.size (xZ M) (by rfl) (by rfl) (by exact gF _ _) (by rfl) (kH _ f6.o) (bU _) ?_;intro e6 b4 a1 g6 a4;have e7:Hid (Below w.heap.size w e6):=(d1.o.alloc d1.o.size _).trans (a4 _ d1.o.size);have j5:Hid (e6.heap[I.heap.size]?=some (.cells (xZ M) 29 (0,0))):=b4;have j7:Hid (e6.heap[d0]?=some (.cells (xZ R.1) 29 (0,0))):=(a1 _ (by omega)).trans ((kQ _ _ _ k6).trans h9.o);clear b4 a1 g6 a4)|(refine GN (by kernel_rfl) (.tmp 3) (by rfl) d0 (by rfl) (by exact j7.o) (kH _ a9.o) ?_)|(refine GN (by kernel_rfl) (.tmp 7) (by rfl) I.heap.size (by rfl) (by exact j5.o) (kH _ f6.o) ?_) | fail)
   refine(j4.o _).mono ?_;rintro e h0 ⟨rfl,e4⟩;have f4:Below w.heap.size w h0:=e7.o.trans (e4.mono e7.o.size);clear e4;go_wp2_with fail
   go_ret;exact⟨jM (by simp),f4⟩
 ·have j0:Hid (R.2≠0):=by show _≠_;simpa using i4
  have i2:R.1=yD:=i9.o j0.o;rw[i2]at d7;have d2:Hid (∀z:World,CT 13 #[uw yD,uw yD] z λe w'=>e=.returned (.bool true)/\Below z.heap.size z w'):=λz=>Mg yD rfl z
  clear i2;unfold uw at d2;go_wp2_with (first|(refine tK (by rfl) (.tmp 3) (by rfl) d0 (by rfl) (by exact d7.o) (by rfl) ?_) | fail)
  refine(d2.o _).mono ?_;rintro e h0 ⟨rfl,e4⟩;have f4:Below w.heap.size w h0:=f3.o.trans (e4.mono i5);clear e4;go_wp2_with fail
  go_ret;exact⟨jM (by simp),f4⟩
open Go.ChangeShapes Go.WideShapes Go.ChangeAt Go.RowKit _root_.Go.Proofs.Tryz Mt
theorem Zd:prog.cellsOf 3=1:=by kernel_rfl
theorem Ze:prog.cellsOf 9=1:=by kernel_rfl
theorem zB2:prog.cellsOf 26=8:=by kernel_rfl
theorem zFg:laidOutB prog=true:=by kernel_rfl
section
variable {H:Type} {enc:TypeId × Value->H} {W:World}
theorem Zf{n}{cs}{x}(b7:DataW.trod enc prog W 0 (λ_=>true) true n 26 cs=some x):∃o,cs=(sw o).toList/\o.p.size<=maxLen/\o.t.size<=maxLen:=by
 obtain⟨xs,k,b9,c0,a8,b8,h⟩:=DataW.trod_struct underlying26 b7;rw[zB2]at a8
 match cs,a8 with
 | [v0,v1,v2,v3,v4,v5,v6,v7],_ =>
  match xs,b8 with
  | [y0,y1,y2,y3,y4,y5,y6,y7],_ =>
   have a0:=h 0 _ rfl;have a1:=h 1 _ rfl;have a2:=h 2 _ rfl;have a3:=h 3 _ rfl;have a4:=h 4 _ rfl;have a5:=h 5 _ rfl;have a6:=h 6 _ rfl;have a7:=h 7 _ rfl;simp[Zd,Ze]at a0 a1 a2 a3 a4 a5 a6 a7;obtain⟨a9,j,_,_⟩:=iN underlying3 a0;obtain⟨b0,G,_,s1⟩:=DataW.trod_string underlying9 a1;obtain⟨b1,I,_,s2⟩:=DataW.trod_string underlying9 a2;obtain⟨b2,J,_,_⟩:=iN underlying3 a3;obtain⟨b3,O,_,_⟩:=iN underlying3 a4;obtain⟨b4,U,_,_⟩:=iN underlying3 a5;obtain⟨b5,Y,_,_⟩:=iN underlying3 a6;obtain⟨b6,Z,_,_⟩:=iN underlying3 a7;simp only[eY,wJ]at j G I J O U Y Z;subst j G I J O U Y Z;exact⟨⟨a9,b0,b1,b2,b3,b4,b5,b6⟩,rfl,s1,s2⟩
end
