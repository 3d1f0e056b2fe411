import Derived.Test.YtebpgfodelggoabGreatKC19
import Derived.Test.YtebpgfodelggoabGreatKC20
import Derived.Great.BuildSlice
import Derived.Test.YtebpgfodelggoabGreatKC12
import Derived.Deep.DeepCutAuto
set_option linter.unusedVariables false
set_option linter.unusedSimpArgs false
set_option maxRecDepth 100000
set_option maxHeartbeats 8000000
namespace Go.Proofs.YtebpgfodelggoabGreat
open Go.RowKit
theorem Tryz.infoF:(Tryz.prog.info? 57).map (λi=>(i.zero,i.size,i.bytes))=some (some (.agg (fdA Mt.vJ)),22,176):=by kernel_rfl
def fdL(f:Mt.Fnd):List Value:=Value.bool f.ok::(f.at'.map (Value.int .i64)++[Value.int .i64 f.steps])
theorem zBr(f:Mt.Fnd)(h:f.at'.length=20):(fdL f).length=22:=by simp[fdL,h]
theorem zLz(f:Mt.Fnd):∀u∈fdL f,u.oneCell'=true:=by
 intro u hu;simp only[fdL,List.mem_cons,List.mem_append,List.mem_map,List.not_mem_nil,or_false]at hu;rcases hu with rfl | ⟨x,_,rfl⟩ | rfl <;> rfl
def pX(w:World)(base:Nat)(v:Value)(l:List Mt.Fnd):Prop:=w.ownsRow base 57 22 v l.length (l.flatMap fdL)
theorem bP(f:Mt.Fnd)(h:f.at'.length=20):(fdA f)[0]?=some (.bool f.ok)/\(fdA f)[1]?=some (.int .i64 (f.at'.getD 0 0))/\(fdA f)[2]?=some (.int .i64 (f.at'.getD 1 0))/\(fdA f)[21]?=some (.int .i64 f.steps):=by
 obtain⟨a0,a1,a2,a3,a4,a5,a6,a7,a8,a9,a10,a11,a12,a13,a14,a15,a16,a17,a18,a19,e⟩:=zNF h;obtain⟨ok,l,st⟩:=f;dsimp only at e;subst e;exact⟨rfl,rfl,rfl,rfl⟩
theorem zPk(f:Mt.Fnd)(h:f.at'.length=20):Instr.fill (λi=>some (i*22,22)) ((Array.range (1*22)).map ((Value.agg (fdA Mt.vJ)).cells[· % (Value.agg (fdA Mt.vJ)).cells.size]!)) [(0,.agg (fdA f))]=some (fdA f):=by
 obtain⟨a0,a1,a2,a3,a4,a5,a6,a7,a8,a9,a10,a11,a12,a13,a14,a15,a16,a17,a18,a19,e⟩:=zNF h;obtain⟨ok,l,st⟩:=f;dsimp only at e;subst e;kernel_rfl
theorem zAD{ops:Array Oper}{rest:List Oper}{o:Oper}{a:Act}{w:World}{Q:Exit->Act->World->Prop}(hg:o.guard=none)(x:Operand)(ho:o.op=.buildSlice 64 1 #[(0,x)])(f:Mt.Fnd)(hf:f.at'.length=20)(hx:a.eval x=.agg (fdA f))
  (h:wpList Tryz.prog ops Q rest (a.put o.dst (.slice (some ⟨w.heap.size,0,none⟩) 1 1)) (w.alloc (.cells (fdL f).toArray 57))):wpList Tryz.prog ops Q (o::rest) a w:=by
 obtain⟨i0,hi,hz0,hz1,hz2⟩:=info_parts Tryz.infoF;refine wpList_buildSlice hg 64 57 1 _ ho (fdA f) i0 _ Tryz.underlying64 hi hz0 (by rw[hz1];decide) (by rw[hz1];decide) ?_ h;rw[hz1];simp only[List.map_toArray,List.map_cons,List.map_nil,hx];exact zPk f hf
theorem zCE{w:World}{base:Nat}{v:Value}{l:List Mt.Fnd}{t:Mt.Fnd}(h:w.ownsRow base 57 22 v (l.length+1) (l.flatMap fdL++fdL t)):pX w base v (l++[t]):=by
 unfold pX;rw[lM,List.flatMap_append];simpa using h
def zRr(w0:World)(gc cc:Nat)(c:List Mt.zTG)(zK:ByteArray)(zB zI zD zA:Int)(R:List Mt.Fnd × Int × Int)(v u i:Value)(wr:World):Prop :=
 ∃(F zTE:Nat) (qE:Int) (l:List Mt.Fnd),i=.int .i64 zTE/\u=.int .i64 qE/\zTE<=zK.size+1/\zK.size+2<=zTE+F/\l.length<=zTE/\(0<=qE/\qE<=zA)/\pX wr w0.heap.size v l/\Below w0.heap.size w0 wr
  /\ R=Mt.xO c zK zB zI zD zA F zTE qE l
theorem zEp(p zK:ByteArray)(zB zI zD zA:Int)(w:World)(hp:p.size<=maxLen)(ht:zK.size<=maxLen) :
  Calls Tryz.prog 31 #[.string p,.string zK,.agg #[.int .i64 zB,.int .i64 zI,.int .i64 zD,.int .i64 zA]] w λe w' =>
   ∃v,e=.returned (.tuple #[v,.int .i64 (Mt.qL p zK zB zI zD zA).2.1,.int .i64 (Mt.qL p zK zB zI zD zA).2.2])/\pX w' w.heap.size v (Mt.qL p zK zB zI zD zA).1/\Below w.heap.size w w':=by
 have KC:Hid (∀z:World,Calls Tryz.prog 19 #[.string p] z λe w'=>∃v,e=.returned (.tuple #[v,.int .i64 (Mt.kC p).2])/\zF w' 0 v (Mt.kC p).1/\Below z.heap.size z w'):=λz=>nO p z hp
 have KM:Hid (∀z:World,Calls Tryz.prog 49 #[.string zK,.int .i64 0,.agg #[.int .i64 zB,.int .i64 zI,.int .i64 zD,.int .i64 zA]] z λe w'=>e=.returned (.int .i64 (Mt.xW zK.size 0 zB zI zD zA))/\Below z.heap.size z w'):=λz=>zDI zK 0 zB zI zD zA z ht
 have hcf:=Mt.bN p;have hen:=zLy p zK;unfold Mt.qL;generalize hC:Mt.kC p=C at *
 have hmf:Mt.xW zK.size 0 zB zI zD zA=0->zK.size<=60/\(0<=zI/\zI<=4294967295)/\(0<=zD/\zD<=5000)/\(0<=zA/\zA<=10000):=by
  intro h;unfold Mt.xW at h;split at h
  ·omega
  split at h
  ·rename_i h1 h2
   obtain⟨hs,h3,h4,h5,h6,h7,h8⟩:=h2;unfold Mt.kF at hs;simp only[decide_eq_true_eq]at hs;omega
  ·omega
 generalize hM:Mt.xW zK.size 0 zB zI zD zA=M at *;have hzf:Obj.cells #[Value.bool false,Value.int IntKind.i64 0,Value.int IntKind.i64 0,Value.int IntKind.i64 0,Value.int IntKind.i64 0,Value.int IntKind.i64 0,Value.int IntKind.i64 0,Value.int IntKind.i64 0,Value.int IntKind.i64 0,Value.int IntKind.i64 0,Value.int IntKind.i64 0,Value.int IntKind.i64 0,Value.int IntKind.i64 0,Value.int IntKind.i64 0,Value.int IntKind.i64 0,Value.int IntKind.i64 0,Value.int IntKind.i64 0,Value.int IntKind.i64 0,Value.int IntKind.i64 0,Value.int IntKind.i64 0,Value.int IntKind.i64 0,Value.int IntKind.i64 0] 57=zFd:=rfl;clear hC hM;cases he:(C.2 != 0)
 ·have hc0:C.2=0:=by simpa using he
  rw[if_neg (by simpa using he)];cases hm:(M != 0)
  ·have hm0:M=0:=by simpa using hm
   rw[if_neg (by simpa using hm)];obtain⟨b1,b3,b4,b5⟩:=hmf hm0;obtain⟨hE,hcl⟩:=hen hc0 b1;obtain⟨R,hR⟩:∃R,R=Mt.xO C.1 zK zB zI zD zA (zK.size+2) 0 0 []:=⟨_,rfl⟩
   rw[<-hR];have HR:Hid (R=Mt.xO C.1 zK zB zI zD zA (zK.size+2) 0 0 []):=hR;have HE:Hid (zDz C.1 zK (jU C.1 C.1.length)):=hE;have zQB:Hid (Mt.fit 100000000 C.1/\C.1.length<=300):=hcf;have HB:Hid (0<=zA/\zA<=10000):=b5;have HBR:Hid (0<=zD/\zD<=5000):=b4;have HBM:Hid (0<=zI/\zI<=4294967295):=b3;have HCL:Hid (0<C.1.length):=hcl;have hT:=b1
   have hSr:∀(b:Int) (zTE:Nat) (wb gc gi ga gk cc ci ca ck:Nat) (z:World),0<=b->b<=10000->zTE<=zK.size->zU z wb gc gi ga gk cc ci ca ck C.1 zK (Mt.jD C.1 zB zI) (jU C.1 C.1.length) b (List.replicate (C.1.length*(zK.size+1)*12) false) zD 0 false ->
     Calls Tryz.prog 51 #[.pointer (some ⟨wb,0,none⟩),.int .i64 zTE] z λe w'=>e=.returned (fdV (Mt.kP C.1 zK zB zI zD b zTE).1)/\Keep wb gk z w'/\∃zTN zX pW,zU w' wb gc gi ga gk cc ci ca ck C.1 zK (Mt.jD C.1 zB zI) (jU C.1 C.1.length) b zTN zX pW (Mt.kP C.1 zK zB zI zD b zTE).2:=by
    intro b zTE wb gc gi ga gk cc ci ca ck z h0 h1 hf hz;have hb:(b.toNat:Int)=b:=by omega
    exact zEN wb gc gi ga gk cc ci ca ck C.1 zK (Mt.jD C.1 zB zI) (jU C.1 C.1.length) b hE hcl h0 h1 (λn hn=>zFv wb gc gi ga gk cc ci ca ck C.1 zK _ _ b hE h0 h1 n n (lG _) hn) z zTE b.toNat (List.replicate (C.1.length*(zK.size+1)*12) false) zD hf (by rw[hb,Int.sub_self];exact hz) (by omega) (by simp) b4
   have HSr:Hid (∀(b:Int) (zTE:Nat) (wb gc gi ga gk cc ci ca ck:Nat) (z:World),0<=b->b<=10000->zTE<=zK.size->zU z wb gc gi ga gk cc ci ca ck C.1 zK (Mt.jD C.1 zB zI) (jU C.1 C.1.length) b (List.replicate (C.1.length*(zK.size+1)*12) false) zD 0 false ->
     Calls Tryz.prog 51 #[.pointer (some ⟨wb,0,none⟩),.int .i64 zTE] z λe w'=>e=.returned (fdV (Mt.kP C.1 zK zB zI zD b zTE).1)/\Keep wb gk z w'/\∃zTN zX pW,zU w' wb gc gi ga gk cc ci ca ck C.1 zK (Mt.jD C.1 zB zI) (jU C.1 C.1.length) b zTN zX pW (Mt.kP C.1 zK zB zI zD b zTE).2):=hSr
   have HLn:Hid (∀(b:Int) (zTE:Nat),zTE<=zK.size->(Mt.kP C.1 zK zB zI zD b zTE).1.at'.length=20):=λb zTE hf=>zAV (Mt.wJ C.1 zK zB zI) hE.ok hcl b _ _ _ _ _ (by show _<=zK.size+1;omega) b4
   have HIn:Hid (∀(b:Int) (zTE:Nat),0<=b->zTE<=zK.size->(Mt.kP C.1 zK zB zI zD b zTE).2=false->(0<=(Mt.kP C.1 zK zB zI zD b zTE).1.steps/\(Mt.kP C.1 zK zB zI zD b zTE).1.steps<=b)/\((Mt.kP C.1 zK zB zI zD b zTE).1.ok=true->∃x y:Nat,(Mt.kP C.1 zK zB zI zD b zTE).1.at'.getD 0 0=(x:Int)/\(Mt.kP C.1 zK zB zI zD b zTE).1.at'.getD 1 0=(y:Int)/\zTE<=x/\x<=y/\y<=zK.size)):=λb zTE h0 hf ho=>Mt.zBM (Mt.wJ C.1 zK zB zI) hE.ok hcl b _ _ _ _ _ (by show _<=zK.size+1;omega) b4 (by omega) ho
   obtain⟨i0,hi,hz0,hz1,hz2⟩:=info_parts Tryz.infoF;clear hR hE hcf hen hmf hSr b1 b3 b4 b5 hcl hc0 hm0;go_enter Tryz.func31,Tryz.ntmps31
   go_wp2_with fail
   refine(KC.out _).mono ?_;rintro e w1 ⟨v1,rfl,q1,zTH⟩;have HO:Hid (w1.heap[w.heap.size]?=some (.cells #[.int .i64 zB,.int .i64 zI,.int .i64 zD,.int .i64 zA] 61 (0,0))):=(zTH.block _ (by simp)).trans (heap_alloc_new _ _);have hs1:=zTH.size;have l2:w.heap.size<w1.heap.size:=by simp at hs1;omega
   have hB1:Below w.heap.size w w1:=((Below.refl _ _).alloc (lG _) _).trans (zTH.mono (by simp));have y1:=(zC HO.out).1;have y10:w1.cell? ⟨w.heap.size,0,none⟩=some (.int .i64 zB):=y1 0;have y11:w1.cell? ⟨w.heap.size,1,none⟩=some (.int .i64 zI):=y1 1;have y12:w1.cell? ⟨w.heap.size,2,none⟩=some (.int .i64 zD):=y1 2;have y13:w1.cell? ⟨w.heap.size,3,none⟩=some (.int .i64 zA):=y1 3
   obtain⟨gc,cc,hv1,lgc⟩:∃gc cc,v1=.slice (some ⟨gc,0,none⟩) C.1.length cc/\gc<w1.heap.size:=by
    rcases xE q1 with ⟨e,_⟩ | ⟨_,g,cap,e,_,hg,_⟩
    ·have:=HCL.out;rw[e]at this;simp at this
    ·exact⟨g,cap,e,hg⟩
   subst hv1;have Q1:Hid (zF w1 0 (.slice (some ⟨gc,0,none⟩) C.1.length cc) C.1):=q1;clear zTH q1 hs1 y1;go_wp2_with fail
   refine(KM.out _).mono ?_;rintro e w2 ⟨rfl,zTK⟩;have hs2:=zTK.size;have HO2:Hid (w2.heap[w.heap.size]?=some (.cells #[.int .i64 zB,.int .i64 zI,.int .i64 zD,.int .i64 zA] 61 (0,0))):=(zTK.block _ l2).trans HO.out;have Q2:Hid (zF w2 0 (.slice (some ⟨gc,0,none⟩) C.1.length cc) C.1):=Q1.out.below zTK;have hB2:Below w.heap.size w w2:=hB1.trans (zTK.mono (by omega));have l4:w.heap.size<w2.heap.size:=by omega
   clear HO zTK hB1 y10 y11 y12 y13 Q1 hs2 l2 lgc;go_wp2_with fail
   go_loopw [11,12,13] (λv u i wr=>zRr w2 gc cc C.1 zK zB zI zD zA R v u i wr) (λ_ _ i _=>zK.size+2-(intOf i).toNat)
   case atStart=>exact⟨zK.size+2,0,0,[],rfl,rfl,by omega,by omega,by simp,⟨by omega,HB.out.1⟩,World.ownsRow_nil _ _ _ _,Below.refl _ _,HR.out⟩
   case round =>
    clear HR;obtain⟨F,zTE,qE,l,rfl,rfl,hfr,hF,hll,hus,jS,hbr,hR⟩:=hrel;have HOW:Hid (pX wr w2.heap.size u11 l):=jS;have zQC:Hid (Below w2.heap.size w2 wr):=hbr;have HR:Hid (R=Mt.xO C.1 zK zB zI zD zA F zTE qE l):=hR;have QR:Hid (zF wr 0 (.slice (some ⟨gc,0,none⟩) C.1.length cc) C.1):=Q2.out.below hbr;have hsr:=hbr.size;have y1:=(zC ((hbr.block _ l4).trans HO2.out)).1;have x10:wr.cell? ⟨w.heap.size,0,none⟩=some (.int .i64 zB):=y1 0;have x11:wr.cell? ⟨w.heap.size,1,none⟩=some (.int .i64 zI):=y1 1;have x12:wr.cell? ⟨w.heap.size,2,none⟩=some (.int .i64 zD):=y1 2;have x13:wr.cell? ⟨w.heap.size,3,none⟩=some (.int .i64 zA):=y1 3;have l5:w.heap.size<wr.heap.size:=by omega
    have zSt:=hus.1;have zSu:=hus.2;have hb0:=HB.out.1;have zTH:=HB.out.2;clear jS hbr hR y1 hus;obtain⟨F,rfl⟩:∃F',F=F'+1:=⟨F-1,by omega⟩
    by_cases zTI:zK.size<zTE
    ·have HRR:Hid (R=(l,qE,0)):=by show _=_;rw[HR.out,Mt.xO,if_pos zTI]
     clear HR;go_wp2_with fail
     go_ret3
     rw[HRR.out];exact⟨_,rfl,jG HOW.out (by omega),hB2.trans (zQC.out.mono (by omega))⟩
    ·have hfT:zTE<=zK.size:=by omega
     have hRR:=HR.out;rw[Mt.xO,if_neg zTI]at hRR;have hS4:=HLn.out (zA-qE) zTE hfT;have hS5:=HIn.out (zA-qE) zTE (by omega) hfT;have hS6:=λwb gc gi ga gk cc ci ca ck z hz=>HSr.out (zA-qE) zTE wb gc gi ga gk cc ci ca ck z (by omega) (by omega) hfT hz
     generalize Mt.kP C.1 zK zB zI zD (zA-qE) zTE=S at *;have HRR:Hid (R=_):=hRR;have HL:Hid (S.1.at'.length=20):=hS4;have HI:Hid (S.2=false->(0<=S.1.steps/\S.1.steps<=zA-qE)/\(S.1.ok=true->∃x y:Nat,S.1.at'.getD 0 0=(x:Int)/\S.1.at'.getD 1 0=(y:Int)/\zTE<=x/\x<=y/\y<=zK.size)):=hS5
     have HS6:Hid (∀(wb gc gi ga gk cc ci ca ck:Nat) (z:World),zU z wb gc gi ga gk cc ci ca ck C.1 zK (Mt.jD C.1 zB zI) (jU C.1 C.1.length) (zA-qE) (List.replicate (C.1.length*(zK.size+1)*12) false) zD 0 false ->
      Calls Tryz.prog 51 #[.pointer (some ⟨wb,0,none⟩),.int .i64 zTE] z λe w'=>e=.returned (fdV S.1)/\Keep wb gk z w'/\∃zTN zX pW,zU w' wb gc gi ga gk cc ci ca ck C.1 zK (Mt.jD C.1 zB zI) (jU C.1 C.1.length) (zA-qE) zTN zX pW S.2):=hS6
     clear hRR hS4 hS5 hS6 HR;go_wp2_with fail
     refine(zGR C.1 zK zB zI zD zA (zA-qE) gc cc wr QR.out HCL.out zQB.out.2 zQB.out.1 hT HBM.out.1 HBM.out.2).mono ?_;rintro e w3 ⟨wb,gi,ga,gk,ci,ca,ck,rfl,hW3,zTL,lwb,lgk⟩;have HW3:Hid (zU w3 wb gc gi ga gk cc ci ca ck C.1 zK (Mt.jD C.1 zB zI) (jU C.1 C.1.length) (zA-qE) (List.replicate (C.1.length*(zK.size+1)*12) false) zD 0 false):=hW3;have HB3:Hid (Below wr.heap.size wr w3):=zTL;have hs3:=zTL.size;clear hW3 zTL x10 x11 x12 x13;go_wp2_with fail
     refine(HS6.out wb gc gi ga gk cc ci ca ck w3 HW3.out).mono ?_;rintro e w4 ⟨rfl,hk4,zTN,zX,pW,hW4⟩;have HB4:Hid (Below wr.heap.size wr w4):=HB3.out.trans (hk4.toBelow hs3 lwb lgk);have hs4:=hk4.size;have HW4:Hid (zU w4 wb gc gi ga gk cc ci ca ck C.1 zK (Mt.jD C.1 zB zI) (jU C.1 C.1.length) (zA-qE) zTN zX pW S.2):=hW4;have zSs:wb<w4.heap.size:=hW4.lt.1;clear hk4 hW4 HW3 HS6 HB3;unfold fdV;have hcs:(S.2=true)\/(S.2=false/\S.1.ok=false)\/(S.2=false/\S.1.ok=true):=by cases S.2 <;> cases S.1.ok <;> simp
     rcases hcs with ov | ⟨ov,ok⟩ | ⟨ov,ok⟩
     ·have HRH:Hid (R=([],0,14)):=by show _=_;rw[HRR.out,ov];rfl
      clear HRR;go_wp2_with (first|(refine qP (by rfl) (.tmp 15) (.tmp 44) (by rfl) w4.heap.size (fdA S.1) (by rfl) (by rfl) (by exact heap_alloc_new _ _) (by rfl) (kE _ HL.out) (bD _) ?_;intro w5 r1 r2 r3 r4;have B5:Hid (Below w4.heap.size w4 w5):=(((Below.refl _ _).alloc (lG _) _).trans (r4 _ (lG _)));have k8:w5.cell? ⟨wb,8,none⟩=some (.bool S.2):=((zC (HW4.out.below B5.out).cell).1 8);have s5:w5.heap.size=w4.heap.size+1:=(by simpa using r3);have l7:wb<w5.heap.size:=(by omega);have l8:w4.heap.size<w5.heap.size:=(by omega);have V5:Hid (w5.heap[w4.heap.size]?=some (.cells (fdA S.1) 57 (0,0))):=(r1);have d0:w5.cell? ⟨w4.heap.size,0,none⟩=some (.bool S.1.ok):=(((zC r1).1 0).trans (bP _ HL.out).1);have d21:w5.cell? ⟨w4.heap.size,21,none⟩=some (.int .i64 S.1.steps):=(((zC r1).1 21).trans (bP _ HL.out).2.2.2);have HS5:Hid (w5.heap.size=w4.heap.size+1):=(s5);clear r1 r2 r3 r4 s5) | fail)
      go_ret3
      rw[HRH.out];exact⟨_,rfl,World.ownsRow_nil _ _ _ _,(hB2.trans (zQC.out.mono (by omega))).trans ((HB4.out.trans (B5.out.mono (by omega))).mono (by omega))⟩
     ·have HRH:Hid (R=(l,qE+S.1.steps,0)):=by show _=_;rw[HRR.out,ov,ok];rfl
      have zTJ:=(HI.out ov).1;have zPl:=zTJ.1;have zRs:=zTJ.2;clear HRR zTJ;go_wp2_with (first|(refine qP (by rfl) (.tmp 15) (.tmp 44) (by rfl) w4.heap.size (fdA S.1) (by rfl) (by rfl) (by exact heap_alloc_new _ _) (by rfl) (kE _ HL.out) (bD _) ?_;intro w5 r1 r2 r3 r4;have B5:Hid (Below w4.heap.size w4 w5):=(((Below.refl _ _).alloc (lG _) _).trans (r4 _ (lG _)));have k8:w5.cell? ⟨wb,8,none⟩=some (.bool S.2):=((zC (HW4.out.below B5.out).cell).1 8);have s5:w5.heap.size=w4.heap.size+1:=(by simpa using r3);have l7:wb<w5.heap.size:=(by omega);have l8:w4.heap.size<w5.heap.size:=(by omega);have V5:Hid (w5.heap[w4.heap.size]?=some (.cells (fdA S.1) 57 (0,0))):=(r1);have d0:w5.cell? ⟨w4.heap.size,0,none⟩=some (.bool S.1.ok):=(((zC r1).1 0).trans (bP _ HL.out).1);have d21:w5.cell? ⟨w4.heap.size,21,none⟩=some (.int .i64 S.1.steps):=(((zC r1).1 21).trans (bP _ HL.out).2.2.2);have HS5:Hid (w5.heap.size=w4.heap.size+1):=(s5);clear r1 r2 r3 r4 s5) | fail)
      go_ret3
      rw[HRH.out];exact⟨_,rfl,jG (qH HOW.out (HB4.out.trans (B5.out.mono (by omega)))) (by omega),(hB2.trans (zQC.out.mono (by omega))).trans ((HB4.out.trans (B5.out.mono (by omega))).mono (by omega))⟩
     ·have HRH:Hid (R=Mt.xO C.1 zK zB zI zD zA F (Mt.vO S.1) (qE+S.1.steps) (l++[S.1])):=by show _=_;rw[HRR.out,ov,ok];rfl
      have zTJ:=HI.out ov;have zPl:=zTJ.1.1;have zRs:=zTJ.1.2;obtain⟨x,y,hx,hy,hxf,hxy,hyT⟩:=zTJ.2 ok
      have HNX:Hid (Mt.vO S.1=if(x:Int)=(y:Int)then y+1 else y):=by
       show _=_;unfold Mt.vO;rw[hx,hy];simp
      have HX:Hid (S.1.at'.getD 0 0=(x:Int)/\S.1.at'.getD 1 0=(y:Int)):=⟨hx,hy⟩
      clear HRR zTJ hx hy;by_cases hxe:x=y
      ·have exy:((x:Int)==(y:Int))=true:=by simp[hxe]
       have HN:Hid (Mt.vO S.1=y+1):=by show _=_;rw[HNX.out,if_pos (by omega)]
       have HXE:Hid (x=y):=hxe;clear HNX hxe;go_wp2_with (first|(refine qP (by rfl) (.tmp 15) (.tmp 44) (by rfl) w4.heap.size (fdA S.1) (by rfl) (by rfl) (by exact heap_alloc_new _ _) (by rfl) (kE _ HL.out) (bD _) ?_;intro w5 r1 r2 r3 r4;have B5:Hid (Below w4.heap.size w4 w5):=(((Below.refl _ _).alloc (lG _) _).trans (r4 _ (lG _)));have k8:w5.cell? ⟨wb,8,none⟩=some (.bool S.2):=((zC (HW4.out.below B5.out).cell).1 8);have s5:w5.heap.size=w4.heap.size+1:=(by simpa using r3);have l7:wb<w5.heap.size:=(by omega);have l8:w4.heap.size<w5.heap.size:=(by omega);have V5:Hid (w5.heap[w4.heap.size]?=some (.cells (fdA S.1) 57 (0,0))):=(r1);have d0:w5.cell? ⟨w4.heap.size,0,none⟩=some (.bool S.1.ok):=(((zC r1).1 0).trans (bP _ HL.out).1);have d21:w5.cell? ⟨w4.heap.size,21,none⟩=some (.int .i64 S.1.steps):=(((zC r1).1 21).trans (bP _ HL.out).2.2.2);have HS5:Hid (w5.heap.size=w4.heap.size+1):=(s5);clear r1 r2 r3 r4 s5)|(refine xM (by rfl) (.tmp 15) (by rfl) w4.heap.size (by rfl) (by exact V5.out) (kE _ HL.out) ?_)|(refine zAD (by rfl) (.tmp 59) (by rfl) S.1 HL.out (by rfl) ?_)|(at_builtin;refine wpList_append_own _ rfl _ _ 64 rfl w2.heap.size 57 i0 _ 22 176 Tryz.underlying64 hi hz0 hz1 hz2 (by rfl) (by decide) _ _ _ rfl (World.ownsRow.alloc (qH HOW.out (HB4.out.trans (B5.out.mono (by omega)))) _) ⟨w5.heap.size,0,none⟩ 1 1 (fdL S.1) rfl (by rw[zBr _ HL.out]) (xU _ _ _) (zLz _) ?_ ?_ ?_ ?_;rotate_right))
       ·intro v' w7 hown' jL _;have hq:∀q,u11.ownBlock=some q->q<wr.heap.size:=λq hq=>(World.ownsRow.lt HOW.out q hq).2
        have O7:Hid (pX w7 w2.heap.size v' (l++[S.1])):=zCE hown';have zQD:Below w2.heap.size w2 w5:=zQC.out.trans ((HB4.out.trans (B5.out.mono (by omega))).mono (by omega));have B7:Hid (Below w2.heap.size w2 w7):=(zQD.alloc (by have:=HS5.out;omega) _).grown jL (by have:=HS5.out;simp;omega) (λq hq'=>(World.ownsRow.lt HOW.out q hq').1);have e1:w7.cell? ⟨w4.heap.size,1,none⟩=some (.int .i64 (x:Int)):=(bY jL (by have:=HS5.out;omega) (λq hq'=>by have:=hq q hq';omega) 1).trans (((zC V5.out).1 1).trans ((bP _ HL.out).2.1.trans (by rw[HX.out.1])));have e2:w7.cell? ⟨w4.heap.size,2,none⟩=some (.int .i64 (y:Int)):=(bY jL (by have:=HS5.out;omega) (λq hq'=>by have:=hq q hq';omega) 2).trans (((zC V5.out).1 2).trans ((bP _ HL.out).2.2.1.trans (by rw[HX.out.2])));have l9:w4.heap.size<w7.heap.size:=by have:=jL.size;have:=HS5.out;simp at *;omega
        clear hown' jL hq zQD d0 d21 k8 l7 l8;go_wp2_with fail
        go_roundw
        case rel=>exact⟨F,y+1,qE+S.1.steps,l++[S.1],by go_num,by go_num,by omega,by omega,by rw[lM];have:=HXE.out;simp;omega,⟨by omega,by omega⟩,O7.out,B7.out,by rw[HRH.out,HN.out]⟩
        case measure=>have:=HXE.out;simp[intOf];omega
       ·unfold maxLen;omega
       ·omega
       ·have:=HS5.out;simp;omega
      ·have exy:((x:Int)==(y:Int))=false:=by simp;omega
       have HN:Hid (Mt.vO S.1=y):=by show _=_;rw[HNX.out,if_neg (by omega)]
       clear HNX;go_wp2_with (first|(refine qP (by rfl) (.tmp 15) (.tmp 44) (by rfl) w4.heap.size (fdA S.1) (by rfl) (by rfl) (by exact heap_alloc_new _ _) (by rfl) (kE _ HL.out) (bD _) ?_;intro w5 r1 r2 r3 r4;have B5:Hid (Below w4.heap.size w4 w5):=(((Below.refl _ _).alloc (lG _) _).trans (r4 _ (lG _)));have k8:w5.cell? ⟨wb,8,none⟩=some (.bool S.2):=((zC (HW4.out.below B5.out).cell).1 8);have s5:w5.heap.size=w4.heap.size+1:=(by simpa using r3);have l7:wb<w5.heap.size:=(by omega);have l8:w4.heap.size<w5.heap.size:=(by omega);have V5:Hid (w5.heap[w4.heap.size]?=some (.cells (fdA S.1) 57 (0,0))):=(r1);have d0:w5.cell? ⟨w4.heap.size,0,none⟩=some (.bool S.1.ok):=(((zC r1).1 0).trans (bP _ HL.out).1);have d21:w5.cell? ⟨w4.heap.size,21,none⟩=some (.int .i64 S.1.steps):=(((zC r1).1 21).trans (bP _ HL.out).2.2.2);have HS5:Hid (w5.heap.size=w4.heap.size+1):=(s5);clear r1 r2 r3 r4 s5)|(refine xM (by rfl) (.tmp 15) (by rfl) w4.heap.size (by rfl) (by exact V5.out) (kE _ HL.out) ?_)|(refine zAD (by rfl) (.tmp 59) (by rfl) S.1 HL.out (by rfl) ?_)|(at_builtin;refine wpList_append_own _ rfl _ _ 64 rfl w2.heap.size 57 i0 _ 22 176 Tryz.underlying64 hi hz0 hz1 hz2 (by rfl) (by decide) _ _ _ rfl (World.ownsRow.alloc (qH HOW.out (HB4.out.trans (B5.out.mono (by omega)))) _) ⟨w5.heap.size,0,none⟩ 1 1 (fdL S.1) rfl (by rw[zBr _ HL.out]) (xU _ _ _) (zLz _) ?_ ?_ ?_ ?_;rotate_right))
       ·intro v' w7 hown' jL _;have hq:∀q,u11.ownBlock=some q->q<wr.heap.size:=λq hq=>(World.ownsRow.lt HOW.out q hq).2
        have O7:Hid (pX w7 w2.heap.size v' (l++[S.1])):=zCE hown';have zQD:Below w2.heap.size w2 w5:=zQC.out.trans ((HB4.out.trans (B5.out.mono (by omega))).mono (by omega));have B7:Hid (Below w2.heap.size w2 w7):=(zQD.alloc (by have:=HS5.out;omega) _).grown jL (by have:=HS5.out;simp;omega) (λq hq'=>(World.ownsRow.lt HOW.out q hq').1);have e1:w7.cell? ⟨w4.heap.size,1,none⟩=some (.int .i64 (x:Int)):=(bY jL (by have:=HS5.out;omega) (λq hq'=>by have:=hq q hq';omega) 1).trans (((zC V5.out).1 1).trans ((bP _ HL.out).2.1.trans (by rw[HX.out.1])));have e2:w7.cell? ⟨w4.heap.size,2,none⟩=some (.int .i64 (y:Int)):=(bY jL (by have:=HS5.out;omega) (λq hq'=>by have:=hq q hq';omega) 2).trans (((zC V5.out).1 2).trans ((bP _ HL.out).2.2.1.trans (by rw[HX.out.2])));have l9:w4.heap.size<w7.heap.size:=by have:=jL.size;have:=HS5.out;simp at *;omega
        clear hown' jL hq zQD d0 d21 k8 l7 l8;go_wp2_with fail
        go_roundw
        case rel=>exact⟨F,y,qE+S.1.steps,l++[S.1],by go_num,by go_num,by omega,by omega,by rw[lM];simp;omega,⟨by omega,by omega⟩,O7.out,B7.out,by rw[HRH.out,HN.out]⟩
        case measure=>simp[intOf];omega
       ·unfold maxLen;omega
       ·omega
       ·have:=HS5.out;simp;omega
  ·rw[if_pos (by simpa using hm)];clear hcf hen hmf;go_enter Tryz.func31,Tryz.ntmps31
   go_wp2_with fail
   refine(KC.out _).mono ?_;rintro e w1 ⟨v1,rfl,q1,zTH⟩;have HO:Hid (w1.heap[w.heap.size]?=some (.cells #[.int .i64 zB,.int .i64 zI,.int .i64 zD,.int .i64 zA] 61 (0,0))):=(zTH.block _ (by simp)).trans (heap_alloc_new _ _);have hs1:=zTH.size;have l2:w.heap.size<w1.heap.size:=by simp at hs1;omega
   have hB1:Below w.heap.size w w1:=((Below.refl _ _).alloc (lG _) _).trans (zTH.mono (by simp));have y1:=(zC HO.out).1;have y10:w1.cell? ⟨w.heap.size,0,none⟩=some (.int .i64 zB):=y1 0;have y11:w1.cell? ⟨w.heap.size,1,none⟩=some (.int .i64 zI):=y1 1;have y12:w1.cell? ⟨w.heap.size,2,none⟩=some (.int .i64 zD):=y1 2;have y13:w1.cell? ⟨w.heap.size,3,none⟩=some (.int .i64 zA):=y1 3;clear zTH q1 hs1 y1;go_wp2_with fail
   refine(KM.out _).mono ?_;rintro e w2 ⟨rfl,zTK⟩;have hB2:Below w.heap.size w w2:=hB1.trans (zTK.mono (by omega));clear HO zTK hB1 y10 y11 y12 y13;go_wp2_with fail
   go_ret3
   exact⟨_,rfl,World.ownsRow_nil _ _ _ _,hB2⟩
 ·rw[if_pos (by simpa using he)];clear hcf hen hmf;go_enter Tryz.func31,Tryz.ntmps31
  go_wp2_with fail
  refine(KC.out _).mono ?_;rintro e w1 ⟨v1,rfl,q1,zTH⟩;have hB1:Below w.heap.size w w1:=((Below.refl _ _).alloc (lG _) _).trans (zTH.mono (by simp));clear zTH q1;go_wp2_with fail
  go_ret3
  exact⟨_,rfl,World.ownsRow_nil _ _ _ _,hB1⟩
theorem zQE(f:Mt.Fnd)(h:f.at'.length=20)(k:Nat)(hk:k<20):(fdA f)[1+k]?=some (.int .i64 (f.at'.getD k 0)):=by
 unfold fdA;rw[List.getElem?_toArray,Nat.add_comm,List.getElem?_cons_succ,List.getElem?_append_left (by simp;omega),List.getElem?_map,lK (by omega),lH,lK (by omega)];rfl
theorem zDJ(f:Mt.Fnd)(h:f.at'.length=20)(w:World) :
  Calls Tryz.prog 52 #[fdV f,fdV f] w λe w'=>e=.returned (.bool true)/\Below w.heap.size w w':=by
 unfold fdV;have HG:Hid (∀k,k<20->(fdA f)[1+k]?=some (.int .i64 (f.at'.getD k 0))):=λk hk=>zQE f h k hk
 have hg0:=(bP f h).1;have HG0:Hid ((fdA f)[0]?=some (.bool f.ok)):=hg0;clear hg0;generalize fdA f=A at *;go_enter Tryz.func52,Tryz.ntmps52
 go_wp2_with fail
 go_loopw [5] (λi wr=>∃k d:Nat,k<=20/\i=.int .i64 k/\wr=((w.alloc (.cells A 57)).alloc (.cells A 57)).drewN d) (λi _=>20-(intOf i).toNat)
 case atStart=>exact⟨0,0,Nat.zero_le _,rfl,rfl⟩
 case round =>
  obtain⟨k,d,hk,rfl,rfl⟩:=hrel;have q1:((w.alloc (.cells A 57)).alloc (.cells A 57)).heap[w.heap.size]?=some (.cells A 57 (0,0)):=tV _ _ _;have q2:((w.alloc (.cells A 57)).alloc (.cells A 57)).heap[w.heap.size+1]?=some (.cells A 57 (0,0)):=mV _ _ _;have hB:Below w.heap.size w ((w.alloc (.cells A 57)).alloc (.cells A 57)):=((Below.refl _ _).alloc (lG _) _).alloc (by simp) _;have s1:((w.alloc (.cells A 57)).alloc (.cells A 57)).heap.size=w.heap.size+1+1:=by simp
  generalize ((w.alloc (.cells A 57)).alloc (.cells A 57))=z at *;have l1:w.heap.size<z.heap.size:=by omega
  have l2:w.heap.size+1<z.heap.size:=by omega
  by_cases zTI:k<20
  ·have a0:z.cell? ⟨w.heap.size,1+k,none⟩=some (.int .i64 (f.at'.getD k 0)):=((zC q1).1 _).trans (HG.out k zTI);have b0:z.cell? ⟨w.heap.size+1,1+k,none⟩=some (.int .i64 (f.at'.getD k 0)):=((zC q2).1 _).trans (HG.out k zTI);generalize f.at'.getD k 0=I at *;have i0:(0:Int)<=(k:Int):=by omega
   have i1:(k:Int)<20:=by omega
   clear q1 q2 s1;go_wp2_with fail
   go_quiet (fail)
   go_wp2_with fail
   go_roundw
   case rel=>exact⟨k+1,_,by omega,by go_num,rfl⟩
   case measure=>simp[intOf];omega
  ·have a0:z.cell? ⟨w.heap.size,0,none⟩=some (.bool f.ok):=((zC q1).1 _).trans HG0.out;have b0:z.cell? ⟨w.heap.size+1,0,none⟩=some (.bool f.ok):=((zC q2).1 _).trans HG0.out;clear q1 q2 s1;go_wp2_with fail
   go_ret;exact⟨jC (by simp),below_drewN hB _⟩
theorem zBc(f:Mt.Fnd)(h:f.at'.length=20)(w:World) :
  Calls Tryz.prog 29 #[fdV f,fdV f] w λe w'=>e=.returned (.bool true)/\Below w.heap.size w w':=by
 have KP:Hid (∀z:World,Calls Tryz.prog 52 #[fdV f,fdV f] z λe w'=>e=.returned (.bool true)/\Below z.heap.size z w'):=λz=>zDJ f h z
 have HL:Hid ((fdA f).size=22):=kE f h;have HG0:Hid ((fdA f)[21]?=some (.int .i64 f.steps)):=(bP f h).2.2.2;unfold fdV at *;generalize fdA f=A at *;go_enter Tryz.func29,Tryz.ntmps29
 go_wp2_with (first|(refine xM (by rfl) (.tmp 2) (by rfl) w.heap.size (by rfl) (by exact tV _ _ _) HL.out ?_)|(refine xM (by rfl) (.tmp 3) (by rfl) (w.heap.size+1) (by rfl) (by exact mV _ _ _) HL.out ?_) | fail)
 refine(KP.out _).mono ?_;rintro e w1 ⟨rfl,zTH⟩;have hs1:=zTH.size;have q1:w1.heap[w.heap.size]?=some (.cells A 57 (0,0)):=(zTH.block _ (by simp;omega)).trans (tV _ _ _);have q2:w1.heap[w.heap.size+1]?=some (.cells A 57 (0,0)):=(zTH.block _ (by simp)).trans (mV _ _ _);have a0:w1.cell? ⟨w.heap.size,21,none⟩=some (.int .i64 f.steps):=((zC q1).1 _).trans HG0.out;have b0:w1.cell? ⟨w.heap.size+1,21,none⟩=some (.int .i64 f.steps):=((zC q2).1 _).trans HG0.out;have l1:w.heap.size<w1.heap.size:=by simp at hs1;omega
 have l2:w.heap.size+1<w1.heap.size:=by simp at hs1;omega
 have hB:Below w.heap.size w w1:=(((Below.refl _ _).alloc (lG _) _).alloc (by simp) _).trans (zTH.mono (by simp;omega));clear q1 q2 zTH hs1;go_wp2_with fail
 go_ret;exact⟨jC (by simp),hB⟩
def zTe:Mt.Fnd:=Mt.vJ
theorem zLA:∀(l:List Mt.Fnd),(∀f∈l,f.at'.length=20)->(l.flatMap fdL).length=l.length*22
 | [],_=>rfl
 | f::r,h=>by
  rw[List.flatMap_cons,lM,zLA r (λg hg=>h g (List.mem_cons_of_mem _ hg)),zBr f (h f (List.mem_cons_self ..)),List.length_cons];omega
theorem zLB:∀(l:List Mt.Fnd),(∀f∈l,f.at'.length=20)->∀(k j:Nat),k<l.length->j<22->(l.flatMap fdL)[k*22+j]?=(fdL (l.getD k Mt.vJ))[j]?
 | [],_,k,j,hk,_=>by simp at hk
 | f::r,h,0,j,hk,hj=>by
  rw[List.flatMap_cons,List.getElem?_append_left (by rw[zBr f (h f (List.mem_cons_self ..))];omega)];simp
 | f::r,h,k+1,j,hk,hj=>by
  have hl:=zBr f (h f (List.mem_cons_self ..));rw[List.flatMap_cons,List.getElem?_append_right (by omega),hl,show(k+1)*22+j-22=k*22+j by omega];rw[zLB r (λg hg=>h g (List.mem_cons_of_mem _ hg)) k j (by simp at hk;omega) hj];simp
theorem zBN{w:World}{base:Nat}{v:Value}{l:List Mt.Fnd}(h:pX w base v l)(hl:∀f∈l,f.at'.length=20) :
  (l=[]/\∃ao cap,v=.slice ao 0 cap)\/(0<l.length/\∃g cap,v=.slice (some ⟨g,0,none⟩) l.length cap/\l.length<=cap/\g<w.heap.size/\∀k,k<l.length->w.rangeAt g (k*22) (fdL (l.getD k Mt.vJ))):=by
 by_cases h0:l=[]
 ·left;subst h0;refine⟨rfl,?_⟩;rcases h.2 with ⟨rfl,_⟩ | ⟨g,cap,cur,rfl,_⟩
  ·exact⟨_,_,rfl⟩
  ·exact⟨_,_,rfl⟩
 ·right;have hp:0<l.length:=List.length_pos_iff.2 h0;refine⟨hp,?_⟩;have hh:=jG h (Nat.zero_le _);rcases h.2 with ⟨rfl,hn⟩ | ⟨g,cap,cur,rfl,hb,hg,h1,h2,h3,h4⟩
  ·omega
  ·refine⟨g,cap,rfl,h1,(lI.1 hg).1,λk hk j u hu=>?_⟩;have hlen:=zLA l hl
   have hj:j<22:=by
    have:=(List.getElem?_eq_some_iff.1 hu).1;have hm:(l.getD k Mt.vJ).at'.length=20:=hl _ (by rw[lH,lK hk];exact List.getElem_mem hk);rw[zBr _ hm]at this;exact this
   have hc:=World.ownsRow.cellAt hh (k*22+j) (by
    have:(k+1)*22<=l.length*22:=Nat.mul_le_mul_right _ hk;rw[Nat.add_mul]at this;omega)
   rw[hc,zLB l hl k j hk hj];exact hu
theorem zFx(c:List Mt.Fnd)(zQF:∀f∈c,f.at'.length=20)(va vb:Value)(w:World)(ha:pX w 0 va c)(hb:pX w 0 vb c)(hl:c.length<=300) :
  Calls Tryz.prog 32 #[va,vb] w λe w'=>e=.returned (.bool true)/\Below w.heap.size w w':=by
 rcases zBN ha zQF with ⟨rfl,ao,zNk,rfl⟩ | ⟨dI,ga,zNk,rfl,hca,hga,hA⟩
 ·rcases zBN hb zQF with ⟨_,bo,zP8,rfl⟩ | ⟨dI,_⟩
  ·clear ha hb;go_enter Tryz.func32,Tryz.ntmps32
   go_wp2_with fail
   refine wp_loop_rounds 1 ?_;rw[rounds_succ];go_wp2_with fail
   go_ret;exact⟨rfl,Below.refl _ _⟩
  ·simp at dI
 ·rcases zBN hb zQF with ⟨rfl,_⟩ | ⟨_,gb,zP8,rfl,hcb,hgb,hB⟩
  ·simp at dI
  ·have HA:Hid (∀k,k<c.length->w.rangeAt ga (k*22) (fdL (c.getD k Mt.vJ))):=hA;have HB:Hid (∀k,k<c.length->w.rangeAt gb (k*22) (fdL (c.getD k Mt.vJ))):=hB;have H20:Hid (∀f∈c,f.at'.length=20):=zQF;clear ha hb hA hB zQF;go_enter Tryz.func32,Tryz.ntmps32
   go_wp2_with fail
   go_loopw [5] (λi wr=>∃k:Nat,k<=c.length/\i=.int .i64 k/\Below w.heap.size w wr) (λi _=>c.length-(intOf i).toNat)
   case atStart=>exact⟨0,Nat.zero_le _,rfl,Below.refl _ _⟩
   case round =>
    obtain⟨k,hk,rfl,hbr⟩:=hrel;have hsz:=hbr.size;by_cases zTI:k<c.length
    ·have hm:(c.getD k Mt.vJ).at'.length=20:=H20.out _ (by rw[lH,lK zTI];exact List.getElem_mem zTI);have a0:=HA.out k zTI;have b0:=HB.out k zTI;generalize c.getD k Mt.vJ=f at *;have ra:∀z:World,(∀q,q<w.heap.size->z.heap[q]?=w.heap[q]?)->z.rangeAt ga (k*22) (fdL f):=λz hz j u hu=>(zDH ⟨ga,k*22+j,none⟩ (hz ga hga)).trans (a0 j u hu)
     have rb:∀z:World,(∀q,q<w.heap.size->z.heap[q]?=w.heap[q]?)->z.rangeAt gb (k*22) (fdL f):=λz hz j u hu=>(zDH ⟨gb,k*22+j,none⟩ (hz gb hgb)).trans (b0 j u hu)
     have i0:(0:Int)<=(k:Int):=by omega
     have i1:(k:Int)<(c.length:Int):=by omega
     have hlen:=zBr f hm;have KP:Hid (∀z:World,Calls Tryz.prog 29 #[fdV f,fdV f] z λe w'=>e=.returned (.bool true)/\Below z.heap.size z w'):=λz=>zBc f hm z
     clear a0 b0;go_wp2_with fail
     refine wp_region_held_drew (S:=λz:World=>∀q,q<w.heap.size->z.heap[q]?=w.heap[q]?) (by kernel_rfl) (λq hq=>hbr.block q hq) (λhHeld=>?_);refine take_at 0 18 (.slice (some ⟨ga,0,none⟩) c.length zNk) rfl rfl (by kernel_rfl) (by kernel_rfl) (by kernel_rfl) (λ_ _ _ h=>h) (Or.inl ⟨by rfl,λz hz=>by clear hz hHeld ra rb;go_simp⟩) (by assumption) ?_;simp only[Act.put,lC,lD,lF];refine take_at 1 19 (.int .i64 k) rfl rfl (by kernel_rfl) (by kernel_rfl) (by kernel_rfl) (λ_ _ _ h=>h) (Or.inl ⟨by rfl,λz hz=>by clear hz hHeld ra rb;go_simp⟩) (by assumption) ?_;simp only[Act.put,lC,lD,lF];refine take_at 2 20 (.pointer (some ⟨ga,k*22,none⟩)) rfl rfl (by kernel_rfl) (by kernel_rfl) (by kernel_rfl) (λ_ _ _ h=>h) (Or.inl ⟨by rfl,λz hz=>by clear hz hHeld ra rb;go_simp⟩) (by assumption) ?_;simp only[Act.put,lC,lD,lF];refine take_at 3 21 (fdV f) rfl rfl (by kernel_rfl) (by kernel_rfl) (by kernel_rfl) (λ_ _ _ h=>h) (yieldsIf_load_mid (by rfl) _ _ rfl _ _ rfl _ _ ra Tryz.underlying57 rfl (by rw[Tryz.size57];exact congrArg some hlen.symm)) (by assumption) ?_;simp only[Act.put,lC,lD,lF];refine take_at 4 22 (.slice (some ⟨gb,0,none⟩) c.length zP8) rfl rfl (by kernel_rfl) (by kernel_rfl) (by kernel_rfl) (λ_ _ _ h=>h) (Or.inl ⟨by rfl,λz hz=>by clear hz hHeld ra rb;go_simp⟩) (by assumption) ?_;simp only[Act.put,lC,lD,lF];refine take_at 5 23 (.int .i64 k) rfl rfl (by kernel_rfl) (by kernel_rfl) (by kernel_rfl) (λ_ _ _ h=>h) (Or.inl ⟨by rfl,λz hz=>by clear hz hHeld ra rb;go_simp⟩) (by assumption) ?_;simp only[Act.put,lC,lD,lF];refine take_at 6 24 (.pointer (some ⟨gb,k*22,none⟩)) rfl rfl (by kernel_rfl) (by kernel_rfl) (by kernel_rfl) (λ_ _ _ h=>h) (Or.inl ⟨by rfl,λz hz=>by clear hz hHeld ra rb;go_simp⟩) (by assumption) ?_;simp only[Act.put,lC,lD,lF];refine take_at 7 25 (fdV f) rfl rfl (by kernel_rfl) (by kernel_rfl) (by kernel_rfl) (λ_ _ _ h=>h) (yieldsIf_load_mid (by rfl) _ _ rfl _ _ rfl _ _ rb Tryz.underlying57 rfl (by rw[Tryz.size57];exact congrArg some hlen.symm)) (by assumption) ?_;simp only[Act.put,lC,lD,lF];refine wpAnyH_ready (rs:=[8]) (by kernel_rfl) (by simp) ?_;refine AllReadyH.cons rfl (λK hK=>?_) AllReadyH.nil;clear ra rb;have HH:Hid (∀q,q<w.heap.size->wr.drew.heap[q]?=w.heap[q]?):=hHeld;clear hHeld
     go_simp
     refine(KP.out wr.drew).mono ?_;rintro e w9 ⟨rfl,hb9⟩;have hS9:∀q,q<w.heap.size->w9.heap[q]?=w.heap[q]?:=λq hq=>(hb9.block q (by show q<wr.heap.size;omega)).trans (HH.out q hq)
     have B9:Hid (Below w.heap.size w w9):=hbr.trans (((Below.refl _ _).drew).trans (hb9.mono hsz));clear hb9 hbr
     go_simp
     refine hK.out _ _ hS9 (λzIX=>?_);clear hK K hS9;refine take_at 9 6 (.bool true) rfl rfl (by kernel_rfl) (by kernel_rfl) (by kernel_rfl) (λ_ _ _ h=>h) (Or.inl ⟨by rfl,λz hz=>by clear hz zIX;go_simp⟩) (by assumption) ?_;simp only[Act.put,lC,lD,lF];refine wpAnyH_done (by kernel_rfl) ?_ _;clear zIX;go_wp2_with fail
     go_roundw
     case rel=>exact⟨k+1,by omega,by go_num,B9.out⟩
     case measure=>simp[intOf];omega
    ·go_wp2_with fail
     go_ret;exact⟨rfl,hbr⟩
theorem zDK(o:Stp)(w:World) :
  Calls Tryz.prog 27 #[opV o] w λe w'=>e=.returned (.agg #[.int .i64 o.zB,.int .i64 o.zI,.int .i64 o.zD,.int .i64 o.zA])/\Below w.heap.size w w':=by
 unfold opV opA;go_enter Tryz.func27,Tryz.ntmps27
 go_wp2_with fail
 go_returns;refine⟨rfl,?_⟩
 go_grown
theorem Tryz.sizeOp:(Tryz.prog.info? 26).map (·.size)=some 8:=by kernel_rfl
theorem bE{P:Program}{md:Region.Mode}{ops:Array Oper}{Q:Exit->Act->World->Prop}{S:World->Prop}(i:Nat)(oi:Oper){fuel:Nat}{listed:Array Bool}{a:Act}{w:World}(hi:ops[i]?=some oi)(hgd:oi.guard=none)(hr:Region.ready md ops listed=[i])
  (ty:TypeId) (x y:Operand) (ho:oi.op=.store ty x y) (b o:Nat) (cells:Array Value) (hx:a.eval x=.pointer (some ⟨b,o,none⟩)) (hy:a.eval y=.agg cells) (ht:w.there b o cells.size) (hz:(P.info? ty).map (·.size)=some cells.size) (h1:cells.all (·.oneCell')=true)
  (hdn:oi.dst=none) (h:S (w.setCells b o cells.toList)/\wpAnyH P md ops Q S fuel (listed.setIfInBounds i true) a (w.setCells b o cells.toList)):wpAnyH P md ops Q S (fuel+1) listed a w:=by
 refine⟨λh0=>(by rw[hr]at h0;cases h0),λj hj=>?_⟩;rw[hr]at hj;simp only[List.mem_singleton]at hj;subst hj;have hw:Region.wanted oi (yielded ops a.tmps)=true:=by simp[Region.wanted,hgd]
 unfold wpOp;simp only[hi,hw,if_true];exact .inl (wp_store_mid ty x y ho b o cells hx hy ht hz h1 (by rw[hdn];exact h))
def zGS:Prop:=∀(p t:ByteArray) (zTE zB zI zD zA:Int) (z:World),p.size<=maxLen->t.size<=maxLen->Calls Tryz.prog 26 #[.string p,.string t,.int .i64 zTE,.agg #[.int .i64 zB,.int .i64 zI,.int .i64 zD,.int .i64 zA]] z λe w'=>e=.returned (.tuple #[fdV (Mt.nR p t zTE zB zI zD zA).1,.int .i64 (Mt.nR p t zTE zB zI zD zA).2])/\Below z.heap.size z w'
theorem zLC(p t:ByteArray)(zTE zB zI zD zA:Int):(Mt.nR p t zTE zB zI zD zA).1.at'.length=20:=by
 unfold Mt.nR;split
 ·rfl
 split
 ·rfl
 rename_i h1 h2
 split
 ·rfl
 ·have hm:Mt.xW t.size zTE zB zI zD zA=0:=by omega
  have hc:(Mt.kC p).2=0:=by omega
  unfold Mt.xW at hm;split at hm
  ·omega
  split at hm
  ·rename_i h3 h4
   obtain⟨hE,hcl⟩:=zLy p t hc (by omega);exact zAV (Mt.wJ (Mt.kC p).1 t zB zI) hE.ok hcl zA _ _ _ _ _ (by show _<=t.size+1;omega) (by omega)
  ·omega
