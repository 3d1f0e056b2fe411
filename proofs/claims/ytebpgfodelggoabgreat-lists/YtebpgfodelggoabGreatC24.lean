import Derived.Test.YtebpgfodelggoabGreatC22
import Derived.Test.YtebpgfodelggoabGreatC23
import Derived.Great.BuildSlice
import Derived.Test.YtebpgfodelggoabGreatC12
import Derived.Deep.DeepCutAuto
set_option linter.unusedVariables false
set_option linter.unusedSimpArgs false
set_option maxRecDepth 100000
set_option maxHeartbeats 8000000
namespace Go.Proofs.YtebpgfodelggoabGreat
open Go.RowKit
theorem Tryz.infoF:(Tryz.prog.info? 57).map (fun i=>(i.zero,i.size,i.bytes))=some (some (.agg (fdA Mt.zAL)),22,176):=by kernel_rfl
def fdL (f:Mt.Fnd):List Value:=Value.bool f.ok::(f.at'.map (Value.int .i64)++[Value.int .i64 f.steps])
theorem zDi (f:Mt.Fnd) (h:f.at'.length=20):(fdL f).length=22:=by simp [fdL,h]
theorem zMZ (f:Mt.Fnd):∀ u∈fdL f,u.oneCell'=true:=by
 intro u hu
 simp only [fdL,List.mem_cons,List.mem_append,List.mem_map,List.not_mem_nil,or_false] at hu
 rcases hu with rfl | ⟨x,_,rfl⟩ | rfl <;> rfl
def vQ (w:World) (base:Nat) (v:Value) (l:List Mt.Fnd):Prop:=w.ownsRow base 57 22 v l.length (l.flatMap fdL)
theorem zAy (f:Mt.Fnd) (h:f.at'.length=20):(fdA f)[0]?=some (.bool f.ok)∧(fdA f)[1]?=some (.int .i64 (f.at'.getD 0 0))∧(fdA f)[2]?=some (.int .i64 (f.at'.getD 1 0))∧(fdA f)[21]?=some (.int .i64 f.steps):=by
 obtain ⟨a0,a1,a2,a3,a4,a5,a6,a7,a8,a9,a10,a11,a12,a13,a14,a15,a16,a17,a18,a19,e⟩:=zO1 h
 obtain ⟨ok,l,st⟩:=f
 dsimp only at e
 subst e
 exact ⟨rfl,rfl,rfl,rfl⟩
theorem zQK (f:Mt.Fnd) (h:f.at'.length=20):Instr.fill (fun i=>some (i*22,22)) ((Array.range (1*22)).map ((Value.agg (fdA Mt.zAL)).cells[· % (Value.agg (fdA Mt.zAL)).cells.size]!)) [(0,.agg (fdA f))]=some (fdA f):=by
 obtain ⟨a0,a1,a2,a3,a4,a5,a6,a7,a8,a9,a10,a11,a12,a13,a14,a15,a16,a17,a18,a19,e⟩:=zO1 h
 obtain ⟨ok,l,st⟩:=f
 dsimp only at e
 subst e
 kernel_rfl
theorem zCy {ops:Array Oper} {rest:List Oper} {o:Oper} {a:Act} {w:World} {Q:Exit→Act→World→Prop} (hg:o.guard=none) (x:Operand) (ho:o.op=.buildSlice 64 1 #[(0,x)]) (f:Mt.Fnd) (hf:f.at'.length=20) (hx:a.eval x=.agg (fdA f))
  (h:wpList Tryz.prog ops Q rest (a.put o.dst (.slice (some ⟨w.heap.size,0,none⟩) 1 1)) (w.alloc (.cells (fdL f).toArray 57))):wpList Tryz.prog ops Q (o::rest) a w:=by
 obtain ⟨i0,hi,hz0,hz1,hz2⟩:=info_parts Tryz.infoF
 refine wpList_buildSlice hg 64 57 1 _ ho (fdA f) i0 _ Tryz.underlying64 hi hz0 (by rw [hz1];decide) (by rw [hz1];decide) ?_ h
 rw [hz1]
 simp only [List.map_toArray,List.map_cons,List.map_nil,hx]
 exact zQK f hf
theorem zEu {w:World} {base:Nat} {v:Value} {l:List Mt.Fnd} {t:Mt.Fnd} (h:w.ownsRow base 57 22 v (l.length+1) (l.flatMap fdL++fdL t)):vQ w base v (l++[t]):=by
 unfold vQ
 rw [List.length_append,List.flatMap_append]
 simpa using h
def zSW (w0:World) (gc cc:Nat) (c:List Mt.Ins) (text:ByteArray) (policy mask room budget:Int) (R:List Mt.Fnd × Int × Int) (v u i:Value) (wr:World):Prop :=
 ∃ (F frm:Nat) (used:Int) (l:List Mt.Fnd),i=.int .i64 frm∧u=.int .i64 used∧frm≤text.size+1∧text.size+2≤frm+F∧l.length≤frm∧(0≤used∧used≤budget)∧vQ wr w0.heap.size v l∧Below w0.heap.size w0 wr
  ∧ R=Mt.yU c text policy mask room budget F frm used l
theorem zF8 (p text:ByteArray) (policy mask room budget:Int) (w:World) (hp:p.size≤maxLen) (ht:text.size≤maxLen) :
  Calls Tryz.prog 31 #[.string p,.string text,.agg #[.int .i64 policy,.int .i64 mask,.int .i64 room,.int .i64 budget]] w fun e w' =>
   ∃ v,e=.returned (.tuple #[v,.int .i64 (Mt.jI p text policy mask room budget).2.1,.int .i64 (Mt.jI p text policy mask room budget).2.2])∧vQ w' w.heap.size v (Mt.jI p text policy mask room budget).1∧Below w.heap.size w w':=by
 have KC:Hid (∀ z:World,Calls Tryz.prog 19 #[.string p] z fun e w'=>∃ v,e=.returned (.tuple #[v,.int .i64 (Mt.kR p).2])∧zB w' 0 v (Mt.kR p).1∧Below z.heap.size z w'):=fun z=>zJq p z hp
 have KM:Hid (∀ z:World,Calls Tryz.prog 49 #[.string text,.int .i64 0,.agg #[.int .i64 policy,.int .i64 mask,.int .i64 room,.int .i64 budget]] z fun e w'=>e=.returned (.int .i64 (Mt.zAx text.size 0 policy mask room budget))∧Below z.heap.size z w'):=fun z=>zJD text 0 policy mask room budget z ht
 have hcf:=Mt.zH8 p
 have hen:=zR4 p text
 unfold Mt.jI
 generalize hC:Mt.kR p=C at *
 have hmf:Mt.zAx text.size 0 policy mask room budget=0→text.size≤60∧(0≤mask∧mask≤4294967295)∧(0≤room∧room≤5000)∧(0≤budget∧budget≤10000):=by
  intro h
  unfold Mt.zAx at h
  split at h
  ·omega
  split at h
  ·rename_i h1 h2
   obtain ⟨hs,h3,h4,h5,h6,h7,h8⟩:=h2
   unfold Mt.kF at hs
   simp only [decide_eq_true_eq] at hs
   omega
  ·omega
 generalize hM:Mt.zAx text.size 0 policy mask room budget=M at *
 have hzf:Obj.cells #[Value.bool false,Value.int IntKind.i64 0,Value.int IntKind.i64 0,Value.int IntKind.i64 0,Value.int IntKind.i64 0,Value.int IntKind.i64 0,Value.int IntKind.i64 0,Value.int IntKind.i64 0,Value.int IntKind.i64 0,Value.int IntKind.i64 0,Value.int IntKind.i64 0,Value.int IntKind.i64 0,Value.int IntKind.i64 0,Value.int IntKind.i64 0,Value.int IntKind.i64 0,Value.int IntKind.i64 0,Value.int IntKind.i64 0,Value.int IntKind.i64 0,Value.int IntKind.i64 0,Value.int IntKind.i64 0,Value.int IntKind.i64 0,Value.int IntKind.i64 0] 57=zFd:=rfl
 clear hC hM
 cases he:(C.2 != 0)
 ·have hc0:C.2=0:=by simpa using he
  rw [if_neg (by simpa using he)]
  cases hm:(M != 0)
  ·have hm0:M=0:=by simpa using hm
   rw [if_neg (by simpa using hm)]
   obtain ⟨b1,b3,b4,b5⟩:=hmf hm0
   obtain ⟨hE,hcl⟩:=hen hc0 b1
   obtain ⟨R,hR⟩:∃ R,R=Mt.yU C.1 text policy mask room budget (text.size+2) 0 0 []:=⟨_,rfl⟩
   rw [← hR]
   have HR:Hid (R=Mt.yU C.1 text policy mask room budget (text.size+2) 0 0 []):=hR
   have HE:Hid (zF6 C.1 text (jV C.1 C.1.length)):=hE
   have zTo:Hid (Mt.fit 100000000 C.1∧C.1.length≤300):=hcf
   have HB:Hid (0≤budget∧budget≤10000):=b5
   have HBR:Hid (0≤room∧room≤5000):=b4
   have HBM:Hid (0≤mask∧mask≤4294967295):=b3
   have HCL:Hid (0<C.1.length):=hcl
   have hT:=b1
   have hSr:∀ (b:Int) (frm:Nat) (wb gc gi ga gk cc ci ca ck:Nat) (z:World),0≤b→b≤10000→frm≤text.size→zM z wb gc gi ga gk cc ci ca ck C.1 text (Mt.chosen C.1 policy mask) (jV C.1 C.1.length) b (List.replicate (C.1.length*(text.size+1)*12) false) room 0 false →
     Calls Tryz.prog 51 #[.pointer (some ⟨wb,0,none⟩),.int .i64 frm] z fun e w'=>e=.returned (fdV (Mt.zX C.1 text policy mask room b frm).1)∧Keep wb gk z w'∧∃ kn' room' used',zM w' wb gc gi ga gk cc ci ca ck C.1 text (Mt.chosen C.1 policy mask) (jV C.1 C.1.length) b kn' room' used' (Mt.zX C.1 text policy mask room b frm).2:=by
    intro b frm wb gc gi ga gk cc ci ca ck z h0 h1 hf hz
    have hb:(b.toNat:Int)=b:=by omega
    exact zLu wb gc gi ga gk cc ci ca ck C.1 text (Mt.chosen C.1 policy mask) (jV C.1 C.1.length) b hE hcl h0 h1 (fun n hn=>zKv wb gc gi ga gk cc ci ca ck C.1 text _ _ b hE h0 h1 n n (Nat.le_refl _) hn) z frm b.toNat (List.replicate (C.1.length*(text.size+1)*12) false) room hf (by rw [hb,Int.sub_self];exact hz) (by omega) (by simp) b4
   have HSr:Hid (∀ (b:Int) (frm:Nat) (wb gc gi ga gk cc ci ca ck:Nat) (z:World),0≤b→b≤10000→frm≤text.size→zM z wb gc gi ga gk cc ci ca ck C.1 text (Mt.chosen C.1 policy mask) (jV C.1 C.1.length) b (List.replicate (C.1.length*(text.size+1)*12) false) room 0 false →
     Calls Tryz.prog 51 #[.pointer (some ⟨wb,0,none⟩),.int .i64 frm] z fun e w'=>e=.returned (fdV (Mt.zX C.1 text policy mask room b frm).1)∧Keep wb gk z w'∧∃ kn' room' used',zM w' wb gc gi ga gk cc ci ca ck C.1 text (Mt.chosen C.1 policy mask) (jV C.1 C.1.length) b kn' room' used' (Mt.zX C.1 text policy mask room b frm).2):=hSr
   have HLn:Hid (∀ (b:Int) (frm:Nat),frm≤text.size→(Mt.zX C.1 text policy mask room b frm).1.at'.length=20):=fun b frm hf=>zGx (Mt.zDh C.1 text policy mask) hE.ok hcl b _ _ _ _ _ (by show _≤text.size+1;omega) b4
   have HIn:Hid (∀ (b:Int) (frm:Nat),0≤b→frm≤text.size→(Mt.zX C.1 text policy mask room b frm).2=false→(0≤(Mt.zX C.1 text policy mask room b frm).1.steps∧(Mt.zX C.1 text policy mask room b frm).1.steps≤b)∧((Mt.zX C.1 text policy mask room b frm).1.ok=true→∃ x y:Nat,(Mt.zX C.1 text policy mask room b frm).1.at'.getD 0 0=(x:Int)∧(Mt.zX C.1 text policy mask room b frm).1.at'.getD 1 0=(y:Int)∧frm≤x∧x≤y∧y≤text.size)):=fun b frm h0 hf ho=>Mt.zDC (Mt.zDh C.1 text policy mask) hE.ok hcl b _ _ _ _ _ (by show _≤text.size+1;omega) b4 (by omega) ho
   obtain ⟨i0,hi,hz0,hz1,hz2⟩:=info_parts Tryz.infoF
   clear hR hE hcf hen hmf hSr b1 b3 b4 b5 hcl hc0 hm0
   go_enter Tryz.func31,Tryz.ntmps31
   go_wp2_with fail
   refine (KC.out _).mono ?_
   rintro e w1 ⟨v1,rfl,q1,hb1⟩
   have HO:Hid (w1.heap[w.heap.size]?=some (.cells #[.int .i64 policy,.int .i64 mask,.int .i64 room,.int .i64 budget] 61 (0,0))):=(hb1.block _ (by simp)).trans (heap_alloc_new _ _)
   have hs1:=hb1.size
   have l2:w.heap.size<w1.heap.size:=by simp at hs1;omega
   have hB1:Below w.heap.size w w1:=((Below.refl _ _).alloc (Nat.le_refl _) _).trans (hb1.mono (by simp))
   have y1:=(zA HO.out).1
   have y10:w1.cell? ⟨w.heap.size,0,none⟩=some (.int .i64 policy):=y1 0
   have y11:w1.cell? ⟨w.heap.size,1,none⟩=some (.int .i64 mask):=y1 1
   have y12:w1.cell? ⟨w.heap.size,2,none⟩=some (.int .i64 room):=y1 2
   have y13:w1.cell? ⟨w.heap.size,3,none⟩=some (.int .i64 budget):=y1 3
   obtain ⟨gc,cc,hv1,lgc⟩:∃ gc cc,v1=.slice (some ⟨gc,0,none⟩) C.1.length cc∧gc<w1.heap.size:=by
    rcases zAt q1 with ⟨e,_⟩ | ⟨_,g,cap,e,_,hg,_⟩
    ·have:=HCL.out;rw [e] at this;simp at this
    ·exact ⟨g,cap,e,hg⟩
   subst hv1
   have Q1:Hid (zB w1 0 (.slice (some ⟨gc,0,none⟩) C.1.length cc) C.1):=q1
   clear hb1 q1 hs1 y1
   go_wp2_with fail
   refine (KM.out _).mono ?_
   rintro e w2 ⟨rfl,hb2⟩
   have hs2:=hb2.size
   have HO2:Hid (w2.heap[w.heap.size]?=some (.cells #[.int .i64 policy,.int .i64 mask,.int .i64 room,.int .i64 budget] 61 (0,0))):=(hb2.block _ l2).trans HO.out
   have Q2:Hid (zB w2 0 (.slice (some ⟨gc,0,none⟩) C.1.length cc) C.1):=Q1.out.below hb2
   have hB2:Below w.heap.size w w2:=hB1.trans (hb2.mono (by omega))
   have l4:w.heap.size<w2.heap.size:=by omega
   clear HO hb2 hB1 y10 y11 y12 y13 Q1 hs2 l2 lgc
   go_wp2_with fail
   go_loopw [11,12,13] (fun v u i wr=>zSW w2 gc cc C.1 text policy mask room budget R v u i wr) (fun _ _ i _=>text.size+2-(intOf i).toNat)
   case atStart=>exact ⟨text.size+2,0,0,[],rfl,rfl,by omega,by omega,by simp,⟨by omega,HB.out.1⟩,World.ownsRow_nil _ _ _ _,Below.refl _ _,HR.out⟩
   case round =>
    clear HR
    obtain ⟨F,frm,used,l,rfl,rfl,hfr,hF,hll,hus,hown,hbr,hR⟩:=hrel
    have HOW:Hid (vQ wr w2.heap.size u11 l):=hown
    have zR5:Hid (Below w2.heap.size w2 wr):=hbr
    have HR:Hid (R=Mt.yU C.1 text policy mask room budget F frm used l):=hR
    have QR:Hid (zB wr 0 (.slice (some ⟨gc,0,none⟩) C.1.length cc) C.1):=Q2.out.below hbr
    have hsr:=hbr.size
    have y1:=(zA ((hbr.block _ l4).trans HO2.out)).1
    have x10:wr.cell? ⟨w.heap.size,0,none⟩=some (.int .i64 policy):=y1 0
    have x11:wr.cell? ⟨w.heap.size,1,none⟩=some (.int .i64 mask):=y1 1
    have x12:wr.cell? ⟨w.heap.size,2,none⟩=some (.int .i64 room):=y1 2
    have x13:wr.cell? ⟨w.heap.size,3,none⟩=some (.int .i64 budget):=y1 3
    have l5:w.heap.size<wr.heap.size:=by omega
    have zT1:=hus.1
    have zT2:=hus.2
    have hb0:=HB.out.1
    have hb1:=HB.out.2
    clear hown hbr hR y1 hus
    obtain ⟨F,rfl⟩:∃ F',F=F'+1:=⟨F-1,by omega⟩
    by_cases hlt:text.size<frm
    ·have HRR:Hid (R=(l,used,0)):=by show _=_;rw [HR.out,Mt.yU,if_pos hlt]
     clear HR
     go_wp2_with fail
     go_ret3
     rw [HRR.out]
     exact ⟨_,rfl,kQ HOW.out (by omega),hB2.trans (zR5.out.mono (by omega))⟩
    ·have hfT:frm≤text.size:=by omega
     have hRR:=HR.out
     rw [Mt.yU,if_neg hlt] at hRR
     have hS4:=HLn.out (budget-used) frm hfT
     have hS5:=HIn.out (budget-used) frm (by omega) hfT
     have hS6:=fun wb gc gi ga gk cc ci ca ck z hz=>HSr.out (budget-used) frm wb gc gi ga gk cc ci ca ck z (by omega) (by omega) hfT hz
     generalize Mt.zX C.1 text policy mask room (budget-used) frm=S at *
     have HRR:Hid (R=_):=hRR
     have HL:Hid (S.1.at'.length=20):=hS4
     have HI:Hid (S.2=false→(0≤S.1.steps∧S.1.steps≤budget-used)∧(S.1.ok=true→∃ x y:Nat,S.1.at'.getD 0 0=(x:Int)∧S.1.at'.getD 1 0=(y:Int)∧frm≤x∧x≤y∧y≤text.size)):=hS5
     have HS6:Hid (∀ (wb gc gi ga gk cc ci ca ck:Nat) (z:World),zM z wb gc gi ga gk cc ci ca ck C.1 text (Mt.chosen C.1 policy mask) (jV C.1 C.1.length) (budget-used) (List.replicate (C.1.length*(text.size+1)*12) false) room 0 false →
      Calls Tryz.prog 51 #[.pointer (some ⟨wb,0,none⟩),.int .i64 frm] z fun e w'=>e=.returned (fdV S.1)∧Keep wb gk z w'∧∃ kn' room' used',zM w' wb gc gi ga gk cc ci ca ck C.1 text (Mt.chosen C.1 policy mask) (jV C.1 C.1.length) (budget-used) kn' room' used' S.2):=hS6
     clear hRR hS4 hS5 hS6 HR
     go_wp2_with fail
     refine (zMY C.1 text policy mask room budget (budget-used) gc cc wr QR.out HCL.out zTo.out.2 zTo.out.1 hT HBM.out.1 HBM.out.2).mono ?_
     rintro e w3 ⟨wb,gi,ga,gk,ci,ca,ck,rfl,hW3,hb3,lwb,lgk⟩
     have HW3:Hid (zM w3 wb gc gi ga gk cc ci ca ck C.1 text (Mt.chosen C.1 policy mask) (jV C.1 C.1.length) (budget-used) (List.replicate (C.1.length*(text.size+1)*12) false) room 0 false):=hW3
     have HB3:Hid (Below wr.heap.size wr w3):=hb3
     have hs3:=hb3.size
     clear hW3 hb3 x10 x11 x12 x13
     go_wp2_with fail
     refine (HS6.out wb gc gi ga gk cc ci ca ck w3 HW3.out).mono ?_
     rintro e w4 ⟨rfl,hk4,kn',room',used',hW4⟩
     have HB4:Hid (Below wr.heap.size wr w4):=HB3.out.trans (hk4.toBelow hs3 lwb lgk)
     have hs4:=hk4.size
     have HW4:Hid (zM w4 wb gc gi ga gk cc ci ca ck C.1 text (Mt.chosen C.1 policy mask) (jV C.1 C.1.length) (budget-used) kn' room' used' S.2):=hW4
     have zUK:wb<w4.heap.size:=hW4.lt.1
     clear hk4 hW4 HW3 HS6 HB3
     unfold fdV
     have hcs:(S.2=true)∨(S.2=false∧S.1.ok=false)∨(S.2=false∧S.1.ok=true):=by cases S.2 <;> cases S.1.ok <;> simp
     rcases hcs with ov | ⟨ov,ok⟩ | ⟨ov,ok⟩
     ·have HRH:Hid (R=([],0,14)):=by show _=_;rw [HRR.out,ov];rfl
      clear HRR
      go_wp2_with (first | (refine vZ (by rfl) (.tmp 15) (.tmp 44) (by rfl) w4.heap.size (fdA S.1) (by rfl) (by rfl) (by exact heap_alloc_new _ _) (by rfl) (qG _ HL.out) (zEt _) ?_;intro w5 r1 r2 r3 r4;have B5:Hid (Below w4.heap.size w4 w5):=(((Below.refl _ _).alloc (Nat.le_refl _) _).trans (r4 _ (Nat.le_refl _)));have k8:w5.cell? ⟨wb,8,none⟩=some (.bool S.2):=((zA (HW4.out.below B5.out).cell).1 8);have s5:w5.heap.size=w4.heap.size+1:=(by simpa using r3);have l7:wb<w5.heap.size:=(by omega);have l8:w4.heap.size<w5.heap.size:=(by omega);have V5:Hid (w5.heap[w4.heap.size]?=some (.cells (fdA S.1) 57 (0,0))):=(r1);have d0:w5.cell? ⟨w4.heap.size,0,none⟩=some (.bool S.1.ok):=(((zA r1).1 0).trans (zAy _ HL.out).1);have d21:w5.cell? ⟨w4.heap.size,21,none⟩=some (.int .i64 S.1.steps):=(((zA r1).1 21).trans (zAy _ HL.out).2.2.2);have HS5:Hid (w5.heap.size=w4.heap.size+1):=(s5);clear r1 r2 r3 r4 s5) | fail)
      go_ret3
      rw [HRH.out]
      exact ⟨_,rfl,World.ownsRow_nil _ _ _ _,(hB2.trans (zR5.out.mono (by omega))).trans ((HB4.out.trans (B5.out.mono (by omega))).mono (by omega))⟩
     ·have HRH:Hid (R=(l,used+S.1.steps,0)):=by show _=_;rw [HRR.out,ov,ok];rfl
      have hst:=(HI.out ov).1
      have zQL:=hst.1
      have zSX:=hst.2
      clear HRR hst
      go_wp2_with (first | (refine vZ (by rfl) (.tmp 15) (.tmp 44) (by rfl) w4.heap.size (fdA S.1) (by rfl) (by rfl) (by exact heap_alloc_new _ _) (by rfl) (qG _ HL.out) (zEt _) ?_;intro w5 r1 r2 r3 r4;have B5:Hid (Below w4.heap.size w4 w5):=(((Below.refl _ _).alloc (Nat.le_refl _) _).trans (r4 _ (Nat.le_refl _)));have k8:w5.cell? ⟨wb,8,none⟩=some (.bool S.2):=((zA (HW4.out.below B5.out).cell).1 8);have s5:w5.heap.size=w4.heap.size+1:=(by simpa using r3);have l7:wb<w5.heap.size:=(by omega);have l8:w4.heap.size<w5.heap.size:=(by omega);have V5:Hid (w5.heap[w4.heap.size]?=some (.cells (fdA S.1) 57 (0,0))):=(r1);have d0:w5.cell? ⟨w4.heap.size,0,none⟩=some (.bool S.1.ok):=(((zA r1).1 0).trans (zAy _ HL.out).1);have d21:w5.cell? ⟨w4.heap.size,21,none⟩=some (.int .i64 S.1.steps):=(((zA r1).1 21).trans (zAy _ HL.out).2.2.2);have HS5:Hid (w5.heap.size=w4.heap.size+1):=(s5);clear r1 r2 r3 r4 s5) | fail)
      go_ret3
      rw [HRH.out]
      exact ⟨_,rfl,kQ (jT HOW.out (HB4.out.trans (B5.out.mono (by omega)))) (by omega),(hB2.trans (zR5.out.mono (by omega))).trans ((HB4.out.trans (B5.out.mono (by omega))).mono (by omega))⟩
     ·have HRH:Hid (R=Mt.yU C.1 text policy mask room budget F (Mt.qX S.1) (used+S.1.steps) (l++[S.1])):=by show _=_;rw [HRR.out,ov,ok];rfl
      have hst:=HI.out ov
      have zQL:=hst.1.1
      have zSX:=hst.1.2
      obtain ⟨x,y,hx,hy,hxf,hxy,hyT⟩:=hst.2 ok
      have HNX:Hid (Mt.qX S.1=if (x:Int)=(y:Int) then y+1 else y):=by
       show _=_
       unfold Mt.qX;rw [hx,hy];simp
      have HX:Hid (S.1.at'.getD 0 0=(x:Int)∧S.1.at'.getD 1 0=(y:Int)):=⟨hx,hy⟩
      clear HRR hst hx hy
      by_cases hxe:x=y
      ·have exy:((x:Int)==(y:Int))=true:=by simp [hxe]
       have HN:Hid (Mt.qX S.1=y+1):=by show _=_;rw [HNX.out,if_pos (by omega)]
       have HXE:Hid (x=y):=hxe
       clear HNX hxe
       go_wp2_with (first | (refine vZ (by rfl) (.tmp 15) (.tmp 44) (by rfl) w4.heap.size (fdA S.1) (by rfl) (by rfl) (by exact heap_alloc_new _ _) (by rfl) (qG _ HL.out) (zEt _) ?_;intro w5 r1 r2 r3 r4;have B5:Hid (Below w4.heap.size w4 w5):=(((Below.refl _ _).alloc (Nat.le_refl _) _).trans (r4 _ (Nat.le_refl _)));have k8:w5.cell? ⟨wb,8,none⟩=some (.bool S.2):=((zA (HW4.out.below B5.out).cell).1 8);have s5:w5.heap.size=w4.heap.size+1:=(by simpa using r3);have l7:wb<w5.heap.size:=(by omega);have l8:w4.heap.size<w5.heap.size:=(by omega);have V5:Hid (w5.heap[w4.heap.size]?=some (.cells (fdA S.1) 57 (0,0))):=(r1);have d0:w5.cell? ⟨w4.heap.size,0,none⟩=some (.bool S.1.ok):=(((zA r1).1 0).trans (zAy _ HL.out).1);have d21:w5.cell? ⟨w4.heap.size,21,none⟩=some (.int .i64 S.1.steps):=(((zA r1).1 21).trans (zAy _ HL.out).2.2.2);have HS5:Hid (w5.heap.size=w4.heap.size+1):=(s5);clear r1 r2 r3 r4 s5) | (refine zAS (by rfl) (.tmp 15) (by rfl) w4.heap.size (by rfl) (by exact V5.out) (qG _ HL.out) ?_) | (refine zCy (by rfl) (.tmp 59) (by rfl) S.1 HL.out (by rfl) ?_) | (at_builtin;refine wpList_append_own _ rfl _ _ 64 rfl w2.heap.size 57 i0 _ 22 176 Tryz.underlying64 hi hz0 hz1 hz2 (by rfl) (by decide) _ _ _ rfl (World.ownsRow.alloc (jT HOW.out (HB4.out.trans (B5.out.mono (by omega)))) _) ⟨w5.heap.size,0,none⟩ 1 1 (fdL S.1) rfl (by rw [zDi _ HL.out]) (vS _ _ _) (zMZ _) ?_ ?_ ?_ ?_;rotate_right))
       ·intro v' w7 hown' hgrow _
        have hq:∀ q,u11.ownBlock=some q→q<wr.heap.size:=fun q hq=>(World.ownsRow.lt HOW.out q hq).2
        have O7:Hid (vQ w7 w2.heap.size v' (l++[S.1])):=zEu hown'
        have zR6:Below w2.heap.size w2 w5:=zR5.out.trans ((HB4.out.trans (B5.out.mono (by omega))).mono (by omega))
        have B7:Hid (Below w2.heap.size w2 w7):=(zR6.alloc (by have:=HS5.out;omega) _).grown hgrow (by have:=HS5.out;simp;omega) (fun q hq'=>(World.ownsRow.lt HOW.out q hq').1)
        have e1:w7.cell? ⟨w4.heap.size,1,none⟩=some (.int .i64 (x:Int)):=(zAH hgrow (by have:=HS5.out;omega) (fun q hq'=>by have:=hq q hq';omega) 1).trans (((zA V5.out).1 1).trans ((zAy _ HL.out).2.1.trans (by rw [HX.out.1])))
        have e2:w7.cell? ⟨w4.heap.size,2,none⟩=some (.int .i64 (y:Int)):=(zAH hgrow (by have:=HS5.out;omega) (fun q hq'=>by have:=hq q hq';omega) 2).trans (((zA V5.out).1 2).trans ((zAy _ HL.out).2.2.1.trans (by rw [HX.out.2])))
        have l9:w4.heap.size<w7.heap.size:=by have:=hgrow.size;have:=HS5.out;simp at *;omega
        clear hown' hgrow hq zR6 d0 d21 k8 l7 l8
        go_wp2_with fail
        go_roundw
        case rel=>exact ⟨F,y+1,used+S.1.steps,l++[S.1],by go_num,by go_num,by omega,by omega,by rw [List.length_append];have:=HXE.out;simp;omega,⟨by omega,by omega⟩,O7.out,B7.out,by rw [HRH.out,HN.out]⟩
        case measure=>have:=HXE.out;simp [intOf];omega
       ·unfold maxLen;omega
       ·omega
       ·have:=HS5.out;simp;omega
      ·have exy:((x:Int)==(y:Int))=false:=by simp;omega
       have HN:Hid (Mt.qX S.1=y):=by show _=_;rw [HNX.out,if_neg (by omega)]
       clear HNX
       go_wp2_with (first | (refine vZ (by rfl) (.tmp 15) (.tmp 44) (by rfl) w4.heap.size (fdA S.1) (by rfl) (by rfl) (by exact heap_alloc_new _ _) (by rfl) (qG _ HL.out) (zEt _) ?_;intro w5 r1 r2 r3 r4;have B5:Hid (Below w4.heap.size w4 w5):=(((Below.refl _ _).alloc (Nat.le_refl _) _).trans (r4 _ (Nat.le_refl _)));have k8:w5.cell? ⟨wb,8,none⟩=some (.bool S.2):=((zA (HW4.out.below B5.out).cell).1 8);have s5:w5.heap.size=w4.heap.size+1:=(by simpa using r3);have l7:wb<w5.heap.size:=(by omega);have l8:w4.heap.size<w5.heap.size:=(by omega);have V5:Hid (w5.heap[w4.heap.size]?=some (.cells (fdA S.1) 57 (0,0))):=(r1);have d0:w5.cell? ⟨w4.heap.size,0,none⟩=some (.bool S.1.ok):=(((zA r1).1 0).trans (zAy _ HL.out).1);have d21:w5.cell? ⟨w4.heap.size,21,none⟩=some (.int .i64 S.1.steps):=(((zA r1).1 21).trans (zAy _ HL.out).2.2.2);have HS5:Hid (w5.heap.size=w4.heap.size+1):=(s5);clear r1 r2 r3 r4 s5) | (refine zAS (by rfl) (.tmp 15) (by rfl) w4.heap.size (by rfl) (by exact V5.out) (qG _ HL.out) ?_) | (refine zCy (by rfl) (.tmp 59) (by rfl) S.1 HL.out (by rfl) ?_) | (at_builtin;refine wpList_append_own _ rfl _ _ 64 rfl w2.heap.size 57 i0 _ 22 176 Tryz.underlying64 hi hz0 hz1 hz2 (by rfl) (by decide) _ _ _ rfl (World.ownsRow.alloc (jT HOW.out (HB4.out.trans (B5.out.mono (by omega)))) _) ⟨w5.heap.size,0,none⟩ 1 1 (fdL S.1) rfl (by rw [zDi _ HL.out]) (vS _ _ _) (zMZ _) ?_ ?_ ?_ ?_;rotate_right))
       ·intro v' w7 hown' hgrow _
        have hq:∀ q,u11.ownBlock=some q→q<wr.heap.size:=fun q hq=>(World.ownsRow.lt HOW.out q hq).2
        have O7:Hid (vQ w7 w2.heap.size v' (l++[S.1])):=zEu hown'
        have zR6:Below w2.heap.size w2 w5:=zR5.out.trans ((HB4.out.trans (B5.out.mono (by omega))).mono (by omega))
        have B7:Hid (Below w2.heap.size w2 w7):=(zR6.alloc (by have:=HS5.out;omega) _).grown hgrow (by have:=HS5.out;simp;omega) (fun q hq'=>(World.ownsRow.lt HOW.out q hq').1)
        have e1:w7.cell? ⟨w4.heap.size,1,none⟩=some (.int .i64 (x:Int)):=(zAH hgrow (by have:=HS5.out;omega) (fun q hq'=>by have:=hq q hq';omega) 1).trans (((zA V5.out).1 1).trans ((zAy _ HL.out).2.1.trans (by rw [HX.out.1])))
        have e2:w7.cell? ⟨w4.heap.size,2,none⟩=some (.int .i64 (y:Int)):=(zAH hgrow (by have:=HS5.out;omega) (fun q hq'=>by have:=hq q hq';omega) 2).trans (((zA V5.out).1 2).trans ((zAy _ HL.out).2.2.1.trans (by rw [HX.out.2])))
        have l9:w4.heap.size<w7.heap.size:=by have:=hgrow.size;have:=HS5.out;simp at *;omega
        clear hown' hgrow hq zR6 d0 d21 k8 l7 l8
        go_wp2_with fail
        go_roundw
        case rel=>exact ⟨F,y,used+S.1.steps,l++[S.1],by go_num,by go_num,by omega,by omega,by rw [List.length_append];simp;omega,⟨by omega,by omega⟩,O7.out,B7.out,by rw [HRH.out,HN.out]⟩
        case measure=>simp [intOf];omega
       ·unfold maxLen;omega
       ·omega
       ·have:=HS5.out;simp;omega
  ·rw [if_pos (by simpa using hm)]
   clear hcf hen hmf
   go_enter Tryz.func31,Tryz.ntmps31
   go_wp2_with fail
   refine (KC.out _).mono ?_
   rintro e w1 ⟨v1,rfl,q1,hb1⟩
   have HO:Hid (w1.heap[w.heap.size]?=some (.cells #[.int .i64 policy,.int .i64 mask,.int .i64 room,.int .i64 budget] 61 (0,0))):=(hb1.block _ (by simp)).trans (heap_alloc_new _ _)
   have hs1:=hb1.size
   have l2:w.heap.size<w1.heap.size:=by simp at hs1;omega
   have hB1:Below w.heap.size w w1:=((Below.refl _ _).alloc (Nat.le_refl _) _).trans (hb1.mono (by simp))
   have y1:=(zA HO.out).1
   have y10:w1.cell? ⟨w.heap.size,0,none⟩=some (.int .i64 policy):=y1 0
   have y11:w1.cell? ⟨w.heap.size,1,none⟩=some (.int .i64 mask):=y1 1
   have y12:w1.cell? ⟨w.heap.size,2,none⟩=some (.int .i64 room):=y1 2
   have y13:w1.cell? ⟨w.heap.size,3,none⟩=some (.int .i64 budget):=y1 3
   clear hb1 q1 hs1 y1
   go_wp2_with fail
   refine (KM.out _).mono ?_
   rintro e w2 ⟨rfl,hb2⟩
   have hB2:Below w.heap.size w w2:=hB1.trans (hb2.mono (by omega))
   clear HO hb2 hB1 y10 y11 y12 y13
   go_wp2_with fail
   go_ret3
   exact ⟨_,rfl,World.ownsRow_nil _ _ _ _,hB2⟩
 ·rw [if_pos (by simpa using he)]
  clear hcf hen hmf
  go_enter Tryz.func31,Tryz.ntmps31
  go_wp2_with fail
  refine (KC.out _).mono ?_
  rintro e w1 ⟨v1,rfl,q1,hb1⟩
  have hB1:Below w.heap.size w w1:=((Below.refl _ _).alloc (Nat.le_refl _) _).trans (hb1.mono (by simp))
  clear hb1 q1
  go_wp2_with fail
  go_ret3
  exact ⟨_,rfl,World.ownsRow_nil _ _ _ _,hB1⟩
theorem zR7 (f:Mt.Fnd) (h:f.at'.length=20) (k:Nat) (hk:k<20):(fdA f)[1+k]?=some (.int .i64 (f.at'.getD k 0)):=by
 unfold fdA
 rw [List.getElem?_toArray,Nat.add_comm,List.getElem?_cons_succ,List.getElem?_append_left (by simp;omega),List.getElem?_map,List.getElem?_eq_getElem (by omega),List.getD_eq_getElem?_getD,List.getElem?_eq_getElem (by omega)];rfl
theorem zFt (f:Mt.Fnd) (h:f.at'.length=20) (w:World) :
  Calls Tryz.prog 52 #[fdV f,fdV f] w fun e w'=>e=.returned (.bool true)∧Below w.heap.size w w':=by
 unfold fdV
 have HG:Hid (∀ k,k<20→(fdA f)[1+k]?=some (.int .i64 (f.at'.getD k 0))):=fun k hk=>zR7 f h k hk
 have hg0:=(zAy f h).1
 have HG0:Hid ((fdA f)[0]?=some (.bool f.ok)):=hg0
 clear hg0
 generalize fdA f=A at *
 go_enter Tryz.func52,Tryz.ntmps52
 go_wp2_with fail
 go_loopw [5] (fun i wr=>∃ k d:Nat,k≤20∧i=.int .i64 k∧wr=((w.alloc (.cells A 57)).alloc (.cells A 57)).drewN d) (fun i _=>20-(intOf i).toNat)
 case atStart=>exact ⟨0,0,Nat.zero_le _,rfl,rfl⟩
 case round =>
  obtain ⟨k,d,hk,rfl,rfl⟩:=hrel
  have q1:((w.alloc (.cells A 57)).alloc (.cells A 57)).heap[w.heap.size]?=some (.cells A 57 (0,0)):=zCs _ _ _
  have q2:((w.alloc (.cells A 57)).alloc (.cells A 57)).heap[w.heap.size+1]?=some (.cells A 57 (0,0)):=zBZ _ _ _
  have hB:Below w.heap.size w ((w.alloc (.cells A 57)).alloc (.cells A 57)):=((Below.refl _ _).alloc (Nat.le_refl _) _).alloc (by simp) _
  have s1:((w.alloc (.cells A 57)).alloc (.cells A 57)).heap.size=w.heap.size+1+1:=by simp
  generalize ((w.alloc (.cells A 57)).alloc (.cells A 57))=z at *
  have l1:w.heap.size<z.heap.size:=by omega
  have l2:w.heap.size+1<z.heap.size:=by omega
  by_cases hlt:k<20
  ·have a0:z.cell? ⟨w.heap.size,1+k,none⟩=some (.int .i64 (f.at'.getD k 0)):=((zA q1).1 _).trans (HG.out k hlt)
   have b0:z.cell? ⟨w.heap.size+1,1+k,none⟩=some (.int .i64 (f.at'.getD k 0)):=((zA q2).1 _).trans (HG.out k hlt)
   generalize f.at'.getD k 0=I at *
   have i0:(0:Int)≤(k:Int):=by omega
   have i1:(k:Int)<20:=by omega
   clear q1 q2 s1
   go_wp2_with fail
   go_quiet (fail)
   go_wp2_with fail
   go_roundw
   case rel=>exact ⟨k+1,_,by omega,by go_num,rfl⟩
   case measure=>simp [intOf];omega
  ·have a0:z.cell? ⟨w.heap.size,0,none⟩=some (.bool f.ok):=((zA q1).1 _).trans HG0.out
   have b0:z.cell? ⟨w.heap.size+1,0,none⟩=some (.bool f.ok):=((zA q2).1 _).trans HG0.out
   clear q1 q2 s1
   go_wp2_with fail
   go_ret
   exact ⟨kM (by simp),below_drewN hB _⟩
theorem zF9 (f:Mt.Fnd) (h:f.at'.length=20) (w:World) :
  Calls Tryz.prog 29 #[fdV f,fdV f] w fun e w'=>e=.returned (.bool true)∧Below w.heap.size w w':=by
 have KP:Hid (∀ z:World,Calls Tryz.prog 52 #[fdV f,fdV f] z fun e w'=>e=.returned (.bool true)∧Below z.heap.size z w'):=fun z=>zFt f h z
 have HL:Hid ((fdA f).size=22):=qG f h
 have HG0:Hid ((fdA f)[21]?=some (.int .i64 f.steps)):=(zAy f h).2.2.2
 unfold fdV at *
 generalize fdA f=A at *
 go_enter Tryz.func29,Tryz.ntmps29
 go_wp2_with (first | (refine zAS (by rfl) (.tmp 2) (by rfl) w.heap.size (by rfl) (by exact zCs _ _ _) HL.out ?_) | (refine zAS (by rfl) (.tmp 3) (by rfl) (w.heap.size+1) (by rfl) (by exact zBZ _ _ _) HL.out ?_) | fail)
 refine (KP.out _).mono ?_
 rintro e w1 ⟨rfl,hb1⟩
 have hs1:=hb1.size
 have q1:w1.heap[w.heap.size]?=some (.cells A 57 (0,0)):=(hb1.block _ (by simp;omega)).trans (zCs _ _ _)
 have q2:w1.heap[w.heap.size+1]?=some (.cells A 57 (0,0)):=(hb1.block _ (by simp)).trans (zBZ _ _ _)
 have a0:w1.cell? ⟨w.heap.size,21,none⟩=some (.int .i64 f.steps):=((zA q1).1 _).trans HG0.out
 have b0:w1.cell? ⟨w.heap.size+1,21,none⟩=some (.int .i64 f.steps):=((zA q2).1 _).trans HG0.out
 have l1:w.heap.size<w1.heap.size:=by simp at hs1;omega
 have l2:w.heap.size+1<w1.heap.size:=by simp at hs1;omega
 have hB:Below w.heap.size w w1:=(((Below.refl _ _).alloc (Nat.le_refl _) _).alloc (by simp) _).trans (hb1.mono (by simp;omega))
 clear q1 q2 hb1 hs1
 go_wp2_with fail
 go_ret
 exact ⟨kM (by simp),hB⟩
def zUL:Mt.Fnd:=Mt.zAL
theorem zM0:∀ (l:List Mt.Fnd),(∀ f∈l,f.at'.length=20)→(l.flatMap fdL).length=l.length*22
 | [],_=>rfl
 | f::r,h=>by
  rw [List.flatMap_cons,List.length_append,zM0 r (fun g hg=>h g (List.mem_cons_of_mem _ hg)),zDi f (h f (List.mem_cons_self ..)),List.length_cons];omega
theorem zM1:∀ (l:List Mt.Fnd),(∀ f∈l,f.at'.length=20)→∀ (k j:Nat),k<l.length→j<22→(l.flatMap fdL)[k*22+j]?=(fdL (l.getD k Mt.zAL))[j]?
 | [],_,k,j,hk,_=>by simp at hk
 | f::r,h,0,j,hk,hj=>by
  rw [List.flatMap_cons,List.getElem?_append_left (by rw [zDi f (h f (List.mem_cons_self ..))];omega)];simp
 | f::r,h,k+1,j,hk,hj=>by
  have hl:=zDi f (h f (List.mem_cons_self ..))
  rw [List.flatMap_cons,List.getElem?_append_right (by omega),hl,show (k+1)*22+j-22=k*22+j by omega]
  rw [zM1 r (fun g hg=>h g (List.mem_cons_of_mem _ hg)) k j (by simp at hk;omega) hj];simp
theorem zDD {w:World} {base:Nat} {v:Value} {l:List Mt.Fnd} (h:vQ w base v l) (hl:∀ f∈l,f.at'.length=20) :
  (l=[]∧∃ ao cap,v=.slice ao 0 cap)∨(0<l.length∧∃ g cap,v=.slice (some ⟨g,0,none⟩) l.length cap∧l.length≤cap∧g<w.heap.size∧∀ k,k<l.length→w.rangeAt g (k*22) (fdL (l.getD k Mt.zAL))):=by
 by_cases h0:l=[]
 ·left
  subst h0
  refine ⟨rfl,?_⟩
  rcases h.2 with ⟨rfl,_⟩ | ⟨g,cap,cur,rfl,_⟩
  ·exact ⟨_,_,rfl⟩
  ·exact ⟨_,_,rfl⟩
 ·right
  have hp:0<l.length:=List.length_pos_iff.2 h0
  refine ⟨hp,?_⟩
  have hh:=kQ h (Nat.zero_le _)
  rcases h.2 with ⟨rfl,hn⟩ | ⟨g,cap,cur,rfl,hb,hg,h1,h2,h3,h4⟩
  ·omega
  ·refine ⟨g,cap,rfl,h1,(Array.getElem?_eq_some_iff.1 hg).1,fun k hk j u hu=>?_⟩
   have hlen:=zM0 l hl
   have hj:j<22:=by
    have:=(List.getElem?_eq_some_iff.1 hu).1
    have hm:(l.getD k Mt.zAL).at'.length=20:=hl _ (by rw [List.getD_eq_getElem?_getD,List.getElem?_eq_getElem hk];exact List.getElem_mem hk)
    rw [zDi _ hm] at this;exact this
   have hc:=World.ownsRow.cellAt hh (k*22+j) (by
    have:(k+1)*22≤l.length*22:=Nat.mul_le_mul_right _ hk
    rw [Nat.add_mul] at this;omega)
   rw [hc,zM1 l hl k j hk hj];exact hu
theorem zHa (c:List Mt.Fnd) (zR8:∀ f∈c,f.at'.length=20) (va vb:Value) (w:World) (ha:vQ w 0 va c) (hb:vQ w 0 vb c) (hl:c.length≤300) :
  Calls Tryz.prog 32 #[va,vb] w fun e w'=>e=.returned (.bool true)∧Below w.heap.size w w':=by
 rcases zDD ha zR8 with ⟨rfl,ao,zSY,rfl⟩ | ⟨hpos,ga,zSY,rfl,hca,hga,hA⟩
 ·rcases zDD hb zR8 with ⟨_,bo,zTp,rfl⟩ | ⟨hpos,_⟩
  ·clear ha hb
   go_enter Tryz.func32,Tryz.ntmps32
   go_wp2_with fail
   refine wp_loop_rounds 1 ?_
   rw [rounds_succ]
   go_wp2_with fail
   go_ret
   exact ⟨rfl,Below.refl _ _⟩
  ·simp at hpos
 ·rcases zDD hb zR8 with ⟨rfl,_⟩ | ⟨_,gb,zTp,rfl,hcb,hgb,hB⟩
  ·simp at hpos
  ·have HA:Hid (∀ k,k<c.length→w.rangeAt ga (k*22) (fdL (c.getD k Mt.zAL))):=hA
   have HB:Hid (∀ k,k<c.length→w.rangeAt gb (k*22) (fdL (c.getD k Mt.zAL))):=hB
   have H20:Hid (∀ f∈c,f.at'.length=20):=zR8
   clear ha hb hA hB zR8
   go_enter Tryz.func32,Tryz.ntmps32
   go_wp2_with fail
   go_loopw [5] (fun i wr=>∃ k:Nat,k≤c.length∧i=.int .i64 k∧Below w.heap.size w wr) (fun i _=>c.length-(intOf i).toNat)
   case atStart=>exact ⟨0,Nat.zero_le _,rfl,Below.refl _ _⟩
   case round =>
    obtain ⟨k,hk,rfl,hbr⟩:=hrel
    have hsz:=hbr.size
    by_cases hlt:k<c.length
    ·have hm:(c.getD k Mt.zAL).at'.length=20:=H20.out _ (by rw [List.getD_eq_getElem?_getD,List.getElem?_eq_getElem hlt];exact List.getElem_mem hlt)
     have a0:=HA.out k hlt
     have b0:=HB.out k hlt
     generalize c.getD k Mt.zAL=f at *
     have ra:∀ z:World,(∀ q,q<w.heap.size→z.heap[q]?=w.heap[q]?)→z.rangeAt ga (k*22) (fdL f):=fun z hz j u hu=>(zFs ⟨ga,k*22+j,none⟩ (hz ga hga)).trans (a0 j u hu)
     have rb:∀ z:World,(∀ q,q<w.heap.size→z.heap[q]?=w.heap[q]?)→z.rangeAt gb (k*22) (fdL f):=fun z hz j u hu=>(zFs ⟨gb,k*22+j,none⟩ (hz gb hgb)).trans (b0 j u hu)
     have i0:(0:Int)≤(k:Int):=by omega
     have i1:(k:Int)<(c.length:Int):=by omega
     have hlen:=zDi f hm
     have KP:Hid (∀ z:World,Calls Tryz.prog 29 #[fdV f,fdV f] z fun e w'=>e=.returned (.bool true)∧Below z.heap.size z w'):=fun z=>zF9 f hm z
     clear a0 b0
     go_wp2_with fail
     refine wp_region_held_drew (S:=fun z:World=>∀ q,q<w.heap.size→z.heap[q]?=w.heap[q]?) (by kernel_rfl) (fun q hq=>hbr.block q hq) (fun hHeld=>?_)
     refine take_at 0 18 (.slice (some ⟨ga,0,none⟩) c.length zSY) rfl rfl (by kernel_rfl) (by kernel_rfl) (by kernel_rfl) (fun _ _ _ h=>h) (Or.inl ⟨by rfl,fun z hz=>by clear hz hHeld ra rb;go_simp⟩) (by assumption) ?_
     simp only [Act.put,List.setIfInBounds_toArray,List.set_cons_zero,List.set_cons_succ]
     refine take_at 1 19 (.int .i64 k) rfl rfl (by kernel_rfl) (by kernel_rfl) (by kernel_rfl) (fun _ _ _ h=>h) (Or.inl ⟨by rfl,fun z hz=>by clear hz hHeld ra rb;go_simp⟩) (by assumption) ?_
     simp only [Act.put,List.setIfInBounds_toArray,List.set_cons_zero,List.set_cons_succ]
     refine take_at 2 20 (.pointer (some ⟨ga,k*22,none⟩)) rfl rfl (by kernel_rfl) (by kernel_rfl) (by kernel_rfl) (fun _ _ _ h=>h) (Or.inl ⟨by rfl,fun z hz=>by clear hz hHeld ra rb;go_simp⟩) (by assumption) ?_
     simp only [Act.put,List.setIfInBounds_toArray,List.set_cons_zero,List.set_cons_succ]
     refine take_at 3 21 (fdV f) rfl rfl (by kernel_rfl) (by kernel_rfl) (by kernel_rfl) (fun _ _ _ h=>h) (yieldsIf_load_mid (by rfl) _ _ rfl _ _ rfl _ _ ra Tryz.underlying57 rfl (by rw [Tryz.size57];exact congrArg some hlen.symm)) (by assumption) ?_
     simp only [Act.put,List.setIfInBounds_toArray,List.set_cons_zero,List.set_cons_succ]
     refine take_at 4 22 (.slice (some ⟨gb,0,none⟩) c.length zTp) rfl rfl (by kernel_rfl) (by kernel_rfl) (by kernel_rfl) (fun _ _ _ h=>h) (Or.inl ⟨by rfl,fun z hz=>by clear hz hHeld ra rb;go_simp⟩) (by assumption) ?_
     simp only [Act.put,List.setIfInBounds_toArray,List.set_cons_zero,List.set_cons_succ]
     refine take_at 5 23 (.int .i64 k) rfl rfl (by kernel_rfl) (by kernel_rfl) (by kernel_rfl) (fun _ _ _ h=>h) (Or.inl ⟨by rfl,fun z hz=>by clear hz hHeld ra rb;go_simp⟩) (by assumption) ?_
     simp only [Act.put,List.setIfInBounds_toArray,List.set_cons_zero,List.set_cons_succ]
     refine take_at 6 24 (.pointer (some ⟨gb,k*22,none⟩)) rfl rfl (by kernel_rfl) (by kernel_rfl) (by kernel_rfl) (fun _ _ _ h=>h) (Or.inl ⟨by rfl,fun z hz=>by clear hz hHeld ra rb;go_simp⟩) (by assumption) ?_
     simp only [Act.put,List.setIfInBounds_toArray,List.set_cons_zero,List.set_cons_succ]
     refine take_at 7 25 (fdV f) rfl rfl (by kernel_rfl) (by kernel_rfl) (by kernel_rfl) (fun _ _ _ h=>h) (yieldsIf_load_mid (by rfl) _ _ rfl _ _ rfl _ _ rb Tryz.underlying57 rfl (by rw [Tryz.size57];exact congrArg some hlen.symm)) (by assumption) ?_
     simp only [Act.put,List.setIfInBounds_toArray,List.set_cons_zero,List.set_cons_succ]
     refine wpAnyH_ready (rs:=[8]) (by kernel_rfl) (by simp) ?_
     refine AllReadyH.cons rfl (fun K hK=>?_) AllReadyH.nil
     clear ra rb
     have HH:Hid (∀ q,q<w.heap.size→wr.drew.heap[q]?=w.heap[q]?):=hHeld
     clear hHeld
     go_simp
     refine (KP.out wr.drew).mono ?_
     rintro e w9 ⟨rfl,hb9⟩
     have hS9:∀ q,q<w.heap.size→w9.heap[q]?=w.heap[q]?:=fun q hq=>(hb9.block q (by show q<wr.heap.size;omega)).trans (HH.out q hq)
     have B9:Hid (Below w.heap.size w w9):=hbr.trans (((Below.refl _ _).drew).trans (hb9.mono hsz))
     clear hb9 hbr
     go_simp
     refine hK.out _ _ hS9 (fun zKu=>?_)
     clear hK K hS9
     refine take_at 9 6 (.bool true) rfl rfl (by kernel_rfl) (by kernel_rfl) (by kernel_rfl) (fun _ _ _ h=>h) (Or.inl ⟨by rfl,fun z hz=>by clear hz zKu;go_simp⟩) (by assumption) ?_
     simp only [Act.put,List.setIfInBounds_toArray,List.set_cons_zero,List.set_cons_succ]
     refine wpAnyH_done (by kernel_rfl) ?_ _
     clear zKu
     go_wp2_with fail
     go_roundw
     case rel=>exact ⟨k+1,by omega,by go_num,B9.out⟩
     case measure=>simp [intOf];omega
    ·go_wp2_with fail
     go_ret
     exact ⟨rfl,hbr⟩
theorem zJE (o:Stp) (w:World) :
  Calls Tryz.prog 27 #[opV o] w fun e w'=>e=.returned (.agg #[.int .i64 o.policy,.int .i64 o.mask,.int .i64 o.room,.int .i64 o.budget])∧Below w.heap.size w w':=by
 unfold opV opA
 go_enter Tryz.func27,Tryz.ntmps27
 go_wp2_with fail
 go_returns
 refine ⟨rfl,?_⟩
 go_grown
theorem Tryz.sizeOp:(Tryz.prog.info? 26).map (·.size)=some 8:=by kernel_rfl
def zR9:Prop:=∀ (p t:ByteArray) (frm policy mask room budget:Int) (z:World),p.size≤maxLen→t.size≤maxLen→Calls Tryz.prog 26 #[.string p,.string t,.int .i64 frm,.agg #[.int .i64 policy,.int .i64 mask,.int .i64 room,.int .i64 budget]] z fun e w'=>e=.returned (.tuple #[fdV (Mt.zR0 p t frm policy mask room budget).1,.int .i64 (Mt.zR0 p t frm policy mask room budget).2])∧Below z.heap.size z w'
end Go.Proofs.YtebpgfodelggoabGreat
