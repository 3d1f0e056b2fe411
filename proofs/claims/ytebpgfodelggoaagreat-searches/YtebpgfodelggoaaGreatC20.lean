import Derived.Test.YtebpgfodelggoaaGreatC19
import Derived.Test.YtebpgfodelggoaaGreatC17
import Derived.Great.BuildSlice
set_option linter.unusedVariables false
set_option linter.unusedSimpArgs false
set_option maxRecDepth 100000
set_option maxHeartbeats 8000000
namespace Go.Proofs.YtebpgfodelggoaaGreat
open Go.RowKit
theorem Keep.toBelow {wb gk:Nat} {a b:World} {N:Nat} (h:Keep wb gk a b) (hN:N≤a.heap.size) (h1:N≤wb) (h2:N≤gk):Below N a b :=
 ⟨h.os,h.tape,h.output,h.size,fun i hi=>h.block i (by omega) (by omega) (by omega)⟩
theorem zJn (p text:ByteArray) (frm policy mask room budget:Int) (w:World) (hp:p.size≤maxLen) (ht:text.size≤maxLen) :
  Calls Tryz.prog 12 #[.string p,.string text,.int .i64 frm,.agg #[.int .i64 policy,.int .i64 mask,.int .i64 room,.int .i64 budget]] w fun e w' =>
   e=.returned (.tuple #[fdV (Mt.zBc p text frm policy mask room budget).1,.int .i64 (Mt.zBc p text frm policy mask room budget).2])∧Below w.heap.size w w':=by
 have KC:Hid (∀ z:World,Calls Tryz.prog 19 #[.string p] z fun e w'=>∃ v,e=.returned (.tuple #[v,.int .i64 (Mt.kQ p).2])∧zB w' 0 v (Mt.kQ p).1∧Below z.heap.size z w'):=fun z=>zI9 p z hp
 have KM:Hid (∀ z:World,Calls Tryz.prog 20 #[.string text,.int .i64 frm,.agg #[.int .i64 policy,.int .i64 mask,.int .i64 room,.int .i64 budget]] z fun e w'=>e=.returned (.int .i64 (Mt.zAu text.size frm policy mask room budget))∧Below z.heap.size z w'):=fun z=>zJm text frm policy mask room budget z ht
 have hcf:=Mt.zHR p
 have hen:=zPL p text
 unfold Mt.zBc
 generalize hC:Mt.kQ p=C at *
 have hmf:Mt.zAu text.size frm policy mask room budget=0→text.size≤60∧(0≤frm∧frm≤text.size)∧(0≤mask∧mask≤4294967295)∧(0≤room∧room≤5000)∧(0≤budget∧budget≤10000):=by
  intro h
  unfold Mt.zAu at h
  split at h
  ·omega
  split at h
  ·rename_i h1 h2
   obtain ⟨hs,h3,h4,h5,h6,h7,h8⟩:=h2
   unfold Mt.kF at hs
   simp only [decide_eq_true_eq] at hs
   omega
  ·omega
 generalize hM:Mt.zAu text.size frm policy mask room budget=M at *
 have hzf:Obj.cells #[Value.bool false,Value.int IntKind.i64 0,Value.int IntKind.i64 0,Value.int IntKind.i64 0,Value.int IntKind.i64 0,Value.int IntKind.i64 0,Value.int IntKind.i64 0,Value.int IntKind.i64 0,Value.int IntKind.i64 0,Value.int IntKind.i64 0,Value.int IntKind.i64 0,Value.int IntKind.i64 0,Value.int IntKind.i64 0,Value.int IntKind.i64 0,Value.int IntKind.i64 0,Value.int IntKind.i64 0,Value.int IntKind.i64 0,Value.int IntKind.i64 0,Value.int IntKind.i64 0,Value.int IntKind.i64 0,Value.int IntKind.i64 0,Value.int IntKind.i64 0] 29=zFd:=rfl
 clear hC hM
 cases he:(C.2 != 0)
 ·have hc0:C.2=0:=by simpa using he
  rw [if_neg (by simpa using he)]
  cases hm:(M != 0)
  ·have hm0:M=0:=by simpa using hm
   rw [if_neg (by simpa using hm)]
   obtain ⟨b1,b2,b3,b4,b5⟩:=hmf hm0
   obtain ⟨hE,hcl⟩:=hen hc0 b1
   obtain ⟨F,hF⟩:∃ F,F=Mt.vW C.1 text policy mask room budget frm.toNat:=⟨_,rfl⟩
   rw [← hF]
   have hFl:F.1.at'.length=20:=by rw [hF];exact zDX (Mt.zFj C.1 text policy mask) hE.ok hcl budget _ _ _ _ _ (by show _≤text.size+1;omega) b4
   have HF:Hid (F=Mt.vW C.1 text policy mask room budget frm.toNat):=hF
   have HFL:Hid (F.1.at'.length=20):=hFl
   have HE:Hid (zFW C.1 text (qB C.1 C.1.length)):=hE
   have zSP:Hid (Mt.fit 100000000 C.1∧C.1.length≤300):=hcf
   have HB:Hid (0≤budget∧budget≤10000):=b5
   have HBR:Hid (0≤room∧room≤5000):=b4
   have hSr:∀ (wb gc gi ga gk cc ci ca ck:Nat) (z:World),zM z wb gc gi ga gk cc ci ca ck C.1 text (Mt.chosen C.1 policy mask) (qB C.1 C.1.length) budget (List.replicate (C.1.length*(text.size+1)*12) false) room 0 false →
     Calls Tryz.prog 22 #[.pointer (some ⟨wb,0,none⟩),.int .i64 frm] z fun e w'=>e=.returned (fdV F.1)∧Keep wb gk z w'∧∃ kn' room' used',zM w' wb gc gi ga gk cc ci ca ck C.1 text (Mt.chosen C.1 policy mask) (qB C.1 C.1.length) budget kn' room' used' F.2:=by
    intro wb gc gi ga gk cc ci ca ck z hz
    have hb:(budget.toNat:Int)=budget:=by omega
    have hfr:((frm.toNat:Nat):Int)=frm:=by omega
    have:=zLa wb gc gi ga gk cc ci ca ck C.1 text (Mt.chosen C.1 policy mask) (qB C.1 C.1.length) budget hE hcl b5.1 b5.2 (fun n hn=>zKc wb gc gi ga gk cc ci ca ck C.1 text _ _ budget hE b5.1 b5.2 n n (Nat.le_refl _) hn) z frm.toNat budget.toNat (List.replicate (C.1.length*(text.size+1)*12) false) room (by omega) (by rw [hb,Int.sub_self];exact hz) (by omega) (by simp) b4
    rw [hfr] at this
    rw [hF]
    exact this
   have HSr:Hid (∀ (wb gc gi ga gk cc ci ca ck:Nat) (z:World),zM z wb gc gi ga gk cc ci ca ck C.1 text (Mt.chosen C.1 policy mask) (qB C.1 C.1.length) budget (List.replicate (C.1.length*(text.size+1)*12) false) room 0 false →
     Calls Tryz.prog 22 #[.pointer (some ⟨wb,0,none⟩),.int .i64 frm] z fun e w'=>e=.returned (fdV F.1)∧Keep wb gk z w'∧∃ kn' room' used',zM w' wb gc gi ga gk cc ci ca ck C.1 text (Mt.chosen C.1 policy mask) (qB C.1 C.1.length) budget kn' room' used' F.2):=hSr
   generalize hR:(if F.2=true then (Mt.yV,(14:Int)) else (F.1,0))=R
   have HRT:Hid (F.2=true→R=(Mt.yV,14)):=fun e=>by rw [← hR,if_pos e]
   have HRF:Hid (F.2=false→R=(F.1,0)):=fun e=>by rw [← hR,if_neg (by simp [e])]
   clear hR
   have HBM:Hid (0≤mask∧mask≤4294967295):=b3
   have HCL:Hid (0<C.1.length):=hcl
   have HT:Hid (text.size≤60):=b1
   clear hF hFl hE hcf hen hmf hSr b1 b2 b3 b4 b5 hcl hc0 hm0
   go_enter Tryz.func12,Tryz.ntmps12
   go_wp2_with fail
   refine (KC.out _).mono ?_
   rintro e w1 ⟨v1,rfl,q1,hb1⟩
   have HO:Hid (w1.heap[w.heap.size]?=some (.cells #[.int .i64 policy,.int .i64 mask,.int .i64 room,.int .i64 budget] 34 (0,0))):=(hb1.block _ (by simp;omega)).trans (zBv _ _ _)
   have HZ:Hid (w1.heap[w.heap.size+1]?=some zFd):=(hb1.block _ (by simp)).trans (zAV _ _ _)
   have hs1:=hb1.size
   have l1:w.heap.size+1<w1.heap.size:=by simp at hs1;omega
   have hB1:Below w.heap.size w w1:=(((Below.refl _ _).alloc (Nat.le_refl _) _).alloc (by simp) _).trans (hb1.mono (by simp;omega))
   have y1:=(zA HO.out).1
   have y10:w1.cell? ⟨w.heap.size,0,none⟩=some (.int .i64 policy):=y1 0
   have y11:w1.cell? ⟨w.heap.size,1,none⟩=some (.int .i64 mask):=y1 1
   have y12:w1.cell? ⟨w.heap.size,2,none⟩=some (.int .i64 room):=y1 2
   have y13:w1.cell? ⟨w.heap.size,3,none⟩=some (.int .i64 budget):=y1 3
   have l2:w.heap.size<w1.heap.size:=by omega
   obtain ⟨gc,cc,hv1,lgc⟩:∃ gc cc,v1=.slice (some ⟨gc,0,none⟩) C.1.length cc∧gc<w1.heap.size:=by
    rcases zAq q1 with ⟨e,_⟩ | ⟨_,g,cap,e,_,hg,_⟩
    ·have:=HCL.out;rw [e] at this;simp at this
    ·exact ⟨g,cap,e,hg⟩
   subst hv1
   have Q1:Hid (zB w1 0 (.slice (some ⟨gc,0,none⟩) C.1.length cc) C.1):=q1
   clear hb1 q1 hs1 y1
   go_wp2_with fail
   refine (KM.out _).mono ?_
   rintro e w2 ⟨rfl,hb2⟩
   have hs2:=hb2.size
   have HZ2:Hid (w2.heap[w.heap.size+1]?=some zFd):=(hb2.block _ l1).trans HZ.out
   have HO2:w2.heap[w.heap.size]?=some (.cells #[.int .i64 policy,.int .i64 mask,.int .i64 room,.int .i64 budget] 34 (0,0)):=(hb2.block _ l2).trans HO.out
   have Q2:Hid (zB w2 0 (.slice (some ⟨gc,0,none⟩) C.1.length cc) C.1):=Q1.out.below hb2
   have hB2:Below w.heap.size w w2:=hB1.trans (hb2.mono (by omega))
   have y1:=(zA HO2).1
   have x10:w2.cell? ⟨w.heap.size,0,none⟩=some (.int .i64 policy):=y1 0
   have x11:w2.cell? ⟨w.heap.size,1,none⟩=some (.int .i64 mask):=y1 1
   have x12:w2.cell? ⟨w.heap.size,2,none⟩=some (.int .i64 room):=y1 2
   have x13:w2.cell? ⟨w.heap.size,3,none⟩=some (.int .i64 budget):=y1 3
   have l3:w.heap.size+1<w2.heap.size:=by omega
   have l4:w.heap.size<w2.heap.size:=by omega
   clear HO HZ hb2 hB1 y10 y11 y12 y13 Q1 HO2 y1 hs2 l1 l2 lgc
   go_wp2_with fail
   refine (zMG C.1 text policy mask room budget budget gc cc w2 Q2.out HCL.out zSP.out.2 zSP.out.1 HT.out HBM.out.1 HBM.out.2).mono ?_
   rintro e w3 ⟨wb,gi,ga,gk,ci,ca,ck,rfl,hW3,hb3,lwb,lgk⟩
   have HZ3:Hid (w3.heap[w.heap.size+1]?=some zFd):=(hb3.block _ l3).trans HZ2.out
   have hB3:Below w.heap.size w w3:=hB2.trans (hb3.mono (by omega))
   have l5:w.heap.size+1<w3.heap.size:=by have:=hb3.size;omega
   have HW3:Hid (zM w3 wb gc gi ga gk cc ci ca ck C.1 text (Mt.chosen C.1 policy mask) (qB C.1 C.1.length) budget (List.replicate (C.1.length*(text.size+1)*12) false) room 0 false):=hW3
   clear hW3 hb3 HZ2 hB2 x10 x11 x12 x13 Q2
   go_wp2_with fail
   refine (HSr.out wb gc gi ga gk cc ci ca ck w3 HW3.out).mono ?_
   rintro e w4 ⟨rfl,hk4,kn',room',used',hW4⟩
   have HZ4:Hid (w4.heap[w.heap.size+1]?=some zFd):=(hk4.blk _ l5 (by omega) (by omega)).trans HZ3.out
   have hB4:Below w.heap.size w w4:=hB3.trans (hk4.toBelow (by omega) (by omega) (by omega))
   have l6:w.heap.size+1<w4.heap.size:=by have:=hk4.size;omega
   have HW4:Hid (zM w4 wb gc gi ga gk cc ci ca ck C.1 text (Mt.chosen C.1 policy mask) (qB C.1 C.1.length) budget kn' room' used' F.2):=hW4
   have zUa:wb<w4.heap.size:=hW4.lt.1
   clear hk4 hW4 HW3 HZ3 hB3 HSr
   unfold fdV
   cases hov:F.2 with
   | true =>
    have HRR:Hid (R=_):=HRT.out hov
    go_wp2_with (first | (refine yD (by rfl) (.tmp 13) (.tmp 39) (by rfl) w4.heap.size (fdA F.1) (by rfl) (by rfl) (by exact heap_alloc_new _ _) (by rfl) (zV _ HFL.out) (zBd _) ?_;intro w5 r1 r2 r3 r4;have B5:Hid (Below w4.heap.size w4 w5):=(((Below.refl _ _).alloc (Nat.le_refl _) _).trans (r4 _ (Nat.le_refl _)));have k8:w5.cell? ⟨wb,8,none⟩=some (.bool F.2):=((zA (HW4.out.below B5.out).cell).1 8);have l7:wb<w5.heap.size:=(by have:=B5.out.size;omega);have V5:Hid (w5.heap[w.heap.size+1]?=some zFd):=((B5.out.block _ l6).trans HZ4.out);clear r1 r2 r3 r4) | (refine yD (by rfl) (.tmp 8) (.tmp 44) (by rfl) (w.heap.size+1) (fdA Mt.yV) (by rfl) (by rfl) (by exact V5.out) (by rfl) (by rfl) (zBd _) ?_;intro w6 r1 r2 r3 r4) | fail)
    refine bodyPost_ret (zGX rfl (by rfl) r1 (by rfl)) rfl ⟨?_,(hB4.trans (B5.out.mono (by omega))).trans (r4 _ (by omega))⟩
    rw [HRR.out];rfl
   | false =>
    have HRR:Hid (R=_):=HRF.out hov
    go_wp2_with (first | (refine yD (by rfl) (.tmp 13) (.tmp 39) (by rfl) w4.heap.size (fdA F.1) (by rfl) (by rfl) (by exact heap_alloc_new _ _) (by rfl) (zV _ HFL.out) (zBd _) ?_;intro w5 r1 r2 r3 r4;have B5:Hid (Below w4.heap.size w4 w5):=(((Below.refl _ _).alloc (Nat.le_refl _) _).trans (r4 _ (Nat.le_refl _)));have k8:w5.cell? ⟨wb,8,none⟩=some (.bool F.2):=((zA (HW4.out.below B5.out).cell).1 8);have l7:wb<w5.heap.size:=(by have:=B5.out.size;omega);have V5:Hid (w5.heap[w.heap.size+1]?=some zFd):=((B5.out.block _ l6).trans HZ4.out);have V6:Hid (w5.heap[w4.heap.size]?=some (.cells (fdA F.1) 29 (0,0))):=(r1);clear r1 r2 r3 r4) | (refine xU (by rfl) (.tmp 13) (by rfl) w4.heap.size (by rfl) (by exact V6.out) (zV _ HFL.out) ?_) | (refine yD (by rfl) (.tmp 8) (.tmp 45) (by rfl) (w.heap.size+1) (fdA F.1) (by rfl) (by rfl) (by exact V5.out) (by rfl) (zV _ HFL.out) (zBd _) ?_;intro w6 r1 r2 r3 r4) | fail)
    refine bodyPost_ret (zGX rfl (by rfl) r1 (zV _ HFL.out)) rfl ⟨?_,(hB4.trans (B5.out.mono (by omega))).trans (r4 _ (by omega))⟩
    rw [HRR.out];rfl
  ·rw [if_pos (by simpa using hm)]
   clear hcf hen hmf
   go_enter Tryz.func12,Tryz.ntmps12
   go_wp2_with fail
   refine (KC.out _).mono ?_
   rintro e w1 ⟨v1,rfl,q1,hb1⟩
   have HO:Hid (w1.heap[w.heap.size]?=some (.cells #[.int .i64 policy,.int .i64 mask,.int .i64 room,.int .i64 budget] 34 (0,0))):=(hb1.block _ (by simp;omega)).trans (zBv _ _ _)
   have HZ:Hid (w1.heap[w.heap.size+1]?=some zFd):=(hb1.block _ (by simp)).trans (zAV _ _ _)
   have hs1:=hb1.size
   have l1:w.heap.size+1<w1.heap.size:=by simp at hs1;omega
   have hB1:Below w.heap.size w w1:=(((Below.refl _ _).alloc (Nat.le_refl _) _).alloc (by simp) _).trans (hb1.mono (by simp;omega))
   have y1:=(zA HO.out).1
   have y10:w1.cell? ⟨w.heap.size,0,none⟩=some (.int .i64 policy):=y1 0
   have y11:w1.cell? ⟨w.heap.size,1,none⟩=some (.int .i64 mask):=y1 1
   have y12:w1.cell? ⟨w.heap.size,2,none⟩=some (.int .i64 room):=y1 2
   have y13:w1.cell? ⟨w.heap.size,3,none⟩=some (.int .i64 budget):=y1 3
   have l2:w.heap.size<w1.heap.size:=by omega
   clear hb1 q1 hs1 y1
   go_wp2_with fail
   refine (KM.out _).mono ?_
   rintro e w2 ⟨rfl,hb2⟩
   have HZ2:Hid (w2.heap[w.heap.size+1]?=some zFd):=(hb2.block _ l1).trans HZ.out
   have hB2:Below w.heap.size w w2:=hB1.trans (hb2.mono (by omega))
   clear HO HZ hb2 hB1 y10 y11 y12 y13
   go_wp2_with (first | (refine yD (by rfl) (.tmp 8) (.tmp 29) (by rfl) (w.heap.size+1) (fdA Mt.yV) (by rfl) (by rfl) (by exact HZ2.out) (by rfl) (by rfl) (zBd _) ?_;intro w5 r1 r2 r3 r4) | fail)
   refine bodyPost_ret (zGX rfl (by rfl) r1 (by rfl)) rfl ⟨?_,hB2.trans (r4 _ (by omega))⟩
   rfl
 ·rw [if_pos (by simpa using he)]
  clear hcf hen hmf
  go_enter Tryz.func12,Tryz.ntmps12
  go_wp2_with fail
  refine (KC.out _).mono ?_
  rintro e w1 ⟨v1,rfl,q1,hb1⟩
  have HZ:Hid (w1.heap[w.heap.size+1]?=some zFd):=(hb1.block _ (by simp)).trans (zAV _ _ _)
  have hB1:Below w.heap.size w w1:=(((Below.refl _ _).alloc (Nat.le_refl _) _).alloc (by simp) _).trans (hb1.mono (by simp;omega))
  clear hb1 q1
  go_wp2_with (first | (refine yD (by rfl) (.tmp 8) (.tmp 21) (by rfl) (w.heap.size+1) (fdA Mt.yV) (by rfl) (by rfl) (by exact HZ.out) (by rfl) (by rfl) (zBd _) ?_;intro w5 r1 r2 r3 r4) | fail)
  refine bodyPost_ret (zGX rfl (by rfl) r1 (by rfl)) rfl ⟨?_,hB1.trans (r4 _ (by omega))⟩
  rfl
end Go.Proofs.YtebpgfodelggoaaGreat
namespace Mt
def zOF (f:Fnd):Nat:=if f.at'.getD 0 0=f.at'.getD 1 0 then (f.at'.getD 1 0).toNat+1 else (f.at'.getD 1 0).toNat
def zJo (c:List Ins) (text:ByteArray) (policy mask room budget:Int):Nat→Nat→Int→List Fnd→List Fnd × Int × Int
 | 0,_,used,l=>(l,used,0)
 | F+1,frm,used,l =>
  if text.size<frm then (l,used,0)
  else if (vW c text policy mask room (budget-used) frm).2 then ([],0,14)
  else if (vW c text policy mask room (budget-used) frm).1.ok=false then (l,used+(vW c text policy mask room (budget-used) frm).1.steps,0)
  else zJo c text policy mask room budget F (zOF (vW c text policy mask room (budget-used) frm).1) (used+(vW c text policy mask room (budget-used) frm).1.steps) (l++[(vW c text policy mask room (budget-used) frm).1])
def zR2 (p text:ByteArray) (policy mask room budget:Int):List Fnd × Int × Int :=
 if (kQ p).2≠0 then ([],0,(kQ p).2)
 else if zAu text.size 0 policy mask room budget≠0 then ([],0,zAu text.size 0 policy mask room budget)
 else zJo (kQ p).1 text policy mask room budget (text.size+2) 0 0 []
end Mt
namespace Go.Proofs.YtebpgfodelggoaaGreat
open Go.RowKit
theorem Tryz.infoF:(Tryz.prog.info? 29).map (fun i=>(i.zero,i.size,i.bytes))=some (some (.agg (fdA Mt.yV)),22,176):=by kernel_rfl
def fdL (f:Mt.Fnd):List Value:=Value.bool f.ok::(f.at'.map (Value.int .i64)++[Value.int .i64 f.steps])
def zRC (w:World) (base:Nat) (v:Value) (l:List Mt.Fnd):Prop:=w.ownsRow base 29 22 v l.length (l.flatMap fdL)
theorem zMH (f:Mt.Fnd) (h:f.at'.length=20):(fdA f)[0]?=some (.bool f.ok)∧(fdA f)[1]?=some (.int .i64 (f.at'.getD 0 0))∧(fdA f)[2]?=some (.int .i64 (f.at'.getD 1 0))∧(fdA f)[21]?=some (.int .i64 f.steps):=by
 obtain ⟨a0,a1,a2,a3,a4,a5,a6,a7,a8,a9,a10,a11,a12,a13,a14,a15,a16,a17,a18,a19,e⟩:=zQl h
 obtain ⟨ok,l,st⟩:=f
 dsimp only at e
 subst e
 exact ⟨rfl,rfl,rfl,rfl⟩
end Go.Proofs.YtebpgfodelggoaaGreat
