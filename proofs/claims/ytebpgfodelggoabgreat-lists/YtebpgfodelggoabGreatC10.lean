import Derived.Test.YtebpgfodelggoabGreatC08
import Derived.Test.YtebpgfodelggoabGreatC09
set_option linter.unusedVariables false
set_option linter.unusedSimpArgs false
set_option maxHeartbeats 1000000
namespace Go.Proofs.YtebpgfodelggoabGreat
open Go.RowKit
theorem zJq (p:ByteArray) (w:World) (hm:p.size≤maxLen) :
  Calls Tryz.prog 19 #[.string p] w fun e w'=>∃ v,e=.returned (.tuple #[v,.int .i64 (Mt.kR p).2])∧zB w' 0 v (Mt.kR p).1∧Below w.heap.size w w':=by
 have KC:Hid (∀ z:World,Calls Tryz.prog 8 #[.string p] z fun e w'=>e=.returned (.tuple #[.int .i64 (Mt.jQ p).1,.int .i64 (Mt.jQ p).2])∧Below z.heap.size z w'):=fun z=>zH6 p z hm
 have KT:Hid (∀ z:World,Calls Tryz.prog 16 #[.string p] z fun e w'=>∃ v,e=.returned (.tuple #[v,.int .i64 (Mt.tokens p).2.1,.int .i64 (Mt.tokens p).2.2])∧toks w' v (Mt.tokens p).1∧Below z.heap.size z w'):=fun z=>zGm p z hm
 have ts:=Mt.zAj p
 have KD:Hid (∀ (v:Value) (z:World),toks z v (Mt.tokens p).1→Calls Tryz.prog 17 #[v] z fun e w'=>∃ v',e=.returned v'∧zB w' 0 v' (Mt.coded (Mt.tokens p).1)∧Below z.heap.size z w'):=fun v z hz=>zH2 _ v z ts.2 ts.1 hz
 unfold Mt.kR
 generalize Mt.coded (Mt.tokens p).1=C at *
 generalize Mt.tokens p=T at *
 generalize Mt.jQ p=K at *
 clear ts
 cases he:(K.1 != 0)
 ·rw [if_neg (by simpa using he)]
  go_enter Tryz.func19,Tryz.ntmps19
  go_wp2_with fail
  refine (KC.out _).mono ?_
  rintro e w1 ⟨rfl,hb1⟩
  have hs1:=hb1.size
  go_wp2_with fail
  refine (KT.out _).mono ?_
  rintro e w2 ⟨v2,rfl,q2,hb2⟩
  have hB2:Below w.heap.size w w2:=hb1.trans (hb2.mono hs1)
  have hs2:=hB2.size
  have Q2:Hid (toks w2 v2 T.1):=q2
  clear q2 hb2 hb1
  go_wp2_with fail
  refine (KD.out v2 _ Q2.out).mono ?_
  rintro e w3 ⟨v3,rfl,q3,hb3⟩
  have hB3:Below w.heap.size w w3:=hB2.trans (hb3.mono hs2)
  clear hb3 hB2
  go_wp2_with fail
  go_ret2
  exact ⟨_,rfl,q3,hB3⟩
 ·rw [if_pos (by simpa using he)]
  go_enter Tryz.func19,Tryz.ntmps19
  go_wp2_with fail
  refine (KC.out _).mono ?_
  rintro e w1 ⟨rfl,hb1⟩
  go_wp2_with fail
  go_ret2
  exact ⟨_,rfl,zB.nil _ _,hb1⟩
theorem zH9 (p:Int) (i:Mt.Ins):((i.op==5)=false∧Mt.yY p i=false)∨((i.op==5)=true∧decide (i.x+1<p)=false∧Mt.yY p i=false)∨((i.op==5)=true∧decide (i.x+1<p)=true∧Mt.yY p i=true):=by
 unfold Mt.yY
 simp only [beq_iff_eq,beq_eq_false_iff_ne,decide_eq_true_eq,decide_eq_false_iff_not]
 omega
theorem zMI (c:List Mt.Ins) (p:Nat) (base:Nat) (v:Value) (w:World) (h:zB w base v c) (hf:Mt.fit 100000000 c) (hp:p≤c.length) :
  Calls Tryz.prog 22 #[v,.int .i64 p] w fun e w'=>e=.returned (.int .i64 (Mt.kS c p))∧w=w':=by
 have hl:=hf.1
 rcases zAt h with ⟨rfl,ao,cap,rfl⟩ | ⟨hpos,g,cap,rfl,hcap,hg,hgb,hc⟩
 ·have hp0:p=0:=by simpa using hp
  subst hp0
  clear h hf
  go_enter Tryz.func22,Tryz.ntmps22
  go_wp2_with fail
  refine wp_loop_rounds 1 ?_
  rw [rounds_succ]
  go_wp2_with fail
  go_ret
  exact ⟨rfl,rfl⟩
 ·have HC:Hid (∀ k j,k<c.length→j<4→w.cell? ⟨g,k*4+j,none⟩=(zU (c.getD k Mt.jB))[j]?):=hc
  have HF:Hid (∀ i∈c,Mt.zJc 100000000 i):=hf.2
  clear hc h hf
  go_enter Tryz.func22,Tryz.ntmps22
  go_wp2_with fail
  go_loop [5,6] (fun n i=>∃ k:Nat,p≤k∧k≤c.length∧i=.int .i64 k∧n=.int .i64 (Mt.zAI c p k)) (fun _ i=>c.length-(intOf i).toNat)
  case atStart=>exact ⟨p,Nat.le_refl _,hp,rfl,by rw [Mt.zGX];rfl⟩
  case round =>
   obtain ⟨k,hpk,hk,rfl,rfl⟩:=hrel
   have hle:=Mt.zGn c p k
   by_cases hlt:k<c.length
   ·have hc0:w.cell? ⟨g,k*4,none⟩=some (.int .i64 (c.getD k Mt.jB).op):=HC.out k 0 hlt (by omega)
    have hc1:w.cell? ⟨g,k*4+1,none⟩=some (.int .i64 (c.getD k Mt.jB).x):=HC.out k 1 hlt (by omega)
    have hfi:Mt.zJc 100000000 (c.getD k Mt.jB):=HF.out _ (by rw [List.getD_eq_getElem?_getD,List.getElem?_eq_getElem hlt];exact List.getElem_mem hlt)
    have HN:Hid (Mt.zAI c p (k+1)=Mt.zAI c p k+if Mt.yY p (c.getD k Mt.jB) then 1 else 0):=Mt.zH7 c p k hpk hlt
    generalize c.getD k Mt.jB=I at *
    obtain ⟨f1,f2,f3,f4⟩:=hfi
    rcases zH9 p I with ⟨e1,e⟩ | ⟨e1,e2,e⟩ | ⟨e1,e2,e⟩
    all_goals
     have HE:Hid (Mt.yY p I=_):=e
     clear e
     go_wp2_with fail
     go_round
     case rel=>exact ⟨k+1,by omega,by omega,by go_num,by first | (rw [HN.out,HE.out];simp;done) | (rw [HN.out,HE.out];go_num)⟩
     case measure=>simp [intOf];omega
   ·have hk2:k=c.length:=by omega
    subst hk2
    go_wp2_with fail
    go_ret
    exact ⟨rfl,rfl⟩
end Go.Proofs.YtebpgfodelggoabGreat
