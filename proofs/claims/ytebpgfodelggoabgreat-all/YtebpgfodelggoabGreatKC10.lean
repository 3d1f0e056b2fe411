import Derived.Test.YtebpgfodelggoabGreatKC08
import Derived.Test.YtebpgfodelggoabGreatKC09
set_option linter.unusedVariables false
set_option linter.unusedSimpArgs false
set_option maxHeartbeats 1000000
namespace Go.Proofs.YtebpgfodelggoabGreat
open Go.RowKit
theorem nO(p:ByteArray)(w:World)(hm:p.size<=maxLen) :
  Calls Tryz.prog 19 #[.string p] w λe w'=>∃v,e=.returned (.tuple #[v,.int .i64 (Mt.kC p).2])/\zF w' 0 v (Mt.kC p).1/\Below w.heap.size w w':=by
 have KC:Hid (∀z:World,Calls Tryz.prog 8 #[.string p] z λe w'=>e=.returned (.tuple #[.int .i64 (Mt.jN p).1,.int .i64 (Mt.jN p).2])/\Below z.heap.size z w'):=λz=>zCy p z hm
 have KT:Hid (∀z:World,Calls Tryz.prog 16 #[.string p] z λe w'=>∃v,e=.returned (.tuple #[v,.int .i64 (Mt.zY p).2.1,.int .i64 (Mt.zY p).2.2])/\vN w' v (Mt.zY p).1/\Below z.heap.size z w'):=λz=>zEB p z hm
 have ts:=Mt.fZ p;have KD:Hid (∀(v:Value) (z:World),vN z v (Mt.zY p).1->Calls Tryz.prog 17 #[v] z λe w'=>∃v',e=.returned v'/\zF w' 0 v' (Mt.coded (Mt.zY p).1)/\Below z.heap.size z w'):=λv z hz=>zGp _ v z ts.2 ts.1 hz
 unfold Mt.kC;generalize Mt.coded (Mt.zY p).1=C at *;generalize Mt.zY p=T at *;generalize Mt.jN p=K at *;clear ts;cases he:(K.1 != 0)
 ·rw[if_neg (by simpa using he)];go_enter Tryz.func19,Tryz.ntmps19
  go_wp2_with fail
  refine(KC.out _).mono ?_;rintro e w1 ⟨rfl,zTH⟩;have hs1:=zTH.size;go_wp2_with fail
  refine(KT.out _).mono ?_;rintro e w2 ⟨v2,rfl,q2,zTK⟩;have hB2:Below w.heap.size w w2:=zTH.trans (zTK.mono hs1);have hs2:=hB2.size;have Q2:Hid (vN w2 v2 T.1):=q2;clear q2 zTK zTH;go_wp2_with fail
  refine(KD.out v2 _ Q2.out).mono ?_;rintro e w3 ⟨v3,rfl,q3,zTL⟩;have hB3:Below w.heap.size w w3:=hB2.trans (zTL.mono hs2);clear zTL hB2;go_wp2_with fail
  go_ret2
  exact⟨_,rfl,q3,hB3⟩
 ·rw[if_pos (by simpa using he)];go_enter Tryz.func19,Tryz.ntmps19
  go_wp2_with fail
  refine(KC.out _).mono ?_;rintro e w1 ⟨rfl,zTH⟩;go_wp2_with fail
  go_ret2
  exact⟨_,rfl,zF.nil _ _,zTH⟩
theorem zGu(p:Int)(i:Mt.zTG):((i.op==5)=false/\Mt.xR p i=false)\/((i.op==5)=true/\decide (i.x+1<p)=false/\Mt.xR p i=false)\/((i.op==5)=true/\decide (i.x+1<p)=true/\Mt.xR p i=true):=by
 unfold Mt.xR;simp only[beq_iff_eq,beq_eq_false_iff_ne,decide_eq_true_eq,lJ];omega
theorem zGv(c:List Mt.zTG)(p:Nat)(base:Nat)(v:Value)(w:World)(h:zF w base v c)(hf:Mt.fit 100000000 c)(hp:p<=c.length) :
  Calls Tryz.prog 22 #[v,.int .i64 p] w λe w'=>e=.returned (.int .i64 (Mt.jI c p))/\w=w':=by
 have hl:=hf.1;rcases xE h with ⟨rfl,ao,cap,rfl⟩ | ⟨dI,g,cap,rfl,hcap,hg,hgb,hc⟩
 ·have hp0:p=0:=by simpa using hp
  subst hp0;clear h hf;go_enter Tryz.func22,Tryz.ntmps22
  go_wp2_with fail
  refine wp_loop_rounds 1 ?_;rw[rounds_succ];go_wp2_with fail
  go_ret;exact⟨rfl,rfl⟩
 ·have HC:Hid (∀k j,k<c.length->j<4->w.cell? ⟨g,k*4+j,none⟩=(kM (c.getD k Mt.jY))[j]?):=hc;have HF:Hid (∀i∈c,Mt.zHE 100000000 i):=hf.2;clear hc h hf;go_enter Tryz.func22,Tryz.ntmps22
  go_wp2_with fail
  go_loop [5,6] (λn i=>∃k:Nat,p<=k/\k<=c.length/\i=.int .i64 k/\n=.int .i64 (Mt.bZ c p k)) (λ_ i=>c.length-(intOf i).toNat)
  case atStart=>exact⟨p,lG _,hp,rfl,by rw[Mt.zFe];rfl⟩
  case round =>
   obtain⟨k,hpk,hk,rfl,rfl⟩:=hrel;have hle:=Mt.zEC c p k;by_cases zTI:k<c.length
   ·have hc0:w.cell? ⟨g,k*4,none⟩=some (.int .i64 (c.getD k Mt.jY).op):=HC.out k 0 zTI (by omega);have hc1:w.cell? ⟨g,k*4+1,none⟩=some (.int .i64 (c.getD k Mt.jY).x):=HC.out k 1 zTI (by omega);have hfi:Mt.zHE 100000000 (c.getD k Mt.jY):=HF.out _ (by rw[lH,lK zTI];exact List.getElem_mem zTI);have HN:Hid (Mt.bZ c p (k+1)=Mt.bZ c p k+if Mt.xR p (c.getD k Mt.jY)then 1 else 0):=Mt.zGt c p k hpk zTI;generalize c.getD k Mt.jY=I at *;obtain⟨f1,f2,f3,f4⟩:=hfi;rcases zGu p I with ⟨e1,e⟩ | ⟨e1,e2,e⟩ | ⟨e1,e2,e⟩
    all_goals
     have HE:Hid (Mt.xR p I=_):=e;clear e;go_wp2_with fail
     go_round
     case rel=>exact⟨k+1,by omega,by omega,by go_num,by first|(rw[HN.out,HE.out];simp;done)|(rw[HN.out,HE.out];go_num)⟩
     case measure=>simp[intOf];omega
   ·have hk2:k=c.length:=by omega
    subst hk2;go_wp2_with fail
    go_ret;exact⟨rfl,rfl⟩
theorem zFf(p:ByteArray)(w:World)(hm:p.size<=maxLen) :
  Calls Tryz.prog 11 #[.string p] w λe w'=>e=.returned (.tuple #[.int .i64 (Mt.cB p).1,.int .i64 (Mt.cB p).2])/\Below w.heap.size w w':=by
 have KC:Hid (Calls Tryz.prog 19 #[.string p] w λe w'=>∃v,e=.returned (.tuple #[v,.int .i64 (Mt.kC p).2])/\zF w' 0 v (Mt.kC p).1/\Below w.heap.size w w'):=nO p w hm;have ff:=Mt.bN p;unfold Mt.cB;generalize Mt.kC p=K at *;have hl:=ff.2;have HF:Hid (Mt.fit 100000000 K.1):=ff.1;clear ff;cases he:(K.2 != 0)
 ·rw[if_neg (by simpa using he)];go_enter Tryz.func11,Tryz.ntmps11
  go_wp2_with fail
  refine KC.out.mono ?_;rintro e w1 ⟨v1,rfl,q1,zTH⟩;have Q1:Hid (zF w1 0 v1 K.1):=q1;obtain⟨ao,cap,rfl⟩:=wT q1;clear q1;go_wp2_with fail
  go_loop [6,7] (λn i=>∃k:Nat,k<=K.1.length/\i=.int .i64 k/\n=.int .i64 (Mt.dG K.1 k)) (λ_ i=>K.1.length-(intOf i).toNat)
  case atStart=>exact⟨0,Nat.zero_le _,rfl,rfl⟩
  case round =>
   obtain⟨k,hk,rfl,rfl⟩:=hrel;have hle:=Mt.nM K.1 k
   have hwl:Mt.dG K.1 k<=100000:=by
    have h1:=Mt.zBm K.1 k;have h2:k*(K.1.length+1)<=300*301:=Nat.mul_le_mul (by omega) (by omega);omega
   have HN:Hid (Mt.dG K.1 (k+1)=Mt.dG K.1 k+1+Mt.jI K.1 k):=Mt.wV K.1 k;by_cases zTI:k<K.1.length
   ·go_wp2_with (first|(go_at_call 22;refine(zGv K.1 _ 0 _ _ Q1.out HF.out (by omega)).mono ?_;rintro e w' ⟨rfl,rfl⟩))
    go_round
    case rel=>exact⟨k+1,by omega,by go_num,by first|(rw[HN.out];simp;done)|(rw[HN.out];go_num)⟩
    case measure=>simp[intOf];omega
   ·have hk2:k=K.1.length:=by omega
    subst hk2;go_wp2_with fail
    go_ret2
    exact⟨rfl,zTH⟩
 ·rw[if_pos (by simpa using he)];go_enter Tryz.func11,Tryz.ntmps11
  go_wp2_with fail
  refine KC.out.mono ?_;rintro e w1 ⟨v1,rfl,q1,zTH⟩;clear q1;go_wp2_with fail
  go_ret2
  exact⟨rfl,zTH⟩
