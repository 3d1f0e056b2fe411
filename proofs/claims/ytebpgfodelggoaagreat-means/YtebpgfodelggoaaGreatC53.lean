import Derived.Test.YtebpgfodelggoaaGreatC38
import Derived.Test.YtebpgfodelggoaaGreatC52
set_option linter.all false
set_option maxRecDepth 100000
namespace Go.Proofs.YtebpgfodelggoaaGreat
open Go.ChangeShapes Go.WideShapes Go.ChangeAt Go.RowKit _root_.Go.Proofs.Tryz
theorem zD1:prog.readableRec 26=true:=by kernel_rfl
theorem zD2:26<prog.types.size:=wC (by kernel_rfl)
theorem TY:OD:=λp t jK J I zA h z j G=>zCv p t jK J I zA h z j G
theorem MK(H)(enc)(h)(base)(j)(a2 a3:List (DataW H))(a1)
  (Z:∀(a0:Nat) t v,f8.params[a0]?=some t->j[a0]?=some v->Value.okWide prog h .any base t v)
  (G:DataW.Whole enc prog f8.params.toList Rows.meansSpec.vars false h j.toList a2 a3 a1):
  CT 8 j h λe W'=>∃v,e=.returned v/\Rows.meansSpec.post enc prog f8 false true false false h j v W':=by
 have U:=G;have Y:=G.lt;obtain⟨p,q,O,a5,rfl,b7,hnd⟩:=G;have J:=O;rw[params8]at J Z;obtain⟨b3,b4,rfl,rfl,I⟩:=trodAll_one J;obtain⟨rfl,rfl⟩:=trodVars_none a5;obtain⟨cs,rfl,b6⟩:=okWide_struct underlying26 (Z 0 26 b3 rfl rfl);have a4:=I;obtain⟨b5,a8⟩:=I;obtain⟨o,a9,s1,s2⟩:=Zf a8;have a6:=Array.toList_inj.1 a9;subst a6;clear O;simp only[uJ]at U Y;refine(VH TY o h s1 s2).mono λe W' ⟨a7,W⟩=>?_
 subst a7;refine⟨_,rfl,VI (pa:=p) (pv:=[]) U (λ_ _ _=>trodAll_cons_mk (shut_bool underlying4 _) trodAll_mk0) (λb2 b0=>?_) (λ_ _=>rfl) (by simp) W (ok_one (by kernel_rfl) rfl (okWide_bool_mk underlying4 _))⟩;have:=WideElems.Trod_stays (W':=W') (sp':=b2) zFg zD1 zD2 a4 (λx b1=>W.same (Y x b1)) b0;exact⟨p,[],this,rfl,by simp⟩
theorem Rb h(Y:h.Started) H(enc:TypeId × Value->H):
  ReturnsInHanded {} Tryz.checked h 8 .any (Rows.meansSpec.pre6 enc prog f8 Rows.meansRow.domain false) (Rows.meansSpec.post enc prog f8 false true false false):=by
 refine returnsInHanded_of_change (C:=Tryz.checked) zFf Y (by kernel_rfl) func8
  (ChangeSpec.witness6 (enc:=enc) (C:=Tryz.checked) false ⟨#[],#[.agg #[.int .i64 0,.string ⟨#[]⟩,.string ⟨#[]⟩,.int .i64 0,.int .i64 0,.int .i64 0,.int .i64 0,.int .i64 0]],[]⟩ 8 (by kernel_rfl) (by kernel_rfl) (by kernel_rfl) (by kernel_rfl)) ?_
 intro j base G J O I W U _ _;exact MK H enc j base G J O I W U
theorem means_holds:Rows.MeansSaid:=
 OpenClaim.holds_of_wide 8 f8 rfl rfl rfl rfl rfl rfl rfl ⟨rfl,rfl,rfl,rfl,rfl⟩ rfl rfl rfl rfl rfl (by kernel_rfl) func8 (by kernel_rfl)
  (wC (by kernel_rfl)) (by unfold Func.isWrapper;first|(rw[lG (by decide +kernel)];kernel_rfl)|(rw[lC (by decide +kernel)];exact⟨rfl,rfl⟩))
  (λh j H enc _=>Rb h j H enc)
