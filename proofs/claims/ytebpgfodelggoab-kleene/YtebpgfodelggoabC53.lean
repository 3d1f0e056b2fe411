import Derived.Test.YtebpgfodelggoabD1
import Derived.Test.YtebpgfodelggoabC49
import Derived.Test.YtebpgfodelggoabC52
import Derived.ChangeSlices
import Derived.WideKeyArgs
set_option linter.unusedVariables false
set_option linter.unusedSimpArgs false
set_option maxRecDepth 100000
namespace Go.Proofs.Ytebpgfodelggoab
open Go.ChangeShapes Go.WideShapes Go.ChangeAt Go.RowKit Go.ChangeMaps
theorem Try.laidB:laidOutB Try.prog=true:=by kernel_rfl
theorem Try.recInts:Try.prog.readableRec 51=true:=by kernel_rfl
theorem Try.rowInts:51<Try.prog.types.size:=of_decide_eq_true (by kernel_rfl)
theorem trodAll_kl {H:Type} {enc:TypeId × Value→H} {P:Program} {w:World} {base:Nat} {spare:Nat→Bool} {held:Bool} {t0 t1:TypeId} {args:Array Value} {ds:List (DataW H)} {ps:List MemPlace} (h:DataW.TrodAll enc P w base spare held [t0,t1] args.toList ds ps) :
  ∃ v0 v1 d0 d1 p0 p1,args=#[v0,v1]∧ds=[d0,d1]∧ps=p0++p1∧DataW.Trod enc P w base spare held t0 v0 d0 p0∧DataW.Trod enc P w base spare held t1 v1 d1 p1:=by
 obtain ⟨v0,l0,d0,e0,p0,q0,ha,rfl,rfl,h0,h⟩:=trodAll_cons h
 obtain ⟨v1,l1,d1,e1,p1,q1,rfl,rfl,rfl,h1,h⟩:=trodAll_cons h
 obtain ⟨rfl,rfl,rfl⟩:=trodAll_nil h
 exact ⟨v0,v1,d0,d1,p0,p1,by cases args;simp_all,rfl,by simp,h0,h1⟩
theorem signs_open {H:Type} {enc:TypeId × Value→H} {W:World} {a0:Option Addr} {len cap fuel:Nat} {x:DataW H × List MemPlace} (h:DataW.trod enc Try.prog W 0 (fun _=>true) true fuel 51 [.slice a0 len cap]=some x) :
  ∃ f:Nat→Int,Signs W a0 len f∧len≤maxLen:=by
 rcases open_ints Try.underlying51 Try.underlying3 (by kernel_rfl) h with ⟨hcs,_⟩ | ⟨a,len',cap',zs,hcs,_,hl,hm,hzs,_,hc,hw⟩
 ·simp only [List.cons.injEq,Value.slice.injEq,and_true] at hcs
  obtain ⟨rfl,rfl,rfl⟩:=hcs
  exact ⟨fun _=>0,⟨fun i hi=>by omega,fun hi=>by omega⟩,by omega⟩
 ·simp only [List.cons.injEq,Value.slice.injEq,and_true] at hcs
  obtain ⟨rfl,rfl,rfl⟩:=hcs
  simp only [if_true] at hzs
  refine ⟨fun i=>zs.getD i 0,⟨fun i hi=>?_,fun hi=>?_⟩,by omega⟩
  ·refine wf_i64 (hw _ ?_)
   rw [List.getD_eq_getElem?_getD,List.getElem?_eq_getElem (by omega)]
   exact List.getElem_mem _
  ·obtain ⟨b,off,spot⟩:=a
   have c0:=hc 0 (by omega)
   have hspot:spot=none:=by
    have:=World.cell?_spot c0
    simpa [Addr.add] using this
   subst hspot
   have hc0:W.cell? ⟨b,off,none⟩=some (.int .i64 (zs.getD 0 0)):=by simpa [Addr.add] using c0
   refine ⟨b,off,rfl,?_,fun i hi=>?_⟩
   ·exact Decidable.byContradiction fun hge=>by
     unfold World.cell? at hc0
     rw [Array.getElem?_eq_none (show W.heap.size≤b by omega)] at hc0
     simp at hc0
   ·have:=hc i (by omega)
    by_cases e:i=0
    ·subst e;simpa using hc0
    ·simpa [Addr.add,e] using this
theorem kleene_contract (H:Type) (enc:TypeId × Value→H) (W:World) (base:Nat) (args:Array Value) (ds gs:List (DataW H)) (before:List MemPlace)
  (hval:∀ (j:Nat) t v,Try.f6.params[j]?=some t→args[j]?=some v→Value.okWide Try.prog W .any base t v)
  (hW:DataW.Whole enc Try.prog Try.f6.params.toList Rows.kleeneSpec.vars false W args.toList ds gs before) :
  Calls Try.prog 6 args W fun e W'=>∃ v,e=.returned v∧Rows.kleeneSpec.post enc Try.prog Try.f6 false true false false W args v W':=by
 have hW':=hW
 have hlt:=hW.lt
 obtain ⟨p,q,hA0,hV,rfl,hfz,hnd⟩:=hW
 have hA:DataW.TrodAll enc Try.prog W 0 (fun _=>true) true Try.f6.params.toList args.toList ds p:=hA0
 rw [Try.params6] at hA hval
 obtain ⟨v0,v1,d0,d1,p0,p1,rfl,rfl,rfl,h0,h1⟩:=trodAll_kl hA
 obtain ⟨rfl,rfl⟩:=trodVars_none hV
 obtain ⟨x1,rfl,rfl,rfl,hx1⟩:=open_string Try.underlying9 (hval 1 9 v1 rfl rfl) h1
 obtain ⟨a0,len,cap,rfl⟩:=okWide_slice Try.underlying51 (hval 0 51 v0 rfl rfl)
 have h0':=h0
 obtain ⟨fuel,hf⟩:=h0
 obtain ⟨f,hS,hn⟩:=signs_open hf
 clear hA0
 simp only [List.append_nil] at hW' hlt
 refine (Kleene_any a0 len cap f x1 W hn hS hx1).mono fun e W' ⟨he,hb⟩=>?_
 subst he
 refine ⟨_,rfl,post_below (pa:=p0) (pv:=[]) hW' (fun _ _ _=>trodAll_cons_mk (shut_bool Try.underlying4 _) trodAll_mk0) (fun sp hsp=>?_) (fun _ _=>rfl) (by simp) hb (ok_one (by kernel_rfl) rfl (okWide_bool_mk Try.underlying4 _))⟩
 have:=WideElems.Trod_stays (W':=W') (sp':=sp) Try.laidB Try.recInts Try.rowInts h0' (fun x hx=>hb.same (hlt x hx)) hsp
 exact ⟨p0,[],this,trodAll_cons_mk (shut_string Try.underlying9 hx1) trodAll_mk0,by simp⟩
theorem kleene_lifted (os:Os) (started:os.Started) (H:Type) (enc:TypeId × Value→H) :
  ReturnsInHanded {} Try.checked os 6 .any (Rows.kleeneSpec.pre6 enc Try.prog Try.f6 Rows.kleeneRow.domain false) (Rows.kleeneSpec.post enc Try.prog Try.f6 false true false false):=by
 refine returnsInHanded_of_change (C:=Try.checked) Try.ownK started (by kernel_rfl) Try.func6
  (ChangeSpec.witness6 (enc:=enc) (C:=Try.checked) false ⟨#[],#[.slice none 0 0,.string ⟨#[]⟩],[]⟩ 8 (by kernel_rfl) (by kernel_rfl) (by kernel_rfl) (by kernel_rfl)) ?_
 intro W base args ds gs before hval hW _ _
 exact kleene_contract H enc W base args ds gs before hval hW
theorem kleene_holds:Rows.KleeneSaid :=
 OpenClaim.holds_of_wide 6 Try.f6 rfl rfl rfl rfl rfl rfl rfl ⟨rfl,rfl,rfl,rfl,rfl⟩ rfl rfl rfl rfl rfl (by kernel_rfl) Try.func6 (by kernel_rfl)
  (of_decide_eq_true (by kernel_rfl)) (by unfold Func.isWrapper;first | (rw [if_pos (by decide +kernel)];kernel_rfl) | (rw [if_neg (by decide +kernel)];exact ⟨rfl,rfl⟩))
  (fun os started H enc _=>kleene_lifted os started H enc)
end Go.Proofs.Ytebpgfodelggoab
