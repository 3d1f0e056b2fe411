import Derived.Test.YtebpgfodelggoaaGreatDRs1
set_option linter.unusedVariables false
set_option linter.unusedSimpArgs false
set_option maxRecDepth 100000
namespace Go.Proofs.YtebpgfodelggoaaGreat
open Go.ChangeShapes Go.WideShapes Go.ChangeAt Go.RowKit
theorem script_bytes {H:Type} {enc:TypeId × Value→H} {W:World} {a0:Option Addr} {len cap fuel:Nat} {x:DataW H × List MemPlace} (h:DataW.trod enc Tryz.prog W 0 (fun _=>true) true fuel 22 [.slice a0 len cap]=some x)
  (hz:(DataW.weightsEach Tryz.prog [22] [x.1]).all (·≤reachBytes)=true):len*80≤140737488355328:=by
 rcases Deep.open_slice Tryz.underlying22 h with ⟨hcs,_⟩ | ⟨a,len',cap',m,n,D,Pl,hcs,_,hl,hmx,hmm,hx,_⟩
 ·simp at hcs
  obtain ⟨_,rfl,_⟩:=hcs
  omega
 ·simp at hcs
  obtain ⟨_,rfl,_⟩:=hcs
  rw [hx] at hz
  have hs:=sized_slice hz (j:=0) rfl rfl Tryz.underlying22
  have hb:Tryz.prog.bytesOf 26=80:=by kernel_rfl
  rw [hb] at hs
  have hr:=reachBytes_lt
  simp only [List.length_map,List.length_range] at hs
  have:len*80≤(len+(m-len))*80:=Nat.mul_le_mul_right _ (by omega)
  omega
theorem searches_contract (H:Type) (enc:TypeId × Value→H) (W:World) (base:Nat) (args:Array Value) (ds gs:List (DataW H)) (before:List MemPlace)
  (hval:∀ (j:Nat) t v,Tryz.f5.params[j]?=some t→args[j]?=some v→Value.okWide Tryz.prog W .any base t v)
  (hW:DataW.Whole enc Tryz.prog Tryz.f5.params.toList Rows.searchesSpec.vars false W args.toList ds gs before)
  (hz:(DataW.weightsEach Tryz.prog (Tryz.f5.params.toList++Rows.searchesSpec.plain.varTypes Tryz.prog) (ds++gs)).all (·≤reachBytes)=true) :
  Calls Tryz.prog 5 args W fun e W'=>∃ v,e=.returned v∧Rows.searchesSpec.post enc Tryz.prog Tryz.f5 false true false false W args v W':=by
 have hW':=hW
 have hlt:=hW.lt
 obtain ⟨p,q,hA0,hV,rfl,hfz,hnd⟩:=hW
 have hA:DataW.TrodAll enc Tryz.prog W 0 (fun _=>true) true Tryz.f5.params.toList args.toList ds p:=hA0
 rw [Tryz.params5] at hA hval hz
 obtain ⟨v0,d0,rfl,rfl,h0⟩:=trodAll_one hA
 obtain ⟨rfl,rfl⟩:=trodVars_none hV
 obtain ⟨a0,len,cap,rfl⟩:=okWide_slice Tryz.underlying22 (hval 0 22 v0 rfl rfl)
 have h0':=h0
 obtain ⟨fuel,hf⟩:=h0
 obtain ⟨l,hS,hn,hs⟩:=zI8 hf
 have hb:=script_bytes hf hz
 have hl:l.length=len:=by
  rcases hS with ⟨rfl,ao,c,e⟩ | ⟨_,g,o,c,e,_⟩
  ·simp only [Value.slice.injEq] at e;exact e.2.1.symm
  ·simp only [Value.slice.injEq] at e;exact e.2.1.symm
 clear hA0
 simp only [List.append_nil] at hW' hlt
 refine (searches_walk l _ W hS hn (by rw [hl];exact hb) hs).mono fun e W' ⟨he,hb⟩=>?_
 subst he
 refine ⟨_,rfl,zKV (pa:=p) (pv:=[]) hW' (fun _ _ _=>trodAll_cons_mk (shut_bool Tryz.underlying4 _) trodAll_mk0) (fun sp hsp=>?_) (fun _ _=>rfl) (by simp) hb (ok_one (by kernel_rfl) rfl (okWide_bool_mk Tryz.underlying4 _))⟩
 have:=WideElems.Trod_stays (W':=W') (sp':=sp) Tryz.laid Tryz.recOps Tryz.rowOps h0' (fun x hx=>hb.same (hlt x hx)) hsp
 exact ⟨p,[],this,rfl,by simp⟩
theorem searches_lifted (os:Os) (started:os.Started) (H:Type) (enc:TypeId × Value→H) :
  ReturnsInHanded {} Tryz.checked os 5 .any (Rows.searchesSpec.pre6 enc Tryz.prog Tryz.f5 Rows.searchesRow.domain false) (Rows.searchesSpec.post enc Tryz.prog Tryz.f5 false true false false):=by
 refine returnsInHanded_of_change_sized (C:=Tryz.checked) Tryz.ownK started (by kernel_rfl) Tryz.func5
  (ChangeSpec.witness6 (enc:=enc) (C:=Tryz.checked) false ⟨#[],#[.slice none 0 0],[]⟩ 8 (by kernel_rfl) (by kernel_rfl) (by kernel_rfl) (by kernel_rfl)) ?_
 intro W base args ds gs before hval hW _ hz _
 exact searches_contract H enc W base args ds gs before hval hW hz
theorem searches_holds:Rows.SearchesSaid :=
 OpenClaim.holds_of_wide 5 Tryz.f5 rfl rfl rfl rfl rfl rfl rfl ⟨rfl,rfl,rfl,rfl,rfl⟩ rfl rfl rfl rfl rfl (by kernel_rfl) Tryz.func5 (by kernel_rfl)
  (of_decide_eq_true (by kernel_rfl)) (by unfold Func.isWrapper;first | (rw [if_pos (by decide +kernel)];kernel_rfl) | (rw [if_neg (by decide +kernel)];exact ⟨rfl,rfl⟩))
  (fun os started H enc _=>searches_lifted os started H enc)
end Go.Proofs.YtebpgfodelggoaaGreat
