import Derived.Test.YtebpgfodelggoabC42
set_option linter.unusedVariables false
set_option linter.unusedSimpArgs false
set_option maxRecDepth 100000
set_option maxHeartbeats 4000000
namespace Go.Proofs.Ytebpgfodelggoab
open Go.RowKit
def AltL (L g:Nat) (b:Mt.PB) (so ao:Option Addr) (sc ac:Nat) (N:Nat):Prop :=
 ∀ (f:Mt.Fs),f.wf→f.ok→f.flat.length<N→∀ (s:Nat),s<b.seqs.length→Mt.standsF b 0 0 f (b.sAt s).first (b.sAt s).next→∀ d:Int,0≤d→d+f.flat.length≤1000 →
  Lays L g b so ao sc ac d 52 #[.pointer (some ⟨g,0,none⟩),.int .i64 (s:Int)] f.re
theorem head_two {b:Mt.PB} {f:Mt.Fs} {a n:Int} (h:Mt.standsF b 0 0 f a n) (hw:f.wf) (hok:f.ok) :
  (a=-1∧f.both.1=.eps) ∨
  ∃ (k:Nat) (s:Mt.Fs) (r:Option Mt.Tok) (x:Mt.Re),a=k∧k<b.atoms.length∧(b.aAt k).rep=Mt.rp r∧Mt.repK r∧Mt.repsOk r∧f.both.1=.cat (Mt.part r x) s.both.1∧Mt.standsF b 0 0 s (b.aAt k).next n∧s.wf∧s.ok∧s.flat.length<f.flat.length ∧
   ((∃ t,Mt.leafK t∧(b.aAt k).tok=Mt.ptok t∧x=Mt.leafRe t)∨∃ (t:Mt.Tok) (i:Mt.Fs) (q:Nat),x=Mt.grpRe t i.re∧t.kind=6∧(0≤t.how∧t.how≤4)∧i.wf∧i.ok∧i.flat.length+2≤f.flat.length∧(b.aAt k).tok=Mt.ptok t∧(b.aAt k).num=(if Mt.isCap t then t.n else 0)∧(b.aAt k).body=q∧q<b.seqs.length∧Mt.standsF b 0 0 i (b.sAt q).first (b.sAt q).next):=by
 cases f with
 | nil=>exact Or.inl ⟨h.1,rfl⟩
 | bar t r=>exact Or.inl ⟨h.1,rfl⟩
 | leaf t r s =>
  obtain ⟨k,h1,_,h2,h3,h4,h5,h6⟩:=h
  exact Or.inr ⟨k,s,r,Mt.leafRe t,h1,h2,h4,hw.2.1,hok.1,rfl,h6,hw.2.2,hok.2,by simp [Mt.Fs.flat];omega,Or.inl ⟨t,hw.1,h3,rfl⟩⟩
 | grp t i c r s =>
  obtain ⟨k,h1,_,h2,h3,h4,h5,⟨q,g1,_,g2,g3⟩,h6⟩:=h
  obtain ⟨w1,w2,w3,w4,w5⟩:=hw
  obtain ⟨o1,o2,o3,o4⟩:=hok
  exact Or.inr ⟨k,s,r,Mt.grpRe t i.re,h1,h2,h4,w4,o1,rfl,h6,w5,o4,by simp [Mt.Fs.flat];omega,Or.inr ⟨t,i,q,rfl,w1,o2,w3,o3,by simp [Mt.Fs.flat],h3,h5,g1,g2,g3⟩⟩
section
variable {L:Nat} {g:Nat} {b:Mt.PB} {so ao:Option Addr} {sc ac N:Nat}
theorem layGroup_any (hA:AltL L g b so ao sc ac N) (A:Mt.PA) (t:Mt.Tok) (i:Mt.Fs) (q:Nat) (ht:t.kind=6) (hh:0≤t.how∧t.how≤4) (hw:i.wf) (ho:i.ok) (hl:i.flat.length<N) (htk:A.tok=Mt.ptok t) (hnum:A.num=(if Mt.isCap t then t.n else 0)) (hb:A.body=q) (hql:q<b.seqs.length) (hs:Mt.standsF b 0 0 i (b.sAt q).first (b.sAt q).next) (d:Int) (hd0:0≤d) (hd:d+i.flat.length≤1000) :
  Lays L g b so ao sc ac d 102 #[.pointer (some ⟨g,0,none⟩),.agg (paC A).toArray] (Mt.grpRe t i.re):=by
 have hX:=hA i hw ho hl q hql hs d hd0 hd
 have hk:A.tok.kind=2:=by rw [htk,Mt.ptok_kind,ht];rfl
 have hg:A.tok.group=Mt.grpP t.how:=by rw [htk];simp [Mt.ptok,ht]
 refine layAtom_grp A _ hk ?_
 unfold Mt.grpRe
 by_cases h3:t.how=3
 ·rw [if_pos h3]
  exact layGroup_plain A q _ (by rw [hg,h3];rfl) hb hX
 ·rw [if_neg h3]
  by_cases h4:t.how=4
  ·rw [if_pos h4]
   have hc:Mt.isCap t=true:=by simp [Mt.isCap,ht,h4]
   exact layGroup_cap A q t.n _ (by rw [hg,h4];rfl) hb (by rw [hnum,if_pos hc]) hX
  ·rw [if_neg h4]
   exact layGroup_sub A q t.how (by omega) _ (by rw [hg];unfold Mt.grpP;rw [if_neg h4,if_neg h3]) hb hX
theorem atom_range {w:World} {ga:Nat} (h:TreeAt 0 w b so (some ⟨ga,0,none⟩) sc ac) (k:Nat) (hk:k<b.atoms.length):w.rangeAt ga (k*20) (paC (b.aAt k)):=by
 obtain ⟨ga',e,_,_,hc⟩:=h.atomRow k hk
 simp only [Option.some.injEq,Addr.mk.injEq,and_true,true_and] at e
 subst e
 intro j v hv
 by_cases hj:j<20
 ·rw [hc j hj];exact hv
 ·rw [List.getElem?_eq_none (by rw [paC_len];omega)] at hv;simp at hv
theorem laySequence_any (hA:AltL L g b so ao sc ac N) (hna:b.atoms.length≤1000) (hns:b.seqs.length≤1000) (f:Mt.Fs) (hw:f.wf) (hok:f.ok) (hl:f.flat.length≤N) (s:Nat) (hs:s<b.seqs.length) (hst:Mt.standsF b 0 0 f (b.sAt s).first (b.sAt s).next) (d:Int) (hd0:0≤d) (hd:d+f.flat.length≤1000) :
  Lays L g b so ao sc ac d 65 #[.pointer (some ⟨g,0,none⟩),.int .i64 (s:Int)] f.both.1:=by
 intro w co cc c h hn
 have HPT:Hid (∀ (k:Nat) (hh:Mt.Fs) (r:Option Mt.Tok) (x:Mt.Re),hh.flat.length≤f.flat.length→(b.aAt k).rep=Mt.rp r→Mt.repK r→Mt.repsOk r→((∃ t,Mt.leafK t∧(b.aAt k).tok=Mt.ptok t∧x=Mt.leafRe t)∨∃ (t:Mt.Tok) (i:Mt.Fs) (q:Nat),x=Mt.grpRe t i.re∧t.kind=6∧(0≤t.how∧t.how≤4)∧i.wf∧i.ok∧i.flat.length+2≤hh.flat.length∧(b.aAt k).tok=Mt.ptok t∧(b.aAt k).num=(if Mt.isCap t then t.n else 0)∧(b.aAt k).body=q∧q<b.seqs.length∧Mt.standsF b 0 0 i (b.sAt q).first (b.sAt q).next) →
   Lays L g b so ao sc ac d 87 #[.pointer (some ⟨g,0,none⟩),.agg (paC (b.aAt k)).toArray] (Mt.part r x)):=by
  intro k hh r x h1 h2 h3 h4 h5
  rcases h5 with ⟨t,h6,h7,rfl⟩ | ⟨t,i,q,rfl,g1,g2,g3,g4,g5,g6,g7,g8,g9,g10⟩
  ·exact layPart_prog _ _ r h2 h3 h4 hd0 (by omega) (layAtom_leaf _ t h6 h7) (layAtom_leaf _ t h6 h7)
  ·exact layPart_prog _ _ r h2 h3 h4 hd0 (by omega) (layGroup_any hA _ t i q g1 g2 g3 g4 (by omega) g6 g7 g8 g9 g10 d hd0 (by omega)) (layGroup_any hA _ t i q g1 g2 g3 g4 (by omega) g6 g7 g8 g9 g10 (d+1) (by omega) (by omega))
 obtain ⟨gs,rfl,hgs,hsc,cs0,cs1⟩:=h.tree.seqCell s hs
 obtain ⟨c0,_,_,_,_⟩:=h.cells
 have HL0:Hid (LAt L w g b (some ⟨gs,0,none⟩) ao sc ac co cc c d):=h
 have HST:Hid (Mt.standsF b 0 0 f (b.sAt s).first (b.sAt s).next∧f.wf∧f.ok):=⟨hst,hw,hok⟩
 have hs':(s:Int)<(b.seqs.length:Int):=by omega
 have HN:Hid (c.length+f.both.1.len≤1000):=hn
 generalize hnx:(b.sAt s).next=n at *
 generalize hfi:(b.sAt s).first=a0 at *
 clear h hA hst hw hok hnx hfi hn
 go_enter Try.func65,Try.ntmps65
 go_wp2_with fail
 go_loopg [4] f.flat.length (fun gn at' wr=>∃ (h:Mt.Fs) (a:Int) (cor:Option Addr) (ccr:Nat) (cx:List Mt.Ins),at'=.int .i64 a∧h.flat.length=gn∧gn≤f.flat.length∧Mt.standsF b 0 0 h a n∧h.wf∧h.ok∧LAt L wr g b (some ⟨gs,0,none⟩) ao sc ac cor ccr cx d∧LStep g co cor w wr∧cx++h.both.1.code cx.length d=c++f.both.1.code c.length d∧cx.length+h.both.1.len≤1000)
 case atStart=>exact ⟨f,a0,co,cc,c,rfl,rfl,Nat.le_refl _,HST.out.1,HST.out.2.1,HST.out.2.2,HL0.out,LStep.refl _ _ _,rfl,HN.out⟩
 case round =>
  obtain ⟨hf,a,cor,ccr,cx,rfl,hgn,hgf,hst,hfw,hfo,hA,hSr,hcx,hln⟩:=hrel
  have hc:=head_two hst hfw hfo
  rcases hc with ⟨ha,h0⟩ | ⟨k,sr,r,x,ha,hk,hrep,hrk,hro,hbo,hst',hsw,hso,hsl,hx⟩
  ·subst ha
   have HD:Hid (LDone L g b (some ⟨gs,0,none⟩) ao sc ac d co w (c++f.both.1.code c.length d) wr):=⟨cor,ccr,by rw [← hcx,h0];simpa [Mt.Re.code] using hA,hSr⟩
   clear hA hSr hcx hst h0
   go_wp2_with fail
   go_returns
   exact ⟨rfl,HD.out⟩
  ·subst ha
   obtain ⟨ga,hao,hga,hac,hcell⟩:=hA.tree.atomRow k hk
   subst hao
   have hrg:=atom_range hA.tree k hk
   obtain ⟨_,d1,_,_,_⟩:=hA.cells
   have hP:=HPT.out k hf r x (by omega) hrep hrk hro hx
   have hlen:hf.both.1.len=(Mt.part r x).len+sr.both.1.len:=by rw [hbo];rfl
   have H1:Hid (Calls Try.prog 87 #[.pointer (some ⟨g,0,none⟩),.agg (paC (b.aAt k)).toArray] wr _):=hP wr cor ccr cx hA (by omega)
   have HSr:Hid (LStep g co cor w wr):=hSr
   have HSR:Hid (Mt.standsF b 0 0 sr (b.aAt k).next n∧sr.wf∧sr.ok):=⟨hst',hsw,hso⟩
   have hk':(k:Int)<(b.atoms.length:Int):=by omega
   have hkb:((k:Int) != -1)=true:=by simp
   have HCX:Hid (cx++(Mt.part r x).code cx.length d++sr.both.1.code ((cx++(Mt.part r x).code cx.length d).length:Int) d=c++f.both.1.code c.length d):=by
    show _=_
    rw [← hcx,hbo,Mt.Re.code,List.append_assoc,List.length_append,Mt.Re.code_len];push_cast;rfl
   have HLN:Hid ((cx++(Mt.part r x).code cx.length d).length+sr.both.1.len≤1000):=by
    show _≤_
    rw [List.length_append,Mt.Re.code_len];omega
   have HAT:Hid (∀ (W:World) (c1:Option Addr) (n1:Nat) (l1:List Mt.Ins),LAt L W g b (some ⟨gs,0,none⟩) (some ⟨ga,0,none⟩) sc ac c1 n1 l1 d→W.cell? ⟨ga,k*20+19,none⟩=some (.int .i64 (b.aAt k).next)∧W.cell? ⟨g,1,none⟩=some (.slice (some ⟨ga,0,none⟩) b.atoms.length ac)):=by
    intro W c1 n1 l1 hW
    obtain ⟨ga',e,_,_,hc⟩:=hW.tree.atomRow k hk
    simp only [Option.some.injEq,Addr.mk.injEq,and_true,true_and] at e
    subst e
    exact ⟨hc 19 (by decide),hW.cells.2.1⟩
   clear hA hSr hcx hst hcell hP hx hrep hrk hro hst' hsw hso hbo hfw hfo HPT
   generalize hNx:(b.aAt k).next=nx at *
   generalize hAA:b.aAt k=A at *
   clear hNx hAA
   go_wp2_with (refine wpList_load_mid (by rfl) 142 (.tmp 32) (by rfl) ga (k*20) (by rfl) (paC A) _ hrg Try.underlying142 rfl (by rw [Try.sizeAt];rfl) ?_)
   refine H1.out.mono ?_
   rintro e w2 ⟨rfl,co2,cc2,hA,hS⟩
   obtain ⟨e19,e1⟩:=HAT.out _ _ _ _ hA
   have HA2:Hid (LAt L w2 g b (some ⟨gs,0,none⟩) (some ⟨ga,0,none⟩) sc ac co2 cc2 (cx++(Mt.part r x).code cx.length d) d∧LStep g co co2 w w2):=⟨hA,HSr.out.trans hS⟩
   clear hA hS HAT hrg
   go_wp2_with fail
   go_roundg sr.flat.length
   case measure=>omega
   case rel=>exact ⟨sr,nx,co2,cc2,_,rfl,rfl,by omega,HSR.out.1,HSR.out.2.1,HSR.out.2.2,HA2.out.1,HA2.out.2,HCX.out,HLN.out⟩
end
theorem re_one {f:Mt.Fs} (h:f.rs=none):f.re=f.both.1:=by
 have h2:=f.both2
 unfold Mt.Fs.re
 generalize f.both=xy at *
 obtain ⟨x,y⟩:=xy
 rw [h] at h2;simp at h2;subst h2;rfl
theorem re_more {f r:Mt.Fs} (h:f.rs=some r):f.re=.alt f.both.1 r.re:=by
 have h2:=f.both2
 unfold Mt.Fs.re
 generalize f.both=xy at *
 obtain ⟨x,y⟩:=xy
 rw [h] at h2;simp at h2;subst h2;rfl
theorem build_split (x y:Int) (z:World):(Instr.build 70 #[(0,.int .i64 2),(1,.int .i64 x),(2,.int .i64 y)]).run Try.prog z=.ok (.agg (insA ⟨2,x,y,[]⟩)) z:=by
 unfold insA
 kernel_rfl
section
variable {L:Nat} {g:Nat} {b:Mt.PB} {so ao:Option Addr} {sc ac N:Nat}
theorem layAlternatives_one (f:Mt.Fs) (s:Nat) (hs:s<b.seqs.length) (hns:b.seqs.length≤1000) (hn1:(b.sAt s).next=-1) (X:Mt.Re) (d:Int) (hX:Lays L g b so ao sc ac d 65 #[.pointer (some ⟨g,0,none⟩),.int .i64 (s:Int)] X) :
  Lays L g b so ao sc ac d 52 #[.pointer (some ⟨g,0,none⟩),.int .i64 (s:Int)] X:=by
 intro w co cc c h hn
 have HC:Hid (Calls Try.prog 65 #[.pointer (some ⟨g,0,none⟩),.int .i64 (s:Int)] w _):=hX _ _ _ _ h hn
 obtain ⟨gs,rfl,hgs,hsc,cs0,cs1⟩:=h.tree.seqCell s hs
 rw [hn1] at cs1
 obtain ⟨c0,_,_,_,_⟩:=h.cells
 have hs':(s:Int)<(b.seqs.length:Int):=by omega
 clear h hX
 go_enter Try.func52,Try.ntmps52
 go_wp2_with fail
 refine HC.out.mono ?_
 rintro e w3 ⟨rfl,hD⟩
 have HD:Hid _:=hD
 clear hD
 go_wp2_with fail
 go_returns
 exact ⟨rfl,HD.out⟩
theorem layAlternatives_more (s k:Nat) (hs:s<b.seqs.length) (hns:b.seqs.length≤1000) (hk:(b.sAt s).next=k) (X Y:Mt.Re) (d:Int) (hX:Lays L g b so ao sc ac d 65 #[.pointer (some ⟨g,0,none⟩),.int .i64 (s:Int)] X) (hY:Lays L g b so ao sc ac d 52 #[.pointer (some ⟨g,0,none⟩),.int .i64 (k:Int)] Y) :
  Lays L g b so ao sc ac d 52 #[.pointer (some ⟨g,0,none⟩),.int .i64 (s:Int)] (.alt X Y):=by
 intro w co cc c h hn
 have hn':c.length+X.len+Y.len+2≤1000:=by simp only [Mt.Re.len] at hn;omega
 have HP:Hid (Calls Try.prog 53 #[.pointer (some ⟨g,0,none⟩),.agg (insA ⟨2,0,0,[]⟩)] w _):=put_prog (x:=⟨2,0,0,[]⟩) h (by omega)
 have HX:Hid (Lays L g b so ao sc ac d 65 #[.pointer (some ⟨g,0,none⟩),.int .i64 (s:Int)] X):=hX
 have HY:Hid (Lays L g b so ao sc ac d 52 #[.pointer (some ⟨g,0,none⟩),.int .i64 (k:Int)] Y):=hY
 obtain ⟨gs,rfl,hgs,hsc,cs0,cs1⟩:=h.tree.seqCell s hs
 rw [hk] at cs1
 obtain ⟨c0,_,_,_,_⟩:=h.cells
 have hs':(s:Int)<(b.seqs.length:Int):=by omega
 have hkb:((k:Int)==-1)=false:=by simp
 have l1:(c++[(⟨2,0,0,[]⟩:Mt.Ins)]).length=c.length+1:=by simp
 have l2:∀ z:Int,(c++[(⟨2,0,0,[]⟩:Mt.Ins)]++X.code z d).length=c.length+1+X.len:=fun z=>by rw [List.length_append,l1,Mt.Re.code_len]
 have l3:∀ z:Int,(c++[(⟨2,0,0,[]⟩:Mt.Ins)]++X.code z d++[(⟨3,0,0,[]⟩:Mt.Ins)]).length=c.length+2+X.len:=fun z=>by rw [List.length_append,l2];simp;omega
 have ES:Hid (∀ (z:Int) (v:Mt.Ins),(c++[(⟨2,0,0,[]⟩:Mt.Ins)]++X.code z d++[(⟨3,0,0,[]⟩:Mt.Ins)]).set c.length v=c++v::X.code z d++[(⟨3,0,0,[]⟩:Mt.Ins)]):=fun z v=>by
  rw [show c++[(⟨2,0,0,[]⟩:Mt.Ins)]++X.code z d++[(⟨3,0,0,[]⟩:Mt.Ins)]=c++[(⟨2,0,0,[]⟩:Mt.Ins)]++(X.code z d++[(⟨3,0,0,[]⟩:Mt.Ins)]) by simp,set_mid];simp
 clear h hX hY hn hk
 unfold insA at HP
 go_enter Try.func52,Try.ntmps52
 go_wp2_with fail
 refine HP.out.mono ?_
 rintro e w1 ⟨rfl,q1,cap1,hA,hS⟩
 have H1':=HX.out w1 _ _ _ hA (by rw [l1];omega)
 rw [l1] at H1'
 have H1:Hid (Calls Try.prog 65 #[.pointer (some ⟨g,0,none⟩),.int .i64 (s:Int)] w1 _):=H1'
 have HS:Hid (LStep g co (some ⟨q1,0,none⟩) w w1):=hS
 clear hA hS H1' cs0 cs1 c0
 go_wp2_with fail
 refine H1.out.mono ?_
 rintro e w2 ⟨rfl,co2,cc2,hA,hS⟩
 have H2':=put_prog (x:=⟨3,0,0,[]⟩) hA (by rw [l2];omega)
 rw [l2] at H2'
 have H2:Hid (Calls Try.prog 53 #[.pointer (some ⟨g,0,none⟩),.agg (insA ⟨3,0,0,[]⟩)] w2 _):=H2'
 have HS2:Hid (LStep g co co2 w w2):=HS.out.trans hS
 clear hA hS H2'
 unfold insA at H2
 generalize hJ:c.length+1+X.len=J at *
 go_wp2_with fail
 refine H2.out.mono ?_
 rintro e w3 ⟨rfl,q,cap,hA,hS⟩
 have c2:=hA.cells.2.2.1
 rw [l3] at c2
 obtain ⟨q',eq,hqg,hqs,hcap⟩:=hA.form (by rw [l3];omega)
 simp only [Option.some.injEq,Addr.mk.injEq,and_true,true_and] at eq
 subst eq
 rw [l3] at hcap
 have HTH:Hid (w3.there q (c.length*4) 4):=code_there hA c.length (by rw [l3];omega)
 have HA3:Hid (LAt L w3 g b (some ⟨gs,0,none⟩) ao sc ac (some ⟨q,0,none⟩) cap (c++[(⟨2,0,0,[]⟩:Mt.Ins)]++X.code ((c.length+1:Nat):Int) d++[(⟨3,0,0,[]⟩:Mt.Ins)]) d):=hA
 have HS3:Hid (LStep g co (some ⟨q,0,none⟩) w w3):=HS2.out.trans hS
 have hgl:g<w3.heap.size:=hA.lt.1
 clear hA hS
 have hT:c.length+2+X.len≤1000:=by omega
 go_upto_region 6 with fail
 go_cut [] (fun wx=>LAt L wx g b (some ⟨gs,0,none⟩) ao sc ac (some ⟨q,0,none⟩) cap (c++(⟨2,(c.length:Int)+1,((c.length+2+X.len:Nat):Int),[]⟩:Mt.Ins)::X.code ((c.length+1:Nat):Int) d++[(⟨3,0,0,[]⟩:Mt.Ins)]) d∧LStep g co (some ⟨q,0,none⟩) w wx)
 case first =>
  generalize hTT:c.length+2+X.len=T at *
  have hc1:∀ z:World,z.cell? ⟨g,2,none⟩=some (.slice (some ⟨q,0,none⟩) T cap)→z.cell? ⟨g,2,none⟩=some (.slice (some ⟨q,0,none⟩) T cap):=fun z hz=>hz
  have hcl:(c.length:Int)<(T:Int):=by omega
  refine wp_region_held_drew (S:=fun z:World=>z.cell? ⟨g,2,none⟩=some (.slice (some ⟨q,0,none⟩) T cap)) (by kernel_rfl) c2 (fun hH=>?_)
  refine takeAt 0 30 (.pointer (some ⟨g,0,none⟩)) rfl rfl (by kernel_rfl) (by kernel_rfl) (by kernel_rfl) (fun _ _ _ h=>h) (Or.inl ⟨by rfl,fun z hz=>by clear hH hz hc1 c2;go_simp⟩) (by assumption) ?_
  simp only [Act.put,List.setIfInBounds_toArray,List.set_cons_zero,List.set_cons_succ]
  refine takeAt 1 31 (.pointer (some ⟨g,0,none⟩)) rfl rfl (by kernel_rfl) (by kernel_rfl) (by kernel_rfl) (fun _ _ _ h=>h) (Or.inl ⟨by rfl,fun z hz=>by clear hH hz hc1 c2;go_simp⟩) (by assumption) ?_
  simp only [Act.put,List.setIfInBounds_toArray,List.set_cons_zero,List.set_cons_succ]
  refine takeAt 2 32 (.pointer (some ⟨g,2,none⟩)) rfl rfl (by kernel_rfl) (by kernel_rfl) (by kernel_rfl) (fun _ _ _ h=>h) (Or.inl ⟨by rfl,fun z hz=>by clear hH hz hc1 c2;go_simp⟩) (by assumption) ?_
  simp only [Act.put,List.setIfInBounds_toArray,List.set_cons_zero,List.set_cons_succ]
  refine takeAt 3 33 (.slice (some ⟨q,0,none⟩) T cap) rfl rfl (by kernel_rfl) (by kernel_rfl) (by kernel_rfl) (fun _ _ _ h=>h) (Or.inl ⟨by rfl,fun z hz=>by have hz1:=hc1 z hz;clear hH hz hc1 c2;go_simp⟩) (by assumption) ?_
  simp only [Act.put,List.setIfInBounds_toArray,List.set_cons_zero,List.set_cons_succ]
  refine takeAt 4 34 (.int .i64 (c.length:Int)) rfl rfl (by kernel_rfl) (by kernel_rfl) (by kernel_rfl) (fun _ _ _ h=>h) (Or.inl ⟨by rfl,fun z hz=>by clear hH hz hc1 c2;go_simp⟩) (by assumption) ?_
  simp only [Act.put,List.setIfInBounds_toArray,List.set_cons_zero,List.set_cons_succ]
  refine takeAt 5 35 (.int .i64 (c.length:Int)) rfl rfl (by kernel_rfl) (by kernel_rfl) (by kernel_rfl) (fun _ _ _ h=>h) (Or.inl ⟨by rfl,fun z hz=>by clear hH hz hc1 c2;go_simp⟩) (by assumption) ?_
  simp only [Act.put,List.setIfInBounds_toArray,List.set_cons_zero,List.set_cons_succ]
  refine takeAt 6 36 (.int .i64 ((c.length:Int)+1)) rfl rfl (by kernel_rfl) (by kernel_rfl) (by kernel_rfl) (fun _ _ _ h=>h) (Or.inl ⟨by rfl,fun z hz=>by clear hH hz hc1 c2;go_simp;rw [IntKind.wrap_i64];omega⟩) (by assumption) ?_
  simp only [Act.put,List.setIfInBounds_toArray,List.set_cons_zero,List.set_cons_succ]
  refine takeAt 7 37 (.pointer (some ⟨g,0,none⟩)) rfl rfl (by kernel_rfl) (by kernel_rfl) (by kernel_rfl) (fun _ _ _ h=>h) (Or.inl ⟨by rfl,fun z hz=>by clear hH hz hc1 c2;go_simp⟩) (by assumption) ?_
  simp only [Act.put,List.setIfInBounds_toArray,List.set_cons_zero,List.set_cons_succ]
  refine takeAt 8 38 (.pointer (some ⟨g,0,none⟩)) rfl rfl (by kernel_rfl) (by kernel_rfl) (by kernel_rfl) (fun _ _ _ h=>h) (Or.inl ⟨by rfl,fun z hz=>by clear hH hz hc1 c2;go_simp⟩) (by assumption) ?_
  simp only [Act.put,List.setIfInBounds_toArray,List.set_cons_zero,List.set_cons_succ]
  refine takeAt 9 39 (.pointer (some ⟨g,2,none⟩)) rfl rfl (by kernel_rfl) (by kernel_rfl) (by kernel_rfl) (fun _ _ _ h=>h) (Or.inl ⟨by rfl,fun z hz=>by clear hH hz hc1 c2;go_simp⟩) (by assumption) ?_
  simp only [Act.put,List.setIfInBounds_toArray,List.set_cons_zero,List.set_cons_succ]
  refine takeAt 10 40 (.slice (some ⟨q,0,none⟩) T cap) rfl rfl (by kernel_rfl) (by kernel_rfl) (by kernel_rfl) (fun _ _ _ h=>h) (Or.inl ⟨by rfl,fun z hz=>by have hz1:=hc1 z hz;clear hH hz hc1 c2;go_simp⟩) (by assumption) ?_
  simp only [Act.put,List.setIfInBounds_toArray,List.set_cons_zero,List.set_cons_succ]
  refine takeAt 11 41 (.int .i64 (T:Int)) rfl rfl (by kernel_rfl) (by kernel_rfl) (by kernel_rfl) (fun _ _ _ h=>h) (Or.inl ⟨by rfl,fun z hz=>by clear hH hz hc1 c2;go_simp⟩) (by assumption) ?_
  simp only [Act.put,List.setIfInBounds_toArray,List.set_cons_zero,List.set_cons_succ]
  refine takeAt 12 42 (.agg (insA ⟨2,(c.length:Int)+1,(T:Int),[]⟩)) rfl rfl (by kernel_rfl) (by kernel_rfl) (by kernel_rfl) (fun _ _ _ h=>h) (Or.inl ⟨by rfl,fun z hz=>by refine buildRun (t:=70) (parts:=#[(0,.const (.int .i64 2)),(1,.tmp 36),(2,.tmp 41)]) rfl ?_;simp only [List.map_toArray,List.map_cons,List.map_nil];exact build_split _ _ z⟩) (by assumption) ?_
  simp only [Act.put,List.setIfInBounds_toArray,List.set_cons_zero,List.set_cons_succ]
  refine takeAt 13 43 (.pointer (some ⟨q,c.length*4,none⟩)) rfl rfl (by kernel_rfl) (by kernel_rfl) (by kernel_rfl) (fun _ _ _ h=>h) (Or.inl ⟨by rfl,fun z hz=>by clear hH hz hc1 c2;go_simp⟩) (by assumption) ?_
  simp only [Act.put,List.setIfInBounds_toArray,List.set_cons_zero,List.set_cons_succ]
  refine lastStore 14 _ rfl rfl (by kernel_rfl) (by kernel_rfl) _ _ _ rfl q (c.length*4) (insA ⟨2,(c.length:Int)+1,(T:Int),[]⟩) (by kernel_rfl) (by kernel_rfl) HTH.out (by rw [Try.sizeIn];rfl) (insA_all _) rfl ?_
  refine ⟨(World.cell?_of_block (a:=⟨g,2,none⟩) (setCells_oth q _ _ _ _ (Ne.symm hqg))).trans c2,?_⟩
  clear hH hc1 c2
  go_wp2_with fail
  go_meet
  case rel =>
   have M:=HA3.out.drew.codeSet c.length 0 (insA ⟨2,(c.length:Int)+1,(T:Int),[]⟩).toList ⟨2,(c.length:Int)+1,(T:Int),[]⟩ (by rw [l3];omega) (by show 0+4≤4;omega) rfl
   rw [ES.out] at M
   exact ⟨M,HS3.out.drew.setMany q _ _ (Or.inr rfl)⟩
 case rest =>
  obtain ⟨hA,hS⟩:=hcut
  have l4:(c++(⟨2,(c.length:Int)+1,((c.length+2+X.len:Nat):Int),[]⟩:Mt.Ins)::X.code ((c.length+1:Nat):Int) d++[(⟨3,0,0,[]⟩:Mt.Ins)]).length=c.length+2+X.len:=by
   simp [Mt.Re.code_len];omega
  have H5':=HY.out wc _ _ _ hA (by rw [l4];omega)
  rw [l4] at H5'
  have H5:Hid (Calls Try.prog 52 #[.pointer (some ⟨g,0,none⟩),.int .i64 (k:Int)] wc _):=H5'
  have HSc:Hid (LStep g co (some ⟨q,0,none⟩) w wc):=hS
  clear hA hS H5' HTH HA3 HS3 HX HY c2
  go_wp2_with fail
  refine H5.out.mono ?_
  rintro e w5 ⟨rfl,co5,cc5,hA,hS⟩
  have l5:(c++(⟨2,(c.length:Int)+1,((c.length+2+X.len:Nat):Int),[]⟩:Mt.Ins)::X.code ((c.length+1:Nat):Int) d++[(⟨3,0,0,[]⟩:Mt.Ins)]++Y.code ((c.length+2+X.len:Nat):Int) d).length=c.length+2+X.len+Y.len:=by
   rw [List.length_append,l4,Mt.Re.code_len]
  have c2:=hA.cells.2.2.1
  rw [l5] at c2
  obtain ⟨q5,eq,hqg5,hqs5,hcap5⟩:=hA.form (by rw [l5];omega)
  subst eq
  rw [l5] at hcap5
  have eJ:(c++(⟨2,(c.length:Int)+1,((c.length+2+X.len:Nat):Int),[]⟩:Mt.Ins)::X.code ((c.length+1:Nat):Int) d).length=J:=by
   simp [Mt.Re.code_len];omega
  have gJ:(c++(⟨2,(c.length:Int)+1,((c.length+2+X.len:Nat):Int),[]⟩:Mt.Ins)::X.code ((c.length+1:Nat):Int) d++[(⟨3,0,0,[]⟩:Mt.Ins)]++Y.code ((c.length+2+X.len:Nat):Int) d).getD J Mt.ins0=⟨3,0,0,[]⟩:=by
   rw [← eJ];exact get_mid _ _ _
  have sJ:∀ v,(c++(⟨2,(c.length:Int)+1,((c.length+2+X.len:Nat):Int),[]⟩:Mt.Ins)::X.code ((c.length+1:Nat):Int) d++[(⟨3,0,0,[]⟩:Mt.Ins)]++Y.code ((c.length+2+X.len:Nat):Int) d).set J v=c++(⟨2,(c.length:Int)+1,((c.length+2+X.len:Nat):Int),[]⟩:Mt.Ins)::X.code ((c.length+1:Nat):Int) d++v::Y.code ((c.length+2+X.len:Nat):Int) d:=fun v=>by
   rw [← eJ];exact set_mid _ _ _ _
  have cy:w5.cell? ⟨q5,J*4+1,none⟩=some (.int .i64 0):=by
   rw [World.ownsRow.cellAt hA.code _ (by rw [l5];omega),ins_flat_at _ J 1 (by rw [l5];omega) (by omega),gJ];rfl
  have fy:w5.frozen? ⟨q5,J*4+1,none⟩=false:=World.ownsRow.frozenAt hA.code _
  have M:=hA.codeSet J 1 [.int .i64 ((c.length+2+X.len+Y.len:Nat):Int)] ⟨3,((c.length+2+X.len+Y.len:Nat):Int),0,[]⟩ (by rw [l5];omega) (by simp) (by rw [gJ];rfl)
  rw [sJ] at M
  have HE:Hid (c++(Mt.Re.alt X Y).code c.length d=c++(⟨2,(c.length:Int)+1,((c.length+2+X.len:Nat):Int),[]⟩:Mt.Ins)::X.code ((c.length+1:Nat):Int) d++(⟨3,((c.length+2+X.len+Y.len:Nat):Int),0,[]⟩:Mt.Ins)::Y.code ((c.length+2+X.len:Nat):Int) d):=by
   show _=_
   have e1:((c.length+2+X.len:Nat):Int)=(c.length:Int)+X.len+2:=by push_cast;omega
   have e2:((c.length+2+X.len+Y.len:Nat):Int)=(c.length:Int)+X.len+2+Y.len:=by push_cast;omega
   rw [e1,e2];simp [Mt.Re.code]
  have HM:Hid (LDone L g b (some ⟨gs,0,none⟩) ao sc ac d co w (c++(Mt.Re.alt X Y).code c.length d) (w5.setCell ⟨q5,J*4+1,none⟩ (.int .i64 ((c.length+2+X.len+Y.len:Nat):Int))).drew):=by
   show LDone _ _ _ _ _ _ _ _ _ _ _ _
   rw [HE.out]
   exact ⟨_,_,M.drew,((HSc.out.trans hS).set (p:=⟨q5,J*4+1,none⟩) (Or.inr rfl) _).drew⟩
  have hg5:g<w5.heap.size:=hA.lt.1
  have hJl:(J:Int)<((c.length+2+X.len+Y.len:Nat):Int):=by omega
  clear hA hS M sJ gJ eJ l5 HE
  generalize c.length+2+X.len+Y.len=T5 at *
  go_wp2_with fail
  go_region
  go_wp2_with fail
  go_returns
  exact ⟨rfl,HM.out⟩
theorem layAlternatives_any (hA:AltL L g b so ao sc ac N) (hna:b.atoms.length≤1000) (hns:b.seqs.length≤1000) (f:Mt.Fs) (hw:f.wf) (hok:f.ok) (hl:f.flat.length≤N) (s:Nat) (hs:s<b.seqs.length) (hst:Mt.standsF b 0 0 f (b.sAt s).first (b.sAt s).next) (d:Int) (hd0:0≤d) (hd:d+f.flat.length≤1000) :
  Lays L g b so ao sc ac d 52 #[.pointer (some ⟨g,0,none⟩),.int .i64 (s:Int)] f.re:=by
 have hX:=laySequence_any hA hna hns f hw hok hl s hs hst d hd0 hd
 rcases Mt.stands_rs f _ _ hst with ⟨e,h1⟩ | ⟨r,k,e,h1,h2,h3⟩
 ·rw [re_one e]
  exact layAlternatives_one f s hs hns h1 _ d hX
 ·have hr:=Mt.rs_less f r e
  rw [re_more e]
  exact layAlternatives_more s k hs hns h1 _ _ d hX (hA r (hr.2.1 hw) (hr.2.2 hok) (by omega) k h2 h3 d hd0 (by omega))
theorem altL_all (hna:b.atoms.length≤1000) (hns:b.seqs.length≤1000):∀ N,AltL L g b so ao sc ac N
 | 0=>fun f _ _ h=>by omega
 | N+1=>fun f hw hok h s hs hst d hd0 hd=>layAlternatives_any (altL_all hna hns N) hna hns f hw hok (by omega) s hs hst d hd0 hd
end
end Go.Proofs.Ytebpgfodelggoab
