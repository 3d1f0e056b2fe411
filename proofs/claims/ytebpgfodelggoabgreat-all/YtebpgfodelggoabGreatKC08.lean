import Derived.Test.YtebpgfodelggoabGreatKC06
import Derived.Test.YtebpgfodelggoabGreatKC07
import Derived.Test.YtebpgfodelggoabGreatRows
import Derived.WalkKit
import Derived.ProofKit
import Derived.OpenShut
import Derived.Carry
import Derived.Handed
import Derived.Deep.Slices
import Derived.JoinedCond
set_option linter.unusedVariables false
set_option linter.unusedSimpArgs false
set_option maxRecDepth 100000
set_option maxHeartbeats 4000000
namespace Go.Proofs.YtebpgfodelggoabGreat
open Go.RowKit
theorem zEB(p:ByteArray)(w:World)(hm:p.size<=maxLen) :
  Calls Tryz.prog 16 #[.string p] w λe w'=>∃v,e=.returned (.tuple #[v,.int .i64 (Mt.zY p).2.1,.int .i64 (Mt.zY p).2.2])/\vN w' v (Mt.zY p).1/\Below w.heap.size w w':=by
 by_cases h:64<p.size
 ·have e:Mt.zY p=([],1,0):=by unfold Mt.zY;rw[if_pos h]
  rw[e];refine(zHQ p w h hm).mono ?_;rintro e w' ⟨rfl,rfl⟩;exact⟨_,rfl,World.ownsRow_nil _ _ _ _,Below.refl _ _⟩
 ·refine(zGs p w (by omega)).mono ?_;rintro e w' ⟨v,rfl,h1,h2⟩;exact⟨v,rfl,h1.vN,h2⟩
theorem zCy(p:ByteArray)(w:World)(hm:p.size<=maxLen) :
  Calls Tryz.prog 8 #[.string p] w λe w'=>e=.returned (.tuple #[.int .i64 (Mt.jN p).1,.int .i64 (Mt.jN p).2])/\Below w.heap.size w w':=by
 have K:Hid (Calls Tryz.prog 16 #[.string p] w λe w'=>∃v,e=.returned (.tuple #[v,.int .i64 (Mt.zY p).2.1,.int .i64 (Mt.zY p).2.2])/\vN w' v (Mt.zY p).1/\Below w.heap.size w w'):=zEB p w hm;have ts:=Mt.fZ p;have tsl:=ts.2;have TS:Hid (Mt.bM (Mt.zY p).1):=ts.1;have KC:Hid (∀(v:Value) (z:World),vN z v (Mt.zY p).1->Calls Tryz.prog 17 #[v] z λe w'=>∃v',e=.returned v'/\zF w' 0 v' (Mt.coded (Mt.zY p).1)/\Below z.heap.size z w'):=λv z hz=>zGp _ v z tsl TS.out hz
 have cb:((Mt.coded (Mt.zY p).1).length:Int)<=100000000:=by
  have fc:=zBE TS.out 283 0 0 (Mt.zY p).1.length 0 (by omega) (by omega);have:=(Mt.vY fc (Mt.mU (M:=70000000) (i:=⟨13,0,0,[]⟩) (vZ _ _ _ _ (by omega) (by omega)) (by omega))).1;unfold Mt.coded;omega
 unfold Mt.jN;generalize hT:Mt.zY p=T at *;clear hT ts;generalize hC:Mt.coded T.1=C at *;clear hC;cases he:(T.2.1 != 0)
 ·rw[if_neg (by simpa using he)];by_cases hb:300<C.length
  ·rw[if_pos hb];go_enter Tryz.func8,Tryz.ntmps8
   go_wp2_with fail
   refine K.out.mono ?_;rintro e w1 ⟨v1,rfl,q1,zTH⟩;have Q1:Hid (vN w1 v1 T.1):=q1;have hs1:=zTH.size;clear q1;go_wp2_with fail
   refine(KC.out v1 _ Q1.out).mono ?_;rintro e w2 ⟨v2,rfl,q2,zTK⟩;obtain⟨ao,cap,rfl⟩:=wT q2;have hB2:Below w.heap.size w w2:=zTH.trans (zTK.mono hs1);clear q2 zTK zTH;go_wp2_with fail
   go_ret2
   exact⟨rfl,hB2⟩
  ·rw[if_neg hb];go_enter Tryz.func8,Tryz.ntmps8
   go_wp2_with fail
   refine K.out.mono ?_;rintro e w1 ⟨v1,rfl,q1,zTH⟩;have Q1:Hid (vN w1 v1 T.1):=q1;have hs1:=zTH.size;clear q1;go_wp2_with fail
   refine(KC.out v1 _ Q1.out).mono ?_;rintro e w2 ⟨v2,rfl,q2,zTK⟩;obtain⟨ao,cap,rfl⟩:=wT q2;have hB2:Below w.heap.size w w2:=zTH.trans (zTK.mono hs1);clear q2 zTK zTH;go_wp2_with fail
   go_ret2
   exact⟨rfl,hB2⟩
 ·rw[if_pos (by simpa using he)];go_enter Tryz.func8,Tryz.ntmps8
  go_wp2_with fail
  refine K.out.mono ?_;rintro e w1 ⟨v1,rfl,q1,zTH⟩;clear q1;go_wp2_with fail
  go_ret2
  exact⟨rfl,zTH⟩
structure Stp where
 kind:Int
 p:ByteArray
 t:ByteArray
 zTE:Int
 zB:Int
 zI:Int
 zD:Int
 zA:Int
def opA(o:Stp):Array Value:=#[.int .i64 o.kind,.string o.p,.string o.t,.int .i64 o.zTE,.int .i64 o.zB,.int .i64 o.zI,.int .i64 o.zD,.int .i64 o.zA]
def opV(o:Stp):Value:=.agg (opA o)
def zJK:Prop:=∀(p:ByteArray) (z:World),p.size<=maxLen->Calls Tryz.prog 7 #[.string p] z λe w'=>e=.returned (.tuple #[.int .i64 (Mt.jN p).1,.int .i64 (Mt.jN p).2])/\Below z.heap.size z w'
theorem zHR(KP:zJK)(o:Stp)(w:World)(hp:o.p.size<=maxLen)(k1:(o.kind==1)=true) :
  Calls Tryz.prog 6 #[opV o] w λe w'=>e=.returned (.bool true)/\Below w.heap.size w w':=by
 have K1:Hid (∀z:World,Calls Tryz.prog 7 #[.string o.p] z λe w'=>e=.returned (.tuple #[.int .i64 (Mt.jN o.p).1,.int .i64 (Mt.jN o.p).2])/\Below z.heap.size z w'):=λz=>KP o.p z hp
 have K2:Hid (∀z:World,Calls Tryz.prog 8 #[.string o.p] z λe w'=>e=.returned (.tuple #[.int .i64 (Mt.jN o.p).1,.int .i64 (Mt.jN o.p).2])/\Below z.heap.size z w'):=λz=>zCy o.p z hp
 generalize Mt.jN o.p=C at *;unfold opV opA;go_enter Tryz.func6,Tryz.ntmps6
 go_wp2_with fail
 refine(K1.out _).mono ?_;rintro e w1 ⟨rfl,zTH⟩;have hs1:=zTH.size;have y1:w1.cell? ⟨w.heap.size,1,none⟩=some (.string o.p):=(zC ((zTH.block _ (by simp)).trans (heap_alloc_new _ _))).1 1;have l1:w.heap.size<w1.heap.size:=by simp at hs1;omega
 have hB1:Below w.heap.size w w1:=((Below.refl _ _).alloc (lG _) _).trans (zTH.mono (by simp));clear zTH hs1;go_wp2_with fail
 refine(K2.out _).mono ?_;rintro e w2 ⟨rfl,zTK⟩;have hB2:Below w.heap.size w w2:=hB1.trans (zTK.mono (by omega));clear zTK;go_wp2_with fail
 go_ret;exact⟨jC (by simp),hB2⟩
def zJL:Stp:=⟨0,⟨#[]⟩,⟨#[]⟩,0,0,0,0,0⟩
def Script(w:World)(v:Value)(l:List Stp):Prop :=
 (l=[]/\∃ao cap,v=.slice ao 0 cap)\/(0<l.length/\∃g o cap,v=.slice (some ⟨g,o,none⟩) l.length cap/\l.length<=cap/\g<w.heap.size/\∀k,k<l.length->∀j,j<8->w.cell? ⟨g,o+k*8+j,none⟩=(opA (l.getD k zJL))[j]?)
theorem zLe(lo hi:Int)(l:List Stp)(v:Value)(w:World)(h:Script w v l)(hn:(l.length:Int)<=9223372036854775807)
  (KP:∀o∈l,lo<=o.kind->o.kind<=hi->∀z:World,Calls Tryz.prog 6 #[opV o] z λe w'=>e=.returned (.bool true)/\Below z.heap.size z w') :
  Calls Tryz.prog 5 #[v,.int .i64 lo,.int .i64 hi] w λe w'=>e=.returned (.int .i64 (-1))/\Below w.heap.size w w':=by
 rcases h with ⟨rfl,ao,cap,rfl⟩ | ⟨dI,g,off,cap,rfl,hca,hg,hA⟩
 ·go_enter Tryz.func5,Tryz.ntmps5
  go_wp2_with fail
  refine wp_loop_rounds 1 ?_;rw[rounds_succ];go_wp2_with fail
  go_ret;exact⟨rfl,Below.refl _ _⟩
 ·have HA:Hid (∀k,k<l.length->∀j,j<8->w.cell? ⟨g,off+k*8+j,none⟩=(opA (l.getD k zJL))[j]?):=hA;have HP:Hid (∀o∈l,lo<=o.kind->o.kind<=hi->∀z:World,Calls Tryz.prog 6 #[opV o] z λe w'=>e=.returned (.bool true)/\Below z.heap.size z w'):=KP;clear hA KP;go_enter Tryz.func5,Tryz.ntmps5
  go_wp2_with fail
  go_loopw [7] (λi wr=>∃k:Nat,k<=l.length/\i=.int .i64 k/\Below w.heap.size w wr) (λi _=>l.length-(intOf i).toNat)
  case atStart=>exact⟨0,Nat.zero_le _,rfl,Below.refl _ _⟩
  case round =>
   obtain⟨k,hk,rfl,hbr⟩:=hrel;have hsz:=hbr.size;by_cases zTI:k<l.length
   ·have key:=λj hj=>(hbr.cell (p:=⟨g,off+k*8+j,none⟩) hg).trans (HA.out k zTI j hj)
    have a0:wr.cell? ⟨g,off+k*8,none⟩=some (.int .i64 (l.getD k zJL).kind):=key 0 (by omega);have a1:wr.cell? ⟨g,off+k*8+1,none⟩=some (.string (l.getD k zJL).p):=key 1 (by omega);have a2:wr.cell? ⟨g,off+k*8+2,none⟩=some (.string (l.getD k zJL).t):=key 2 (by omega);have a3:wr.cell? ⟨g,off+k*8+3,none⟩=some (.int .i64 (l.getD k zJL).zTE):=key 3 (by omega);have a4:wr.cell? ⟨g,off+k*8+4,none⟩=some (.int .i64 (l.getD k zJL).zB):=key 4 (by omega);have a5:wr.cell? ⟨g,off+k*8+5,none⟩=some (.int .i64 (l.getD k zJL).zI):=key 5 (by omega);have a6:wr.cell? ⟨g,off+k*8+6,none⟩=some (.int .i64 (l.getD k zJL).zD):=key 6 (by omega);have a7:wr.cell? ⟨g,off+k*8+7,none⟩=some (.int .i64 (l.getD k zJL).zA):=key 7 (by omega);have hm:l.getD k zJL∈l:=by rw[lH,lK zTI];exact List.getElem_mem zTI
    have hP:=HP.out _ hm;generalize l.getD k zJL=O at *;have i0:(0:Int)<=(k:Int):=by omega
    have i1:(k:Int)<(l.length:Int):=by omega
    have lg:g<wr.heap.size:=by omega
    have HBR:Hid (Below w.heap.size w wr):=hbr;clear key hm hbr;by_cases h1:lo<=O.kind
    ·by_cases h2:O.kind<=hi
     ·have KO:Hid (∀z:World,Calls Tryz.prog 6 #[opV O] z λe w'=>e=.returned (.bool true)/\Below z.heap.size z w'):=hP h1 h2;unfold opV opA at KO;have e1:decide (lo<=O.kind)=true:=by simpa using h1
      have e2:decide (O.kind<=hi)=true:=by simpa using h2
      clear hP;go_wp2_with fail
      refine(KO.out _).mono ?_;rintro e w1 ⟨rfl,zTH⟩;have B1:Hid (Below w.heap.size w w1):=(HBR.out.alloc hsz _).trans (zTH.mono (by simp;omega));clear zTH a0 a1 a2 a3 a4 a5 a6 a7;go_wp2_with fail
      go_roundw
      case rel=>exact⟨k+1,by omega,by go_num,B1.out⟩
      case measure=>simp[intOf];omega
     ·have e1:decide (lo<=O.kind)=true:=by simpa using h1
      have e2:decide (O.kind<=hi)=false:=by simpa using h2
      clear hP;go_wp2_with fail
      go_roundw
      case rel=>exact⟨k+1,by omega,by go_num,HBR.out.alloc hsz _⟩
      case measure=>simp[intOf];omega
    ·have e1:decide (lo<=O.kind)=false:=by simpa using h1
     clear hP;go_wp2_with fail
     go_roundw
     case rel=>exact⟨k+1,by omega,by go_num,HBR.out.alloc hsz _⟩
     case measure=>simp[intOf];omega
   ·go_wp2_with fail
    go_ret;exact⟨rfl,hbr⟩
open Go.ChangeShapes Go.WideShapes Go.ChangeAt Go.RowKit
theorem Tryz.ownK:ownKnob Tryz.prog.godebug=none:=by kernel_rfl
theorem zJM{H:Type}{enc:TypeId × Value->H}{P:Program}{f:Func}{s:ChangeSpec}{apart fresh handsOn again:Bool}{W W':World}{args:Array Value}{v:Value}{ds gs:List (DataW H)}{before pa pv:List MemPlace}
  (hW:DataW.Whole enc P f.params.toList s.vars apart W args.toList ds gs before)
  (hres:∀(b:Nat) (sp:Nat->Bool) (hd:Bool),DataW.TrodAll enc P W' b sp hd f.resultTypes.toList (v.resultList f.resultTypes.size) (s.fn H (ds++gs)).results [])
  (hargs:∀sp:Nat->Bool,(∀p∈before,sp p.block=true)->DataW.TrodAll enc P W' 0 sp true f.params.toList args.toList (s.fn H (ds++gs)).args pa)
  (hvars:∀sp:Nat->Bool,(∀p∈before,sp p.block=true)->DataW.TrodVars enc P W' sp s.vars (s.fn H (ds++gs)).vars pv)
  (hps:before=pa++pv) (hb:Below W.heap.size W W')
  (hok:∀(j:Nat) (t:TypeId) (r:Value),f.resultTypes[j]?=some t->(v.resultList f.resultTypes.size)[j]?=some r->Value.okWide P W' .any 0 t r) :
  s.post enc P f apart fresh handsOn again W args v W':=by
 have zTI:=hW.lt;have hold:∀p∈before,(λb=>decide (b<W.heap.size)) p.block=true:=λp hp=>by simpa using zTI p hp
 refine⟨ds,gs,before,[],pa,pv,hW,hres _ _ _,hargs _ hold,hvars _ hold,World.keptBut_mono (λp hp=>⟨hp,?_⟩) (hb.frame (·∈before)),λ_=>?_⟩
 ·rw[hps,List.mem_append]at hp;exact Or.inr hp
 ·obtain⟨_,_,_,_,_,hz,hn⟩:=hW;refine⟨hok,_,_,([]++pa)++pv,⟨[]++pa,pv,trodAll_append (hargs _ (λ_ _=>rfl)) (hres _ _ _),hvars _ (λ_ _=>rfl),rfl,?_,?_⟩,?_⟩
  ·intro b off hp;have hm:MemPlace.cell b off∈before:=by rw[hps];simpa using hp
   rw[hb.frozen (p:=⟨b,off,none⟩) (zTI _ hm)];exact hz b off hm
  ·intro ha;have:=hn ha;rw[hps]at this;simpa using this
  ·intro p hp _;rw[hps];simpa using hp
theorem Tryz.cellsInt:Tryz.prog.cellsOf 3=1:=by kernel_rfl
theorem Tryz.cellsStr:Tryz.prog.cellsOf 9=1:=by kernel_rfl
theorem Tryz.cellsOp:Tryz.prog.cellsOf 26=8:=by kernel_rfl
theorem Tryz.laid:laidOutB Tryz.prog=true:=by kernel_rfl
theorem Tryz.recOps:Tryz.prog.readableRec 22=true:=by kernel_rfl
theorem Tryz.rowOps:22<Tryz.prog.types.size:=of_decide_eq_true (by kernel_rfl)
instance:Inhabited Stp:=⟨zJL⟩
section
variable {H:Type} {enc:TypeId × Value->H} {W:World}
theorem zLf{n:Nat}{cs:List Value}{x:DataW H × List MemPlace}(h:DataW.trod enc Tryz.prog W 0 (λ_=>true) true n 26 cs=some x):∃o:Stp,cs=(opA o).toList/\o.p.size<=maxLen/\o.t.size<=maxLen:=by
 obtain⟨xs,k,hk,hxy,hcl,hxl,hf⟩:=DataW.trod_struct Tryz.underlying26 h;rw[Tryz.cellsOp]at hcl
 match cs,hcl with
 | [v0,v1,v2,v3,v4,v5,v6,v7],_ =>
  match xs,hxl with
  | [y0,y1,y2,y3,y4,y5,y6,y7],_ =>
   have g0:=hf 0 _ rfl;have g1:=hf 1 _ rfl;have g2:=hf 2 _ rfl;have g3:=hf 3 _ rfl;have g4:=hf 4 _ rfl;have g5:=hf 5 _ rfl;have g6:=hf 6 _ rfl;have g7:=hf 7 _ rfl;simp[Tryz.cellsInt,Tryz.cellsStr]at g0 g1 g2 g3 g4 g5 g6 g7;obtain⟨a0,e0,_,_⟩:=DataW.trod_int Tryz.underlying3 g0;obtain⟨a1,e1,_,s1⟩:=DataW.trod_string Tryz.underlying9 g1;obtain⟨a2,e2,_,s2⟩:=DataW.trod_string Tryz.underlying9 g2;obtain⟨a3,e3,_,_⟩:=DataW.trod_int Tryz.underlying3 g3;obtain⟨a4,e4,_,_⟩:=DataW.trod_int Tryz.underlying3 g4;obtain⟨a5,e5,_,_⟩:=DataW.trod_int Tryz.underlying3 g5;obtain⟨a6,e6,_,_⟩:=DataW.trod_int Tryz.underlying3 g6;obtain⟨a7,e7,_,_⟩:=DataW.trod_int Tryz.underlying3 g7;simp only[List.cons.injEq,and_true]at e0 e1 e2 e3 e4 e5 e6 e7;subst e0 e1 e2 e3 e4 e5 e6 e7;exact⟨⟨a0,a1,a2,a3,a4,a5,a6,a7⟩,rfl,s1,s2⟩
theorem zHS{a0:Option Addr}{len cap fuel:Nat}{x:DataW H × List MemPlace}(h:DataW.trod enc Tryz.prog W 0 (λ_=>true) true fuel 22 [.slice a0 len cap]=some x) :
  ∃l:List Stp,Script W (.slice a0 len cap) l/\l.length<=maxLen/\∀o∈l,o.p.size<=maxLen/\o.t.size<=maxLen:=by
 rcases Deep.open_slice Tryz.underlying22 h with ⟨hcs,_⟩ | ⟨a,len',cap',m,n,D,Pl,hcs,_,hl,hmx,hmm,_,hx⟩
 ·simp at hcs;obtain⟨rfl,rfl,rfl⟩:=hcs;exact⟨[],Or.inl ⟨rfl,none,0,rfl⟩,by simp,λo ho=>by simp at ho⟩
 ·simp at hcs;obtain⟨rfl,rfl,rfl⟩:=hcs;simp only[if_true]at hmm;subst hmm;rw[Tryz.cellsOp]at hx
  obtain⟨S,hS⟩:=Deep.choose_lt (α:=Stp) (n:=len) (p:=λi o=>W.cells? 0 (a.add (i*8)) 8=some (opA o).toList/\o.p.size<=maxLen/\o.t.size<=maxLen) (λi hi=>by
   obtain⟨cs',h1,h2⟩:=hx i (by omega);obtain⟨o,rfl,h3,h4⟩:=zLf h2;exact⟨o,h1,h3,h4⟩)
  refine⟨(List.range len).map S,?_,by simp;omega,λo ho=>?_⟩
  ·by_cases h0:len=0
   ·subst h0;exact Or.inl ⟨rfl,some a,m,rfl⟩
   ·right;obtain⟨b,off,spot⟩:=a
    have c:∀i,i<len->∀j,j<8->W.cell? ((⟨b,off,spot⟩:Addr).add (i*8+j))=(opA (S i)).toList[j]?:=λi hi j hj=>by
     obtain⟨_,hlen,hcell⟩:=World.cells?_some (hS i hi).1;have:=hcell j hj;rw[Deep.add_add]at this;exact this
    have c00:=c 0 (by omega) 0 (by omega)
    have hspot:spot=none:=by
     have:=World.cell?_spot (c00.trans rfl);simpa[Addr.add]using this
    subst hspot;refine⟨by simp;omega,b,off,m,by simp,by simp;omega,?_,λk hk j hj=>?_⟩
    ·have hc0:W.cell? ⟨b,off,none⟩=some (.int .i64 (S 0).kind):=by simpa[Addr.add,opA]using c00
     exact Decidable.byContradiction λhge=>by
      unfold World.cell? at hc0;rw[Array.getElem?_eq_none (show W.heap.size<=b by omega)]at hc0;simp at hc0
    ·simp only[List.length_map,List.length_range]at hk;have h1:=c k hk j hj;rw[add_plain]at h1;rw[show off+k*8+j=off+(k*8+j) by omega,h1];rw[lH,List.getElem?_map,List.getElem?_range hk];simp
  ·obtain⟨i,hi,rfl⟩:=List.mem_map.1 ho;have:=hS i (by simpa using hi);exact⟨this.2.1,this.2.2⟩
end
