import Derived.Test.YtebpgfodelggoaaGreatC07
import Derived.Test.YtebpgfodelggoaaGreatRows
import Derived.WalkKit
import Derived.ProofKit
import Derived.OpenShut
import Derived.Carry
import Derived.Handed
import Derived.Deep.Slices
import Derived.JoinedCond
set_option linter.unusedVariables false
set_option linter.unusedSimpArgs false
set_option maxRecDepth 100000
set_option maxHeartbeats 4000000
namespace Go.Proofs.YtebpgfodelggoaaGreat
open Go.RowKit
structure Stp where
 kind:Int
 p:ByteArray
 t:ByteArray
 frm:Int
 policy:Int
 mask:Int
 room:Int
 budget:Int
def opA (o:Stp):Array Value:=#[.int .i64 o.kind,.string o.p,.string o.t,.int .i64 o.frm,.int .i64 o.policy,.int .i64 o.mask,.int .i64 o.room,.int .i64 o.budget]
def opV (o:Stp):Value:=.agg (opA o)
def zQ7:Prop:=∀ (p:ByteArray) (z:World),p.size≤maxLen→Calls Tryz.prog 27 #[.string p] z fun e w'=>e=.returned (.tuple #[.int .i64 (Mt.jS p).1,.int .i64 (Mt.jS p).2])∧Below z.heap.size z w'
def zKU:Stp:=⟨0,⟨#[]⟩,⟨#[]⟩,0,0,0,0,0⟩
def Script (w:World) (v:Value) (l:List Stp):Prop :=
 (l=[]∧∃ ao cap,v=.slice ao 0 cap)∨(0<l.length∧∃ g o cap,v=.slice (some ⟨g,o,none⟩) l.length cap∧l.length≤cap∧g<w.heap.size∧∀ k,k<l.length→∀ j,j<8→w.cell? ⟨g,o+k*8+j,none⟩=(opA (l.getD k zKU))[j]?)
theorem zMm (lo hi:Int) (l:List Stp) (v:Value) (w:World) (h:Script w v l) (hn:(l.length:Int)≤9223372036854775807)
  (KP:∀ o∈l,lo≤o.kind→o.kind≤hi→∀ z:World,Calls Tryz.prog 16 #[opV o] z fun e w'=>e=.returned (.bool true)∧Below z.heap.size z w') :
  Calls Tryz.prog 9 #[v,.int .i64 lo,.int .i64 hi] w fun e w'=>e=.returned (.int .i64 (-1))∧Below w.heap.size w w':=by
 rcases h with ⟨rfl,ao,cap,rfl⟩ | ⟨hpos,g,off,cap,rfl,hca,hg,hA⟩
 ·go_enter Tryz.func9,Tryz.ntmps9
  go_wp2_with fail
  refine wp_loop_rounds 1 ?_
  rw [rounds_succ]
  go_wp2_with fail
  go_ret
  exact ⟨rfl,Below.refl _ _⟩
 ·have HA:Hid (∀ k,k<l.length→∀ j,j<8→w.cell? ⟨g,off+k*8+j,none⟩=(opA (l.getD k zKU))[j]?):=hA
  have HP:Hid (∀ o∈l,lo≤o.kind→o.kind≤hi→∀ z:World,Calls Tryz.prog 16 #[opV o] z fun e w'=>e=.returned (.bool true)∧Below z.heap.size z w'):=KP
  clear hA KP
  go_enter Tryz.func9,Tryz.ntmps9
  go_wp2_with fail
  go_loopw [7] (fun i wr=>∃ k:Nat,k≤l.length∧i=.int .i64 k∧Below w.heap.size w wr) (fun i _=>l.length-(intOf i).toNat)
  case atStart=>exact ⟨0,Nat.zero_le _,rfl,Below.refl _ _⟩
  case round =>
   obtain ⟨k,hk,rfl,hbr⟩:=hrel
   have hsz:=hbr.size
   by_cases hlt:k<l.length
   ·have key:=fun j hj=>(hbr.cell (p:=⟨g,off+k*8+j,none⟩) hg).trans (HA.out k hlt j hj)
    have a0:wr.cell? ⟨g,off+k*8,none⟩=some (.int .i64 (l.getD k zKU).kind):=key 0 (by omega)
    have a1:wr.cell? ⟨g,off+k*8+1,none⟩=some (.string (l.getD k zKU).p):=key 1 (by omega)
    have a2:wr.cell? ⟨g,off+k*8+2,none⟩=some (.string (l.getD k zKU).t):=key 2 (by omega)
    have a3:wr.cell? ⟨g,off+k*8+3,none⟩=some (.int .i64 (l.getD k zKU).frm):=key 3 (by omega)
    have a4:wr.cell? ⟨g,off+k*8+4,none⟩=some (.int .i64 (l.getD k zKU).policy):=key 4 (by omega)
    have a5:wr.cell? ⟨g,off+k*8+5,none⟩=some (.int .i64 (l.getD k zKU).mask):=key 5 (by omega)
    have a6:wr.cell? ⟨g,off+k*8+6,none⟩=some (.int .i64 (l.getD k zKU).room):=key 6 (by omega)
    have a7:wr.cell? ⟨g,off+k*8+7,none⟩=some (.int .i64 (l.getD k zKU).budget):=key 7 (by omega)
    have hm:l.getD k zKU∈l:=by rw [List.getD_eq_getElem?_getD,List.getElem?_eq_getElem hlt];exact List.getElem_mem hlt
    have hP:=HP.out _ hm
    generalize l.getD k zKU=O at *
    have i0:(0:Int)≤(k:Int):=by omega
    have i1:(k:Int)<(l.length:Int):=by omega
    have lg:g<wr.heap.size:=by omega
    have HBR:Hid (Below w.heap.size w wr):=hbr
    clear key hm hbr
    by_cases h1:lo≤O.kind
    ·by_cases h2:O.kind≤hi
     ·have KO:Hid (∀ z:World,Calls Tryz.prog 16 #[opV O] z fun e w'=>e=.returned (.bool true)∧Below z.heap.size z w'):=hP h1 h2
      unfold opV opA at KO
      have e1:decide (lo≤O.kind)=true:=by simpa using h1
      have e2:decide (O.kind≤hi)=true:=by simpa using h2
      clear hP
      go_wp2_with fail
      refine (KO.out _).mono ?_
      rintro e w1 ⟨rfl,hb1⟩
      have B1:Hid (Below w.heap.size w w1):=(HBR.out.alloc hsz _).trans (hb1.mono (by simp;omega))
      clear hb1 a0 a1 a2 a3 a4 a5 a6 a7
      go_wp2_with fail
      go_roundw
      case rel=>exact ⟨k+1,by omega,by go_num,B1.out⟩
      case measure=>simp [intOf];omega
     ·have e1:decide (lo≤O.kind)=true:=by simpa using h1
      have e2:decide (O.kind≤hi)=false:=by simpa using h2
      clear hP
      go_wp2_with fail
      go_roundw
      case rel=>exact ⟨k+1,by omega,by go_num,HBR.out.alloc hsz _⟩
      case measure=>simp [intOf];omega
    ·have e1:decide (lo≤O.kind)=false:=by simpa using h1
     clear hP
     go_wp2_with fail
     go_roundw
     case rel=>exact ⟨k+1,by omega,by go_num,HBR.out.alloc hsz _⟩
     case measure=>simp [intOf];omega
   ·go_wp2_with fail
    go_ret
    exact ⟨rfl,hbr⟩
open Go.ChangeShapes Go.WideShapes Go.ChangeAt Go.RowKit
theorem Tryz.ownK:ownKnob Tryz.prog.godebug=none:=by kernel_rfl
theorem zKV {H:Type} {enc:TypeId × Value→H} {P:Program} {f:Func} {s:ChangeSpec} {apart fresh handsOn again:Bool} {W W':World} {args:Array Value} {v:Value} {ds gs:List (DataW H)} {before pa pv:List MemPlace}
  (hW:DataW.Whole enc P f.params.toList s.vars apart W args.toList ds gs before)
  (hres:∀ (b:Nat) (sp:Nat→Bool) (hd:Bool),DataW.TrodAll enc P W' b sp hd f.resultTypes.toList (v.resultList f.resultTypes.size) (s.fn H (ds++gs)).results [])
  (hargs:∀ sp:Nat→Bool,(∀ p∈before,sp p.block=true)→DataW.TrodAll enc P W' 0 sp true f.params.toList args.toList (s.fn H (ds++gs)).args pa)
  (hvars:∀ sp:Nat→Bool,(∀ p∈before,sp p.block=true)→DataW.TrodVars enc P W' sp s.vars (s.fn H (ds++gs)).vars pv)
  (hps:before=pa++pv) (hb:Below W.heap.size W W')
  (hok:∀ (j:Nat) (t:TypeId) (r:Value),f.resultTypes[j]?=some t→(v.resultList f.resultTypes.size)[j]?=some r→Value.okWide P W' .any 0 t r) :
  s.post enc P f apart fresh handsOn again W args v W':=by
 have hlt:=hW.lt
 have hold:∀ p∈before,(fun b=>decide (b<W.heap.size)) p.block=true:=fun p hp=>by simpa using hlt p hp
 refine ⟨ds,gs,before,[],pa,pv,hW,hres _ _ _,hargs _ hold,hvars _ hold,World.keptBut_mono (fun p hp=>⟨hp,?_⟩) (hb.frame (·∈before)),fun _=>?_⟩
 ·rw [hps,List.mem_append] at hp
  exact Or.inr hp
 ·obtain ⟨_,_,_,_,_,hz,hn⟩:=hW
  refine ⟨hok,_,_,([]++pa)++pv,⟨[]++pa,pv,trodAll_append (hargs _ (fun _ _=>rfl)) (hres _ _ _),hvars _ (fun _ _=>rfl),rfl,?_,?_⟩,?_⟩
  ·intro b off hp
   have hm:MemPlace.cell b off∈before:=by rw [hps];simpa using hp
   rw [hb.frozen (p:=⟨b,off,none⟩) (hlt _ hm)]
   exact hz b off hm
  ·intro ha
   have:=hn ha
   rw [hps] at this
   simpa using this
  ·intro p hp _
   rw [hps]
   simpa using hp
theorem Tryz.cellsInt:Tryz.prog.cellsOf 3=1:=by kernel_rfl
theorem Tryz.cellsStr:Tryz.prog.cellsOf 9=1:=by kernel_rfl
theorem Tryz.cellsOp:Tryz.prog.cellsOf 26=8:=by kernel_rfl
theorem Tryz.laid:laidOutB Tryz.prog=true:=by kernel_rfl
theorem Tryz.recOps:Tryz.prog.readableRec 22=true:=by kernel_rfl
theorem Tryz.rowOps:22<Tryz.prog.types.size:=of_decide_eq_true (by kernel_rfl)
instance:Inhabited Stp:=⟨zKU⟩
section
variable {H:Type} {enc:TypeId × Value→H} {W:World}
theorem zMn {n:Nat} {cs:List Value} {x:DataW H × List MemPlace} (h:DataW.trod enc Tryz.prog W 0 (fun _=>true) true n 26 cs=some x):∃ o:Stp,cs=(opA o).toList∧o.p.size≤maxLen∧o.t.size≤maxLen:=by
 obtain ⟨xs,k,hk,hxy,hcl,hxl,hf⟩:=DataW.trod_struct Tryz.underlying26 h
 rw [Tryz.cellsOp] at hcl
 match cs,hcl with
 | [v0,v1,v2,v3,v4,v5,v6,v7],_ =>
  match xs,hxl with
  | [y0,y1,y2,y3,y4,y5,y6,y7],_ =>
   have g0:=hf 0 _ rfl
   have g1:=hf 1 _ rfl
   have g2:=hf 2 _ rfl
   have g3:=hf 3 _ rfl
   have g4:=hf 4 _ rfl
   have g5:=hf 5 _ rfl
   have g6:=hf 6 _ rfl
   have g7:=hf 7 _ rfl
   simp [Tryz.cellsInt,Tryz.cellsStr] at g0 g1 g2 g3 g4 g5 g6 g7
   obtain ⟨a0,e0,_,_⟩:=DataW.trod_int Tryz.underlying3 g0
   obtain ⟨a1,e1,_,s1⟩:=DataW.trod_string Tryz.underlying9 g1
   obtain ⟨a2,e2,_,s2⟩:=DataW.trod_string Tryz.underlying9 g2
   obtain ⟨a3,e3,_,_⟩:=DataW.trod_int Tryz.underlying3 g3
   obtain ⟨a4,e4,_,_⟩:=DataW.trod_int Tryz.underlying3 g4
   obtain ⟨a5,e5,_,_⟩:=DataW.trod_int Tryz.underlying3 g5
   obtain ⟨a6,e6,_,_⟩:=DataW.trod_int Tryz.underlying3 g6
   obtain ⟨a7,e7,_,_⟩:=DataW.trod_int Tryz.underlying3 g7
   simp only [List.cons.injEq,and_true] at e0 e1 e2 e3 e4 e5 e6 e7
   subst e0 e1 e2 e3 e4 e5 e6 e7
   exact ⟨⟨a0,a1,a2,a3,a4,a5,a6,a7⟩,rfl,s1,s2⟩
theorem zI8 {a0:Option Addr} {len cap fuel:Nat} {x:DataW H × List MemPlace} (h:DataW.trod enc Tryz.prog W 0 (fun _=>true) true fuel 22 [.slice a0 len cap]=some x) :
  ∃ l:List Stp,Script W (.slice a0 len cap) l∧l.length≤maxLen∧∀ o∈l,o.p.size≤maxLen∧o.t.size≤maxLen:=by
 rcases Deep.open_slice Tryz.underlying22 h with ⟨hcs,_⟩ | ⟨a,len',cap',m,n,D,Pl,hcs,_,hl,hmx,hmm,_,hx⟩
 ·simp at hcs
  obtain ⟨rfl,rfl,rfl⟩:=hcs
  exact ⟨[],Or.inl ⟨rfl,none,0,rfl⟩,by simp,fun o ho=>by simp at ho⟩
 ·simp at hcs
  obtain ⟨rfl,rfl,rfl⟩:=hcs
  simp only [if_true] at hmm
  subst hmm
  rw [Tryz.cellsOp] at hx
  obtain ⟨S,hS⟩:=Deep.choose_lt (α:=Stp) (n:=len) (p:=fun i o=>W.cells? 0 (a.add (i*8)) 8=some (opA o).toList∧o.p.size≤maxLen∧o.t.size≤maxLen) (fun i hi=>by
   obtain ⟨cs',h1,h2⟩:=hx i (by omega)
   obtain ⟨o,rfl,h3,h4⟩:=zMn h2
   exact ⟨o,h1,h3,h4⟩)
  refine ⟨(List.range len).map S,?_,by simp;omega,fun o ho=>?_⟩
  ·by_cases h0:len=0
   ·subst h0
    exact Or.inl ⟨rfl,some a,m,rfl⟩
   ·right
    obtain ⟨b,off,spot⟩:=a
    have c:∀ i,i<len→∀ j,j<8→W.cell? ((⟨b,off,spot⟩:Addr).add (i*8+j))=(opA (S i)).toList[j]?:=fun i hi j hj=>by
     obtain ⟨_,hlen,hcell⟩:=World.cells?_some (hS i hi).1
     have:=hcell j hj
     rw [Deep.add_add] at this
     exact this
    have c00:=c 0 (by omega) 0 (by omega)
    have hspot:spot=none:=by
     have:=World.cell?_spot (c00.trans rfl)
     simpa [Addr.add] using this
    subst hspot
    refine ⟨by simp;omega,b,off,m,by simp,by simp;omega,?_,fun k hk j hj=>?_⟩
    ·have hc0:W.cell? ⟨b,off,none⟩=some (.int .i64 (S 0).kind):=by simpa [Addr.add,opA] using c00
     exact Decidable.byContradiction fun hge=>by
      unfold World.cell? at hc0
      rw [Array.getElem?_eq_none (show W.heap.size≤b by omega)] at hc0
      simp at hc0
    ·simp only [List.length_map,List.length_range] at hk
     have h1:=c k hk j hj
     rw [add_plain] at h1
     rw [show off+k*8+j=off+(k*8+j) by omega,h1]
     rw [List.getD_eq_getElem?_getD,List.getElem?_map,List.getElem?_range hk]
     simp
  ·obtain ⟨i,hi,rfl⟩:=List.mem_map.1 ho
   have:=hS i (by simpa using hi)
   exact ⟨this.2.1,this.2.2⟩
end
end Go.Proofs.YtebpgfodelggoaaGreat
namespace Mt
def kQ (p:ByteArray):List Ins × Int:=if (jS p).1≠0 then ([],(jS p).1) else (coded (tokens p).1,0)
def yU (p:Int) (i:Ins):Bool:=decide (i.op=5∧i.x+1<p)
def zAE (c:List Ins) (p k:Nat):Nat:=((c.drop p).take (k-p)).countP (yU p)
def kU (c:List Ins) (p:Nat):Nat:=zAE c p c.length
theorem zHQ (c:List Ins) (p k:Nat) (hp:p≤k) (hk:k<c.length):zAE c p (k+1)=zAE c p k+if yU p (c.getD k jA) then 1 else 0:=by
 unfold zAE
 rw [show k+1-p=(k-p)+1 by omega,List.take_succ_eq_append_getElem (by rw [List.length_drop];omega),List.countP_append]
 have e:(c.drop p)[k-p]'(by rw [List.length_drop];omega)=c.getD k jA:=by
  rw [List.getElem_drop,List.getD_eq_getElem?_getD,List.getElem?_eq_getElem hk]
  simp only [Option.getD_some]
  congr 1;omega
 rw [e]
 simp [List.countP_cons]
theorem zGK (c:List Ins) (p:Nat):zAE c p p=0:=by unfold zAE;simp
theorem zGc (c:List Ins) (p k:Nat):zAE c p k≤k:=by
 unfold zAE
 refine Nat.le_trans List.countP_le_length ?_
 rw [List.length_take];omega
theorem zDQ (c:List Ins) (p:Nat):kU c p≤c.length:=zGc _ _ _
def zOi (c:List Ins) (k:Nat):Nat:=((List.range k).map fun i=>1+kU c i).sum
def zP6 (c:List Ins):Nat:=zOi c c.length
def zMo (p:ByteArray):Int × Int:=if (kQ p).2≠0 then (0,(kQ p).2) else ((zP6 (kQ p).1:Int),0)
theorem zMp (p:ByteArray):fit 100000000 (coded (tokens p).1):=by
 have g:=zI2 (tokens p).1 (zAf p).1 283 0 0 (tokens p).1.length 0 (by omega) (by omega)
 have g1:zCb (2000*((283:Nat)+1:Int)) (60000*((283:Nat)+1:Int)) [(⟨13,0,0,[]⟩:Ins)]:=vT ⟨by simp only;omega,by simp only;omega,by simp only;omega,by simp only;omega⟩ (by omega)
 exact yH (jZ g g1) (by omega) (by omega)
theorem zGd (p:ByteArray) (h:(jS p).1=0):(coded (tokens p).1).length≤300:=by
 unfold jS at h
 split at h
 ·rename_i g;exact absurd h g
 ·split at h
  ·simp at h
  ·omega
theorem zHR (p:ByteArray):fit 100000000 (kQ p).1∧(kQ p).1.length≤300:=by
 unfold kQ
 split
 ·exact ⟨xZ (by omega),by simp⟩
 ·rename_i h
  exact ⟨zMp p,zGd p (by simpa using h)⟩
end Mt
namespace Go.Proofs.YtebpgfodelggoaaGreat
open Go.RowKit
theorem zI9 (p:ByteArray) (w:World) (hm:p.size≤maxLen) :
  Calls Tryz.prog 19 #[.string p] w fun e w'=>∃ v,e=.returned (.tuple #[v,.int .i64 (Mt.kQ p).2])∧zB w' 0 v (Mt.kQ p).1∧Below w.heap.size w w':=by
 have KC:Hid (∀ z:World,Calls Tryz.prog 28 #[.string p] z fun e w'=>e=.returned (.tuple #[.int .i64 (Mt.jS p).1,.int .i64 (Mt.jS p).2])∧Below z.heap.size z w'):=fun z=>zHP p z hm
 have KT:Hid (∀ z:World,Calls Tryz.prog 23 #[.string p] z fun e w'=>∃ v,e=.returned (.tuple #[v,.int .i64 (Mt.tokens p).2.1,.int .i64 (Mt.tokens p).2.2])∧toks w' v (Mt.tokens p).1∧Below z.heap.size z w'):=fun z=>zGb p z hm
 have ts:=Mt.zAf p
 have KD:Hid (∀ (v:Value) (z:World),toks z v (Mt.tokens p).1→Calls Tryz.prog 43 #[v] z fun e w'=>∃ v',e=.returned v'∧zB w' 0 v' (Mt.coded (Mt.tokens p).1)∧Below z.heap.size z w'):=fun v z hz=>zHL _ v z ts.2 ts.1 hz
 unfold Mt.kQ
 generalize Mt.coded (Mt.tokens p).1=C at *
 generalize Mt.tokens p=T at *
 generalize Mt.jS p=K at *
 clear ts
 cases he:(K.1 != 0)
 ·rw [if_neg (by simpa using he)]
  go_enter Tryz.func19,Tryz.ntmps19
  go_wp2_with fail
  refine (KC.out _).mono ?_
  rintro e w1 ⟨rfl,hb1⟩
  have hs1:=hb1.size
  go_wp2_with fail
  refine (KT.out _).mono ?_
  rintro e w2 ⟨v2,rfl,q2,hb2⟩
  have hB2:Below w.heap.size w w2:=hb1.trans (hb2.mono hs1)
  have hs2:=hB2.size
  have Q2:Hid (toks w2 v2 T.1):=q2
  clear q2 hb2 hb1
  go_wp2_with fail
  refine (KD.out v2 _ Q2.out).mono ?_
  rintro e w3 ⟨v3,rfl,q3,hb3⟩
  have hB3:Below w.heap.size w w3:=hB2.trans (hb3.mono hs2)
  clear hb3 hB2
  go_wp2_with fail
  go_ret2
  exact ⟨_,rfl,q3,hB3⟩
 ·rw [if_pos (by simpa using he)]
  go_enter Tryz.func19,Tryz.ntmps19
  go_wp2_with fail
  refine (KC.out _).mono ?_
  rintro e w1 ⟨rfl,hb1⟩
  go_wp2_with fail
  go_ret2
  exact ⟨_,rfl,zB.nil _ _,hb1⟩
theorem zHS (p:Int) (i:Mt.Ins):((i.op==5)=false∧Mt.yU p i=false)∨((i.op==5)=true∧decide (i.x+1<p)=false∧Mt.yU p i=false)∨((i.op==5)=true∧decide (i.x+1<p)=true∧Mt.yU p i=true):=by
 unfold Mt.yU
 simp only [beq_iff_eq,beq_eq_false_iff_ne,decide_eq_true_eq,decide_eq_false_iff_not]
 omega
theorem zMq (c:List Mt.Ins) (p:Nat) (base:Nat) (v:Value) (w:World) (h:zB w base v c) (hf:Mt.fit 100000000 c) (hp:p≤c.length) :
  Calls Tryz.prog 46 #[v,.int .i64 p] w fun e w'=>e=.returned (.int .i64 (Mt.kU c p))∧w=w':=by
 have hl:=hf.1
 rcases zAq h with ⟨rfl,ao,cap,rfl⟩ | ⟨hpos,g,cap,rfl,hcap,hg,hgb,hc⟩
 ·have hp0:p=0:=by simpa using hp
  subst hp0
  clear h hf
  go_enter Tryz.func46,Tryz.ntmps46
  go_wp2_with fail
  refine wp_loop_rounds 1 ?_
  rw [rounds_succ]
  go_wp2_with fail
  go_ret
  exact ⟨rfl,rfl⟩
 ·have HC:Hid (∀ k j,k<c.length→j<4→w.cell? ⟨g,k*4+j,none⟩=(zT (c.getD k Mt.jA))[j]?):=hc
  have HF:Hid (∀ i∈c,Mt.zIV 100000000 i):=hf.2
  clear hc h hf
  go_enter Tryz.func46,Tryz.ntmps46
  go_wp2_with fail
  go_loop [5,6] (fun n i=>∃ k:Nat,p≤k∧k≤c.length∧i=.int .i64 k∧n=.int .i64 (Mt.zAE c p k)) (fun _ i=>c.length-(intOf i).toNat)
  case atStart=>exact ⟨p,Nat.le_refl _,hp,rfl,by rw [Mt.zGK];rfl⟩
  case round =>
   obtain ⟨k,hpk,hk,rfl,rfl⟩:=hrel
   have hle:=Mt.zGc c p k
   by_cases hlt:k<c.length
   ·have hc0:w.cell? ⟨g,k*4,none⟩=some (.int .i64 (c.getD k Mt.jA).op):=HC.out k 0 hlt (by omega)
    have hc1:w.cell? ⟨g,k*4+1,none⟩=some (.int .i64 (c.getD k Mt.jA).x):=HC.out k 1 hlt (by omega)
    have hfi:Mt.zIV 100000000 (c.getD k Mt.jA):=HF.out _ (by rw [List.getD_eq_getElem?_getD,List.getElem?_eq_getElem hlt];exact List.getElem_mem hlt)
    have HN:Hid (Mt.zAE c p (k+1)=Mt.zAE c p k+if Mt.yU p (c.getD k Mt.jA) then 1 else 0):=Mt.zHQ c p k hpk hlt
    generalize c.getD k Mt.jA=I at *
    obtain ⟨f1,f2,f3,f4⟩:=hfi
    rcases zHS p I with ⟨e1,e⟩ | ⟨e1,e2,e⟩ | ⟨e1,e2,e⟩
    all_goals
     have HE:Hid (Mt.yU p I=_):=e
     clear e
     go_wp2_with fail
     go_round
     case rel=>exact ⟨k+1,by omega,by omega,by go_num,by first | (rw [HN.out,HE.out];simp;done) | (rw [HN.out,HE.out];go_num)⟩
     case measure=>simp [intOf];omega
   ·have hk2:k=c.length:=by omega
    subst hk2
    go_wp2_with fail
    go_ret
    exact ⟨rfl,rfl⟩
end Go.Proofs.YtebpgfodelggoaaGreat
namespace Mt
def zBl (p:Int) (i:Ins):Bool:=decide (i.op=11∧p<i.y)
def zEu (c:List Ins) (p:Nat):Bool:=(c.take p).any (zBl p)
def zAg (x:Ins) (q p:Int):Bool :=
 if x.op=2 then (x.x==p||x.y==p)
 else if x.op=3∨x.op=5 then x.x==p
 else if x.op=11 then x.y==p
 else if x.op=12∨x.op=13 then false
 else q+1==p
def leads (c:List Ins) (q:Nat) (p:Int):Bool:=zAg (c.getD q jA) q p
def yP (p:Int) (i:Ins):Bool:=decide (i.op=5∧i.x=p)
def leadsTo (c:List Ins) (p:Int) (k:Nat):Nat:=(List.range k).countP fun q=>leads c q p
theorem zEg (c:List Ins) (p:Int) (k:Nat):leadsTo c p (k+1)=leadsTo c p k+if leads c k p then 1 else 0:=by
 unfold leadsTo;rw [List.range_succ,List.countP_append];simp [List.countP_cons]
theorem zGe (c:List Ins) (p:Int) (k:Nat):leadsTo c p k≤k:=by
 unfold leadsTo;refine Nat.le_trans List.countP_le_length ?_;simp
def zCd (mask:Int) (k:Nat):Bool:=((mask/(2:Int) ^ k).tmod 2==1)
def picked (c:List Ins) (p:Nat) (policy mask:Int):Bool :=
 if policy=2∧c.any (yP p)=true then true
 else if policy=1 then true
 else if policy=3 then decide (1<leadsTo c p c.length)
 else if policy=4 then zCd mask (p % 32)
 else false
def zBa (c:List Ins):Bool:=c.any fun i=>decide (i.op=8)
def zBm (c:List Ins) (policy mask:Int) (p:Nat):Bool:=if zEu c p then false else picked c p policy mask
def chosen (c:List Ins) (policy mask:Int):List Bool:=if zBa c then List.replicate c.length false else (List.range c.length).map (zBm c policy mask)
def kF (policy mask:Int):Bool:=decide (0≤policy∧policy≤4∧0≤mask∧mask≤4294967295)
def kM (b:List Bool) (k:Nat):List Int:=((List.range k).filter fun i=>b.getD i false).map fun i:Nat=>(i:Int)
theorem vI (b:List Bool) (k:Nat):kM b (k+1)=kM b k++if b.getD k false then [(k:Int)] else []:=by
 unfold kM
 rw [List.range_succ,List.filter_append,List.map_append]
 congr 1
 rw [List.filter_cons]
 cases h:b.getD k false <;> simp
theorem zGf (b:List Bool) (k:Nat):(kM b k).length≤k:=by
 unfold kM;rw [List.length_map];exact Nat.le_trans (List.length_filter_le _ _) (by simp)
def zMr (p:ByteArray) (policy mask:Int):List Int × Int :=
 if (kQ p).2≠0 then ([],(kQ p).2)
 else if kF policy mask=false then ([],13)
 else (kM (chosen (kQ p).1 policy mask) (kQ p).1.length,0)
theorem zCF (c:List Ins) (f:Ins→Bool) (k:Nat) (h:k<c.length):(c.take (k+1)).any f=((c.take k).any f||f (c.getD k jA)):=by
 rw [List.take_succ_eq_append_getElem h,List.any_append,List.getD_eq_getElem?_getD,List.getElem?_eq_getElem h];simp
theorem zBQ (c:List Ins) (f:Ins→Bool) (k n:Nat) (h:k<n) (hn:n≤c.length) (hf:f (c.getD k jA)=true):(c.take n).any f=true:=by
 rw [List.any_eq_true]
 refine ⟨c.getD k jA,?_,hf⟩
 rw [List.getD_eq_getElem?_getD,List.getElem?_eq_getElem (by omega)]
 simp only [Option.getD_some]
 rw [List.mem_take_iff_getElem]
 exact ⟨k,by omega,rfl⟩
theorem zKW (c:List Ins) (policy mask:Int):(chosen c policy mask).length=c.length:=by
 unfold chosen;split <;> simp
end Mt
