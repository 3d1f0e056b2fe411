import Derived.Test.YtebpgfodelggoaaDoorC24
import Derived.Test.YtebpgfodelggoaaDoorC25
import Derived.Test.YtebpgfodelggoaaDoorC26
import Derived.Test.YtebpgfodelggoaaDoorC41
import Derived.Test.YtebpgfodelggoaaDoorC52
import Derived.Test.YtebpgfodelggoaaDoorC08
import Derived.Test.YtebpgfodelggoaaDoorTie
import Derived.Test.YtebpgfodelggoaaDoorCards
import Derived.LaidMore
import Derived.Stop.Joined
import Derived.SevenTiedAt
set_option linter.unusedVariables false
set_option linter.unusedSimpArgs false
set_option maxRecDepth 100000
set_option maxHeartbeats 8000000
namespace Go.Proofs.YtebpgfodelggoaaDoor
open Go.RowKit
theorem blk_keep1 {z z':World} {b:Nat} {A:Array Value} {t:TypeId} (h:z.heap[b]?=some (.cells A t (0,0))) (hb:Below z.heap.size z z'):z'.heap[b]?=some (.cells A t (0,0)):=(hb.block b (Array.getElem?_eq_some_iff.1 h).1).trans h
theorem blk_lt1 {z:World} {b:Nat} {A:Array Value} {t:TypeId} (h:z.heap[b]?=some (.cells A t (0,0))):b<z.heap.size:=(Array.getElem?_eq_some_iff.1 h).1
theorem square_cat (k:Nat):((⟨#[40,46,123]⟩:ByteArray)++⟨(Mt.digL k).toArray⟩)++⟨#[125,41,92,49]⟩=Mt.bp (Mt.squareL k):=by
 apply ByteArray.ext
 simp [Mt.bp,Mt.squareL,ByteArray.data_append]
theorem square_starts (t:ByteArray) (k i:Nat) (h:i+2*k≤t.size):startsB t (i+k) (t.extract i (i+k))=Mt.squareAt t k i:=by
 have e:(t.extract i (i+k)).size=k:=by rw [ByteArray.size_extract];omega
 unfold startsB Mt.squareAt
 rw [e]
 have d1:decide (i+k+k≤t.size)=true:=by rw [decide_eq_true_eq];omega
 have d2:decide (i+2*k≤t.size)=true:=by rw [decide_eq_true_eq];omega
 rw [d1,d2,Bool.true_and,Bool.true_and]
 exact Bool.beq_comm
structure SquareOk (t:ByteArray) (k:Nat) (G:Mt.Fnd × Int):Prop where
 err:G.2=0
 len:G.1.at'.length=20
 hit:∀ i:Nat,i+2*k≤t.size→(∀ q,q<i→Mt.squareAt t k q=false)→Mt.squareAt t k i=true→Shown G.1 i ((i:Int)+2*(k:Int))∧Without G.1 1∧G.1.at'.getD 2 0=(i:Int)∧G.1.at'.getD 3 0=(i:Int)+(k:Int)
 miss:∀ i:Nat,t.size<i+2*k→(∀ q,q<i→Mt.squareAt t k q=false)→Shown G.1 (-1) (-1)∧Without G.1 0
theorem least_true (f:Nat→Bool):∀ n:Nat,(∀ q,q<n→f q=false)∨∃ a,a<n∧(∀ q,q<a→f q=false)∧f a=true
 | 0=>.inl fun q h=>by omega
 | n+1=>by
  rcases least_true f n with h | ⟨a,h1,h2,h3⟩
  ·cases hn:f n
   ·refine .inl fun q hq=>?_
    by_cases e:q<n
    ·exact h q e
    ·have:q=n:=by omega
     subst this;exact hn
   ·exact .inr ⟨n,by omega,h,hn⟩
  ·exact .inr ⟨a,by omega,h2,h3⟩
theorem square_ok (k:Nat) (t:ByteArray) (P M R:Int) (hk:k≤20) (hT:t.size≤60) (ho:Mt.Opt P M R 10000):SquareOk t k (Mt.findR (Mt.bp (Mt.squareL k)) t 0 P M R 10000):=by
 have hit:=fun a ha hq hh=>Mt.square_hit (P:=P) (M:=M) (Q:=R) hk hT ho a ha hq hh
 have miss:=Mt.square_miss (P:=P) (M:=M) (Q:=R) hk hT ho
 generalize Mt.findR (Mt.bp (Mt.squareL k)) t 0 P M R 10000=G at *
 have any:G.2=0∧G.1.at'.length=20:=by
  rcases least_true (fun i=>Mt.squareAt t k i) (t.size+1) with h | ⟨a,h1,h2,h3⟩
  ·obtain ⟨x,y,_⟩:=miss fun q hq=>h q (by omega)
   exact ⟨x,y.len⟩
  ·obtain ⟨x,y,_⟩:=hit a (by omega) h2 h3
   exact ⟨x,y.len⟩
 have hl:=any.2
 refine ⟨any.1,any.2,fun i hi hq hh=>?_,fun i hi hq=>?_⟩
 ·obtain ⟨x,y,e1,e2⟩:=hit i (by omega) hq hh
  refine ⟨⟨hl,y.steps1,y.steps2,by rw [e1];simp,?_,?_⟩,⟨hl,fun j j1 j2 j3=>?_⟩,?_,?_⟩
  ·rw [e2,if_neg (by omega)];rfl
  ·rw [e2,if_neg (by omega)];show ((i+2*k:Nat):Int)=_;push_cast;rfl
  ·rw [e2]
   have hj:j=1∨j=2∨j=3∨j=4∨j=5∨j=6∨j=7∨j=8∨j=9:=by omega
   rcases hj with rfl | rfl | rfl | rfl | rfl | rfl | rfl | rfl | rfl <;> first | omega | exact ⟨rfl,rfl⟩
  ·rw [e2];rfl
  ·rw [e2];show ((i+k:Nat):Int)=_;push_cast;rfl
 ·obtain ⟨x,y,e1,e2⟩:=miss fun q h=>by
   by_cases e:q<i
   ·exact hq q e
   ·unfold Mt.squareAt
    have:decide (q+2*k≤t.size)=false:=by rw [decide_eq_false_iff_not];omega
    rw [this];rfl
  refine ⟨⟨hl,y.steps1,y.steps2,by rw [e1];rfl,?_,?_⟩,⟨hl,fun j j1 j2 j3=>?_⟩⟩
  ·rw [e2];rfl
  ·rw [e2];rfl
  ·exact ⟨y.all e1 _ (by omega),y.all e1 _ (by omega)⟩
theorem Squares_any (k0:Int) (t:ByteArray) (P M R:Int) (w:World) (hk0:I64 k0) (ht:t.size≤maxLen) (hP:I64 P) (hM:I64 M) (hR:I64 R) :
  Calls Tryd.prog 3 #[.int .i64 k0,.string t,.int .i64 P,.int .i64 M,.int .i64 R] w fun e w'=>e=.returned (.bool true)∧Below w.heap.size w w':=by
 have st:=someB_size t 60
 have K0:Hid (∀ z:World,Calls Tryd.prog 4 #[.int .i64 k0,.int .i64 21] z fun e w'=>e=.returned (.int .i64 (pickI k0 21))∧z=w'):=fun z=>kpick_any k0 21 z hk0 (by omega) (by omega)
 have hkk:=pickI_in k0 21 (by omega)
 have K3:Hid (∀ z:World,Calls Tryd.prog 5 #[.string t,.int .i64 60] z fun e w'=>e=.returned (.string (someB t 60))∧z=w'):=fun z=>some_any t 60 z ht (by omega)
 generalize someB t 60=T at *
 generalize pickI k0 21=kk at *
 obtain ⟨k,rfl⟩:=Int.eq_ofNat_of_zero_le hkk.1
 have hk20:k≤20:=by omega
 have K4:Hid (∀ z:World,Calls Tryd.prog 8 #[.int .i64 P,.int .i64 M,.int .i64 R] z fun e w'=>e=.returned (.agg #[.int .i64 (pickI P 5),.int .i64 (pickI M 4294967296),.int .i64 (pickI R 5001),.int .i64 10000])∧Below z.heap.size z w'):=fun z=>kset_any P M R z hP hM hR
 have hopt:=pick_opt P M R
 generalize pickI P 5=P' at *
 generalize pickI M 4294967296=M' at *
 generalize pickI R 5001=R' at *
 have KI:Hid (∀ z:World,Calls Tryd.prog 7 #[.int .i64 (k:Int)] z fun e w'=>e=.returned (.string ⟨(Mt.digL k).toArray⟩)∧w'=z):=fun z=>itoa_any k hk20 z
 have ho:=square_ok k T P' M' R' hk20 st.1 hopt
 have dl:=Mt.digL_len k
 have HP:=square_cat k
 have hptm:(Mt.bp (Mt.squareL k)).size≤maxLen:=by rw [Mt.bp_size,Mt.squareL_len];unfold maxLen;omega
 have hTm:T.size≤maxLen:=by unfold maxLen;omega
 generalize Mt.bp (Mt.squareL k)=pt at *
 have sD:(⟨(Mt.digL k).toArray⟩:ByteArray).size≤2:=by show (Mt.bp _).size≤_;rw [Mt.bp_size];omega
 generalize (⟨(Mt.digL k).toArray⟩:ByteArray)=D at *
 have K5:Hid (∀ z:World,Calls Tryd.prog 6 #[.string (((⟨#[40,46,123]⟩:ByteArray)++D)++⟨#[125,41,92,49]⟩),.string T,.int .i64 0,.agg #[.int .i64 P',.int .i64 M',.int .i64 R',.int .i64 10000]] z fun e w'=>e=.returned (.tuple #[.agg (fpA (Mt.findR pt T 0 P' M' R' 10000).1),.int .i64 (Mt.findR pt T 0 P' M' R' 10000).2])∧Below z.heap.size z w'):=fun z=>by rw [HP];exact Find_any pt T 0 P' M' R' 10000 z hptm hTm
 generalize Mt.findR pt T 0 P' M' R' 10000=G at *
 have HO:Hid (SquareOk T k G):=ho
 have z0:=fpA_size G.1 HO.out.len
 have a0:=fpA_all G.1
 have hT60:=st.1
 clear hk0 ht hP hM hR st hopt ho HP hptm hTm dl hkk
 go_enter Tryd.func3,Tryd.ntmps3
 go_wp2_with fail
 refine (K0.out _).mono ?_
 rintro e w' ⟨rfl,rfl⟩
 go_wp2_with fail
 refine (K3.out _).mono ?_
 rintro e w' ⟨rfl,rfl⟩
 go_wp2_with fail
 refine (KI.out _).mono ?_
 rintro e w' ⟨rfl,rfl⟩
 go_wp2_with fail
 refine (K4.out _).mono ?_
 rintro e w6 ⟨rfl,hb6⟩
 have B4:Hid (Below w'.heap.size w' w6):=hb6
 clear hb6
 go_wp2_with fail
 refine (K5.out _).mono ?_
 rintro e w7 ⟨rfl,hb7⟩
 have B5:Hid (Below w'.heap.size w' w7):=B4.out.trans (hb7.mono B4.out.size)
 clear hb7 B4
 go_upto_region 4 with (refine store_blk 26 22 Tryd.sizeFd (by rfl) (.tmp 11) (.tmp 34) (by rfl) w7.heap.size (fpA G.1) (by rfl) (by rfl) (by exact heap_b1 _ _) (by rfl) z0 a0 ?_;intro w8 s1 s2 s3 s4)
 have HF6:Hid (w8.heap[w7.heap.size]?=some (.cells (fpA G.1) 26 (0,0))):=s1
 have B6:Hid (Below w'.heap.size w' w8):=B5.out.trans ((((Below.refl _ _).alloc (Nat.le_refl _) _).trans (s4 _ (Nat.le_refl _))).mono B5.out.size)
 have hwm:w'.heap.size≤w7.heap.size:=B5.out.size
 have HS:Hid (∀ (i j:Int) (z:World),Shown G.1 i j→Calls Tryd.prog 10 #[.agg (fpA G.1),.int .i64 G.2,.int .i64 i,.int .i64 j] z fun e w'=>e=.returned (.bool true)∧Below z.heap.size z w'):=fun i j z h=>by rw [HO.out.err];exact shown_true G.1 i j h z
 have HW:Hid (∀ (k:Nat) (z:World),Without G.1 k→Calls Tryd.prog 11 #[.agg (fpA G.1),.int .i64 (k:Int)] z fun e w'=>e=.returned (.bool true)∧Below z.heap.size z w'):=fun k z h=>without_true G.1 k h z
 clear s1 s2 s3 s4 B5 a0 K4 K5 KI K3 K0
 generalize hm:w7.heap.size=m at *
 clear hm
 go_wp2_with fail
 go_loopw [13] (fun i wr=>∃ j:Nat,j≤T.size+1∧i=.int .i64 j∧wr=w8∧Hid (∀ q,q<j→Mt.squareAt T k q=false)) (fun i _=>T.size+1-(intOf i).toNat)
 case atStart=>exact ⟨0,by omega,rfl,rfl,fun q h=>by omega⟩
 case round =>
  obtain ⟨j,hj,rfl,rfl,HQ⟩:=hrel
  by_cases hle:j+2*k≤T.size
  ·have d1:decide ((j:Int)+2*(k:Int)≤(T.size:Int))=true:=by rw [decide_eq_true_eq];omega
   have KS:Hid (∀ z:World,Calls Tryd.prog 9 #[.string T,.int .i64 ((j:Int)+(k:Int)),.string (T.extract j (j+k))] z fun e w'=>e=.returned (.bool (Mt.squareAt T k j))∧w'=z):=fun z=>by
    have e:(T.extract j (j+k)).size=k:=by rw [ByteArray.size_extract];omega
    have:=starts_any T (T.extract j (j+k)) (j+k) z hT60 (by omega) (by omega)
    rw [square_starts T k j hle] at this
    rw [show (j:Int)+(k:Int)=((j+k:Nat):Int) by push_cast;rfl]
    exact this
   have HH:=HO.out.hit j hle HQ.out
   have HX:Hid (∀ q,q<j→Mt.squareAt T k q=false):=HQ.out
   have HY:Hid (Mt.squareAt T k j=false→∀ q,q<j+1→Mt.squareAt T k q=false):=fun h q hq=>by
    by_cases e:q<j
    ·exact HX.out q e
    ·have:q=j:=by omega
     subst this;exact h
   clear HQ HX
   generalize Mt.squareAt T k j=f at *
   cases f
   ·have HY2:Hid _:=HY.out rfl
    clear HY HH
    go_wp2_with fail
    refine (KS.out _).mono ?_
    rintro e w' ⟨rfl,rfl⟩
    go_wp2_with fail
    go_roundw
    case rel=>exact ⟨j+1,by omega,by go_num,trivial,HY2⟩
    case measure=>simp [intOf];omega
   ·obtain ⟨g1,g2,g3,g4⟩:=HH rfl
    have G1:Hid (Shown G.1 (j:Int) ((j:Int)+2*(k:Int))):=g1
    have G2:Hid (Without G.1 1):=g2
    have G3:Hid (G.1.at'.getD 2 0=(j:Int)):=g3
    have G4:Hid (G.1.at'.getD 3 0=(j:Int)+(k:Int)):=g4
    clear g1 g2 g3 g4 HH HY
    go_wp2_with fail
    refine (KS.out _).mono ?_
    rintro e w' ⟨rfl,rfl⟩
    go_wp2_with (refine load_blk 26 22 Tryd.underlying26 rfl Tryd.sizeFd (by rfl) (.tmp 11) (by rfl) m (by rfl) HF6.out z0 ?_)
    refine (HS.out _ _ _ G1.out).mono ?_
    rintro e w9 ⟨rfl,hb9⟩
    have HF7:Hid _:=blk_keep1 HF6.out hb9
    have B7:Hid _:=B6.out.trans (hb9.mono (Nat.le_trans hwm (Nat.le_of_lt (blk_lt1 HF6.out))))
    clear hb9
    go_wp2_with (refine load_blk 26 22 Tryd.underlying26 rfl Tryd.sizeFd (by rfl) (.tmp 11) (by rfl) m (by rfl) HF7.out z0 ?_)
    refine (HW.out 1 _ G2.out).mono ?_
    rintro e w10 ⟨rfl,hb10⟩
    have F11:=blk_keep1 HF7.out hb10
    have B8:Hid _:=B7.out.trans (hb10.mono (Nat.le_trans hwm (Nat.le_of_lt (blk_lt1 HF7.out))))
    have c2:w10.cell? ⟨m,3,none⟩=some (.int .i64 (j:Int)):=((cell_block F11).1 3).trans ((fpA_get G.1 HO.out.len 2 (by omega)).trans (congrArg (fun v=>some (Value.int .i64 v)) G3.out))
    have c3:w10.cell? ⟨m,4,none⟩=some (.int .i64 ((j:Int)+(k:Int))):=((cell_block F11).1 4).trans ((fpA_get G.1 HO.out.len 3 (by omega)).trans (congrArg (fun v=>some (Value.int .i64 v)) G4.out))
    have e1:((j:Int)==(j:Int))=true:=by simp
    have e2:((j:Int)+(k:Int)==(j:Int)+(k:Int))=true:=by simp
    clear F11 hb10
    go_wp2_with fail
    go_ret
    exact ⟨rfl,B8.out⟩
  ·have d1:decide ((j:Int)+2*(k:Int)≤(T.size:Int))=false:=by rw [decide_eq_false_iff_not];omega
   obtain ⟨g1,g2⟩:=HO.out.miss j (by omega) HQ.out
   have G1:Hid (Shown G.1 (-1) (-1)):=g1
   have G2:Hid (Without G.1 0):=g2
   clear HQ g1 g2
   go_wp2_with (refine load_blk 26 22 Tryd.underlying26 rfl Tryd.sizeFd (by rfl) (.tmp 11) (by rfl) m (by rfl) HF6.out z0 ?_)
   refine (HS.out _ _ _ G1.out).mono ?_
   rintro e w9 ⟨rfl,hb9⟩
   have HF7:Hid _:=blk_keep1 HF6.out hb9
   have B7:Hid _:=B6.out.trans (hb9.mono (Nat.le_trans hwm (Nat.le_of_lt (blk_lt1 HF6.out))))
   clear hb9
   go_wp2_with (refine load_blk 26 22 Tryd.underlying26 rfl Tryd.sizeFd (by rfl) (.tmp 11) (by rfl) m (by rfl) HF7.out z0 ?_)
   refine (HW.out 0 _ G2.out).mono ?_
   rintro e w10 ⟨rfl,hb10⟩
   have B8:Hid _:=B7.out.trans (hb10.mono (Nat.le_trans hwm (Nat.le_of_lt (blk_lt1 HF7.out))))
   clear hb10
   go_wp2_with fail
   go_ret
   exact ⟨rfl,B8.out⟩
open Go.ChangeShapes Go.WideShapes Go.ChangeAt Go.WideMaps Go.WideElems Go.RowKit Go.ChangeMaps
theorem trodAll_squares {H:Type} {enc:TypeId × Value→H} {P:Program} {w:World} {base:Nat} {spare:Nat→Bool} {held:Bool} {t0 t1 t2 t3 t4:TypeId} {args:Array Value} {ds:List (DataW H)} {ps:List MemPlace} (h:DataW.TrodAll enc P w base spare held [t0,t1,t2,t3,t4] args.toList ds ps) :
  ∃ v0 v1 v2 v3 v4 d0 d1 d2 d3 d4 p0 p1 p2 p3 p4,args=#[v0,v1,v2,v3,v4]∧ds=[d0,d1,d2,d3,d4]∧ps=p0++(p1++(p2++(p3++p4)))∧DataW.Trod enc P w base spare held t0 v0 d0 p0∧DataW.Trod enc P w base spare held t1 v1 d1 p1∧DataW.Trod enc P w base spare held t2 v2 d2 p2∧DataW.Trod enc P w base spare held t3 v3 d3 p3∧DataW.Trod enc P w base spare held t4 v4 d4 p4:=by
 obtain ⟨v0,l0,d0,e0,p0,q0,ha,rfl,rfl,h0,h⟩:=trodAll_cons h
 obtain ⟨v1,l1,d1,e1,p1,q1,rfl,rfl,rfl,h1,h⟩:=trodAll_cons h
 obtain ⟨v2,l2,d2,e2,p2,q2,rfl,rfl,rfl,h2,h⟩:=trodAll_cons h
 obtain ⟨v3,l3,d3,e3,p3,q3,rfl,rfl,rfl,h3,h⟩:=trodAll_cons h
 obtain ⟨v4,l4,d4,e4,p4,q4,rfl,rfl,rfl,h4,h⟩:=trodAll_cons h
 obtain ⟨rfl,rfl,rfl⟩:=trodAll_nil h
 exact ⟨v0,v1,v2,v3,v4,d0,d1,d2,d3,d4,p0,p1,p2,p3,p4,by cases args;simp_all,rfl,by simp,h0,h1,h2,h3,h4⟩
theorem door_met (os:Os) (args:Array Value):laidMetH Tryd.prog Rows.squaresRow.laid ((World.doorLaid Tryd.prog 400 os).forCall (fun _ _=>0) ⟨#[],args,[]⟩).memory :=
 laidMetH_of_parts3 (fuel:=8) (laidMet_of_run' 8 (by kernel_rfl) (by kernel_rfl)) (by kernel_rfl) (by kernel_rfl)
theorem squares_contract (H:Type) (enc:TypeId × Value→H) (W:World) (base:Nat) (args:Array Value) (ds gs:List (DataW H)) (before:List MemPlace)
  (hval:∀ (j:Nat) t v,Tryd.f3.params[j]?=some t→args[j]?=some v→Value.okWide Tryd.prog W .any base t v)
  (hW:DataW.Whole enc Tryd.prog Tryd.f3.params.toList Rows.squaresSpec.vars false W args.toList ds gs before) :
  Calls Tryd.prog 3 args W fun e W'=>∃ v,e=.returned v∧Rows.squaresSpec.post enc Tryd.prog Tryd.f3 false true false false W args v W':=by
 have hW':=hW
 obtain ⟨p,q,hA0,hV,rfl,hfz,hnd⟩:=hW
 have hA:DataW.TrodAll enc Tryd.prog W 0 (fun _=>true) true Tryd.f3.params.toList args.toList ds p:=hA0
 rw [Tryd.params3] at hA hval
 obtain ⟨v0,v1,v2,v3,v4,d0,d1,d2,d3,d4,p0,p1,p2,p3,p4,rfl,rfl,rfl,h0,h1,h2,h3,h4⟩:=trodAll_squares hA
 obtain ⟨rfl,rfl⟩:=trodVars_none hV
 obtain ⟨x0,rfl,rfl,rfl,hx0⟩:=open_int Tryd.underlying3 (hval 0 3 v0 rfl rfl) h0
 obtain ⟨x1,rfl,rfl,rfl,hx1⟩:=open_string Tryd.underlying9 (hval 1 9 v1 rfl rfl) h1
 obtain ⟨x2,rfl,rfl,rfl,hx2⟩:=open_int Tryd.underlying3 (hval 2 3 v2 rfl rfl) h2
 obtain ⟨x3,rfl,rfl,rfl,hx3⟩:=open_int Tryd.underlying3 (hval 3 3 v3 rfl rfl) h3
 obtain ⟨x4,rfl,rfl,rfl,hx4⟩:=open_int Tryd.underlying3 (hval 4 3 v4 rfl rfl) h4
 clear hA0
 simp only [List.append_nil] at hW'
 refine (Squares_any x0 x1 x2 x3 x4 W (wf_i64 hx0) hx1 (wf_i64 hx2) (wf_i64 hx3) (wf_i64 hx4)).mono fun e W' ⟨he,hb⟩=>?_
 subst he
 exact ⟨_,rfl,post_below (pa:=[]) (pv:=[]) hW' (fun _ _ _=>trodAll_cons_mk (shut_bool Tryd.underlying4 _) trodAll_mk0) (fun sp hsp=>trodAll_cons_mk (shut_int Tryd.underlying3 hx0) (trodAll_cons_mk (shut_string Tryd.underlying9 hx1) (trodAll_cons_mk (shut_int Tryd.underlying3 hx2) (trodAll_cons_mk (shut_int Tryd.underlying3 hx3) (trodAll_cons_mk (shut_int Tryd.underlying3 hx4) trodAll_mk0))))) (fun _ _=>rfl) rfl hb (ok_one (by kernel_rfl) rfl (okWide_bool_mk Tryd.underlying4 _))⟩
theorem squares_lifted (os:Os) (started:os.Started) (H:Type) (enc:TypeId × Value→H) :
  ReturnsInHanded {} Tryd.checked os 3 .any (fun w args=>(Rows.squaresSpec.pre enc Tryd.prog Tryd.f3 [] false w args∧laidMetH Tryd.prog Rows.squaresRow.laid w)∧sizedMet enc Tryd.prog Tryd.f3 (OpenSpec.ofChange Rows.squaresSpec) false w args)
   (Rows.squaresSpec.post enc Tryd.prog Tryd.f3 false true false false):=by
 refine returnsInHanded_of_change_and (C:=Tryd.checked) (X:=fun w _=>laidMetH Tryd.prog Rows.squaresRow.laid w) (fun _ _ _ hh h=>h.of_heap hh) Tryd.ownK started (by kernel_rfl) Tryd.func3
  (ChangeSpec.witness_shaped (enc:=enc) (C:=Tryd.checked) (os:=os) (X:=fun w _=>laidMetH Tryd.prog Rows.squaresRow.laid w) false (World.doorLaid Tryd.prog 400 os) #[.int .i64 0,.string ⟨#[]⟩,.int .i64 0,.int .i64 0,.int .i64 0] 8 rfl (World.shaped_of_RefB (by kernel_rfl) (by kernel_rfl)) (by kernel_rfl) (by kernel_rfl) (by kernel_rfl) (door_met os _)) ?_
 intro W base args ds gs before hval hW _ _ hL _
 exact squares_contract H enc W base args ds gs before hval hW
theorem squares_holds:Rows.SquaresSaid :=
 OpenClaim.holds_of_wide 3 Tryd.f3 rfl rfl rfl rfl rfl rfl rfl ⟨rfl,rfl,rfl,rfl,rfl⟩ rfl rfl rfl rfl rfl (by kernel_rfl) Tryd.func3 (by kernel_rfl)
  (of_decide_eq_true (by kernel_rfl)) (by unfold Func.isWrapper;first | (rw [if_pos (by decide +kernel)];kernel_rfl) | (rw [if_neg (by decide +kernel)];exact ⟨rfl,rfl⟩))
  (fun os started H enc _=>squares_lifted os started H enc)
theorem squares_card:Rows.SquaresCardSaid :=
 Claim7.holds_tied_plain_at .later [] [.data,.data,.data] true (true,"3a4dfb83d4000ab2e352a8259ea3afd204ba0c6e26f3b6541f2e90540192fceb") false
  squares_holds (fun _ h=>by cases h) (by kernel_rfl) (fun _ h=>by cases h) squares_row_tie rfl ⟨rfl,rfl⟩ (by kernel_rfl) rfl
  (fun f fn hf hfn=>by
   obtain rfl:f=3:=Option.some.inj ((show Tryd.prog.funcNamed "matcher/matcherkeep.Squares"=some 3 by kernel_rfl).symm.trans hf) |>.symm
   obtain rfl:fn=Tryd.f3:=(Option.some.inj (Tryd.func3.symm.trans hfn)).symm
   exact ⟨by kernel_rfl,fun j t ht=>by
    rw [Tryd.params3] at ht
    have hm:t∈[3,9,3,3,3]:=by simpa using Array.mem_of_getElem? ht
    have hall:([3,9,3,3,3].all fun u=>!Tryd.prog.wantsStandIn u)=true:=by kernel_rfl
    exact (show Tryd.prog.wantsStandIn t=false by simpa using List.all_eq_true.1 hall t hm)⟩)
  (by kernel_rfl)
end Go.Proofs.YtebpgfodelggoaaDoor
