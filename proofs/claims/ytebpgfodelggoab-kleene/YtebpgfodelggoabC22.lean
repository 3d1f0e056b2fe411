import Derived.Test.YtebpgfodelggoabC03
import Derived.Test.YtebpgfodelggoabC07
import Derived.Test.YtebpgfodelggoabC21
set_option linter.unusedVariables false
set_option linter.unusedSimpArgs false
set_option maxRecDepth 100000
set_option maxHeartbeats 2000000
namespace Go.Proofs.Ytebpgfodelggoab
open Go.RowKit
def shA (p:ByteArray) (d:Int) (T:Nat→Nat→Bool):Array Value:=(Value.string p::Value.int .i64 d::(List.range 121).map fun c=>Value.bool (T (c/11) (c % 11))).toArray
theorem shA_size (p:ByteArray) (d:Int) (T:Nat→Nat→Bool):(shA p d T).size=123:=by simp [shA]
theorem shA_all (p:ByteArray) (d:Int) (T:Nat→Nat→Bool):(shA p d T).all (·.oneCell')=true:=by
 rw [Array.all_eq_true']
 intro x hx
 unfold shA at hx
 simp only [List.mem_toArray,List.mem_cons,List.mem_map] at hx
 rcases hx with rfl | rfl | ⟨c,_,rfl⟩ <;> rfl
theorem shA_p (p:ByteArray) (d:Int) (T:Nat→Nat→Bool):(shA p d T)[0]?=some (.string p):=rfl
theorem shA_d (p:ByteArray) (d:Int) (T:Nat→Nat→Bool):(shA p d T)[1]?=some (.int .i64 d):=rfl
theorem shA_get (p:ByteArray) (d:Int) (T:Nat→Nat→Bool) {i j:Nat} (hi:i≤10) (hj:j≤10):(shA p d T)[2+i*11+j]?=some (.bool (T i j)):=by
 unfold shA
 rw [List.getElem?_toArray,show 2+i*11+j=(11*i+j)+1+1 by omega,List.getElem?_cons_succ,List.getElem?_cons_succ,List.getElem?_map,List.getElem?_range (by omega)]
 simp only [Option.map_some]
 rw [show (11*i+j)/11=i by omega,show (11*i+j) % 11=j by omega]
def upd (T:Nat→Nat→Bool) (i j:Nat) (b:Bool):Nat→Nat→Bool:=fun a c=>if a=i∧c=j then b else T a c
theorem shA_set (p:ByteArray) (d:Int) (T:Nat→Nat→Bool) {i j:Nat} (hi:i≤10) (hj:j≤10) (b:Bool):(shA p d T).setIfInBounds (2+i*11+j) (.bool b)=shA p d (upd T i j b):=by
 apply Array.ext_getElem?
 intro k
 rw [Array.getElem?_setIfInBounds]
 by_cases e:2+i*11+j=k
 ·subst e
  rw [if_pos rfl,if_pos (by rw [shA_size];omega),shA_get _ _ _ hi hj]
  simp [upd]
 ·rw [if_neg e]
  unfold shA
  simp only [List.getElem?_toArray]
  match k with
  | 0=>rfl
  | 1=>rfl
  | k+2 =>
   simp only [List.getElem?_cons_succ,List.getElem?_map]
   by_cases hk:k<121
   ·rw [List.getElem?_range hk]
    simp only [Option.map_some]
    have:¬ (k/11=i∧k % 11=j):=fun h=>e (by omega)
    simp [upd,this]
   ·rw [List.getElem?_eq_none (by simp;omega)];rfl
theorem shA_deep (p:ByteArray) (d d':Int) (T:Nat→Nat→Bool):(shA p d T).setIfInBounds 1 (.int .i64 d')=shA p d' T:=rfl
theorem Try.sizeSh:(Try.prog.info? 57).map (·.size)=some 123:=by kernel_rfl
theorem Try.zeroSh:Try.zeroCells57=shA ⟨#[]⟩ 0 (fun _ _=>false):=by kernel_rfl
def shAt (w:World) (g:Nat) (p:ByteArray) (d:Int) (T:Nat→Nat→Bool):Prop:=w.heap[g]?=some (.cells (shA p d T) 57 (0,0))
theorem shAt_set {w:World} {g:Nat} {p:ByteArray} {d:Int} {T:Nat→Nat→Bool} (h:shAt w g p d T) {i j:Nat} (hi:i≤10) (hj:j≤10) (b:Bool):shAt (w.setCell ⟨g,2+i*11+j,none⟩ (.bool b)) g p d (upd T i j b):=by
 have:=Go.heap_setCell_same w g (2+i*11+j) _ _ (.bool b) h
 unfold shAt
 rw [shA_set _ _ _ hi hj] at this
 exact this
def none2:Nat→Nat→Bool:=fun _ _=>false
theorem zero_p (p:ByteArray):Try.zeroCells57.setIfInBounds 0 (.string p)=shA p 0 none2:=by
 rw [Try.zeroSh]
 unfold shA none2
 rw [List.setIfInBounds_toArray,List.set_cons_zero]
theorem zero_size:Try.zeroCells57.size=123:=by rw [Try.zeroSh,shA_size]
theorem byteAt_is (t:ByteArray) (k:Nat) (c:UInt8) (h:k<t.size):Mt.byteAt t k [c]=((t[k].toNat:Int)==(c.toNat:Int)):=by
 unfold Mt.byteAt Mt.hasB Mt.byI
 rw [if_pos (by omega),dif_pos h]
 simp only [List.any_cons,List.any_nil,Bool.or_false]
 exact Bool.beq_comm
def oneT (t:ByteArray) (c:UInt8) (any:Bool) (k:Nat):Nat→Nat→Bool:=fun a b=>decide (a<k∧b=a+1)&&(any||Mt.byteAt t a [c])
theorem oneT_next (t:ByteArray) (c:UInt8) (any:Bool) (k:Nat):upd (oneT t c any k) k (k+1) (any||Mt.byteAt t k [c])=oneT t c any (k+1):=by
 funext a b
 unfold upd oneT
 by_cases h:a=k∧b=k+1
 ·obtain ⟨rfl,rfl⟩:=h
  simp
 ·rw [if_neg h]
  congr 1
  apply decide_eq_decide.2
  omega
theorem single_any (t p:ByteArray) (c:UInt8) (any:Bool) (w:World) (ht:t.size≤10) :
  Calls Try.prog 36 #[.string t,.string p,.int .u8 (c.toNat:Int),.bool any] w fun e w'=>(∃ T,e=.returned (.agg (shA p 0 T))∧∀ i j,i≤10→j≤10→(T i j=true↔i<t.size∧j=i+1∧(any=true∨Mt.byteAt t i [c]=true)))∧Below w.heap.size w w':=by
 have z1:(Try.zeroCells57.setIfInBounds 0 (.string p)).size=123:=by rw [zero_p,shA_size]
 have z2:(Try.zeroCells57.setIfInBounds 0 (.string p)).all (·.oneCell')=true:=by rw [zero_p];exact shA_all _ _ _
 go_enter Try.func36,Try.ntmps36
 go_upto_region 2 with (refine store_blk 57 123 Try.sizeSh (by rfl) (.tmp 9) (.tmp 12) (by rfl) (w.heap.size+1) (Try.zeroCells57.setIfInBounds 0 (.string p)) (by rfl) (by rfl) (by exact heap_b3 _ _ _) zero_size z1 z2 ?_;intro w2 s1 s2 s3 s4)
 rw [zero_p] at s1
 have H2:Hid (shAt w2 (w.heap.size+1) p 0 (oneT t c any 0)):=by
  show shAt _ _ _ _ _
  have e:oneT t c any 0=none2:=by funext a b;simp [oneT,none2]
  rw [e];exact s1
 have F2:Hid (w2.heap[w.heap.size]?=some (.cells Try.zeroCells57 57 (0,0))):=(s2 _ (by omega)).trans (heap_b2 _ _ _)
 have B2:Hid (Below w.heap.size w w2):=(((Below.refl _ _).alloc (Nat.le_refl _) _).alloc (by simp) _).trans (s4 _ (by omega))
 clear s1 s2 s3 s4 z1 z2
 generalize hn:w.heap.size=n at *
 go_wp2_with fail
 go_loopw [10] (fun i wr=>∃ k:Nat,k≤t.size∧i=.int .i64 k∧Hid (shAt wr (n+1) p 0 (oneT t c any k))∧Hid (wr.heap[n]?=some (.cells Try.zeroCells57 57 (0,0)))∧Hid (Below n w wr)) (fun i _=>t.size-(intOf i).toNat)
 case atStart=>exact ⟨0,by omega,rfl,H2,F2,B2⟩
 case round =>
  obtain ⟨k,hk,rfl,HS,HF,HB⟩:=hrel
  by_cases hlt:k<t.size
  ·have hlt':(k:Int)<(t.size:Int):=by omega
   have hlt2:(k:Int)<10:=by omega
   have cc:wr.cell? ⟨n+1,2+k*11+(k+1),none⟩=some (.bool (oneT t c any k k (k+1))):=by
    have:=HS.out
    unfold shAt at this
    rw [(cell_block this).1,shA_get _ _ _ (by omega) (by omega)]
   have cf:wr.frozen? ⟨n+1,2+k*11+(k+1),none⟩=false:=(cell_block (show wr.heap[n+1]?=_ from HS.out)).2 _
   cases any
   ·have eb:=byteAt_is t k c hlt
    have HN:Hid (shAt (wr.setCell ⟨n+1,2+k*11+(k+1),none⟩ (.bool ((t[k].toNat:Int)==(c.toNat:Int)))) (n+1) p 0 (oneT t c false (k+1))):=by
     show shAt _ _ _ _ _
     rw [← oneT_next,Bool.false_or,eb]
     exact shAt_set HS.out (by omega) (by omega) _
    have HF2:Hid ((wr.setCell ⟨n+1,2+k*11+(k+1),none⟩ (.bool ((t[k].toNat:Int)==(c.toNat:Int)))).heap[n]?=some (.cells Try.zeroCells57 57 (0,0))):=(Below.heap_setCell _ _ _ _ (by show n≠n+1;omega)).trans HF.out
    have HB2:Hid (Below n w (wr.setCell ⟨n+1,2+k*11+(k+1),none⟩ (.bool ((t[k].toNat:Int)==(c.toNat:Int))))):=HB.out.setCell (by show n≤n+1;omega) _
    clear eb HS HF HB
    go_upto_region 5 with fail
    go_region
    go_wp2_with fail
    go_roundw
    case rel=>exact ⟨k+1,by omega,by go_num,HN.out,HF2.out,HB2.out.trans (Below.refl _ _).drew⟩
    case measure=>simp [intOf];omega
   ·have HN:Hid (shAt (wr.setCell ⟨n+1,2+k*11+(k+1),none⟩ (.bool true)) (n+1) p 0 (oneT t c true (k+1))):=by
     show shAt _ _ _ _ _
     rw [← oneT_next,Bool.true_or]
     exact shAt_set HS.out (by omega) (by omega) _
    have HF2:Hid ((wr.setCell ⟨n+1,2+k*11+(k+1),none⟩ (.bool true)).heap[n]?=some (.cells Try.zeroCells57 57 (0,0))):=(Below.heap_setCell _ _ _ _ (by show n≠n+1;omega)).trans HF.out
    have HB2:Hid (Below n w (wr.setCell ⟨n+1,2+k*11+(k+1),none⟩ (.bool true))):=HB.out.setCell (by show n≤n+1;omega) _
    clear HS HF HB
    go_upto_region 5 with fail
    go_region
    go_wp2_with fail
    go_roundw
    case rel=>exact ⟨k+1,by omega,by go_num,HN.out,HF2.out,HB2.out.trans (Below.refl _ _).drew⟩
    case measure=>simp [intOf];omega
  ·have hlt':¬ (k:Int)<(t.size:Int):=by omega
   have e:k=t.size:=by omega
   subst e
   go_wp2_with (first | (refine load_blk 57 123 Try.underlying57 rfl Try.sizeSh (by rfl) (.tmp 9) (by rfl) (n+1) (by rfl) HS.out (shA_size _ _ _) ?_) | (refine store_blk 57 123 Try.sizeSh (by rfl) (.tmp 8) (.tmp 37) (by rfl) n (shA p 0 (oneT t c any t.size)) (by rfl) (by rfl) HF.out zero_size (shA_size _ _ _) (shA_all _ _ _) ?_;intro w3 r1 r2 r3 r4))
   refine bodyPost_ret (ret_blk1 57 123 Try.underlying57 rfl Try.sizeSh rfl (by rfl) r1 (shA_size _ _ _)) rfl ⟨⟨_,rfl,fun i j hi hj=>?_⟩,by first | exact HB.out.trans (r4 _ (Nat.le_refl _)) | (rw [hn];exact HB.out.trans (r4 _ (Nat.le_refl _)))⟩
   unfold oneT
   simp only [Bool.and_eq_true,decide_eq_true_eq,Bool.or_eq_true,and_assoc]
def tabL (T:Nat→Nat→Bool):List Value:=(List.range 121).map fun c=>Value.bool (T (c/11) (c % 11))
theorem shA_list (p:ByteArray) (d:Int) (T:Nat→Nat→Bool):(shA p d T).toList=.string p::.int .i64 d::tabL T:=rfl
theorem Try.sizeTab:(Try.prog.info? 55).map (·.size)=some 121:=by kernel_rfl
theorem wpList_value {P:Program} {ops:Array Oper} {rest:List Oper} {o:Oper} {a:Act} {w:World} {Q:Exit→Act→World→Prop} (hgd:o.guard=none) (u:Value) (h:(execOp a.eval o).run P w=.ok (.value u) w) (hk:wpList P ops Q rest (a.put o.dst u) w):wpList P ops Q (o::rest) a w :=
 wpList_plain hgd fun _ hK=>by unfold Oper.wp;rw [h];exact hK _ _ hk
theorem build_sh3 (p:ByteArray) (d:Int) (T:Nat→Nat→Bool) (z:World):(Instr.build 57 #[(0,.string p),(1,.int .i64 d),(2,.agg (tabL T).toArray)]).run Try.prog z=.ok (.agg (shA p d T)) z:=by
 unfold tabL shA
 kernel_rfl
def mayT (T:Nat→Nat→Bool) (k:Nat):Nat→Nat→Bool:=fun a b=>T a b||decide (a=b∧a<k)
theorem mayT_next (T:Nat→Nat→Bool) (k:Nat):upd (mayT T k) k k true=mayT T (k+1):=by
 funext a b
 unfold upd mayT
 by_cases h:a=k∧b=k
 ·obtain ⟨rfl,rfl⟩:=h
  simp
 ·rw [if_neg h]
  congr 1
  apply decide_eq_decide.2
  omega
theorem mayT_zero (T:Nat→Nat→Bool):mayT T 0=T:=by funext a b;simp [mayT]
theorem maybe_any (p q:ByteArray) (d:Int) (T:Nat→Nat→Bool) (n:Nat) (w:World) (hp:p.size≤1000) (hq:q.size≤10) (hd:0≤d∧d≤1000) (hn:n≤10) :
  Calls Try.prog 40 #[.agg (shA p d T),.string q,.int .i64 (n:Int)] w fun e w'=>e=.returned (.agg (shA ((((⟨#[40,63,58]⟩:ByteArray)++p)++⟨#[41]⟩)++q) (d+1) (mayT T (n+1))))∧Below w.heap.size w w':=by
 go_enter Try.func40,Try.ntmps40
 go_upto_region 1 with fail
 obtain ⟨z,hz⟩:∃ z,z=(w.alloc (.cells (shA p d T) 57)).alloc (.cells Try.zeroCells57 57):=⟨_,rfl⟩
 have q1:z.heap[w.heap.size]?=some (.cells (shA p d T) 57 (0,0)):=by rw [hz];exact heap_b2 _ _ _
 have F1:Hid (z.heap[w.heap.size+1]?=some (.cells Try.zeroCells57 57 (0,0))):=by show _=_;rw [hz];exact heap_b3 _ _ _
 have B1:Hid (Below w.heap.size w z):=by show Below _ _ _;rw [hz];exact ((Below.refl _ _).alloc (Nat.le_refl _) _).alloc (by simp) _
 have sz:z.heap.size=w.heap.size+2:=by rw [hz];simp
 rw [← hz]
 clear hz
 have c0:z.cell? ⟨w.heap.size,0,none⟩=some (.string p):=((cell_block q1).1 _).trans (shA_p _ _ _)
 have c1:z.cell? ⟨w.heap.size,1,none⟩=some (.int .i64 d):=((cell_block q1).1 _).trans (shA_d _ _ _)
 have HR:Hid (z.rangeAt w.heap.size 2 (tabL T)):=by
  show z.rangeAt _ _ _
  intro j v hv
  have:=rangeAt_blk q1 (2+j) v (by rw [shA_list];simpa [Nat.add_comm] using hv)
  simpa using this
 clear q1
 generalize hn1:w.heap.size=m at *
 have hl:(tabL T).length=121:=by simp [tabL]
 have HL:Hid ((Try.prog.info? 55).map (·.size)=some (tabL T).length):=by show _=_;rw [Try.sizeTab,hl]
 clear hl
 generalize hU:mayT T 0=U0 at *
 obtain ⟨u,hu⟩:∃ u:Array Value,u=(tabL T).toArray:=⟨_,rfl⟩
 have HBd:Hid (∀ (s:ByteArray) (k:Int) (y:World),(Instr.build 57 #[(0,.string s),(1,.int .i64 k),(2,.agg u)]).run Try.prog y=.ok (.agg (shA s k T)) y):=fun s k y=>by rw [hu];exact build_sh3 s k T y
 go_upto_region 2 with (first | (refine wpList_load_mid (by rfl) _ (.tmp 18) (by rfl) m 2 (by rfl) (tabL T) _ HR.out Try.underlying55 rfl HL.out ?_;rw [← hu]) | (refine wpList_value (by rfl) (.agg (shA ((((⟨#[40,63,58]⟩:ByteArray)++p)++⟨#[41]⟩)++q) (d+1) T)) ?_ ?_;· refine buildRun (t:=57) (parts:=#[(0,.tmp 14),(1,.tmp 17),(2,.tmp 19)]) rfl ?_;simp only [List.map_toArray,List.map_cons,List.map_nil];exact HBd.out _ _ _) | (refine store_blk 57 123 Try.sizeSh (by rfl) (.tmp 7) (.tmp 20) (by rfl) (m+2) (shA ((((⟨#[40,63,58]⟩:ByteArray)++p)++⟨#[41]⟩)++q) (d+1) T) (by rfl) (by rfl) (by have hx:=heap_b1 z (.cells Try.zeroCells57 57);rw [sz] at hx;exact hx) zero_size (shA_size _ _ _) (shA_all _ _ _) ?_;intro w2 s1 s2 s3 s4))
 generalize hP:((((⟨#[40,63,58]⟩:ByteArray)++p)++⟨#[41]⟩)++q)=P at *
 have H2:Hid (shAt w2 (m+2) P (d+1) (mayT T 0)):=by
  show shAt _ _ _ _ _
  rw [mayT_zero];exact s1
 have F2:Hid (w2.heap[m+1]?=some (.cells Try.zeroCells57 57 (0,0))):=(s2 _ (by omega)).trans ((heap_old _ _ _ (by rw [sz];omega)).trans F1.out)
 have B2:Hid (Below m w w2):=B1.out.trans (((Below.refl _ _).alloc (by rw [sz];omega) _).trans (s4 _ (by omega)))
 clear s1 s2 s3 s4 F1 B1 HR HL HBd c0 c1 sz hu
 go_wp2_with fail
 go_loopw [8] (fun i wr=>∃ k:Nat,k≤n+1∧i=.int .i64 k∧Hid (shAt wr (m+2) P (d+1) (mayT T k))∧Hid (wr.heap[m+1]?=some (.cells Try.zeroCells57 57 (0,0)))∧Hid (Below m w wr)) (fun i _=>n+1-(intOf i).toNat)
 case atStart=>exact ⟨0,by omega,rfl,H2,F2,B2⟩
 case round =>
  obtain ⟨k,hk,rfl,HS,HF,HB⟩:=hrel
  by_cases hlt:k≤n
  ·have d1:decide ((k:Int)≤(n:Int))=true:=by rw [decide_eq_true_eq];omega
   have d2:decide ((k:Int)≤10)=true:=by rw [decide_eq_true_eq];omega
   have d3:(k:Int)<11:=by omega
   have cc:wr.cell? ⟨m+2,2+k*11+k,none⟩=some (.bool (mayT T k k k)):=by
    have:=HS.out
    unfold shAt at this
    rw [(cell_block this).1,shA_get _ _ _ (by omega) (by omega)]
   have cf:wr.frozen? ⟨m+2,2+k*11+k,none⟩=false:=(cell_block (show wr.heap[m+2]?=_ from HS.out)).2 _
   have HN:Hid (shAt (wr.setCell ⟨m+2,2+k*11+k,none⟩ (.bool true)) (m+2) P (d+1) (mayT T (k+1))):=by
    show shAt _ _ _ _ _
    rw [← mayT_next]
    exact shAt_set HS.out (by omega) (by omega) _
   have HF2:Hid ((wr.setCell ⟨m+2,2+k*11+k,none⟩ (.bool true)).heap[m+1]?=some (.cells Try.zeroCells57 57 (0,0))):=(Below.heap_setCell _ _ _ _ (by show m+1≠m+2;omega)).trans HF.out
   have HB2:Hid (Below m w (wr.setCell ⟨m+2,2+k*11+k,none⟩ (.bool true))):=HB.out.setCell (by show m≤m+2;omega) _
   clear HS HF HB
   go_wp2_with fail
   go_roundw
   case rel=>exact ⟨k+1,by omega,by go_num,HN,HF2,HB2⟩
   case measure=>simp [intOf];omega
  ·have e:k=n+1:=by omega
   subst e
   have d1:decide (((n+1:Nat):Int)≤(n:Int))=false:=by rw [decide_eq_false_iff_not];omega
   go_wp2_with (first | (refine load_blk 57 123 Try.underlying57 rfl Try.sizeSh (by rfl) (.tmp 7) (by rfl) (m+2) (by rfl) HS.out (shA_size _ _ _) ?_) | (refine store_blk 57 123 Try.sizeSh (by rfl) (.tmp 6) (.tmp 35) (by rfl) (m+1) (shA P (d+1) (mayT T (n+1))) (by rfl) (by rfl) HF.out zero_size (shA_size _ _ _) (shA_all _ _ _) ?_;intro w3 r1 r2 r3 r4))
   refine bodyPost_ret (ret_blk1 57 123 Try.underlying57 rfl Try.sizeSh rfl (by rfl) r1 (shA_size _ _ _)) rfl ⟨by first | rfl | (rw [hP]),?_⟩
   first
    | exact HB.out.trans (r4 _ (by omega))
    | (rw [hn1];exact HB.out.trans (r4 _ (by omega)))
end Go.Proofs.Ytebpgfodelggoab
