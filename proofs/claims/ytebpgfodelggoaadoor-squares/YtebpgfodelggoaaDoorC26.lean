import Derived.Test.YtebpgfodelggoaaDoorC08
import Derived.Test.YtebpgfodelggoaaDoorC16
import Derived.Test.YtebpgfodelggoaaDoorC22
import Derived.Test.YtebpgfodelggoaaDoorC20
import Derived.Test.YtebpgfodelggoaaDoorC03
import Derived.Test.YtebpgfodelggoaaDoorC09
set_option linter.unusedVariables false
set_option linter.unusedSimpArgs false
set_option maxRecDepth 100000
set_option maxHeartbeats 4000000
namespace Go.Proofs.YtebpgfodelggoaaDoor
open Go.RowKit
def startsB (t:ByteArray) (i:Nat) (q:ByteArray):Bool:=decide (i+q.size≤t.size)&&((t.extract i (i+q.size)).toList==q.toList)
theorem starts_any (t q:ByteArray) (i:Nat) (w:World) (ht:t.size≤60) (hq:q.size≤1000) (hi:i≤1000):Calls Tryd.prog 9 #[.string t,.int .i64 (i:Int),.string q] w fun e w'=>e=.returned (.bool (startsB t i q))∧w'=w:=by
 unfold startsB
 by_cases h:i+q.size≤t.size
 ·have d1:decide ((0:Int)≤(i:Int))=true:=by simp
  have d2:decide ((i:Int)+(q.size:Int)≤(t.size:Int))=true:=by rw [decide_eq_true_eq];omega
  have d3:decide (i+q.size≤t.size)=true:=by rw [decide_eq_true_eq];omega
  rw [d3]
  go_enter Tryd.func9,Tryd.ntmps9
  go_wp2_with fail
  go_ret
  exact ⟨rfl,rfl⟩
 ·have d1:decide ((0:Int)≤(i:Int))=true:=by simp
  have d2:decide ((i:Int)+(q.size:Int)≤(t.size:Int))=false:=by rw [decide_eq_false_iff_not];omega
  have d3:decide (i+q.size≤t.size)=false:=by rw [decide_eq_false_iff_not];omega
  rw [d3]
  go_enter Tryd.func9,Tryd.ntmps9
  go_wp2_with fail
  go_ret
  exact ⟨rfl,rfl⟩
def firstIn (t:ByteArray) (i:Nat):List ByteArray→Nat→Int
 | [],_=>-1
 | q::r,k=>if startsB t i q then (k:Int) else firstIn t i r (k+1)
structure Shown (f:Mt.Fnd) (a b:Int):Prop where
 len:f.at'.length=20
 s1:1≤f.steps
 s2:f.steps≤10000
 ok:f.ok=decide (0≤a)
 a0:f.at'.getD 0 0=if a<0 then -1 else a
 b0:f.at'.getD 1 0=if a<0 then -1 else b
theorem shown_true (f:Mt.Fnd) (a b:Int) (h:Shown f a b) (w:World) :
  Calls Tryd.prog 10 #[.agg (fpA f),.int .i64 0,.int .i64 a,.int .i64 b] w fun e w'=>e=.returned (.bool true)∧Below w.heap.size w w':=by
 obtain ⟨z,hz⟩:∃ z,z=w.alloc (.cells (fpA f) 26):=⟨_,rfl⟩
 have q1:z.heap[w.heap.size]?=some (.cells (fpA f) 26 (0,0)):=by rw [hz];exact heap_b1 _ _
 have HB:Hid (Below w.heap.size w z):=by rw [hz];exact (Below.refl _ _).alloc (Nat.le_refl _) _
 have l1:w.heap.size<z.heap.size:=by rw [hz];simp
 have c0:z.cell? ⟨w.heap.size,0,none⟩=some (.bool f.ok):=((cell_block q1).1 _).trans (fpA_ok _)
 have c21:z.cell? ⟨w.heap.size,21,none⟩=some (.int .i64 f.steps):=((cell_block q1).1 _).trans (fpA_steps _ h.len)
 have c1:z.cell? ⟨w.heap.size,1,none⟩=some (.int .i64 (f.at'.getD 0 0)):=((cell_block q1).1 _).trans (fpA_get f h.len 0 (by omega))
 have c2:z.cell? ⟨w.heap.size,2,none⟩=some (.int .i64 (f.at'.getD 1 0)):=((cell_block q1).1 _).trans (fpA_get f h.len 1 (by omega))
 have s1:=h.s1
 have s2:=h.s2
 rw [h.ok] at c0
 rw [h.a0] at c1
 rw [h.b0] at c2
 have d1:decide (f.steps<1)=false:=by rw [decide_eq_false_iff_not];omega
 have d2:decide (10000<f.steps)=false:=by rw [decide_eq_false_iff_not];omega
 clear h q1 s1 s2
 go_enter Tryd.func10,Tryd.ntmps10
 go_upto_region 1 with fail
 show Code.wp _ _ _ _ (w.alloc (.cells (fpA f) 26))
 rw [← hz]
 clear hz
 generalize f.steps=S at *
 generalize hn:w.heap.size=n at *
 by_cases ha:a<0
 ·rw [if_pos ha] at c1 c2
  have m1:decide (a<0)=true:=by rw [decide_eq_true_eq];exact ha
  have m2:decide (0≤a)=false:=by rw [decide_eq_false_iff_not];omega
  rw [m2] at c0
  clear ha
  go_wp2_with fail
  go_ret
  exact ⟨rfl,by rw [hn];exact HB.out⟩
 ·rw [if_neg ha] at c1 c2
  have m1:decide (a<0)=false:=by rw [decide_eq_false_iff_not];exact ha
  have m2:decide (0≤a)=true:=by rw [decide_eq_true_eq];omega
  have m3:(a==a)=true:=by simp
  have m4:(b==b)=true:=by simp
  rw [m2] at c0
  clear ha
  go_wp2_with fail
  go_ret
  exact ⟨rfl,by rw [hn];exact HB.out⟩
def Without (f:Mt.Fnd) (k:Nat):Prop:=f.at'.length=20∧∀ i,1≤i→i<10→i≠k→f.at'.getD (2*i) 0=-1∧f.at'.getD (2*i+1) 0=-1
theorem without_true (f:Mt.Fnd) (g:Nat) (h:Without f g) (w:World) :
  Calls Tryd.prog 11 #[.agg (fpA f),.int .i64 (g:Int)] w fun e w'=>e=.returned (.bool true)∧Below w.heap.size w w':=by
 obtain ⟨z,hz⟩:∃ z,z=w.alloc (.cells (fpA f) 26):=⟨_,rfl⟩
 have q1:z.heap[w.heap.size]?=some (.cells (fpA f) 26 (0,0)):=by rw [hz];exact heap_b1 _ _
 have HB:Hid (Below w.heap.size w z):=by rw [hz];exact (Below.refl _ _).alloc (Nat.le_refl _) _
 have l1:w.heap.size<z.heap.size:=by rw [hz];simp
 have HC:Hid (∀ i,1≤i→i<10→i≠g→z.cell? ⟨w.heap.size,1+2*i,none⟩=some (.int .i64 (-1))∧z.cell? ⟨w.heap.size,1+(2*i+1),none⟩=some (.int .i64 (-1))):=fun i h1 h2 h3=>by
  have:=h.2 i h1 h2 h3
  exact ⟨((cell_block q1).1 _).trans ((fpA_get f h.1 (2*i) (by omega)).trans (by rw [this.1])),((cell_block q1).1 _).trans ((fpA_get f h.1 (2*i+1) (by omega)).trans (by rw [this.2]))⟩
 clear h q1
 go_enter Tryd.func11,Tryd.ntmps11
 go_upto_region 1 with fail
 show Code.wp _ _ _ _ (w.alloc (.cells (fpA f) 26))
 rw [← hz]
 clear hz
 generalize hn:w.heap.size=n at *
 go_wp2_with fail
 go_loopw [5] (fun i wr=>∃ k:Nat,1≤k∧k≤10∧i=.int .i64 k∧wr=z) (fun i _=>10-(intOf i).toNat)
 case atStart=>exact ⟨1,Nat.le_refl _,by omega,rfl,rfl⟩
 case round =>
  obtain ⟨k,hk1,hk,rfl,rfl⟩:=hrel
  by_cases hlt:k<10
  ·have i1:(k:Int)<10:=by omega
   have i2:(2:Int)*(k:Int)<20:=by omega
   have i3:(2:Int)*(k:Int)+1<20:=by omega
   by_cases hg:k=g
   ·subst hg
    have m1:((k:Int) != (k:Int))=false:=by simp
    go_wp2_with fail
    go_roundw
    case rel=>exact ⟨k+1,by omega,by omega,by go_num,trivial⟩
    case measure=>simp [intOf];omega
   ·obtain ⟨a0,b0⟩:=HC.out k hk1 hlt hg
    have m1:((k:Int) != (g:Int))=true:=by rw [bne_iff_ne];omega
    clear hg
    go_wp2_with fail
    go_roundw
    case rel=>exact ⟨k+1,by omega,by omega,by go_num,trivial⟩
    case measure=>simp [intOf];omega
  ·go_wp2_with fail
   go_ret
   exact ⟨rfl,by rw [hn];exact HB.out⟩
theorem ba_toList (b:ByteArray):b.toList=b.data.toList:=by
 have go:∀ (n i:Nat) (r:List UInt8),b.size-i=n→ByteArray.toList.loop b i r=r.reverse++b.data.toList.drop i:=by
  intro n
  induction n with
  | zero =>
   intro i r h
   rw [ByteArray.toList.loop,if_neg (by omega),List.drop_eq_nil_of_le (by simp;omega)];simp
  | succ n ih =>
   intro i r h
   rw [ByteArray.toList.loop,if_pos (by omega),ih _ _ (by omega)]
   have hi:i<b.data.toList.length:=by simp;omega
   rw [List.drop_eq_getElem_cons hi]
   simp [ByteArray.get!]
   rw [getElem!_pos b.data i (by simpa using hi)]
 have:=go b.size 0 [] (by omega)
 simpa [ByteArray.toList] using this
theorem byteAt_one (t:ByteArray) (i:Nat) (c:UInt8) (h:i<t.size):Mt.byteAt t i [c]=(t.data.toList[i]'(by simpa using h)==c):=by
 unfold Mt.byteAt
 rw [if_pos (by omega)]
 unfold Mt.hasB Mt.byI
 rw [dif_pos h]
 simp only [List.any_cons,List.any_nil,Bool.or_false]
 have e:t[i]'h=t.data.toList[i]'(by simpa using h):=rfl
 rw [e]
 generalize t.data.toList[i]'(by simpa using h)=x
 by_cases hx:x=c
 ·subst hx;simp
 ·have:c.toNat≠x.toNat:=fun e=>hx (UInt8.toNat_inj.1 e.symm)
  have h1:(x==c)=false:=by simpa using hx
  rw [h1]
  simp;omega
theorem stands_take (t:ByteArray):∀ (l:List UInt8) (i:Nat),i≤t.size→Mt.standsB t i l=(decide (i+l.length≤t.size)&&((t.data.toList.drop i).take l.length==l))
 | [],i,h=>by simp [Mt.standsB,h]
 | c::l,i,h=>by
  have hl:t.data.toList.length=t.size:=by simp
  by_cases hi:i<t.size
  ·rw [Mt.standsB,byteAt_one t i c hi,stands_take t l (i+1) (by omega),List.drop_eq_getElem_cons (by omega:i<t.data.toList.length),List.length_cons,List.take_succ_cons]
   have e1:decide (i+1+l.length≤t.size)=decide (i+(l.length+1)≤t.size):=by congr 1;apply propext;omega
   rw [e1]
   generalize t.data.toList[i]=x
   cases decide (i+(l.length+1)≤t.size) <;> simp [List.cons_beq_cons]
  ·have e:Mt.byteAt t i [c]=false:=by unfold Mt.byteAt;rw [if_neg (by omega)]
   have e2:decide (i+(c::l).length≤t.size)=false:=by rw [decide_eq_false_iff_not,List.length_cons];omega
   rw [Mt.standsB,e,e2];simp
theorem starts_stands (t q:ByteArray) (i:Nat) (h:i≤t.size):startsB t i q=Mt.standsB t i q.data.toList:=by
 rw [stands_take t _ i h]
 unfold startsB
 rw [ba_toList,ba_toList]
 have e:q.data.toList.length=q.size:=by simp
 rw [e]
 have e2:(t.extract i (i+q.size)).data.toList=(t.data.toList.drop i).take q.size:=by
  rw [ByteArray.data_extract,Array.toList_extract]
  simp [List.extract]
 rw [e2]
theorem first_three (t a b c:ByteArray) (i:Nat) (h:i≤t.size):firstIn t i [a,b,c] 0=Mt.firstOf t i a.data.toList b.data.toList c.data.toList:=by
 simp only [firstIn,Mt.firstOf,starts_stands t _ i h]
 rfl
theorem load_blk_g {P:Program} {ops:Array Oper} {rest:List Oper} {op:Oper} {a:Act} {w:World} {Q:Exit→Act→World→Prop} (ty:TypeId) (n:Nat) {d:TypeDesc} (hu:P.underlying ty=some d) (hd:d.isRow=true) (hn:(P.info? ty).map (·.size)=some n) (hw:Region.wanted op (yielded ops a.tmps)=true) (x:Operand) (ho:op.op=.load ty x)
  (b:Nat) (hx:a.eval x=.pointer (some ⟨b,0,none⟩)) {t:TypeId} {A:Array Value} (hA:w.heap[b]?=some (.cells A t (0,0))) (hs:A.size=n)
  (h:wpList P ops Q rest (a.put op.dst (.agg A)) w):wpList P ops Q (op::rest) a w :=
 BigFrame.wpList_want hw fun _ hK=>wp_load_mid ty x ho b 0 hx A.toList _ (rangeAt_blk hA) hu hd (by rw [hn];simp [hs]) (hK _ _ h)
def WholeOk (T frm:Nat) (f:Mt.Fnd) (e:Int):Prop:=(e=14∧f=Mt.fnd0)∨(e=0∧Mt.Inside T frm f)
theorem WholeOk.len {T frm:Nat} {f:Mt.Fnd} {e:Int} (h:WholeOk T frm f e):f.at'.length=20:=by
 rcases h with ⟨_,rfl⟩ | ⟨_,h⟩
 ·rfl
 ·exact h.len
theorem pick_opt (P M R:Int):Mt.Opt (pickI P 5) (pickI M 4294967296) (pickI R 5001) 10000:=by
 have h1:=pickI_in P 5 (by omega)
 have h2:=pickI_in M 4294967296 (by omega)
 have h3:=pickI_in R 5001 (by omega)
 exact ⟨h1,h2,h3,by omega,by omega⟩
theorem find_whole (p t:ByteArray) (frm:Nat) (policy mask room budget:Int) (h:(Mt.checkR p).1=0) (hT:t.size≤60) (hf:frm≤t.size) (ho:Mt.Opt policy mask room budget):WholeOk t.size frm (Mt.findR p t frm policy mask room budget).1 (Mt.findR p t frm policy mask room budget).2:=by
 rw [Mt.findR_ok p t frm policy mask room budget h hT hf ho]
 obtain ⟨A,hK⟩:=Mt.pattern_known p h
 obtain ⟨o1,o2,o3,o4⟩:=ho
 cases e:(Mt.searchAll (Mt.codeR p).1 t policy mask room budget frm).2
 ·exact .inr ⟨rfl,Mt.searchAll_inside hK.ok hK.pos t policy mask room budget frm hf (by omega) (by omega) e⟩
 ·exact .inl ⟨rfl,rfl⟩
theorem find_alike (p t:ByteArray) (frm:Nat) (p1 m1 r1 p2 m2 r2:Int) (h:(Mt.checkR p).1=0) (hT:t.size≤60) (hf:frm≤t.size) (o1:Mt.Opt p1 m1 r1 10000) (o2:Mt.Opt p2 m2 r2 10000) (e1:(Mt.findR p t frm p1 m1 r1 10000).2=0) (e2:(Mt.findR p t frm p2 m2 r2 10000).2=0) :
  (Mt.findR p t frm p2 m2 r2 10000).1.at'=(Mt.findR p t frm p1 m1 r1 10000).1.at'∧(Mt.findR p t frm p2 m2 r2 10000).1.ok=(Mt.findR p t frm p1 m1 r1 10000).1.ok:=by
 obtain ⟨A,hK⟩:=Mt.pattern_kn p h
 rw [Mt.findR_ok p t frm p1 m1 r1 10000 h hT hf o1] at e1 ⊢
 rw [Mt.findR_ok p t frm p2 m2 r2 10000 h hT hf o2] at e2 ⊢
 cases s1:(Mt.searchAll (Mt.codeR p).1 t p1 m1 r1 10000 frm).2
 ·cases s2:(Mt.searchAll (Mt.codeR p).1 t p2 m2 r2 10000 frm).2
  ·obtain ⟨a,b⟩:=Mt.table_alike hK t p1 m1 r1 10000 p2 m2 r2 10000 frm (by omega) (by unfold Mt.InR;have:=o1.2.2.1;omega) (by unfold Mt.InR;have:=o2.2.2.1;omega) (by omega) (by omega) s1 s2
   exact ⟨b.symm,a.symm⟩
  ·rw [s2] at e2;simp at e2
 ·rw [s1] at e1;simp at e1
def NoMore (F G:Mt.Fnd × Int):Prop:=F.2=0→G.2=0∧G.1.steps≤F.1.steps
theorem find_less (p t:ByteArray) (frm:Nat) (P M R:Int) (h:(Mt.checkR p).1=0) (hT:t.size≤60) (hf:frm≤t.size) (o:Mt.Opt P M R 10000):NoMore (Mt.findR p t frm 0 0 0 10000) (Mt.findR p t frm P M R 10000):=by
 intro e1
 obtain ⟨A,hK⟩:=Mt.pattern_kn p h
 rw [Mt.findR_ok p t frm 0 0 0 10000 h hT hf ⟨by omega,by omega,by omega,by omega,by omega⟩] at e1 ⊢
 rw [Mt.findR_ok p t frm P M R 10000 h hT hf o]
 cases s1:(Mt.searchAll (Mt.codeR p).1 t 0 0 0 10000 frm).2
 ·obtain ⟨a,b,c,d⟩:=Mt.table_less hK t 0 0 P M R 10000 frm (by omega) (by unfold Mt.InR;have:=o.2.2.1;omega) s1
  rw [a]
  exact ⟨rfl,d⟩
 ·rw [s1] at e1;simp at e1
theorem find_room (p t:ByteArray) (frm:Nat) (P M R R':Int) (h:(Mt.checkR p).1=0) (hT:t.size≤60) (hf:frm≤t.size) (o:Mt.Opt P M R 10000) (o':Mt.Opt P M R' 10000) (hR:R≤R'):NoMore (Mt.findR p t frm P M R 10000) (Mt.findR p t frm P M R' 10000):=by
 intro e1
 obtain ⟨A,hK⟩:=Mt.pattern_kn p h
 rw [Mt.findR_ok p t frm P M R 10000 h hT hf o] at e1 ⊢
 rw [Mt.findR_ok p t frm P M R' 10000 h hT hf o']
 cases s1:(Mt.searchAll (Mt.codeR p).1 t P M R 10000 frm).2
 ·obtain ⟨a,d⟩:=Mt.room_less hK t P M R R' 10000 frm (by omega) (by unfold Mt.InR;have:=o.2.2.1;omega) (by unfold Mt.InR;have:=o'.2.2.1;omega) hR s1
  rw [a]
  exact ⟨rfl,d⟩
 ·rw [s1] at e1;simp at e1
theorem find_bounded (p t:ByteArray) (frm:Nat) (P M R b:Int) (h:(Mt.checkR p).1=0) (hT:t.size≤60) (hf:frm≤t.size) (o:Mt.Opt P M R 10000) (hb:0≤b∧b≤10000) :
  ((Mt.findR p t frm P M R 10000).2=14→Mt.findR p t frm P M R b=(Mt.fnd0,14))∧((Mt.findR p t frm P M R 10000).2=0→Mt.findR p t frm P M R b=if b<(Mt.findR p t frm P M R 10000).1.steps then (Mt.fnd0,14) else ((Mt.findR p t frm P M R 10000).1,0)):=by
 obtain ⟨A,hK⟩:=Mt.pattern_known p h
 have o':Mt.Opt P M R b:=⟨o.1,o.2.1,o.2.2.1,hb.1,hb.2⟩
 have hr:=o.2.2.1
 rw [Mt.findR_ok p t frm P M R 10000 h hT hf o,Mt.findR_ok p t frm P M R b h hT hf o']
 cases s1:(Mt.searchAll (Mt.codeR p).1 t P M R 10000 frm).2
 ·refine ⟨fun e=>by simp at e,fun _=>?_⟩
  simp only [Bool.false_eq_true,if_false]
  by_cases hs:b<(Mt.searchAll (Mt.codeR p).1 t P M R 10000 frm).1.steps
  ·rw [if_pos hs,Mt.budget_less hK.ok hK.pos hf (by omega) b hb s1 hs];rfl
  ·rw [if_neg hs,Mt.budget_same b hb s1 (by omega),s1];rfl
 ·refine ⟨fun _=>?_,fun e=>by simp at e⟩
  rw [Mt.budget_over b hb s1];rfl
theorem results_tmp3 {fn:Func} {t u v:Tmp} (h:fn.results=#[.tmp t,.tmp u,.tmp v]) (tmps:Array Value) (P:Program) (w:World) :
  (results fn tmps).run P w=.ok (.tuple #[tmps.getD t undef,tmps.getD u undef,tmps.getD v undef]) w:=by
 simp [results,h]
theorem byteAt_any (p:ByteArray) (i:Int) (w:World) (hp:p.size≤64) :
  Calls Tryd.prog 63 #[.string p,.int .i64 i] w fun e w'=>e=.returned (.int .i64 (Mt.atB p i))∧w=w':=by
 by_cases h0:i<0
 ·rw [Mt.atB_out p i (by omega)]
  go_enter Tryd.func63,Tryd.ntmps63
  go_wp2
  go_ret
  exact ⟨rfl,rfl⟩
 ·by_cases h1:(p.size:Int)≤i
  ·rw [Mt.atB_out p i (by omega)]
   go_enter Tryd.func63,Tryd.ntmps63
   go_wp2
   go_ret
   exact ⟨rfl,rfl⟩
  ·obtain ⟨k,rfl⟩:=Int.eq_ofNat_of_zero_le (show 0≤i by omega)
   have hk:k<p.size:=by omega
   rw [← atB_nat p k hk]
   go_enter Tryd.func63,Tryd.ntmps63
   go_wp2
   go_ret
   exact ⟨rfl,rfl⟩
theorem isDigit_any (c:Int) (w:World) :
  Calls Tryd.prog 92 #[.int .i64 c] w fun e w'=>e=.returned (.bool (Mt.digB c))∧w=w':=by
 by_cases a:48≤c
 ·by_cases b:c≤57
  ·rw [digB_t ⟨a,b⟩]
   go_enter Tryd.func92,Tryd.ntmps92
   go_wp2
   go_ret
   exact ⟨rfl,rfl⟩
  ·rw [digB_f (by omega)]
   go_enter Tryd.func92,Tryd.ntmps92
   go_wp2
   go_ret
   exact ⟨rfl,rfl⟩
 ·rw [digB_f (by omega)]
  go_enter Tryd.func92,Tryd.ntmps92
  go_wp2
  go_ret
  exact ⟨rfl,rfl⟩
theorem isLetter_any (c:Int) (w:World) :
  Calls Tryd.prog 94 #[.int .i64 c] w fun e w'=>e=.returned (.bool (Mt.letB c))∧w=w':=by
 rcases (show (c<65∧Mt.letB c=false)∨((65≤c∧c≤90)∧Mt.letB c=true)∨((90<c∧c<97)∧Mt.letB c=false)∨((97≤c∧c≤122)∧Mt.letB c=true)∨(122<c∧Mt.letB c=false) by
   simp only [Mt.letB,decide_eq_true_eq,decide_eq_false_iff_not];omega) with ⟨h,e⟩ | ⟨⟨h,h'⟩,e⟩ | ⟨⟨h,h'⟩,e⟩ | ⟨⟨h,h'⟩,e⟩ | ⟨h,e⟩
 all_goals
  rw [e];clear e
  go_enter Tryd.func94,Tryd.ntmps94
  go_wp2
  go_ret
  first | exact ⟨rfl,rfl⟩ | exact ⟨ret_bool (by simp;omega),rfl⟩
theorem isSetLetter_any (c:Int) (w:World) :
  Calls Tryd.prog 84 #[.int .i64 c] w fun e w'=>e=.returned (.bool (c==100||c==119))∧w=w':=by
 cases a:(c==100) <;> cases b:(c==119)
 all_goals
  go_enter Tryd.func84,Tryd.ntmps84
  go_wp2
  go_ret
  first | exact ⟨rfl,rfl⟩ | exact ⟨ret_bool (by simp_all),rfl⟩
def escB (c:Int):Bool:=c != -1&&!Mt.letB c&&!Mt.digB c
theorem canBeEscaped_any (c:Int) (w:World) :
  Calls Tryd.prog 86 #[.int .i64 c] w fun e w'=>e=.returned (.bool (escB c))∧w=w':=by
 unfold escB
 cases a:(c != -1) <;> cases b:Mt.letB c <;> cases d:Mt.digB c
 all_goals
  go_enter Tryd.func86,Tryd.ntmps86
  go_wp2_with (first | (go_at_call 94;refine (isLetter_any _ _).mono ?_;rintro e w' ⟨rfl,rfl⟩) | (go_at_call 92;refine (isDigit_any _ _).mono ?_;rintro e w' ⟨rfl,rfl⟩))
  all_goals
   go_ret
   first | exact ⟨rfl,rfl⟩ | exact ⟨ret_bool (by simp_all),rfl⟩
def setA (S:Mt.BSet):Array Value:=((List.range 256).map fun c=>Value.bool (S c)).toArray
theorem setA_size (S:Mt.BSet):(setA S).size=256:=by simp [setA]
theorem setA_get (S:Mt.BSet) (c:Nat) (h:c<256):(setA S)[c]?=some (.bool (S c)):=by
 unfold setA;rw [List.getElem?_toArray,List.getElem?_map,List.getElem?_range h];rfl
theorem setA_set (S T:Mt.BSet) (k:Nat) (b:Bool) (hk:k<256) (h:∀ c,T c=if c=k then b else S c):(setA S).setIfInBounds k (.bool b)=setA T:=by
 apply Array.ext
 ·simp [setA]
 ·intro i h1 h2
  simp only [Array.size_setIfInBounds,setA_size] at h1
  rw [Array.getElem_setIfInBounds (by rw [setA_size];exact h1)]
  simp only [setA,List.getElem_toArray,List.getElem_map,List.getElem_range]
  rw [h i]
  by_cases e:k=i
  ·rw [if_pos e,if_pos e.symm]
  ·rw [if_neg e,if_neg (Ne.symm e)]
theorem setA_same {S T:Mt.BSet} (h:Mt.sameB S T):setA S=setA T:=by
 unfold setA
 congr 1
 apply List.map_congr_left
 intro c hc
 rw [h c (by simpa using hc)]
def setAt (w:World) (g:Nat) (S:Mt.BSet):Prop:=w.heap[g]?=some (.cells (setA S) 138 (0,0))
structure Only (g:Nat) (w w':World):Prop where
 os:w'.os=w.os
 tape:w'.tape=w.tape
 output:w'.output=w.output
 size:w'.heap.size=w.heap.size
 block:∀ k,k≠g→w'.heap[k]?=w.heap[k]?
theorem Only.refl (g:Nat) (w:World):Only g w w:=⟨rfl,rfl,rfl,rfl,fun _ _=>rfl⟩
theorem Only.trans {g:Nat} {a b c:World} (h:Only g a b) (k:Only g b c):Only g a c :=
 ⟨k.os.trans h.os,k.tape.trans h.tape,k.output.trans h.output,k.size.trans h.size,fun i hi=>(k.block i hi).trans (h.block i hi)⟩
theorem Only.set {g:Nat} {a w:World} (h:Only g a w) (k:Nat) (u:Value):Only g a (w.setCell ⟨g,k,none⟩ u) :=
 h.trans ⟨rfl,rfl,rfl,by simp [World.setCell],fun i hi=>Below.heap_setCell _ _ _ _ hi⟩
theorem Only.below {g L:Nat} {a w:World} (h:Only g a w) (hl:L≤g):Below L a w :=
 ⟨h.os,h.tape,h.output,Nat.le_of_eq h.size.symm,fun i hi=>h.block i (by omega)⟩
theorem addRange_any (w:World) (g:Nat) (S:Mt.BSet) (a b:Int) (hS:setAt w g S) :
  Calls Tryd.prog 80 #[.pointer (some ⟨g,0,none⟩),.int .i64 a,.int .i64 b] w fun e w'=>e=.returned (.tuple #[])∧setAt w' g (Mt.addR S a b)∧Only g w w':=by
 have H0:Hid (setAt w g (Mt.addTo S a b 0)):=by show setAt _ _ _;rw [Mt.addTo_zero];exact hS
 clear hS
 go_enter Tryd.func80,Tryd.ntmps80
 go_wp2_with fail
 go_loopw [6] (fun i wr=>∃ k:Nat,k≤256∧i=.int .i64 k∧setAt wr g (Mt.addTo S a b k)∧Only g w wr) (fun i _=>256-(intOf i).toNat)
 case atStart=>exact ⟨0,by omega,rfl,H0.out,Only.refl _ _⟩
 case round =>
  obtain ⟨k,hk,rfl,hs,hO⟩:=hrel
  have HS:Hid (setAt wr g (Mt.addTo S a b k)):=hs
  have HO:Hid (Only g w wr):=hO
  by_cases hl:k<256
  ·have zz:wr.cell? ⟨g,k,none⟩=some (.bool (Mt.addTo S a b k k)):=by rw [(cell_block hs).1,setA_get _ _ hl]
   have z2:=(cell_block hs).2 k
   clear hs hO
   by_cases h1:a≤(k:Int)
   ·by_cases h2:(k:Int)≤b
    ·have HN:=Mt.addTo_hit S a b k ⟨h1,h2⟩
     have HN':Hid (Mt.addTo S a b (k+1)=fun c=>if c=k then true else Mt.addTo S a b k c):=HN
     clear HN
     go_wp2_with fail
     go_roundw
     case rel =>
      refine ⟨k+1,by omega,by go_num,?_,HO.out.set _ _⟩
      have:=Go.heap_setCell_same wr g k _ _ (.bool true) HS.out
      unfold setAt
      rw [setA_set (Mt.addTo S a b k) (Mt.addTo S a b (k+1)) k true hl (fun c=>by rw [HN'.out])] at this
      exact this
     case measure=>simp [intOf];omega
    ·have HN':Hid (Mt.addTo S a b (k+1)=Mt.addTo S a b k):=Mt.addTo_miss S a b k (by omega)
     go_wp2_with fail
     go_roundw
     case rel=>exact ⟨k+1,by omega,by go_num,by rw [HN'.out];exact HS.out,HO.out⟩
     case measure=>simp [intOf];omega
   ·have HN':Hid (Mt.addTo S a b (k+1)=Mt.addTo S a b k):=Mt.addTo_miss S a b k (by omega)
    go_wp2_with fail
    go_roundw
    case rel=>exact ⟨k+1,by omega,by go_num,by rw [HN'.out];exact HS.out,HO.out⟩
    case measure=>simp [intOf];omega
  ·have e:k=256:=by omega
   subst e
   clear hs hO
   go_wp2_with fail
   go_returns
   refine ⟨rfl,?_,HO.out⟩
   have:=HS.out
   unfold setAt at this ⊢
   rw [setA_same (Mt.addTo_end S a b)] at this
   exact this
theorem addLetter_any (w:World) (g:Nat) (S:Mt.BSet) (c:Int) (hS:setAt w g S) :
  Calls Tryd.prog 85 #[.pointer (some ⟨g,0,none⟩),.int .i64 c] w fun e w'=>e=.returned (.tuple #[])∧setAt w' g (Mt.addL S (decide (c=119)))∧Only g w w':=by
 have H0:Hid (setAt w g S):=hS
 clear hS
 cases hc:(c==119)
 ·have HL:Hid (Mt.addL S (decide (c=119))=Mt.addR S 48 57):=by
   show _=_;have:¬ c=119:=by simpa using hc
   simp [Mt.addL,this]
  go_enter Tryd.func85,Tryd.ntmps85
  go_wp2_with fail
  refine (addRange_any w g S 48 57 H0.out).mono ?_
  rintro e w1 ⟨rfl,s1,o1⟩
  have H1:Hid (setAt w1 g (Mt.addR S 48 57)∧Only g w w1):=⟨s1,o1⟩
  clear s1 o1
  go_wp2_with fail
  go_returns
  exact ⟨rfl,by rw [HL.out];exact H1.out.1,H1.out.2⟩
 ·have HL:Hid (Mt.addL S (decide (c=119))=Mt.addR (Mt.addR (Mt.addR (Mt.addR S 48 57) 65 90) 95 95) 97 122):=by
   show _=_;have:c=119:=by simpa using hc
   simp [Mt.addL,this]
  go_enter Tryd.func85,Tryd.ntmps85
  go_wp2_with fail
  refine (addRange_any w g S 48 57 H0.out).mono ?_
  rintro e w1 ⟨rfl,s1,o1⟩
  have H1:Hid (setAt w1 g (Mt.addR S 48 57)∧Only g w w1):=⟨s1,o1⟩
  clear s1 o1
  go_wp2_with fail
  refine (addRange_any w1 g _ 65 90 H1.out.1).mono ?_
  rintro e w2 ⟨rfl,s1,o1⟩
  have H2:Hid (setAt w2 g (Mt.addR (Mt.addR S 48 57) 65 90)∧Only g w w2):=⟨s1,H1.out.2.trans o1⟩
  clear s1 o1 H1
  go_wp2_with fail
  refine (addRange_any w2 g _ 95 95 H2.out.1).mono ?_
  rintro e w3 ⟨rfl,s1,o1⟩
  have H3:Hid (setAt w3 g (Mt.addR (Mt.addR (Mt.addR S 48 57) 65 90) 95 95)∧Only g w w3):=⟨s1,H2.out.2.trans o1⟩
  clear s1 o1 H2
  go_wp2_with fail
  refine (addRange_any w3 g _ 97 122 H3.out.1).mono ?_
  rintro e w4 ⟨rfl,s1,o1⟩
  have H4:Hid (setAt w4 g (Mt.addR (Mt.addR (Mt.addR (Mt.addR S 48 57) 65 90) 95 95) 97 122)∧Only g w w4):=⟨s1,H3.out.2.trans o1⟩
  clear s1 o1 H3
  go_wp2_with fail
  go_returns
  exact ⟨rfl,by rw [HL.out];exact H4.out.1,H4.out.2⟩
theorem text_any (w:World) (g:Nat) (S:Mt.BSet) (hS:setAt w g S) :
  Calls Tryd.prog 81 #[.pointer (some ⟨g,0,none⟩)] w fun e w'=>e=.returned (.string ⟨(Mt.setTo S 256).toArray⟩)∧Below w.heap.size w w':=by
 obtain ⟨i0,hi,hz0,hz1,hz2⟩:=info_parts Tryd.info5
 have H0:Hid (setAt w g S):=hS
 have hg:g<w.heap.size:=(Array.getElem?_eq_some_iff.1 hS).1
 clear hS
 go_enter Tryd.func81,Tryd.ntmps81
 go_wp2_with fail
 go_loopw [3,4] (fun v i wr=>∃ k:Nat,k≤256∧i=.int .i64 k∧wr.ownsRow w.heap.size 5 1 v (Mt.setTo S k).length (bcells (Mt.setTo S k))∧Below w.heap.size w wr) (fun _ i _=>256-(intOf i).toNat)
 case atStart=>exact ⟨0,by omega,rfl,World.ownsRow_nil _ _ _ _,Below.refl _ _⟩
 case round =>
  obtain ⟨k,hk,rfl,hown,hbel⟩:=hrel
  have hl:=Mt.setTo_len S k
  have hsz:=hbel.size
  by_cases hlt:k<256
  ·have zz:wr.cell? ⟨g,k,none⟩=some (.bool (S k)):=by
    rw [hbel.cell (p:=⟨g,k,none⟩) hg,(cell_block H0.out).1,setA_get _ _ hlt]
   cases hq:S k
   ·rw [hq] at zz
    have H1:Hid (wr.ownsRow w.heap.size 5 1 u3 (Mt.setTo S (k+1)).length (bcells (Mt.setTo S (k+1)))):=by rw [Mt.setTo_miss hq];exact hown
    go_wp2_with fail
    go_roundw
    case rel=>exact ⟨k+1,by omega,by go_num,H1.out,hbel⟩
    case measure=>simp [intOf];omega
   ·rw [hq] at zz
    have H1:Hid (bcells (Mt.setTo S (k+1))=bcells (Mt.setTo S k)++[.int .u8 (k:Int)]∧(Mt.setTo S (k+1)).length=(Mt.setTo S k).length+1):=by
     rw [Mt.setTo_hit hq]
     refine ⟨?_,by simp⟩
     simp only [bcells,List.map_append,List.map_cons,List.map_nil]
     have:(UInt8.ofNat k).toNat=k:=by simp;omega
     rw [this]
    go_wp2_with (first | (at_builtin;refine wpList_append_own _ rfl _ _ 85 rfl w.heap.size 5 i0 (.int .u8 0) 1 1 Tryd.underlying85 hi hz0 hz1 hz2 rfl (by decide) _ _ _ rfl (hown.alloc _) ⟨wr.heap.size,0,none⟩ 1 1 [.int .u8 (k:Int)] rfl rfl ?c1 ?c2 ?c3 ?c4 ?c5 ?_))
    case c1 =>
     intro j u hj
     match j,hj with
     | 0,hj=>simp at hj;subst hj;simp [Addr.add]
    case c2=>intro u hu;simp at hu;subst hu;rfl
    case c3=>unfold maxLen;omega
    case c4=>omega
    case c5=>simp;omega
    ·intro v' w1 hown' hgrow _
     have R1:Hid (w1.ownsRow w.heap.size 5 1 v' (Mt.setTo S (k+1)).length (bcells (Mt.setTo S (k+1)))):=by
      show World.ownsRow _ _ _ _ _ _ _
      rw [H1.out.1,H1.out.2];exact hown'
     have R2:Hid (Below w.heap.size w w1):=(hbel.alloc hsz _).grown hgrow (by simp;omega) (fun q hq'=>(hown.lt q hq').1)
     clear hown' hgrow
     go_wp2_with fail
     go_roundw
     case rel=>exact ⟨k+1,by omega,by go_num,R1.out,R2.out⟩
     case measure=>simp [intOf];omega
  ·have e:k=256:=by omega
   subst e
   have hcv:=conv_owned wr w.heap.size u3 (Mt.setTo S 256) hown
   go_wp2_with fail
   go_returns
   exact ⟨rfl,hbel⟩
end Go.Proofs.YtebpgfodelggoaaDoor
