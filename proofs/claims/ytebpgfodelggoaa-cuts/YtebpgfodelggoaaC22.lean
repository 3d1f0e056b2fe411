import Derived.Test.YtebpgfodelggoaaC08
import Derived.Test.YtebpgfodelggoaaC21
import Derived.Laws.IdiomStrings
import Derived.Test.YtebpgfodelggoaaC16
set_option linter.unusedVariables false
set_option linter.unusedSimpArgs false
set_option maxRecDepth 100000
set_option maxHeartbeats 4000000
namespace Go.Proofs.Ytebpgfodelggoaa
open Go.RowKit
theorem quoteL_app:∀ a b:List UInt8,Mt.quoteL (a++b)=Mt.quoteL a++Mt.quoteL b
 | [],b=>rfl
 | c::a,b=>by
  simp only [List.cons_append,Mt.quoteL,quoteL_app a b]
  split <;> simp
theorem quote_next (l:List UInt8) (k:Nat) (h:k<l.length):Mt.quoteL (l.take (k+1))=Mt.quoteL (l.take k)++if Mt.wordC l[k] then [l[k]] else [92,l[k]]:=by
 rw [List.take_succ_eq_append_getElem h,quoteL_app]
 simp [Mt.quoteL]
theorem bcells_app (a b:List UInt8):bcells (a++b)=bcells a++bcells b:=by simp [bcells]
theorem quote_any (p:ByteArray) (w:World) (hp:p.size≤1000) :
  Calls Try.prog 14 #[.string p] w fun e w'=>e=.returned (.string ⟨(Mt.quoteL p.data.toList).toArray⟩)∧Below w.heap.size w w':=by
 obtain ⟨i0,hi,hz0,hz1,hz2⟩:=info_parts Try.info5
 obtain ⟨l,hl⟩:∃ l,l=p.data.toList:=⟨_,rfl⟩
 have hlp:l.length=p.size:=by rw [hl];simp
 have hq:=Mt.quoteL_len l
 rw [← hl]
 have HL:Hid (l=p.data.toList):=hl
 clear hl
 go_enter Try.func14,Try.ntmps14
 go_wp2_with fail
 go_loopw [3,4] (fun v i wr=>∃ k:Nat,k≤p.size∧i=.int .i64 k∧wr.ownsRow w.heap.size 5 1 v (Mt.quoteL (l.take k)).length (bcells (Mt.quoteL (l.take k)))∧Below w.heap.size w wr) (fun _ i _=>p.size-(intOf i).toNat)
 case atStart=>exact ⟨0,by omega,rfl,World.ownsRow_nil _ _ _ _,Below.refl _ _⟩
 case round =>
  obtain ⟨k,hk,rfl,hown,hbel⟩:=hrel
  have hl2:=Mt.quoteL_len (l.take k)
  have hl3:(l.take k).length≤k:=List.length_take_le _ _
  have hsz:=hbel.size
  by_cases hlt:k<p.size
  ·have hn:=quote_next l k (by omega)
   have hx:l[k]'(by omega)=p[k]'hlt:=by have:=HL.out;subst this;rfl
   rw [hx] at hn
   have hlt':(k:Int)<(p.size:Int):=by omega
   obtain ⟨c,hc⟩:∃ c,c=p[k]'hlt:=⟨_,rfl⟩
   rw [← hc] at hn
   have hb:=c.toNat_lt
   have HN:Hid (Mt.quoteL (l.take (k+1))=Mt.quoteL (l.take k)++if Mt.wordC c then [c] else [92,c]):=hn
   clear hn hx
   cases hw:Mt.wordC c
   ·have e3:Mt.digB (c.toNat:Int)=false∧Mt.letB (c.toNat:Int)=false:=by simpa [Mt.wordC] using hw
    unfold Mt.digB Mt.letB at e3
    rw [decide_eq_false_iff_not,decide_eq_false_iff_not] at e3
    have HX:Hid (bcells (Mt.quoteL (l.take (k+1)))=bcells (Mt.quoteL (l.take k))++[.int .u8 92]++[.int .u8 (c.toNat:Int)]∧(Mt.quoteL (l.take (k+1))).length=(Mt.quoteL (l.take k)).length+1+1):=by
     have:=HN.out
     rw [hw,if_neg (by simp)] at this
     exact ⟨by rw [this,bcells_app];simp [bcells],by rw [this];simp⟩
    clear HN hw hq
    have e4:(c.toNat:Int)<48∨(57<(c.toNat:Int)∧(c.toNat:Int)<65)∨(90<(c.toNat:Int)∧(c.toNat:Int)<97)∨122<(c.toNat:Int):=by omega
    clear e3
    rcases e4 with e4 | e4 | e4 | e4
    all_goals (
     first | (have d1:decide ((48:Int)≤(c.toNat:Int))=true:=by rw [decide_eq_true_eq];omega) | (have d1:decide ((48:Int)≤(c.toNat:Int))=false:=by rw [decide_eq_false_iff_not];omega)
     first | (have d2:decide ((c.toNat:Int)≤57)=true:=by rw [decide_eq_true_eq];omega) | (have d2:decide ((c.toNat:Int)≤57)=false:=by rw [decide_eq_false_iff_not];omega)
     first | (have d3:decide ((97:Int)≤(c.toNat:Int))=true:=by rw [decide_eq_true_eq];omega) | (have d3:decide ((97:Int)≤(c.toNat:Int))=false:=by rw [decide_eq_false_iff_not];omega)
     first | (have d4:decide ((c.toNat:Int)≤122)=true:=by rw [decide_eq_true_eq];omega) | (have d4:decide ((c.toNat:Int)≤122)=false:=by rw [decide_eq_false_iff_not];omega)
     first | (have d5:decide ((65:Int)≤(c.toNat:Int))=true:=by rw [decide_eq_true_eq];omega) | (have d5:decide ((65:Int)≤(c.toNat:Int))=false:=by rw [decide_eq_false_iff_not];omega)
     first | (have d6:decide ((c.toNat:Int)≤90)=true:=by rw [decide_eq_true_eq];omega) | (have d6:decide ((c.toNat:Int)≤90)=false:=by rw [decide_eq_false_iff_not];omega)
     rw [hc] at d1 d2 d3 d4 d5 d6
     clear e4
     go_wp2_with (at_builtin;refine wpList_append_own _ rfl _ _ 66 rfl w.heap.size 5 i0 (.int .u8 0) 1 1 Try.underlying66 hi hz0 hz1 hz2 rfl (by decide) _ _ _ rfl (hown.alloc _) ⟨wr.heap.size,0,none⟩ 1 1 [.int .u8 92] rfl rfl ?c1 ?c2 ?c3 ?c4 ?c5 ?_)
     case c1 =>
      intro j u hj
      match j,hj with
      | 0,hj=>simp at hj;subst hj;simp [Addr.add]
     case c2=>intro u hu;simp at hu;subst hu;rfl
     case c3=>unfold maxLen;omega
     case c4=>omega
     case c5=>simp;omega
     intro v1 w1 hown1 hgrow1 _
     have B1:Below w.heap.size w w1:=(hbel.alloc hsz _).grown hgrow1 (by simp;omega) (fun q hq'=>(hown.lt q hq').1)
     have hsz1:=B1.size
     clear hgrow1 hown
     go_wp2_with (at_builtin;refine wpList_append_own _ rfl _ _ 66 rfl w.heap.size 5 i0 (.int .u8 0) 1 1 Try.underlying66 hi hz0 hz1 hz2 rfl (by decide) _ _ _ rfl (hown1.alloc _) ⟨w1.heap.size,0,none⟩ 1 1 [.int .u8 ((p[k]'hlt).toNat:Int)] rfl rfl ?c1 ?c2 ?c3 ?c4 ?c5 ?_)
     case c1 =>
      intro j u hj
      match j,hj with
      | 0,hj=>simp at hj;subst hj;simp [Addr.add]
     case c2=>intro u hu;simp at hu;subst hu;rfl
     case c3=>unfold maxLen;omega
     case c4=>omega
     case c5=>simp;omega
     intro v' w2 hown' hgrow _
     have R1:Hid (w2.ownsRow w.heap.size 5 1 v' (Mt.quoteL (l.take (k+1))).length (bcells (Mt.quoteL (l.take (k+1))))):=by
      show w2.ownsRow _ _ _ _ _ _
      rw [HX.out.1,HX.out.2,hc,List.append_assoc];exact hown'
     have R2:Below w.heap.size w w2:=(B1.alloc hsz1 _).grown hgrow (by simp;omega) (fun q hq'=>(hown1.lt q hq').1)
     clear hown' hgrow hown1
     go_wp2
     go_roundw
     case rel=>exact ⟨k+1,by omega,by go_num,R1.out,R2⟩
     case measure=>simp [intOf];omega)
   ·have e3:Mt.digB (c.toNat:Int)=true∨Mt.letB (c.toNat:Int)=true:=by simpa [Mt.wordC] using hw
    unfold Mt.digB Mt.letB at e3
    rw [decide_eq_true_eq,decide_eq_true_eq] at e3
    have HX:Hid (bcells (Mt.quoteL (l.take (k+1)))=bcells (Mt.quoteL (l.take k))++[.int .u8 (c.toNat:Int)]∧(Mt.quoteL (l.take (k+1))).length=(Mt.quoteL (l.take k)).length+1):=by
     have:=HN.out
     rw [hw,if_pos rfl] at this
     exact ⟨by rw [this,bcells_app];rfl,by rw [this];simp⟩
    clear HN hw hq
    have e4:(48≤(c.toNat:Int)∧(c.toNat:Int)≤57)∨(97≤(c.toNat:Int)∧(c.toNat:Int)≤122)∨(65≤(c.toNat:Int)∧(c.toNat:Int)≤90):=e3
    clear e3
    rcases e4 with e4 | e4 | e4
    all_goals (
     first | (have d1:decide ((48:Int)≤(c.toNat:Int))=true:=by rw [decide_eq_true_eq];omega) | (have d1:decide ((48:Int)≤(c.toNat:Int))=false:=by rw [decide_eq_false_iff_not];omega)
     first | (have d2:decide ((c.toNat:Int)≤57)=true:=by rw [decide_eq_true_eq];omega) | (have d2:decide ((c.toNat:Int)≤57)=false:=by rw [decide_eq_false_iff_not];omega)
     first | (have d3:decide ((97:Int)≤(c.toNat:Int))=true:=by rw [decide_eq_true_eq];omega) | (have d3:decide ((97:Int)≤(c.toNat:Int))=false:=by rw [decide_eq_false_iff_not];omega)
     first | (have d4:decide ((c.toNat:Int)≤122)=true:=by rw [decide_eq_true_eq];omega) | (have d4:decide ((c.toNat:Int)≤122)=false:=by rw [decide_eq_false_iff_not];omega)
     first | (have d5:decide ((65:Int)≤(c.toNat:Int))=true:=by rw [decide_eq_true_eq];omega) | (have d5:decide ((65:Int)≤(c.toNat:Int))=false:=by rw [decide_eq_false_iff_not];omega)
     first | (have d6:decide ((c.toNat:Int)≤90)=true:=by rw [decide_eq_true_eq];omega) | (have d6:decide ((c.toNat:Int)≤90)=false:=by rw [decide_eq_false_iff_not];omega)
     rw [hc] at d1 d2 d3 d4 d5 d6
     clear e4
     go_wp2_with (at_builtin;refine wpList_append_own _ rfl _ _ 66 rfl w.heap.size 5 i0 (.int .u8 0) 1 1 Try.underlying66 hi hz0 hz1 hz2 rfl (by decide) _ _ _ rfl (hown.alloc _) ⟨wr.heap.size,0,none⟩ 1 1 [.int .u8 ((p[k]'hlt).toNat:Int)] rfl rfl ?c1 ?c2 ?c3 ?c4 ?c5 ?_)
     case c1 =>
      intro j u hj
      match j,hj with
      | 0,hj=>simp at hj;subst hj;simp [Addr.add]
     case c2=>intro u hu;simp at hu;subst hu;rfl
     case c3=>unfold maxLen;omega
     case c4=>omega
     case c5=>simp;omega
     ·intro v' w1 hown' hgrow _
      have R1:Hid (w1.ownsRow w.heap.size 5 1 v' (Mt.quoteL (l.take (k+1))).length (bcells (Mt.quoteL (l.take (k+1))))):=by
       show w1.ownsRow _ _ _ _ _ _
       rw [HX.out.1,HX.out.2,hc];exact hown'
      have R2:Below w.heap.size w w1:=(hbel.alloc hsz _).grown hgrow (by simp;omega) (fun q hq'=>(hown.lt q hq').1)
      clear hown' hgrow hown
      go_wp2
      go_roundw
      case rel=>exact ⟨k+1,by omega,by go_num,R1.out,R2⟩
      case measure=>simp [intOf];omega)
  ·have hk2:k=p.size:=by omega
   subst hk2
   rw [← hlp,List.take_length] at hown
   have hcv:=conv_owned wr w.heap.size _ _ hown
   have hlt':¬ (p.size:Int)<(p.size:Int):=by omega
   go_wp2_with fail
   go_ret
   exact ⟨rfl,hbel⟩
def startsB (t:ByteArray) (i:Nat) (q:ByteArray):Bool:=decide (i+q.size≤t.size)&&((t.extract i (i+q.size)).toList==q.toList)
theorem starts_any (t q:ByteArray) (i:Nat) (w:World) (ht:t.size≤60) (hq:q.size≤1000) (hi:i≤1000):Calls Try.prog 33 #[.string t,.int .i64 (i:Int),.string q] w fun e w'=>e=.returned (.bool (startsB t i q))∧w'=w:=by
 unfold startsB
 by_cases h:i+q.size≤t.size
 ·have d1:decide ((0:Int)≤(i:Int))=true:=by simp
  have d2:decide ((i:Int)+(q.size:Int)≤(t.size:Int))=true:=by rw [decide_eq_true_eq];omega
  have d3:decide (i+q.size≤t.size)=true:=by rw [decide_eq_true_eq];omega
  rw [d3]
  go_enter Try.func33,Try.ntmps33
  go_wp2_with fail
  go_ret
  exact ⟨rfl,rfl⟩
 ·have d1:decide ((0:Int)≤(i:Int))=true:=by simp
  have d2:decide ((i:Int)+(q.size:Int)≤(t.size:Int))=false:=by rw [decide_eq_false_iff_not];omega
  have d3:decide (i+q.size≤t.size)=false:=by rw [decide_eq_false_iff_not];omega
  rw [d3]
  go_enter Try.func33,Try.ntmps33
  go_wp2_with fail
  go_ret
  exact ⟨rfl,rfl⟩
def firstIn (t:ByteArray) (i:Nat):List ByteArray→Nat→Int
 | [],_=>-1
 | q::r,k=>if startsB t i q then (k:Int) else firstIn t i r (k+1)
theorem first_any (t:ByteArray) (i:Nat) (L:List ByteArray) (g cap:Nat) (w:World) (ht:t.size≤60) (hi:i≤1000) (hL:L.length≤10) (hq:∀ q∈L,q.size≤1000)
  (hc:∀ k q,L[k]?=some q→w.cell? ⟨g,k,none⟩=some (.string q)) :
  Calls Try.prog 17 #[.string t,.int .i64 (i:Int),.slice (some ⟨g,0,none⟩) L.length cap] w fun e w'=>e=.returned (.int .i64 (firstIn t i L 0))∧w'=w:=by
 have HC:Hid (∀ k q,L[k]?=some q→w.cell? ⟨g,k,none⟩=some (.string q)):=hc
 have HQ:Hid (∀ q∈L,q.size≤1000):=hq
 clear hc hq
 go_enter Try.func17,Try.ntmps17
 go_wp2_with fail
 go_loopw [7] (fun v wr=>∃ k:Nat,k≤L.length∧v=.int .i64 k∧wr=w∧Hid (firstIn t i (L.drop k) k=firstIn t i L 0)) (fun v _=>L.length-(intOf v).toNat)
 case atStart=>exact ⟨0,by omega,rfl,rfl,rfl⟩
 case round =>
  obtain ⟨k,hk,rfl,rfl,HF⟩:=hrel
  by_cases hlt:k<L.length
  ·have e:=List.getElem?_eq_getElem hlt
   have c0:=HC.out k _ e
   have hm:=HQ.out _ (List.getElem_mem hlt)
   have hd:L.drop k=L[k]::L.drop (k+1):=List.drop_eq_getElem_cons hlt
   have hx:=HF.out
   rw [hd] at hx
   generalize L[k]=q at *
   have hlt':(k:Int)<(L.length:Int):=by omega
   have HX:Hid ((if startsB t i q then (k:Int) else firstIn t i (L.drop (k+1)) (k+1))=firstIn t i L 0):=hx
   clear hx hd e HF
   have KS:Hid (∀ z:World,Calls Try.prog 33 #[.string t,.int .i64 (i:Int),.string q] z fun e w'=>e=.returned (.bool (startsB t i q))∧w'=z):=fun z=>starts_any t q i z ht hm hi
   clear hm
   generalize hs:startsB t i q=b at *
   cases b
   ·go_wp2_with (go_at_call 33;refine (KS.out _).mono ?_;rintro e w' ⟨rfl,rfl⟩)
    go_roundw
    case rel=>exact ⟨k+1,by omega,by go_num,trivial,by have:=HX.out;simp only [Bool.false_eq_true,if_false] at this;exact this⟩
    case measure=>simp [intOf];omega
   ·go_wp2_with (go_at_call 33;refine (KS.out _).mono ?_;rintro e w' ⟨rfl,rfl⟩)
    go_ret
    have:=HX.out
    rw [if_pos (by simp)] at this
    exact ⟨by rw [← this];rfl,rfl⟩
  ·have hlt':¬ (k:Int)<(L.length:Int):=by omega
   go_wp2_with fail
   go_ret
   have:=HF.out
   rw [List.drop_eq_nil_of_le (by omega)] at this
   exact ⟨by rw [← this];rfl,rfl⟩
structure Shown (f:Mt.Fnd) (a b:Int):Prop where
 len:f.at'.length=20
 s1:1≤f.steps
 s2:f.steps≤10000
 ok:f.ok=decide (0≤a)
 a0:f.at'.getD 0 0=if a<0 then -1 else a
 b0:f.at'.getD 1 0=if a<0 then -1 else b
theorem shown_true (f:Mt.Fnd) (a b:Int) (h:Shown f a b) (w:World) :
  Calls Try.prog 18 #[.agg (fpA f),.int .i64 0,.int .i64 a,.int .i64 b] w fun e w'=>e=.returned (.bool true)∧Below w.heap.size w w':=by
 obtain ⟨z,hz⟩:∃ z,z=w.alloc (.cells (fpA f) 39):=⟨_,rfl⟩
 have q1:z.heap[w.heap.size]?=some (.cells (fpA f) 39 (0,0)):=by rw [hz];exact heap_b1 _ _
 have HB:Hid (Below w.heap.size w z):=by rw [hz];exact (Below.refl _ _).alloc (Nat.le_refl _) _
 have l1:w.heap.size<z.heap.size:=by rw [hz];simp
 have c0:z.cell? ⟨w.heap.size,0,none⟩=some (.bool f.ok):=((cell_block q1).1 _).trans (fpA_ok _)
 have c21:z.cell? ⟨w.heap.size,21,none⟩=some (.int .i64 f.steps):=((cell_block q1).1 _).trans (fpA_steps _ h.len)
 have c1:z.cell? ⟨w.heap.size,1,none⟩=some (.int .i64 (f.at'.getD 0 0)):=((cell_block q1).1 _).trans (fpA_get f h.len 0 (by omega))
 have c2:z.cell? ⟨w.heap.size,2,none⟩=some (.int .i64 (f.at'.getD 1 0)):=((cell_block q1).1 _).trans (fpA_get f h.len 1 (by omega))
 have s1:=h.s1
 have s2:=h.s2
 rw [h.ok] at c0
 rw [h.a0] at c1
 rw [h.b0] at c2
 have d1:decide (f.steps<1)=false:=by rw [decide_eq_false_iff_not];omega
 have d2:decide (10000<f.steps)=false:=by rw [decide_eq_false_iff_not];omega
 clear h q1 s1 s2
 go_enter Try.func18,Try.ntmps18
 go_upto_region 1 with fail
 show Code.wp _ _ _ _ (w.alloc (.cells (fpA f) 39))
 rw [← hz]
 clear hz
 generalize f.steps=S at *
 generalize hn:w.heap.size=n at *
 by_cases ha:a<0
 ·rw [if_pos ha] at c1 c2
  have m1:decide (a<0)=true:=by rw [decide_eq_true_eq];exact ha
  have m2:decide (0≤a)=false:=by rw [decide_eq_false_iff_not];omega
  rw [m2] at c0
  clear ha
  go_wp2_with fail
  go_ret
  exact ⟨rfl,by rw [hn];exact HB.out⟩
 ·rw [if_neg ha] at c1 c2
  have m1:decide (a<0)=false:=by rw [decide_eq_false_iff_not];exact ha
  have m2:decide (0≤a)=true:=by rw [decide_eq_true_eq];omega
  have m3:(a==a)=true:=by simp
  have m4:(b==b)=true:=by simp
  rw [m2] at c0
  clear ha
  go_wp2_with fail
  go_ret
  exact ⟨rfl,by rw [hn];exact HB.out⟩
def Without (f:Mt.Fnd) (k:Nat):Prop:=f.at'.length=20∧∀ i,1≤i→i<10→i≠k→f.at'.getD (2*i) 0=-1∧f.at'.getD (2*i+1) 0=-1
theorem without_true (f:Mt.Fnd) (g:Nat) (h:Without f g) (w:World) :
  Calls Try.prog 19 #[.agg (fpA f),.int .i64 (g:Int)] w fun e w'=>e=.returned (.bool true)∧Below w.heap.size w w':=by
 obtain ⟨z,hz⟩:∃ z,z=w.alloc (.cells (fpA f) 39):=⟨_,rfl⟩
 have q1:z.heap[w.heap.size]?=some (.cells (fpA f) 39 (0,0)):=by rw [hz];exact heap_b1 _ _
 have HB:Hid (Below w.heap.size w z):=by rw [hz];exact (Below.refl _ _).alloc (Nat.le_refl _) _
 have l1:w.heap.size<z.heap.size:=by rw [hz];simp
 have HC:Hid (∀ i,1≤i→i<10→i≠g→z.cell? ⟨w.heap.size,1+2*i,none⟩=some (.int .i64 (-1))∧z.cell? ⟨w.heap.size,1+(2*i+1),none⟩=some (.int .i64 (-1))):=fun i h1 h2 h3=>by
  have:=h.2 i h1 h2 h3
  exact ⟨((cell_block q1).1 _).trans ((fpA_get f h.1 (2*i) (by omega)).trans (by rw [this.1])),((cell_block q1).1 _).trans ((fpA_get f h.1 (2*i+1) (by omega)).trans (by rw [this.2]))⟩
 clear h q1
 go_enter Try.func19,Try.ntmps19
 go_upto_region 1 with fail
 show Code.wp _ _ _ _ (w.alloc (.cells (fpA f) 39))
 rw [← hz]
 clear hz
 generalize hn:w.heap.size=n at *
 go_wp2_with fail
 go_loopw [5] (fun i wr=>∃ k:Nat,1≤k∧k≤10∧i=.int .i64 k∧wr=z) (fun i _=>10-(intOf i).toNat)
 case atStart=>exact ⟨1,Nat.le_refl _,by omega,rfl,rfl⟩
 case round =>
  obtain ⟨k,hk1,hk,rfl,rfl⟩:=hrel
  by_cases hlt:k<10
  ·have i1:(k:Int)<10:=by omega
   have i2:(2:Int)*(k:Int)<20:=by omega
   have i3:(2:Int)*(k:Int)+1<20:=by omega
   by_cases hg:k=g
   ·subst hg
    have m1:((k:Int) != (k:Int))=false:=by simp
    go_wp2_with fail
    go_roundw
    case rel=>exact ⟨k+1,by omega,by omega,by go_num,trivial⟩
    case measure=>simp [intOf];omega
   ·obtain ⟨a0,b0⟩:=HC.out k hk1 hlt hg
    have m1:((k:Int) != (g:Int))=true:=by rw [bne_iff_ne];omega
    clear hg
    go_wp2_with fail
    go_roundw
    case rel=>exact ⟨k+1,by omega,by omega,by go_num,trivial⟩
    case measure=>simp [intOf];omega
  ·go_wp2_with fail
   go_ret
   exact ⟨rfl,by rw [hn];exact HB.out⟩
end Go.Proofs.Ytebpgfodelggoaa
