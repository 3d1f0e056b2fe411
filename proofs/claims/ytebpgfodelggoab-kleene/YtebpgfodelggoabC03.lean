import Derived.Test.YtebpgfodelggoabC01
import Derived.Test.YtebpgfodelggoabC02
import Derived.Laws.ResultCell
import Derived.Deep.RegionHeld3
set_option linter.unusedVariables false
set_option linter.unusedSimpArgs false
set_option maxRecDepth 100000
set_option maxHeartbeats 1000000
namespace Go.Proofs.Ytebpgfodelggoab
open Go.RowKit
theorem results_tmp3 {fn:Func} {t u v:Tmp} (h:fn.results=#[.tmp t,.tmp u,.tmp v]) (tmps:Array Value) (P:Program) (w:World) :
  (results fn tmps).run P w=.ok (.tuple #[tmps.getD t undef,tmps.getD u undef,tmps.getD v undef]) w:=by
 simp [results,h]
theorem byteAt_any (p:ByteArray) (i:Int) (w:World) (hp:p.size≤64) :
  Calls Try.prog 73 #[.string p,.int .i64 i] w fun e w'=>e=.returned (.int .i64 (Mt.atB p i))∧w=w':=by
 by_cases h0:i<0
 ·rw [Mt.atB_out p i (by omega)]
  go_enter Try.func73,Try.ntmps73
  go_wp2
  go_ret
  exact ⟨rfl,rfl⟩
 ·by_cases h1:(p.size:Int)≤i
  ·rw [Mt.atB_out p i (by omega)]
   go_enter Try.func73,Try.ntmps73
   go_wp2
   go_ret
   exact ⟨rfl,rfl⟩
  ·obtain ⟨k,rfl⟩:=Int.eq_ofNat_of_zero_le (show 0≤i by omega)
   have hk:k<p.size:=by omega
   rw [← atB_nat p k hk]
   go_enter Try.func73,Try.ntmps73
   go_wp2
   go_ret
   exact ⟨rfl,rfl⟩
theorem isDigit_any (c:Int) (w:World) :
  Calls Try.prog 105 #[.int .i64 c] w fun e w'=>e=.returned (.bool (Mt.digB c))∧w=w':=by
 by_cases a:48≤c
 ·by_cases b:c≤57
  ·rw [digB_t ⟨a,b⟩]
   go_enter Try.func105,Try.ntmps105
   go_wp2
   go_ret
   exact ⟨rfl,rfl⟩
  ·rw [digB_f (by omega)]
   go_enter Try.func105,Try.ntmps105
   go_wp2
   go_ret
   exact ⟨rfl,rfl⟩
 ·rw [digB_f (by omega)]
  go_enter Try.func105,Try.ntmps105
  go_wp2
  go_ret
  exact ⟨rfl,rfl⟩
theorem isLetter_any (c:Int) (w:World) :
  Calls Try.prog 107 #[.int .i64 c] w fun e w'=>e=.returned (.bool (Mt.letB c))∧w=w':=by
 rcases (show (c<65∧Mt.letB c=false)∨((65≤c∧c≤90)∧Mt.letB c=true)∨((90<c∧c<97)∧Mt.letB c=false)∨((97≤c∧c≤122)∧Mt.letB c=true)∨(122<c∧Mt.letB c=false) by
   simp only [Mt.letB,decide_eq_true_eq,decide_eq_false_iff_not];omega) with ⟨h,e⟩ | ⟨⟨h,h'⟩,e⟩ | ⟨⟨h,h'⟩,e⟩ | ⟨⟨h,h'⟩,e⟩ | ⟨h,e⟩
 all_goals
  rw [e];clear e
  go_enter Try.func107,Try.ntmps107
  go_wp2
  go_ret
  first | exact ⟨rfl,rfl⟩ | exact ⟨ret_bool (by simp;omega),rfl⟩
theorem isSetLetter_any (c:Int) (w:World) :
  Calls Try.prog 97 #[.int .i64 c] w fun e w'=>e=.returned (.bool (c==100||c==119))∧w=w':=by
 cases a:(c==100) <;> cases b:(c==119)
 all_goals
  go_enter Try.func97,Try.ntmps97
  go_wp2
  go_ret
  first | exact ⟨rfl,rfl⟩ | exact ⟨ret_bool (by simp_all),rfl⟩
def escB (c:Int):Bool:=c != -1&&!Mt.letB c&&!Mt.digB c
theorem canBeEscaped_any (c:Int) (w:World) :
  Calls Try.prog 99 #[.int .i64 c] w fun e w'=>e=.returned (.bool (escB c))∧w=w':=by
 unfold escB
 cases a:(c != -1) <;> cases b:Mt.letB c <;> cases d:Mt.digB c
 all_goals
  go_enter Try.func99,Try.ntmps99
  go_wp2_with (first | (go_at_call 107;refine (isLetter_any _ _).mono ?_;rintro e w' ⟨rfl,rfl⟩) | (go_at_call 105;refine (isDigit_any _ _).mono ?_;rintro e w' ⟨rfl,rfl⟩))
  all_goals
   go_ret
   first | exact ⟨rfl,rfl⟩ | exact ⟨ret_bool (by simp_all),rfl⟩
def setA (S:Mt.BSet):Array Value:=((List.range 256).map fun c=>Value.bool (S c)).toArray
theorem setA_size (S:Mt.BSet):(setA S).size=256:=by simp [setA]
theorem setA_get (S:Mt.BSet) (c:Nat) (h:c<256):(setA S)[c]?=some (.bool (S c)):=by
 unfold setA;rw [List.getElem?_toArray,List.getElem?_map,List.getElem?_range h];rfl
theorem setA_set (S T:Mt.BSet) (k:Nat) (b:Bool) (hk:k<256) (h:∀ c,T c=if c=k then b else S c):(setA S).setIfInBounds k (.bool b)=setA T:=by
 apply Array.ext
 ·simp [setA]
 ·intro i h1 h2
  simp only [Array.size_setIfInBounds,setA_size] at h1
  rw [Array.getElem_setIfInBounds (by rw [setA_size];exact h1)]
  simp only [setA,List.getElem_toArray,List.getElem_map,List.getElem_range]
  rw [h i]
  by_cases e:k=i
  ·rw [if_pos e,if_pos e.symm]
  ·rw [if_neg e,if_neg (Ne.symm e)]
theorem setA_same {S T:Mt.BSet} (h:Mt.sameB S T):setA S=setA T:=by
 unfold setA
 congr 1
 apply List.map_congr_left
 intro c hc
 rw [h c (by simpa using hc)]
def setAt (w:World) (g:Nat) (S:Mt.BSet):Prop:=w.heap[g]?=some (.cells (setA S) 151 (0,0))
structure Only (g:Nat) (w w':World):Prop where
 os:w'.os=w.os
 tape:w'.tape=w.tape
 output:w'.output=w.output
 size:w'.heap.size=w.heap.size
 block:∀ k,k≠g→w'.heap[k]?=w.heap[k]?
theorem Only.refl (g:Nat) (w:World):Only g w w:=⟨rfl,rfl,rfl,rfl,fun _ _=>rfl⟩
theorem Only.trans {g:Nat} {a b c:World} (h:Only g a b) (k:Only g b c):Only g a c :=
 ⟨k.os.trans h.os,k.tape.trans h.tape,k.output.trans h.output,k.size.trans h.size,fun i hi=>(k.block i hi).trans (h.block i hi)⟩
theorem Only.set {g:Nat} {a w:World} (h:Only g a w) (k:Nat) (u:Value):Only g a (w.setCell ⟨g,k,none⟩ u) :=
 h.trans ⟨rfl,rfl,rfl,by simp [World.setCell],fun i hi=>Below.heap_setCell _ _ _ _ hi⟩
theorem Only.below {g L:Nat} {a w:World} (h:Only g a w) (hl:L≤g):Below L a w :=
 ⟨h.os,h.tape,h.output,Nat.le_of_eq h.size.symm,fun i hi=>h.block i (by omega)⟩
theorem addRange_any (w:World) (g:Nat) (S:Mt.BSet) (a b:Int) (hS:setAt w g S) :
  Calls Try.prog 93 #[.pointer (some ⟨g,0,none⟩),.int .i64 a,.int .i64 b] w fun e w'=>e=.returned (.tuple #[])∧setAt w' g (Mt.addR S a b)∧Only g w w':=by
 have H0:Hid (setAt w g (Mt.addTo S a b 0)):=by show setAt _ _ _;rw [Mt.addTo_zero];exact hS
 clear hS
 go_enter Try.func93,Try.ntmps93
 go_wp2_with fail
 go_loopw [6] (fun i wr=>∃ k:Nat,k≤256∧i=.int .i64 k∧setAt wr g (Mt.addTo S a b k)∧Only g w wr) (fun i _=>256-(intOf i).toNat)
 case atStart=>exact ⟨0,by omega,rfl,H0.out,Only.refl _ _⟩
 case round =>
  obtain ⟨k,hk,rfl,hs,hO⟩:=hrel
  have HS:Hid (setAt wr g (Mt.addTo S a b k)):=hs
  have HO:Hid (Only g w wr):=hO
  by_cases hl:k<256
  ·have zz:wr.cell? ⟨g,k,none⟩=some (.bool (Mt.addTo S a b k k)):=by rw [(cell_block hs).1,setA_get _ _ hl]
   have z2:=(cell_block hs).2 k
   clear hs hO
   by_cases h1:a≤(k:Int)
   ·by_cases h2:(k:Int)≤b
    ·have HN:=Mt.addTo_hit S a b k ⟨h1,h2⟩
     have HN':Hid (Mt.addTo S a b (k+1)=fun c=>if c=k then true else Mt.addTo S a b k c):=HN
     clear HN
     go_wp2_with fail
     go_roundw
     case rel =>
      refine ⟨k+1,by omega,by go_num,?_,HO.out.set _ _⟩
      have:=Go.heap_setCell_same wr g k _ _ (.bool true) HS.out
      unfold setAt
      rw [setA_set (Mt.addTo S a b k) (Mt.addTo S a b (k+1)) k true hl (fun c=>by rw [HN'.out])] at this
      exact this
     case measure=>simp [intOf];omega
    ·have HN':Hid (Mt.addTo S a b (k+1)=Mt.addTo S a b k):=Mt.addTo_miss S a b k (by omega)
     go_wp2_with fail
     go_roundw
     case rel=>exact ⟨k+1,by omega,by go_num,by rw [HN'.out];exact HS.out,HO.out⟩
     case measure=>simp [intOf];omega
   ·have HN':Hid (Mt.addTo S a b (k+1)=Mt.addTo S a b k):=Mt.addTo_miss S a b k (by omega)
    go_wp2_with fail
    go_roundw
    case rel=>exact ⟨k+1,by omega,by go_num,by rw [HN'.out];exact HS.out,HO.out⟩
    case measure=>simp [intOf];omega
  ·have e:k=256:=by omega
   subst e
   clear hs hO
   go_wp2_with fail
   go_returns
   refine ⟨rfl,?_,HO.out⟩
   have:=HS.out
   unfold setAt at this ⊢
   rw [setA_same (Mt.addTo_end S a b)] at this
   exact this
theorem addLetter_any (w:World) (g:Nat) (S:Mt.BSet) (c:Int) (hS:setAt w g S) :
  Calls Try.prog 98 #[.pointer (some ⟨g,0,none⟩),.int .i64 c] w fun e w'=>e=.returned (.tuple #[])∧setAt w' g (Mt.addL S (decide (c=119)))∧Only g w w':=by
 have H0:Hid (setAt w g S):=hS
 clear hS
 cases hc:(c==119)
 ·have HL:Hid (Mt.addL S (decide (c=119))=Mt.addR S 48 57):=by
   show _=_;have:¬ c=119:=by simpa using hc
   simp [Mt.addL,this]
  go_enter Try.func98,Try.ntmps98
  go_wp2_with fail
  refine (addRange_any w g S 48 57 H0.out).mono ?_
  rintro e w1 ⟨rfl,s1,o1⟩
  have H1:Hid (setAt w1 g (Mt.addR S 48 57)∧Only g w w1):=⟨s1,o1⟩
  clear s1 o1
  go_wp2_with fail
  go_returns
  exact ⟨rfl,by rw [HL.out];exact H1.out.1,H1.out.2⟩
 ·have HL:Hid (Mt.addL S (decide (c=119))=Mt.addR (Mt.addR (Mt.addR (Mt.addR S 48 57) 65 90) 95 95) 97 122):=by
   show _=_;have:c=119:=by simpa using hc
   simp [Mt.addL,this]
  go_enter Try.func98,Try.ntmps98
  go_wp2_with fail
  refine (addRange_any w g S 48 57 H0.out).mono ?_
  rintro e w1 ⟨rfl,s1,o1⟩
  have H1:Hid (setAt w1 g (Mt.addR S 48 57)∧Only g w w1):=⟨s1,o1⟩
  clear s1 o1
  go_wp2_with fail
  refine (addRange_any w1 g _ 65 90 H1.out.1).mono ?_
  rintro e w2 ⟨rfl,s1,o1⟩
  have H2:Hid (setAt w2 g (Mt.addR (Mt.addR S 48 57) 65 90)∧Only g w w2):=⟨s1,H1.out.2.trans o1⟩
  clear s1 o1 H1
  go_wp2_with fail
  refine (addRange_any w2 g _ 95 95 H2.out.1).mono ?_
  rintro e w3 ⟨rfl,s1,o1⟩
  have H3:Hid (setAt w3 g (Mt.addR (Mt.addR (Mt.addR S 48 57) 65 90) 95 95)∧Only g w w3):=⟨s1,H2.out.2.trans o1⟩
  clear s1 o1 H2
  go_wp2_with fail
  refine (addRange_any w3 g _ 97 122 H3.out.1).mono ?_
  rintro e w4 ⟨rfl,s1,o1⟩
  have H4:Hid (setAt w4 g (Mt.addR (Mt.addR (Mt.addR (Mt.addR S 48 57) 65 90) 95 95) 97 122)∧Only g w w4):=⟨s1,H3.out.2.trans o1⟩
  clear s1 o1 H3
  go_wp2_with fail
  go_returns
  exact ⟨rfl,by rw [HL.out];exact H4.out.1,H4.out.2⟩
theorem text_any (w:World) (g:Nat) (S:Mt.BSet) (hS:setAt w g S) :
  Calls Try.prog 94 #[.pointer (some ⟨g,0,none⟩)] w fun e w'=>e=.returned (.string ⟨(Mt.setTo S 256).toArray⟩)∧Below w.heap.size w w':=by
 obtain ⟨i0,hi,hz0,hz1,hz2⟩:=info_parts Try.info5
 have H0:Hid (setAt w g S):=hS
 have hg:g<w.heap.size:=(Array.getElem?_eq_some_iff.1 hS).1
 clear hS
 go_enter Try.func94,Try.ntmps94
 go_wp2_with fail
 go_loopw [3,4] (fun v i wr=>∃ k:Nat,k≤256∧i=.int .i64 k∧wr.ownsRow w.heap.size 5 1 v (Mt.setTo S k).length (bcells (Mt.setTo S k))∧Below w.heap.size w wr) (fun _ i _=>256-(intOf i).toNat)
 case atStart=>exact ⟨0,by omega,rfl,World.ownsRow_nil _ _ _ _,Below.refl _ _⟩
 case round =>
  obtain ⟨k,hk,rfl,hown,hbel⟩:=hrel
  have hl:=Mt.setTo_len S k
  have hsz:=hbel.size
  by_cases hlt:k<256
  ·have zz:wr.cell? ⟨g,k,none⟩=some (.bool (S k)):=by
    rw [hbel.cell (p:=⟨g,k,none⟩) hg,(cell_block H0.out).1,setA_get _ _ hlt]
   cases hq:S k
   ·rw [hq] at zz
    have H1:Hid (wr.ownsRow w.heap.size 5 1 u3 (Mt.setTo S (k+1)).length (bcells (Mt.setTo S (k+1)))):=by rw [Mt.setTo_miss hq];exact hown
    go_wp2_with fail
    go_roundw
    case rel=>exact ⟨k+1,by omega,by go_num,H1.out,hbel⟩
    case measure=>simp [intOf];omega
   ·rw [hq] at zz
    have H1:Hid (bcells (Mt.setTo S (k+1))=bcells (Mt.setTo S k)++[.int .u8 (k:Int)]∧(Mt.setTo S (k+1)).length=(Mt.setTo S k).length+1):=by
     rw [Mt.setTo_hit hq]
     refine ⟨?_,by simp⟩
     simp only [bcells,List.map_append,List.map_cons,List.map_nil]
     have:(UInt8.ofNat k).toNat=k:=by simp;omega
     rw [this]
    go_wp2_with (first | (at_builtin;refine wpList_append_own _ rfl _ _ 159 rfl w.heap.size 5 i0 (.int .u8 0) 1 1 Try.underlying159 hi hz0 hz1 hz2 rfl (by decide) _ _ _ rfl (hown.alloc _) ⟨wr.heap.size,0,none⟩ 1 1 [.int .u8 (k:Int)] rfl rfl ?c1 ?c2 ?c3 ?c4 ?c5 ?_))
    case c1 =>
     intro j u hj
     match j,hj with
     | 0,hj=>simp at hj;subst hj;simp [Addr.add]
    case c2=>intro u hu;simp at hu;subst hu;rfl
    case c3=>unfold maxLen;omega
    case c4=>omega
    case c5=>simp;omega
    ·intro v' w1 hown' hgrow _
     have R1:Hid (w1.ownsRow w.heap.size 5 1 v' (Mt.setTo S (k+1)).length (bcells (Mt.setTo S (k+1)))):=by
      show World.ownsRow _ _ _ _ _ _ _
      rw [H1.out.1,H1.out.2];exact hown'
     have R2:Hid (Below w.heap.size w w1):=(hbel.alloc hsz _).grown hgrow (by simp;omega) (fun q hq'=>(hown.lt q hq').1)
     clear hown' hgrow
     go_wp2_with fail
     go_roundw
     case rel=>exact ⟨k+1,by omega,by go_num,R1.out,R2.out⟩
     case measure=>simp [intOf];omega
  ·have e:k=256:=by omega
   subst e
   have hcv:=conv_owned wr w.heap.size u3 (Mt.setTo S 256) hown
   go_wp2_with fail
   go_returns
   exact ⟨rfl,hbel⟩
def cbP (p:ByteArray) (i:Int):Int × Int × Bool:=if (Mt.classByte p i).2=0 then (0,0,false) else ((Mt.classByte p i).1,i+(Mt.classByte p i).2,true)
theorem escB_iff (d:Int) (hd:-1≤d):escB d=true↔¬ (d<0∨Mt.digB d=true∨Mt.letB d=true):=by
 unfold escB
 cases Mt.digB d <;> cases Mt.letB d <;> simp <;> omega
theorem cbP_cases (p:ByteArray) (i:Int) :
  ((Mt.atB p i==-1)=true∧cbP p i=(0,0,false))∨((Mt.atB p i==-1)=false∧(Mt.atB p i==93)=true∧cbP p i=(0,0,false)) ∨
  ((Mt.atB p i==-1)=false∧(Mt.atB p i==93)=false∧(Mt.atB p i==45)=true∧cbP p i=(0,0,false)) ∨
  ((Mt.atB p i==-1)=false∧(Mt.atB p i==93)=false∧(Mt.atB p i==45)=false∧(Mt.atB p i==92)=true∧escB (Mt.atB p (i+1))=false∧cbP p i=(0,0,false)) ∨
  ((Mt.atB p i==-1)=false∧(Mt.atB p i==93)=false∧(Mt.atB p i==45)=false∧(Mt.atB p i==92)=true∧escB (Mt.atB p (i+1))=true∧cbP p i=(Mt.atB p (i+1),i+2,true)) ∨
  ((Mt.atB p i==-1)=false∧(Mt.atB p i==93)=false∧(Mt.atB p i==45)=false∧(Mt.atB p i==92)=false∧cbP p i=(Mt.atB p i,i+1,true)):=by
 unfold cbP Mt.classByte
 have l0:=Mt.atB_lo p i
 have l1:=Mt.atB_lo p (i+1)
 have he:=escB_iff (Mt.atB p (i+1)) l1
 generalize Mt.atB p i=c at *
 generalize Mt.atB p (i+1)=d at *
 simp only [beq_iff_eq,beq_eq_false_iff_ne]
 by_cases h1:c<0∨c=93∨c=45
 ·rw [if_pos h1];simp;omega
 ·rw [if_neg h1]
  by_cases h2:c≠92
  ·rw [if_pos h2];simp;omega
  ·rw [if_neg h2]
   by_cases h3:d<0∨Mt.digB d=true∨Mt.letB d=true
   ·rw [if_pos h3]
    have:escB d=false:=by cases x:escB d;rfl;exact absurd h3 (he.1 x)
    simp [this];omega
   ·rw [if_neg h3]
    have:escB d=true:=he.2 h3
    simp [this];omega
theorem readClassByte_any (p:ByteArray) (i:Int) (w:World) (hp:p.size≤64) (_hi0:0≤i) (_hi1:i≤1000) :
  Calls Try.prog 106 #[.string p,.int .i64 i] w fun e w'=>e=.returned (.tuple #[.int .i64 (cbP p i).1,.int .i64 (cbP p i).2.1,.bool (cbP p i).2.2])∧w=w':=by
 rcases cbP_cases p i with ⟨a1,e⟩ | ⟨a1,a2,e⟩ | ⟨a1,a2,a3,e⟩ | ⟨a1,a2,a3,a4,a5,e⟩ | ⟨a1,a2,a3,a4,a5,e⟩ | ⟨a1,a2,a3,a4,e⟩
 all_goals
  rw [e];clear e
  go_enter Try.func106,Try.ntmps106
  go_wp2_with (first | (go_at_call 73;refine (byteAt_any _ _ _ hp).mono ?_;rintro e w' ⟨rfl,rfl⟩) | (go_at_call 99;refine (canBeEscaped_any _ _).mono ?_;rintro e w' ⟨rfl,rfl⟩))
  refine bodyPost_ret (results_tmp3 rfl _ _ _) rfl ?_
  exact ⟨rfl,rfl⟩
def numP (p:ByteArray) (i:Int):Int × Int × Bool:=if (Mt.number p i).2=0∨20<(Mt.number p i).1 then (0,0,false) else ((Mt.number p i).1,i+(Mt.number p i).2,true)
theorem numP_cases (p:ByteArray) (i:Int) :
  (Mt.digB (Mt.atB p i)=false∧numP p i=(0,0,false)) ∨
  (48≤Mt.atB p i∧Mt.atB p i≤57∧Mt.digB (Mt.atB p i)=true∧Mt.digB (Mt.atB p (i+1))=false∧numP p i=(Mt.atB p i-48,i+1,true)) ∨
  (48≤Mt.atB p i∧Mt.atB p i≤57∧48≤Mt.atB p (i+1)∧Mt.atB p (i+1)≤57∧Mt.digB (Mt.atB p i)=true∧Mt.digB (Mt.atB p (i+1))=true ∧
   (
   (decide (20<(Mt.atB p i-48)*10+Mt.atB p (i+1)-48)=true∧numP p i=(0,0,false)) ∨
   (decide (20<(Mt.atB p i-48)*10+Mt.atB p (i+1)-48)=false∧numP p i=((Mt.atB p i-48)*10+Mt.atB p (i+1)-48,i+1+1,true)))):=by
 unfold numP Mt.number
 simp only [Mt.digB,decide_eq_true_eq,decide_eq_false_iff_not]
 generalize Mt.atB p i=c
 generalize Mt.atB p (i+1)=d
 by_cases h1:c<48∨57<c
 ·rw [if_pos h1];simp;omega
 ·rw [if_neg h1]
  by_cases h2:d<48∨57<d
  ·rw [if_pos h2];simp;omega
  ·rw [if_neg h2]
   by_cases h3:20<10*(c-48)+d-48
   ·simp [h3];omega
   ·simp [h3];omega
theorem readNumber_any (p:ByteArray) (i:Int) (w:World) (hp:p.size≤64) (_hi0:0≤i) (_hi1:i≤1000) :
  Calls Try.prog 91 #[.string p,.int .i64 i] w fun e w'=>e=.returned (.tuple #[.int .i64 (numP p i).1,.int .i64 (numP p i).2.1,.bool (numP p i).2.2])∧w=w':=by
 rcases numP_cases p i with ⟨a1,e⟩ | ⟨b1,b2,a1,a2,e⟩ | ⟨b1,b2,b3,b4,a1,a2,⟨a3,e⟩ | ⟨a3,e⟩⟩
 all_goals
  rw [e];clear e
  go_enter Try.func91,Try.ntmps91
  go_wp2_with (first | (go_at_call 73;refine (byteAt_any _ _ _ hp).mono ?_;rintro e w' ⟨rfl,rfl⟩) | (go_at_call 105;refine (isDigit_any _ _).mono ?_;rintro e w' ⟨rfl,rfl⟩))
  refine bodyPost_ret (results_tmp3 rfl _ _ _) rfl ?_
  exact ⟨rfl,rfl⟩
def mostP (p:ByteArray) (i:Int):Int × Int × Bool:=if Mt.atB p i=125 then (-1,i,true) else numP p i
theorem readMost_any (p:ByteArray) (i:Int) (w:World) (hp:p.size≤64) (_hi0:0≤i) (_hi1:i≤1000) :
  Calls Try.prog 92 #[.string p,.int .i64 i] w fun e w'=>e=.returned (.tuple #[.int .i64 (mostP p i).1,.int .i64 (mostP p i).2.1,.bool (mostP p i).2.2])∧w=w':=by
 cases a:(Mt.atB p i==125)
 ·have e:mostP p i=numP p i:=by unfold mostP;rw [if_neg (by simpa using a)]
  rw [e];clear e
  go_enter Try.func92,Try.ntmps92
  go_wp2_with (first | (go_at_call 73;refine (byteAt_any _ _ _ hp).mono ?_;rintro e w' ⟨rfl,rfl⟩) | (go_at_call 91;refine (readNumber_any _ _ _ hp (by omega) (by omega)).mono ?_;rintro e w' ⟨rfl,rfl⟩))
  refine bodyPost_ret (results_tmp3 rfl _ _ _) rfl ?_
  exact ⟨rfl,rfl⟩
 ·have e:mostP p i=(-1,i,true):=by unfold mostP;rw [if_pos (by simpa using a)]
  rw [e];clear e
  go_enter Try.func92,Try.ntmps92
  go_wp2_with (first | (go_at_call 73;refine (byteAt_any _ _ _ hp).mono ?_;rintro e w' ⟨rfl,rfl⟩))
  refine bodyPost_ret (results_tmp3 rfl _ _ _) rfl ?_
  exact ⟨rfl,rfl⟩
theorem setCells_blk (b:Nat) (t:TypeId):∀ (vs:List Value) (o:Nat) (w:World) (C:Array Value),w.heap[b]?=some (.cells C t (0,0))→∃ D:Array Value,(w.setCells b o vs).heap[b]?=some (.cells D t (0,0))∧D.size=C.size
 | [],o,w,C,h=>⟨C,h,rfl⟩
 | v::r,o,w,C,h=>by
  obtain ⟨D,h1,h2⟩:=setCells_blk b t r (o+1) (w.setCell ⟨b,o,none⟩ v) _ (Go.heap_setCell_same w b o C t v h)
  exact ⟨D,h1,by rw [h2];simp⟩
theorem setCells_oth (b:Nat):∀ (vs:List Value) (o:Nat) (w:World) (k:Nat),k≠b→(w.setCells b o vs).heap[k]?=w.heap[k]?
 | [],o,w,k,h=>rfl
 | v::r,o,w,k,h=>by
  show ((w.setCell ⟨b,o,none⟩ v).setCells b (o+1) r).heap[k]?=_
  rw [setCells_oth b r (o+1) _ k h,Below.heap_setCell _ _ _ _ h]
theorem stored_blk {w:World} {b:Nat} {t:TypeId} {B:Array Value} (h:w.heap[b]?=some (.cells B t (0,0))) (cs:Array Value) (hs:cs.size=B.size) :
  (w.setCells b 0 cs.toList).heap[b]?=some (.cells cs t (0,0)):=by
 obtain ⟨D,h1,h2⟩:=setCells_blk b t cs.toList 0 w B h
 have hb:=cell_block h
 obtain ⟨w2,e,q1,_⟩:=stored_block hb.1 hb.2 cs hs
 have hd:=cell_block h1
 have:D=cs:=by
  apply Array.ext (by omega)
  intro i hi1 hi2
  have a1:=hd.1 i
  have a2:=q1 i
  rw [e] at a2
  rw [a2,Array.getElem?_eq_getElem hi1,Array.getElem?_eq_getElem hi2] at a1
  simpa using a1.symm
 rw [h1,this]
theorem rangeAt_blk {w:World} {b:Nat} {t:TypeId} {A:Array Value} (h:w.heap[b]?=some (.cells A t (0,0))):w.rangeAt b 0 A.toList:=fun j v hv=>by
 rw [Nat.zero_add,(cell_block h).1 j];simpa using hv
section
variable {P:Program} {ops:Array Oper} {rest:List Oper} {op:Oper} {a:Act} {w:World} {Q:Exit→Act→World→Prop}
theorem load_blk (ty:TypeId) (n:Nat) {d:TypeDesc} (hu:P.underlying ty=some d) (hd:d.isRow=true) (hn:(P.info? ty).map (·.size)=some n) (hgd:op.guard=none) (x:Operand) (ho:op.op=.load ty x)
  (b:Nat) (hx:a.eval x=.pointer (some ⟨b,0,none⟩)) {t:TypeId} {A:Array Value} (hA:w.heap[b]?=some (.cells A t (0,0))) (hs:A.size=n)
  (h:wpList P ops Q rest (a.put op.dst (.agg A)) w):wpList P ops Q (op::rest) a w :=
 wpList_load_mid hgd _ x ho b 0 hx A.toList _ (rangeAt_blk hA) hu hd (by rw [hn];simp [hs]) h
theorem store_blk (ty:TypeId) (n:Nat) (hn:(P.info? ty).map (·.size)=some n) (hgd:op.guard=none) (x y:Operand) (ho:op.op=.store ty x y)
  (b:Nat) (cs:Array Value) (hx:a.eval x=.pointer (some ⟨b,0,none⟩)) (hy:a.eval y=.agg cs) {t:TypeId} {B:Array Value} (hB:w.heap[b]?=some (.cells B t (0,0))) (hs:B.size=n) (hc:cs.size=n) (h1:cs.all (·.oneCell')=true)
  (h:∀ w2:World,w2.heap[b]?=some (.cells cs t (0,0))→(∀ k,k≠b→w2.heap[k]?=w.heap[k]?)→w2.heap.size=w.heap.size→(∀ L,L≤b→Below L w w2)→wpList P ops Q rest (a.put op.dst undef) w2):wpList P ops Q (op::rest) a w:=by
 have hb:=cell_block hB
 refine wpList_store_mid hgd _ x y ho b 0 cs hx hy (there_block hb.1 hb.2 _ (by omega)) (by rw [hn,hc]) h1 ?_
 exact h _ (stored_blk hB cs (by omega)) (fun k hk=>setCells_oth b _ 0 w k hk) (below_setCells b _ 0 w 0 (Nat.zero_le _)).2 (fun L hL=>(below_setCells b _ 0 w L hL).1)
end
theorem ret_blk2 {P:Program} {fn:Func} {p u:Tmp} (ty:TypeId) (n:Nat) {d:TypeDesc} (hu:P.underlying ty=some d) (hd:d.isRow=true) (hn:(P.info? ty).map (·.size)=some n) (hr:fn.results=#[.cell p ty,.tmp u]) {tmps:Array Value} {w:World} {b:Nat} {t:TypeId} {A:Array Value}
  (hp:tmps.getD p undef=.pointer (some ⟨b,0,none⟩)) (hA:w.heap[b]?=some (.cells A t (0,0))) (hs:A.size=n) :
  (results fn tmps).run P w=.ok (.tuple #[.agg A,tmps.getD u undef]) w:=by
 rw [results_cell_tmp hr,hp]
 have:=run_loadVar_mid (P:=P) w b 0 ty A.toList _ (rangeAt_blk hA) hu hd (by rw [hn];simp [hs])
 simp [asAddr,Result.andThen,this]
theorem results_cell1 {fn:Func} {p:Tmp} {ty:TypeId} (h:fn.results=#[.cell p ty]) (tmps:Array Value) (P:Program) (w:World) :
  (results fn tmps).run P w=((asAddr (tmps.getD p undef)).run P w).andThen fun a w₁=>((loadVar ty a).run P w₁).andThen fun v w₂=>.ok v w₂:=by
 simp only [results,h]
 simp [Sem.run_bind,Result.andThen]
 cases Sem.run P (asAddr (tmps[p]?.getD undef)) w with
 | ok a w1=>dsimp only;cases Sem.run P (loadVar ty a) w1 <;> rfl
 | halt h w1=>rfl
theorem ret_blk1 {P:Program} {fn:Func} {p:Tmp} (ty:TypeId) (n:Nat) {d:TypeDesc} (hu:P.underlying ty=some d) (hd:d.isRow=true) (hn:(P.info? ty).map (·.size)=some n) (hr:fn.results=#[.cell p ty]) {tmps:Array Value} {w:World} {b:Nat} {t:TypeId} {A:Array Value}
  (hp:tmps.getD p undef=.pointer (some ⟨b,0,none⟩)) (hA:w.heap[b]?=some (.cells A t (0,0))) (hs:A.size=n) :
  (results fn tmps).run P w=.ok (.agg A) w:=by
 rw [results_cell1 hr,hp]
 have:=run_loadVar_mid (P:=P) w b 0 ty A.toList _ (rangeAt_blk hA) hu hd (by rw [hn];simp [hs])
 simp [asAddr,Result.andThen,this]
theorem heap_b1 (w:World) (A:Obj):(w.alloc A).heap[w.heap.size]?=some A:=heap_alloc_new _ _
theorem heap_b2 (w:World) (A B:Obj):((w.alloc A).alloc B).heap[w.heap.size]?=some A:=by rw [heap_old _ _ _ (by simp),heap_alloc_new]
theorem heap_b3 (w:World) (A B:Obj):((w.alloc A).alloc B).heap[w.heap.size+1]?=some B:=by
 have:(w.alloc A).heap.size=w.heap.size+1:=by simp
 rw [← this,heap_alloc_new]
def setMany {α:Type}:List α→Nat→List α→List α
 | xs,_,[]=>xs
 | xs,o,v::r=>setMany (xs.set o v) (o+1) r
theorem row_setCells {e:TypeId} {s g n cap base:Nat}:∀ (vs:List Value) (o:Nat) (w:World) (xs:List Value),w.ownsRow base e s (.slice (some ⟨g,0,none⟩) n cap) n xs→(w.setCells g o vs).ownsRow base e s (.slice (some ⟨g,0,none⟩) n cap) n (setMany xs o vs)
 | [],o,w,xs,h=>h
 | v::r,o,w,xs,h=>row_setCells r (o+1) _ _ (World.ownsRow.stored h o v).1
theorem flat_set {α:Type} (f:α→List Value) (k:Nat) (hk:∀ a,(f a).length=k):∀ (l:List α) (i j:Nat) (v:Value) (a':α),i<l.length→j<k→(∀ a,l[i]?=some a→f a'=(f a).set j v)→(l.flatMap f).set (i*k+j) v=(l.set i a').flatMap f
 | [],i,j,v,a',h,_,_=>by simp at h
 | x::r,0,j,v,a',_,hj,h=>by
  simp only [List.flatMap_cons,List.set_cons_zero]
  rw [show 0*k+j=j by omega,List.set_append_left _ _ (by rw [hk];exact hj),h x rfl]
 | x::r,i+1,j,v,a',hi,hj,h=>by
  simp only [List.flatMap_cons,List.set_cons_succ]
  have e:(i+1)*k+j=k+(i*k+j):=by rw [Nat.add_mul];omega
  rw [e,List.set_append_right _ _ (by rw [hk];omega),hk,show k+(i*k+j)-k=i*k+j by omega,flat_set f k hk r i j v a' (by simpa using hi) hj (fun a ha=>h a (by simpa using ha))]
theorem flat_setMany {α:Type} (f:α→List Value) (k:Nat) (hk:∀ a,(f a).length=k):∀ (l:List α) (i j:Nat) (vs:List Value) (a':α),i<l.length→j+vs.length≤k→(∀ a,l[i]?=some a→f a'=setMany (f a) j vs)→setMany (l.flatMap f) (i*k+j) vs=(l.set i a').flatMap f:=by
 have key:∀ (vs:List Value) (L:List Value) (p:Nat) (X Y:List Value),X.length+Y.length≤L.length→L=X++Y++L.drop (X.length+Y.length)→∀ j,j+vs.length≤Y.length→setMany L (X.length+j) vs=X++setMany Y j vs++L.drop (X.length+Y.length):=by
  intro vs
  induction vs with
  | nil=>intro L p X Y h1 h2 j hj;simpa [setMany] using h2
  | cons v r ih =>
   intro L p X Y h1 h2 j hj
   simp only [List.length_cons] at hj
   simp only [setMany]
   have e:L.set (X.length+j) v=X++Y.set j v++L.drop (X.length+Y.length):=by
    conv=>lhs;rw [h2]
    rw [List.append_assoc,List.set_append_right _ _ (by omega),show X.length+j-X.length=j by omega,List.set_append_left _ _ (by omega),List.append_assoc]
   have d:(L.set (X.length+j) v).drop (X.length+Y.length)=L.drop (X.length+Y.length):=by rw [List.drop_set_of_lt (by omega)]
   have:=ih (L.set (X.length+j) v) p X (Y.set j v) (by simpa using h1) (by rw [List.length_set,d];exact e) (j+1) (by simp;omega)
   rw [List.length_set,d] at this
   rw [show X.length+j+1=X.length+(j+1) by omega,this]
 intro l
 induction l with
 | nil=>intro i j vs a' h;simp at h
 | cons x r ih =>
  intro i j vs a' hi hj h
  match i with
  | 0 =>
   have:=key vs ((x::r).flatMap f) 0 [] (f x) (by simp) (by simp) j (by rw [hk];exact hj)
   simp only [List.length_nil,Nat.zero_add,List.nil_append] at this
   rw [show 0*k+j=j by omega,this,← h x rfl]
   simp
  | i+1 =>
   have e:(i+1)*k+j=k+(i*k+j):=by rw [Nat.add_mul];omega
   have fl:∀ m:List α,(m.flatMap f).length=m.length*k:=by
    intro m;induction m with
    | nil=>simp
    | cons y s ihs=>rw [List.flatMap_cons,List.length_append,ihs,hk,List.length_cons,Nat.add_mul];omega
   have hir:i<r.length:=by simpa using hi
   have:=key vs ((x::r).flatMap f) 0 (f x) (r.flatMap f) (by simp) (by simp) (i*k+j) (by
    rw [fl]
    have:(i+1)*k≤r.length*k:=Nat.mul_le_mul_right _ (by omega)
    rw [Nat.add_mul] at this;omega)
   rw [hk] at this
   rw [e,this,ih i j vs a' hir hj (fun a ha=>h a (by simpa using ha))]
   simp [hk]
theorem buildRun {P:Program} {op:Oper} {r:Operand→Value} {t:TypeId} {parts:Array (Nat × Operand)} (hop:op.op=.build t parts) {z:World} {u:Value} (h:(Instr.build t (parts.map fun q=>(q.1,r q.2))).run P z=.ok u z):(execOp r op).run P z=.ok (.value u) z:=by
 unfold execOp
 simp only [hop]
 simp only [Sem.run_bind,h,Result.andThen_ok,Sem.run_pure]
theorem lastOp {P:Program} {md:Region.Mode} {ops:Array Oper} {Q:Exit→Act→World→Prop} {S:World→Prop} (i:Nat) (oi:Oper) {fuel:Nat} {listed:Array Bool} {a:Act} {w:World} (hi:ops[i]?=some oi) (hgd:oi.guard=none) (hr:Region.ready md ops listed=[i]) (hr2:Region.ready md ops (listed.setIfInBounds i true)=[])
  (h:Oper.wp P oi a w (fun a' w'=>S w'∧Q .normal a' w') Q):wpAnyH P md ops Q S (fuel+1) listed a w:=by
 refine ⟨fun h0=>(by rw [hr] at h0;cases h0),fun j hj=>?_⟩
 rw [hr] at hj
 simp only [List.mem_singleton] at hj
 subst hj
 refine wpOp_mono (K:=fun a' w'=>S w'∧Q .normal a' w') (fun a' w' (h':S w'∧Q .normal a' w')=>⟨h'.1,wpAnyH_done hr2 h'.2 _⟩) ?_
 have hw:Region.wanted oi (yielded ops a.tmps)=true:=by simp [Region.wanted,hgd]
 unfold wpOp
 simp only [hi,hw,if_true]
 exact .inl h
theorem lastStore {P:Program} {md:Region.Mode} {ops:Array Oper} {Q:Exit→Act→World→Prop} {S:World→Prop} (i:Nat) (oi:Oper) {fuel:Nat} {listed:Array Bool} {a:Act} {w:World} (hi:ops[i]?=some oi) (hgd:oi.guard=none) (hr:Region.ready md ops listed=[i]) (hr2:Region.ready md ops (listed.setIfInBounds i true)=[])
  (ty:TypeId) (x y:Operand) (ho:oi.op=.store ty x y) (b o:Nat) (cells:Array Value) (hx:a.eval x=.pointer (some ⟨b,o,none⟩)) (hy:a.eval y=.agg cells) (ht:w.there b o cells.size) (hz:(P.info? ty).map (·.size)=some cells.size) (h1:cells.all (·.oneCell')=true)
  (hdn:oi.dst=none) (h:S (w.setCells b o cells.toList)∧Q .normal a (w.setCells b o cells.toList)):wpAnyH P md ops Q S (fuel+1) listed a w :=
 lastOp i oi hi hgd hr hr2 (wp_store_mid ty x y ho b o cells hx hy ht hz h1 (by rw [hdn];exact h))
theorem takeAt {P:Program} {md:Region.Mode} {ops:Array Oper} {Q:Exit→Act→World→Prop} {S:World→Prop} (i d:Nat) (v:Value) {oi:Oper} {fuel:Nat} {listed:Array Bool} {a:Act} {w:World} (hi:ops[i]?=some oi) (hd:oi.dst=some d)
  (hs:Region.noSelect ops=true) (hf:Region.free md ops listed i=true) (hr:(Region.ready md ops listed).contains i=true)
  (hQ:∀ c a w,Q (.panic c) (a.put (some d) v) w→Q (.panic c) a w) (hy:YieldsIf P ops S oi v a) (hS:S w)
  (h:wpAnyH P md ops Q S fuel (listed.setIfInBounds i true) (a.put (some d) v) w):wpAnyH P md ops Q S (fuel+1) listed a w :=
 wpAnyH_take hi hs hf hr (by rw [hd];exact hQ) hy hS (by rw [hd];exact h)
def ptA (t:Mt.PT):Array Value:=#[.int .i64 t.kind,.int .i64 t.en,.int .i64 t.group,.int .i64 t.number,.int .i64 t.least,.int .i64 t.most,.int .i64 t.mood,.string ⟨t.set.toArray⟩]
def ptV (t:Mt.PT):Value:=.agg (ptA t)
theorem ptA_size (t:Mt.PT):(ptA t).size=8:=rfl
theorem ptA_all (t:Mt.PT):(ptA t).all (·.oneCell')=true:=by simp [ptA,Value.oneCell']
theorem Try.sizePT:(Try.prog.info? 121).map (·.size)=some 8:=by kernel_rfl
theorem Try.zeroSet:Try.zeroCells151=setA Mt.none0:=by kernel_rfl
theorem letBy_start {w w1:World} {A:Array Value} {t:TypeId} (o1:Only (w.heap.size+1) ((w.alloc (.cells A t)).alloc (.cells Try.zeroCells151 151)) w1) :
  w1.heap[w.heap.size]?=some (.cells A t (0,0))∧Below w.heap.size w w1∧w1.heap.size=w.heap.size+2:=by
 refine ⟨by rw [o1.block _ (by omega)];exact heap_b2 _ _ _,?_,by rw [o1.size];simp⟩
 exact (((Below.refl _ _).alloc (Nat.le_refl _) _).alloc (by simp) _).trans (o1.below (by omega))
theorem set_start (w:World) (A:Obj):setAt ((w.alloc A).alloc (.cells Try.zeroCells151 151)) (w.heap.size+1) Mt.none0:=by
 unfold setAt;rw [heap_b3,Try.zeroSet]
theorem letBy_any (w:World) (a b i:Int) :
  Calls Try.prog 77 #[.int .i64 a,.int .i64 b,.int .i64 i] w fun e w'=>e=.returned (ptV ⟨5,i,0,0,0,0,0,Mt.setTo (Mt.addR Mt.none0 a b) 256⟩)∧Below w.heap.size w w':=by
 obtain ⟨T,hT⟩:∃ T,T=Mt.setTo (Mt.addR Mt.none0 a b) 256:=⟨_,rfl⟩
 rw [← hT]
 have HT:Hid (T=Mt.setTo (Mt.addR Mt.none0 a b) 256):=hT
 clear hT
 go_enter Try.func77,Try.ntmps77
 go_wp2_with fail
 refine (addRange_any _ (w.heap.size+1) Mt.none0 a b (by exact set_start _ _)).mono ?_
 rintro e w1 ⟨rfl,s1,o1⟩
 obtain ⟨z1,b1,sz⟩:=letBy_start o1
 have HS:Hid (setAt w1 (w.heap.size+1) (Mt.addR Mt.none0 a b)):=s1
 have HB:Hid (Below w.heap.size w w1):=b1
 clear s1 o1 b1
 go_wp2_with fail
 have TA:=text_any w1 (w.heap.size+1) _ HS.out
 rw [← HT.out] at TA
 refine TA.mono ?_
 clear TA
 rintro e w2 ⟨rfl,b2⟩
 have z2:w2.heap[w.heap.size]?=_:=(b2.block _ (by omega)).trans z1
 have HB2:Hid (Below w.heap.size w w2):=HB.out.trans (b2.mono (by omega))
 clear b2 z1
 go_wp2_with (refine store_blk 121 8 Try.sizePT (by rfl) (.tmp 6) (.tmp 13) (by rfl) w.heap.size (ptA ⟨5,i,0,0,0,0,0,T⟩) (by rfl) (by rfl) z2 (by rfl) (by rfl) (ptA_all _) ?_;intro w3 r1 r2 r3 r4)
 refine bodyPost_ret (ret_blk1 121 8 Try.underlying121 rfl Try.sizePT rfl (by rfl) r1 (by rfl)) rfl ⟨rfl,?_⟩
 exact HB2.out.trans (r4 _ (Nat.le_refl _))
def moodP (p:ByteArray) (t n m:Int):Mt.PT:=⟨4,(Mt.mood p t).2,0,0,n,m,(Mt.mood p t).1+1,[]⟩
theorem moodP_cases (p:ByteArray) (t n m:Int) :
  ((Mt.atB p t==63)=true∧moodP p t n m=⟨4,t+1,0,0,n,m,2,[]⟩)∨((Mt.atB p t==63)=false∧(Mt.atB p t==43)=true∧moodP p t n m=⟨4,t+1,0,0,n,m,3,[]⟩) ∨
  ((Mt.atB p t==63)=false∧(Mt.atB p t==43)=false∧moodP p t n m=⟨4,t,0,0,n,m,1,[]⟩):=by
 unfold moodP Mt.mood
 simp only [beq_iff_eq,beq_eq_false_iff_ne]
 by_cases h1:Mt.atB p t=63
 ·rw [if_pos h1];simp [h1]
 ·rw [if_neg h1]
  by_cases h2:Mt.atB p t=43
  ·rw [if_pos h2];simp [h2]
  ·rw [if_neg h2];simp [h1,h2]
theorem readMood_any (p:ByteArray) (t n m:Int) (w:World) (hp:p.size≤64) (h0:0≤t) (h1:t≤1000) :
  Calls Try.prog 75 #[.string p,.int .i64 t,.int .i64 n,.int .i64 m] w fun e w'=>e=.returned (ptV (moodP p t n m))∧Below w.heap.size w w':=by
 rcases moodP_cases p t n m with ⟨a1,e⟩ | ⟨a1,a2,e⟩ | ⟨a1,a2,e⟩
 all_goals
  rw [e];clear e
  go_enter Try.func75,Try.ntmps75
  go_wp2_with (first | (go_at_call 73;refine (byteAt_any _ _ _ hp).mono ?_;rintro e w' ⟨rfl,rfl⟩))
  go_returns
  exact ⟨rfl,by go_grown⟩
end Go.Proofs.Ytebpgfodelggoab
