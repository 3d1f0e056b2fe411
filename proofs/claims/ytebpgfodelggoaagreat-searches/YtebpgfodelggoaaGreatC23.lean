import Derived.Test.YtebpgfodelggoaaGreatC22
import Derived.Test.YtebpgfodelggoaaGreatC00
import Derived.Test.YtebpgfodelggoaaGreatC01
import Derived.Laws.ResultCell
import Derived.Deep.RegionHeld3
set_option linter.unusedVariables false
set_option linter.unusedSimpArgs false
set_option maxRecDepth 100000
set_option maxHeartbeats 4000000
namespace Go.Proofs.YtebpgfodelggoaaGreat
open Go.RowKit
theorem zLc (KP:zFl) (o:Stp) (w:World) (hp:o.p.size≤maxLen) (ht:o.t.size≤maxLen) (k1:(o.kind==1)=false) (k2:(o.kind==2)=false) (k3:(o.kind==3)=false) (k4:(o.kind==4)=false) (k5:(o.kind==5)=true) :
  Calls Tryz.prog 16 #[opV o] w fun e w'=>e=.returned (.bool true)∧Below w.heap.size w w':=by
 have K1:Hid (∀ z:World,Calls Tryz.prog 33 #[opV o] z fun e w'=>e=.returned (.bool true)∧Below z.heap.size z w'):=fun z=>zLb KP o z hp ht
 unfold opV opA at *
 go_enter Tryz.func16,Tryz.ntmps16
 go_wp2_with fail
 refine (K1.out _).mono ?_
 rintro e w1 ⟨rfl,hb1⟩
 have hB1:Below w.heap.size w w1:=((Below.refl _ _).alloc (Nat.le_refl _) _).trans (hb1.mono (by simp))
 clear hb1
 go_wp2_with fail
 go_ret
 exact ⟨rfl,hB1⟩
end Go.Proofs.YtebpgfodelggoaaGreat
namespace Mt
abbrev zBw:=Nat→Bool
def none0:zBw:=fun _=>false
def zAB (S:zBw) (a b:Int):zBw:=fun c=>S c||(decide (a≤(c:Int))&&decide ((c:Int)≤b))
def zBj (S:zBw) (a b:Int) (k:Nat):zBw:=fun c=>if c<k then zAB S a b c else S c
theorem zLd (S:zBw) (a b:Int):zBj S a b 0=S:=by funext c;simp [zBj]
theorem zMJ (S:zBw) (a b:Int) (k:Nat) (h:a≤(k:Int)∧(k:Int)≤b):zBj S a b (k+1)=fun c=>if c=k then true else zBj S a b k c:=by
 funext c
 simp only [zBj,zAB]
 by_cases e:c=k
 ·subst e;simp [h]
 ·rw [if_neg e]
  by_cases l:c<k
  ·rw [if_pos (by omega),if_pos l]
  ·rw [if_neg (by omega),if_neg l]
theorem zGm (S:zBw) (a b:Int) (k:Nat) (h:¬ (a≤(k:Int)∧(k:Int)≤b)):zBj S a b (k+1)=zBj S a b k:=by
 funext c
 simp only [zBj,zAB]
 by_cases e:c=k
 ·subst e
  rw [if_pos (by omega),if_neg (by omega)]
  have:(decide (a≤(c:Int))&&decide ((c:Int)≤b))=false:=by
   rw [← Bool.decide_and];simpa using h
  rw [this];simp
 ·by_cases l:c<k
  ·rw [if_pos (by omega),if_pos l]
  ·rw [if_neg (by omega),if_neg l]
def zQo (S T:zBw):Prop:=∀ c,c<256→S c=T c
theorem zMK (S:zBw) (a b:Int):zQo (zBj S a b 256) (zAB S a b):=fun c h=>by simp [zBj,h]
def zEw (S:zBw) (k:Nat):zBw:=fun c=>if c<k then !S c else S c
theorem zLe (S:zBw) (k:Nat):zEw S (k+1)=fun c=>if c=k then !(S k) else zEw S k c:=by
 funext c
 simp only [zEw]
 by_cases e:c=k
 ·subst e;simp
 ·rw [if_neg e]
  by_cases l:c<k
  ·rw [if_pos (by omega),if_pos l]
  ·rw [if_neg (by omega),if_neg l]
def qK (S:zBw) (n:Nat):List UInt8:=((List.range n).filter S).map UInt8.ofNat
theorem zML {S:zBw} {n:Nat} (h:S n=true):qK S (n+1)=qK S n++[UInt8.ofNat n]:=by
 unfold qK
 rw [List.range_succ,List.filter_append,List.map_append]
 congr 1
 rw [List.filter_cons,if_pos h];rfl
theorem zLf {S:zBw} {n:Nat} (h:S n=false):qK S (n+1)=qK S n:=by
 unfold qK
 rw [List.range_succ,List.filter_append,List.map_append,List.filter_cons,if_neg (by simp [h])];simp
theorem zMM (S:zBw) (n:Nat):(qK S n).length≤n:=by
 unfold qK;rw [List.length_map];exact Nat.le_trans (List.length_filter_le _ _) (by simp)
theorem zBH {S T:zBw} (h:zQo S T):qK S 256=qK T 256:=by
 unfold qK
 congr 1
 apply List.filter_congr
 intro c hc
 exact h c (by simpa using hc)
theorem zDt (p:ByteArray) (a b:Int) (no:Bool):qK (fun c=>kN p a b (c:Int) != no) 256=all p a b no:=rfl
theorem filter_one (c:Nat):∀ n,(List.range n).filter (fun k:Nat=>decide (k=c))=if c<n then [c] else []
 | 0=>by simp
 | n+1=>by
  rw [List.range_succ,List.filter_append,filter_one c n]
  by_cases e:n=c
  ·subst e;simp
  ·by_cases l:c<n
   ·rw [if_pos l,if_pos (by omega)];simp [e]
   ·rw [if_neg l,if_neg (by omega)];simp [e]
theorem zMN (c:Int) (h0:0≤c) (h1:c≤255):qK (zAB none0 c c) 256=[UInt8.ofNat c.toNat]:=by
 have:qK (zAB none0 c c) 256=qK (fun k=>decide (k=c.toNat)) 256:=by
  refine zBH (fun k hk=>?_)
  simp only [zAB,none0,Bool.false_or]
  rw [← Bool.decide_and]
  congr 1
  exact propext ⟨fun h=>by omega,fun h=>by omega⟩
 rw [this]
 unfold qK
 rw [filter_one,if_pos (by omega)];rfl
theorem zBZ (p:ByteArray) (i c:Int):kN p i i c=false:=by rw [yA,if_pos (Int.le_refl _)]
theorem zQp (p:ByteArray) (i:Int):qK (zAB none0 0 255) 256=all p i i true:=by
 rw [← zDt]
 refine zBH (fun k hk=>?_)
 rw [zBZ]
 simp [zAB,none0];omega
def zIU (S:zBw) (w:Bool):zBw:=if w then zAB (zAB (zAB (zAB S 48 57) 65 90) 95 95) 97 122 else zAB S 48 57
theorem zGn (S:zBw) (w:Bool) (c:Nat):zIU S w c=(S c||zCe w (c:Int)):=by
 unfold zIU zCe zCX zCT
 cases w
 ·simp [zAB]
 ·simp only [zAB,if_true,Bool.true_and]
  by_cases h1:48≤(c:Int)∧(c:Int)≤57 <;> by_cases h2:65≤(c:Int)∧(c:Int)≤90 <;> by_cases h3:97≤(c:Int)∧(c:Int)≤122 <;> by_cases h4:(c:Int)=95
  all_goals
   simp only [← Bool.decide_and]
   have h5:(95≤(c:Int)∧(c:Int)≤95)↔(c:Int)=95:=by omega
   simp only [h5,h1,h2,h3,h4]
   simp
def zLV (p:ByteArray) (i:Int) (S:zBw):zBw :=
 if (item p i).2.2.2 then zIU S (decide ((item p i).2.1=119)) else zAB S (item p i).1 (item p i).2.1
theorem zQq (p:ByteArray) (i b:Int) (S:zBw) (c:Nat) (h:i<b) (h0:(item p i).2.2.1≠0):(S c||kN p i b (c:Int))=(zLV p i S c||kN p (i+(item p i).2.2.1) b (c:Int)):=by
 rw [yA,if_neg (by omega),if_neg h0]
 unfold zLV
 cases hw:(item p i).2.2.2
 ·simp only [Bool.false_eq_true,if_false]
  by_cases h1:(item p i).1≤(c:Int)∧(c:Int)≤(item p i).2.1
  ·rw [if_pos h1];simp [zAB,h1]
  ·rw [if_neg h1]
   have:(decide ((item p i).1≤(c:Int))&&decide ((c:Int)≤(item p i).2.1))=false:=by rw [← Bool.decide_and];simpa using h1
   simp only [zAB,this,Bool.or_false]
 ·simp only [if_true]
  rw [zGn]
  cases hs:zCe (decide ((item p i).2.1=119)) (c:Int) <;> simp
structure PT where
 kind:Int
 en:Int
 group:Int
 number:Int
 least:Int
 most:Int
 xR:Int
 set:List UInt8
def pt0:PT:=⟨0,0,0,0,0,0,0,[]⟩
def zLg (k:Int):Int:=if k=1 then 5 else if k=2 then 6 else if k=3 then 7 else if k=4 then 8 else if k=5 then 1 else if k=6 then 2 else if k=7 then 3 else if k=8 then 4 else 0
def zOG (h:Int):Int:=if h=4 then 1 else if h=3 then 2 else h+3
def jT (t:Tok):PT :=
 ⟨zLg t.kind,t.to,if t.kind=6 then zOG t.how else 0,if t.kind=2 then t.n else 0,if t.kind=8 then t.n else 0,if t.kind=8 then t.m else 0,if t.kind=8 then t.how+1 else 0,t.set⟩
def xV (p:ByteArray) (i:Int):PT × Int:=if (kK p i).2=0 then (jT (kK p i).1,0) else (pt0,(kK p i).2)
end Mt
namespace Go.Proofs.YtebpgfodelggoaaGreat
open Go.RowKit
theorem results_tmp3 {fn:Func} {t u v:Tmp} (h:fn.results=#[.tmp t,.tmp u,.tmp v]) (tmps:Array Value) (P:Program) (w:World) :
  (results fn tmps).run P w=.ok (.tuple #[tmps.getD t undef,tmps.getD u undef,tmps.getD v undef]) w:=by
 simp [results,h]
theorem zO (p:ByteArray) (i:Int) (w:World) (hp:p.size≤64) :
  Calls Tryz.prog 132 #[.string p,.int .i64 i] w fun e w'=>e=.returned (.int .i64 (Mt.atB p i))∧w=w':=by
 by_cases h0:i<0
 ·rw [Mt.zEO p i (by omega)]
  go_enter Tryz.func132,Tryz.ntmps132
  go_wp2
  go_ret
  exact ⟨rfl,rfl⟩
 ·by_cases h1:(p.size:Int)≤i
  ·rw [Mt.zEO p i (by omega)]
   go_enter Tryz.func132,Tryz.ntmps132
   go_wp2
   go_ret
   exact ⟨rfl,rfl⟩
  ·obtain ⟨k,rfl⟩:=Int.eq_ofNat_of_zero_le (show 0≤i by omega)
   have hk:k<p.size:=by omega
   rw [← zIW p k hk]
   go_enter Tryz.func132,Tryz.ntmps132
   go_wp2
   go_ret
   exact ⟨rfl,rfl⟩
theorem zFm (c:Int) (w:World) :
  Calls Tryz.prog 164 #[.int .i64 c] w fun e w'=>e=.returned (.bool (Mt.zCX c))∧w=w':=by
 by_cases a:48≤c
 ·by_cases b:c≤57
  ·rw [zPD ⟨a,b⟩]
   go_enter Tryz.func164,Tryz.ntmps164
   go_wp2
   go_ret
   exact ⟨rfl,rfl⟩
  ·rw [zJ1 (by omega)]
   go_enter Tryz.func164,Tryz.ntmps164
   go_wp2
   go_ret
   exact ⟨rfl,rfl⟩
 ·rw [zJ1 (by omega)]
  go_enter Tryz.func164,Tryz.ntmps164
  go_wp2
  go_ret
  exact ⟨rfl,rfl⟩
theorem zIb (c:Int) (w:World) :
  Calls Tryz.prog 166 #[.int .i64 c] w fun e w'=>e=.returned (.bool (Mt.zCT c))∧w=w':=by
 rcases (show (c<65∧Mt.zCT c=false)∨((65≤c∧c≤90)∧Mt.zCT c=true)∨((90<c∧c<97)∧Mt.zCT c=false)∨((97≤c∧c≤122)∧Mt.zCT c=true)∨(122<c∧Mt.zCT c=false) by
   simp only [Mt.zCT,decide_eq_true_eq,decide_eq_false_iff_not];omega) with ⟨h,e⟩ | ⟨⟨h,h'⟩,e⟩ | ⟨⟨h,h'⟩,e⟩ | ⟨⟨h,h'⟩,e⟩ | ⟨h,e⟩
 all_goals
  rw [e];clear e
  go_enter Tryz.func166,Tryz.ntmps166
  go_wp2
  go_ret
  first | exact ⟨rfl,rfl⟩ | exact ⟨kP (by simp;omega),rfl⟩
theorem qC (c:Int) (w:World) :
  Calls Tryz.prog 156 #[.int .i64 c] w fun e w'=>e=.returned (.bool (c==100||c==119))∧w=w':=by
 cases a:(c==100) <;> cases b:(c==119)
 all_goals
  go_enter Tryz.func156,Tryz.ntmps156
  go_wp2
  go_ret
  first | exact ⟨rfl,rfl⟩ | exact ⟨kP (by simp_all),rfl⟩
def zJq (c:Int):Bool:=c != -1&&!Mt.zCT c&&!Mt.zCX c
theorem zAW (c:Int) (w:World) :
  Calls Tryz.prog 158 #[.int .i64 c] w fun e w'=>e=.returned (.bool (zJq c))∧w=w':=by
 unfold zJq
 cases a:(c != -1) <;> cases b:Mt.zCT c <;> cases d:Mt.zCX c
 all_goals
  go_enter Tryz.func158,Tryz.ntmps158
  go_wp2_with (first | (go_at_call 166;refine (zIb _ _).mono ?_;rintro e w' ⟨rfl,rfl⟩) | (go_at_call 164;refine (zFm _ _).mono ?_;rintro e w' ⟨rfl,rfl⟩))
  all_goals
   go_ret
   first | exact ⟨rfl,rfl⟩ | exact ⟨kP (by simp_all),rfl⟩
def zLh (S:Mt.zBw):Array Value:=((List.range 256).map fun c=>Value.bool (S c)).toArray
theorem zIc (S:Mt.zBw):(zLh S).size=256:=by simp [zLh]
theorem zGY (S:Mt.zBw) (c:Nat) (h:c<256):(zLh S)[c]?=some (.bool (S c)):=by
 unfold zLh;rw [List.getElem?_toArray,List.getElem?_map,List.getElem?_range h];rfl
theorem zKd (S T:Mt.zBw) (k:Nat) (b:Bool) (hk:k<256) (h:∀ c,T c=if c=k then b else S c):(zLh S).setIfInBounds k (.bool b)=zLh T:=by
 apply Array.ext
 ·simp [zLh]
 ·intro i h1 h2
  simp only [Array.size_setIfInBounds,zIc] at h1
  rw [Array.getElem_setIfInBounds (by rw [zIc];exact h1)]
  simp only [zLh,List.getElem_toArray,List.getElem_map,List.getElem_range]
  rw [h i]
  by_cases e:k=i
  ·rw [if_pos e,if_pos e.symm]
  ·rw [if_neg e,if_neg (Ne.symm e)]
theorem zId {S T:Mt.zBw} (h:Mt.zQo S T):zLh S=zLh T:=by
 unfold zLh
 congr 1
 apply List.map_congr_left
 intro c hc
 rw [h c (by simpa using hc)]
def setAt (w:World) (g:Nat) (S:Mt.zBw):Prop:=w.heap[g]?=some (.cells (zLh S) 208 (0,0))
structure Only (g:Nat) (w w':World):Prop where
 os:w'.os=w.os
 tape:w'.tape=w.tape
 output:w'.output=w.output
 size:w'.heap.size=w.heap.size
 block:∀ k,k≠g→w'.heap[k]?=w.heap[k]?
theorem Only.refl (g:Nat) (w:World):Only g w w:=⟨rfl,rfl,rfl,rfl,fun _ _=>rfl⟩
theorem Only.trans {g:Nat} {a b c:World} (h:Only g a b) (k:Only g b c):Only g a c :=
 ⟨k.os.trans h.os,k.tape.trans h.tape,k.output.trans h.output,k.size.trans h.size,fun i hi=>(k.block i hi).trans (h.block i hi)⟩
theorem Only.set {g:Nat} {a w:World} (h:Only g a w) (k:Nat) (u:Value):Only g a (w.setCell ⟨g,k,none⟩ u) :=
 h.trans ⟨rfl,rfl,rfl,by simp [World.setCell],fun i hi=>Below.heap_setCell _ _ _ _ hi⟩
theorem Only.below {g L:Nat} {a w:World} (h:Only g a w) (hl:L≤g):Below L a w :=
 ⟨h.os,h.tape,h.output,Nat.le_of_eq h.size.symm,fun i hi=>h.block i (by omega)⟩
theorem vE (w:World) (g:Nat) (S:Mt.zBw) (a b:Int) (hS:setAt w g S) :
  Calls Tryz.prog 152 #[.pointer (some ⟨g,0,none⟩),.int .i64 a,.int .i64 b] w fun e w'=>e=.returned (.tuple #[])∧setAt w' g (Mt.zAB S a b)∧Only g w w':=by
 have H0:Hid (setAt w g (Mt.zBj S a b 0)):=by show setAt _ _ _;rw [Mt.zLd];exact hS
 clear hS
 go_enter Tryz.func152,Tryz.ntmps152
 go_wp2_with fail
 go_loopw [6] (fun i wr=>∃ k:Nat,k≤256∧i=.int .i64 k∧setAt wr g (Mt.zBj S a b k)∧Only g w wr) (fun i _=>256-(intOf i).toNat)
 case atStart=>exact ⟨0,by omega,rfl,H0.out,Only.refl _ _⟩
 case round =>
  obtain ⟨k,hk,rfl,hs,hO⟩:=hrel
  have HS:Hid (setAt wr g (Mt.zBj S a b k)):=hs
  have HO:Hid (Only g w wr):=hO
  by_cases hl:k<256
  ·have zz:wr.cell? ⟨g,k,none⟩=some (.bool (Mt.zBj S a b k k)):=by rw [(zA hs).1,zGY _ _ hl]
   have z2:=(zA hs).2 k
   clear hs hO
   by_cases h1:a≤(k:Int)
   ·by_cases h2:(k:Int)≤b
    ·have HN:=Mt.zMJ S a b k ⟨h1,h2⟩
     have HN':Hid (Mt.zBj S a b (k+1)=fun c=>if c=k then true else Mt.zBj S a b k c):=HN
     clear HN
     go_wp2_with fail
     go_roundw
     case rel =>
      refine ⟨k+1,by omega,by go_num,?_,HO.out.set _ _⟩
      have:=Go.heap_setCell_same wr g k _ _ (.bool true) HS.out
      unfold setAt
      rw [zKd (Mt.zBj S a b k) (Mt.zBj S a b (k+1)) k true hl (fun c=>by rw [HN'.out])] at this
      exact this
     case measure=>simp [intOf];omega
    ·have HN':Hid (Mt.zBj S a b (k+1)=Mt.zBj S a b k):=Mt.zGm S a b k (by omega)
     go_wp2_with fail
     go_roundw
     case rel=>exact ⟨k+1,by omega,by go_num,by rw [HN'.out];exact HS.out,HO.out⟩
     case measure=>simp [intOf];omega
   ·have HN':Hid (Mt.zBj S a b (k+1)=Mt.zBj S a b k):=Mt.zGm S a b k (by omega)
    go_wp2_with fail
    go_roundw
    case rel=>exact ⟨k+1,by omega,by go_num,by rw [HN'.out];exact HS.out,HO.out⟩
    case measure=>simp [intOf];omega
  ·have e:k=256:=by omega
   subst e
   clear hs hO
   go_wp2_with fail
   go_returns
   refine ⟨rfl,?_,HO.out⟩
   have:=HS.out
   unfold setAt at this ⊢
   rw [zId (Mt.zMK S a b)] at this
   exact this
theorem zDu (w:World) (g:Nat) (S:Mt.zBw) (c:Int) (hS:setAt w g S) :
  Calls Tryz.prog 157 #[.pointer (some ⟨g,0,none⟩),.int .i64 c] w fun e w'=>e=.returned (.tuple #[])∧setAt w' g (Mt.zIU S (decide (c=119)))∧Only g w w':=by
 have H0:Hid (setAt w g S):=hS
 clear hS
 cases hc:(c==119)
 ·have HL:Hid (Mt.zIU S (decide (c=119))=Mt.zAB S 48 57):=by
   show _=_;have:¬ c=119:=by simpa using hc
   simp [Mt.zIU,this]
  go_enter Tryz.func157,Tryz.ntmps157
  go_wp2_with fail
  refine (vE w g S 48 57 H0.out).mono ?_
  rintro e w1 ⟨rfl,s1,o1⟩
  have H1:Hid (setAt w1 g (Mt.zAB S 48 57)∧Only g w w1):=⟨s1,o1⟩
  clear s1 o1
  go_wp2_with fail
  go_returns
  exact ⟨rfl,by rw [HL.out];exact H1.out.1,H1.out.2⟩
 ·have HL:Hid (Mt.zIU S (decide (c=119))=Mt.zAB (Mt.zAB (Mt.zAB (Mt.zAB S 48 57) 65 90) 95 95) 97 122):=by
   show _=_;have:c=119:=by simpa using hc
   simp [Mt.zIU,this]
  go_enter Tryz.func157,Tryz.ntmps157
  go_wp2_with fail
  refine (vE w g S 48 57 H0.out).mono ?_
  rintro e w1 ⟨rfl,s1,o1⟩
  have H1:Hid (setAt w1 g (Mt.zAB S 48 57)∧Only g w w1):=⟨s1,o1⟩
  clear s1 o1
  go_wp2_with fail
  refine (vE w1 g _ 65 90 H1.out.1).mono ?_
  rintro e w2 ⟨rfl,s1,o1⟩
  have H2:Hid (setAt w2 g (Mt.zAB (Mt.zAB S 48 57) 65 90)∧Only g w w2):=⟨s1,H1.out.2.trans o1⟩
  clear s1 o1 H1
  go_wp2_with fail
  refine (vE w2 g _ 95 95 H2.out.1).mono ?_
  rintro e w3 ⟨rfl,s1,o1⟩
  have H3:Hid (setAt w3 g (Mt.zAB (Mt.zAB (Mt.zAB S 48 57) 65 90) 95 95)∧Only g w w3):=⟨s1,H2.out.2.trans o1⟩
  clear s1 o1 H2
  go_wp2_with fail
  refine (vE w3 g _ 97 122 H3.out.1).mono ?_
  rintro e w4 ⟨rfl,s1,o1⟩
  have H4:Hid (setAt w4 g (Mt.zAB (Mt.zAB (Mt.zAB (Mt.zAB S 48 57) 65 90) 95 95) 97 122)∧Only g w w4):=⟨s1,H3.out.2.trans o1⟩
  clear s1 o1 H3
  go_wp2_with fail
  go_returns
  exact ⟨rfl,by rw [HL.out];exact H4.out.1,H4.out.2⟩
theorem zEI (w:World) (g:Nat) (S:Mt.zBw) (hS:setAt w g S) :
  Calls Tryz.prog 153 #[.pointer (some ⟨g,0,none⟩)] w fun e w'=>e=.returned (.string ⟨(Mt.qK S 256).toArray⟩)∧Below w.heap.size w w':=by
 obtain ⟨i0,hi,hz0,hz1,hz2⟩:=info_parts Tryz.info5
 have H0:Hid (setAt w g S):=hS
 have hg:g<w.heap.size:=(Array.getElem?_eq_some_iff.1 hS).1
 clear hS
 go_enter Tryz.func153,Tryz.ntmps153
 go_wp2_with fail
 go_loopw [3,4] (fun v i wr=>∃ k:Nat,k≤256∧i=.int .i64 k∧wr.ownsRow w.heap.size 5 1 v (Mt.qK S k).length (zAZ (Mt.qK S k))∧Below w.heap.size w wr) (fun _ i _=>256-(intOf i).toNat)
 case atStart=>exact ⟨0,by omega,rfl,World.ownsRow_nil _ _ _ _,Below.refl _ _⟩
 case round =>
  obtain ⟨k,hk,rfl,hown,hbel⟩:=hrel
  have hl:=Mt.zMM S k
  have hsz:=hbel.size
  by_cases hlt:k<256
  ·have zz:wr.cell? ⟨g,k,none⟩=some (.bool (S k)):=by
    rw [hbel.cell (p:=⟨g,k,none⟩) hg,(zA H0.out).1,zGY _ _ hlt]
   cases hq:S k
   ·rw [hq] at zz
    have H1:Hid (wr.ownsRow w.heap.size 5 1 u3 (Mt.qK S (k+1)).length (zAZ (Mt.qK S (k+1)))):=by rw [Mt.zLf hq];exact hown
    go_wp2_with fail
    go_roundw
    case rel=>exact ⟨k+1,by omega,by go_num,H1.out,hbel⟩
    case measure=>simp [intOf];omega
   ·rw [hq] at zz
    have H1:Hid (zAZ (Mt.qK S (k+1))=zAZ (Mt.qK S k)++[.int .u8 (k:Int)]∧(Mt.qK S (k+1)).length=(Mt.qK S k).length+1):=by
     rw [Mt.zML hq]
     refine ⟨?_,by simp⟩
     simp only [zAZ,List.map_append,List.map_cons,List.map_nil]
     have:(UInt8.ofNat k).toNat=k:=by simp;omega
     rw [this]
    go_wp2_with (first | (at_builtin;refine wpList_append_own _ rfl _ _ 158 rfl w.heap.size 5 i0 (.int .u8 0) 1 1 Tryz.underlying158 hi hz0 hz1 hz2 rfl (by decide) _ _ _ rfl (hown.alloc _) ⟨wr.heap.size,0,none⟩ 1 1 [.int .u8 (k:Int)] rfl rfl ?c1 ?c2 ?c3 ?c4 ?c5 ?_))
    case c1 =>
     intro j u hj
     match j,hj with
     | 0,hj=>simp at hj;subst hj;simp [Addr.add]
    case c2=>intro u hu;simp at hu;subst hu;rfl
    case c3=>unfold maxLen;omega
    case c4=>omega
    case c5=>simp;omega
    ·intro v' w1 hown' hgrow _
     have R1:Hid (w1.ownsRow w.heap.size 5 1 v' (Mt.qK S (k+1)).length (zAZ (Mt.qK S (k+1)))):=by
      show World.ownsRow _ _ _ _ _ _ _
      rw [H1.out.1,H1.out.2];exact hown'
     have R2:Hid (Below w.heap.size w w1):=(hbel.alloc hsz _).grown hgrow (by simp;omega) (fun q hq'=>(hown.lt q hq').1)
     clear hown' hgrow
     go_wp2_with fail
     go_roundw
     case rel=>exact ⟨k+1,by omega,by go_num,R1.out,R2.out⟩
     case measure=>simp [intOf];omega
  ·have e:k=256:=by omega
   subst e
   have hcv:=zF8 wr w.heap.size u3 (Mt.qK S 256) hown
   go_wp2_with fail
   go_returns
   exact ⟨rfl,hbel⟩
def cbP (p:ByteArray) (i:Int):Int × Int × Bool:=if (Mt.zD p i).2=0 then (0,0,false) else ((Mt.zD p i).1,i+(Mt.zD p i).2,true)
theorem zKe (d:Int) (hd:-1≤d):zJq d=true↔¬ (d<0∨Mt.zCX d=true∨Mt.zCT d=true):=by
 unfold zJq
 cases Mt.zCX d <;> cases Mt.zCT d <;> simp <;> omega
theorem zMO (p:ByteArray) (i:Int) :
  ((Mt.atB p i==-1)=true∧cbP p i=(0,0,false))∨((Mt.atB p i==-1)=false∧(Mt.atB p i==93)=true∧cbP p i=(0,0,false)) ∨
  ((Mt.atB p i==-1)=false∧(Mt.atB p i==93)=false∧(Mt.atB p i==45)=true∧cbP p i=(0,0,false)) ∨
  ((Mt.atB p i==-1)=false∧(Mt.atB p i==93)=false∧(Mt.atB p i==45)=false∧(Mt.atB p i==92)=true∧zJq (Mt.atB p (i+1))=false∧cbP p i=(0,0,false)) ∨
  ((Mt.atB p i==-1)=false∧(Mt.atB p i==93)=false∧(Mt.atB p i==45)=false∧(Mt.atB p i==92)=true∧zJq (Mt.atB p (i+1))=true∧cbP p i=(Mt.atB p (i+1),i+2,true)) ∨
  ((Mt.atB p i==-1)=false∧(Mt.atB p i==93)=false∧(Mt.atB p i==45)=false∧(Mt.atB p i==92)=false∧cbP p i=(Mt.atB p i,i+1,true)):=by
 unfold cbP Mt.zD
 have l0:=Mt.zHy p i
 have l1:=Mt.zHy p (i+1)
 have he:=zKe (Mt.atB p (i+1)) l1
 generalize Mt.atB p i=c at *
 generalize Mt.atB p (i+1)=d at *
 simp only [beq_iff_eq,beq_eq_false_iff_ne]
 by_cases h1:c<0∨c=93∨c=45
 ·rw [if_pos h1];simp;omega
 ·rw [if_neg h1]
  by_cases h2:c≠92
  ·rw [if_pos h2];simp;omega
  ·rw [if_neg h2]
   by_cases h3:d<0∨Mt.zCX d=true∨Mt.zCT d=true
   ·rw [if_pos h3]
    have:zJq d=false:=by cases x:zJq d;rfl;exact absurd h3 (he.1 x)
    simp [this];omega
   ·rw [if_neg h3]
    have:zJq d=true:=he.2 h3
    simp [this];omega
theorem yZ (p:ByteArray) (i:Int) (w:World) (hp:p.size≤64) (zQ5:0≤i) (zQ6:i≤1000) :
  Calls Tryz.prog 165 #[.string p,.int .i64 i] w fun e w'=>e=.returned (.tuple #[.int .i64 (cbP p i).1,.int .i64 (cbP p i).2.1,.bool (cbP p i).2.2])∧w=w':=by
 rcases zMO p i with ⟨a1,e⟩ | ⟨a1,a2,e⟩ | ⟨a1,a2,a3,e⟩ | ⟨a1,a2,a3,a4,a5,e⟩ | ⟨a1,a2,a3,a4,a5,e⟩ | ⟨a1,a2,a3,a4,e⟩
 all_goals
  rw [e];clear e
  go_enter Tryz.func165,Tryz.ntmps165
  go_wp2_with (first | (go_at_call 132;refine (zO _ _ _ hp).mono ?_;rintro e w' ⟨rfl,rfl⟩) | (go_at_call 158;refine (zAW _ _).mono ?_;rintro e w' ⟨rfl,rfl⟩))
  refine bodyPost_ret (results_tmp3 rfl _ _ _) rfl ?_
  exact ⟨rfl,rfl⟩
def xQ (p:ByteArray) (i:Int):Int × Int × Bool:=if (Mt.number p i).2=0∨20<(Mt.number p i).1 then (0,0,false) else ((Mt.number p i).1,i+(Mt.number p i).2,true)
theorem zLi (p:ByteArray) (i:Int) :
  (Mt.zCX (Mt.atB p i)=false∧xQ p i=(0,0,false)) ∨
  (48≤Mt.atB p i∧Mt.atB p i≤57∧Mt.zCX (Mt.atB p i)=true∧Mt.zCX (Mt.atB p (i+1))=false∧xQ p i=(Mt.atB p i-48,i+1,true)) ∨
  (48≤Mt.atB p i∧Mt.atB p i≤57∧48≤Mt.atB p (i+1)∧Mt.atB p (i+1)≤57∧Mt.zCX (Mt.atB p i)=true∧Mt.zCX (Mt.atB p (i+1))=true ∧
   (
   (decide (20<(Mt.atB p i-48)*10+Mt.atB p (i+1)-48)=true∧xQ p i=(0,0,false)) ∨
   (decide (20<(Mt.atB p i-48)*10+Mt.atB p (i+1)-48)=false∧xQ p i=((Mt.atB p i-48)*10+Mt.atB p (i+1)-48,i+1+1,true)))):=by
 unfold xQ Mt.number
 simp only [Mt.zCX,decide_eq_true_eq,decide_eq_false_iff_not]
 generalize Mt.atB p i=c
 generalize Mt.atB p (i+1)=d
 by_cases h1:c<48∨57<c
 ·rw [if_pos h1];simp;omega
 ·rw [if_neg h1]
  by_cases h2:d<48∨57<d
  ·rw [if_pos h2];simp;omega
  ·rw [if_neg h2]
   by_cases h3:20<10*(c-48)+d-48
   ·simp [h3];omega
   ·simp [h3];omega
theorem yC (p:ByteArray) (i:Int) (w:World) (hp:p.size≤64) (zQ5:0≤i) (zQ6:i≤1000) :
  Calls Tryz.prog 150 #[.string p,.int .i64 i] w fun e w'=>e=.returned (.tuple #[.int .i64 (xQ p i).1,.int .i64 (xQ p i).2.1,.bool (xQ p i).2.2])∧w=w':=by
 rcases zLi p i with ⟨a1,e⟩ | ⟨b1,b2,a1,a2,e⟩ | ⟨b1,b2,b3,b4,a1,a2,⟨a3,e⟩ | ⟨a3,e⟩⟩
 all_goals
  rw [e];clear e
  go_enter Tryz.func150,Tryz.ntmps150
  go_wp2_with (first | (go_at_call 132;refine (zO _ _ _ hp).mono ?_;rintro e w' ⟨rfl,rfl⟩) | (go_at_call 164;refine (zFm _ _).mono ?_;rintro e w' ⟨rfl,rfl⟩))
  refine bodyPost_ret (results_tmp3 rfl _ _ _) rfl ?_
  exact ⟨rfl,rfl⟩
def xH (p:ByteArray) (i:Int):Int × Int × Bool:=if Mt.atB p i=125 then (-1,i,true) else xQ p i
theorem vX (p:ByteArray) (i:Int) (w:World) (hp:p.size≤64) (zQ5:0≤i) (zQ6:i≤1000) :
  Calls Tryz.prog 151 #[.string p,.int .i64 i] w fun e w'=>e=.returned (.tuple #[.int .i64 (xH p i).1,.int .i64 (xH p i).2.1,.bool (xH p i).2.2])∧w=w':=by
 cases a:(Mt.atB p i==125)
 ·have e:xH p i=xQ p i:=by unfold xH;rw [if_neg (by simpa using a)]
  rw [e];clear e
  go_enter Tryz.func151,Tryz.ntmps151
  go_wp2_with (first | (go_at_call 132;refine (zO _ _ _ hp).mono ?_;rintro e w' ⟨rfl,rfl⟩) | (go_at_call 150;refine (yC _ _ _ hp (by omega) (by omega)).mono ?_;rintro e w' ⟨rfl,rfl⟩))
  refine bodyPost_ret (results_tmp3 rfl _ _ _) rfl ?_
  exact ⟨rfl,rfl⟩
 ·have e:xH p i=(-1,i,true):=by unfold xH;rw [if_pos (by simpa using a)]
  rw [e];clear e
  go_enter Tryz.func151,Tryz.ntmps151
  go_wp2_with (first | (go_at_call 132;refine (zO _ _ _ hp).mono ?_;rintro e w' ⟨rfl,rfl⟩))
  refine bodyPost_ret (results_tmp3 rfl _ _ _) rfl ?_
  exact ⟨rfl,rfl⟩
theorem zCt (b:Nat) (t:TypeId):∀ (vs:List Value) (o:Nat) (w:World) (C:Array Value),w.heap[b]?=some (.cells C t (0,0))→∃ D:Array Value,(w.setCells b o vs).heap[b]?=some (.cells D t (0,0))∧D.size=C.size
 | [],o,w,C,h=>⟨C,h,rfl⟩
 | v::r,o,w,C,h=>by
  obtain ⟨D,h1,h2⟩:=zCt b t r (o+1) (w.setCell ⟨b,o,none⟩ v) _ (Go.heap_setCell_same w b o C t v h)
  exact ⟨D,h1,by rw [h2];simp⟩
theorem jQ (b:Nat):∀ (vs:List Value) (o:Nat) (w:World) (k:Nat),k≠b→(w.setCells b o vs).heap[k]?=w.heap[k]?
 | [],o,w,k,h=>rfl
 | v::r,o,w,k,h=>by
  show ((w.setCell ⟨b,o,none⟩ v).setCells b (o+1) r).heap[k]?=_
  rw [jQ b r (o+1) _ k h,Below.heap_setCell _ _ _ _ h]
theorem zCJ {w:World} {b:Nat} {t:TypeId} {B:Array Value} (h:w.heap[b]?=some (.cells B t (0,0))) (cs:Array Value) (hs:cs.size=B.size) :
  (w.setCells b 0 cs.toList).heap[b]?=some (.cells cs t (0,0)):=by
 obtain ⟨D,h1,h2⟩:=zCt b t cs.toList 0 w B h
 have hb:=zA h
 obtain ⟨w2,e,q1,_⟩:=zCh hb.1 hb.2 cs hs
 have hd:=zA h1
 have:D=cs:=by
  apply Array.ext (by omega)
  intro i hi1 hi2
  have a1:=hd.1 i
  have a2:=q1 i
  rw [e] at a2
  rw [a2,Array.getElem?_eq_getElem hi1,Array.getElem?_eq_getElem hi2] at a1
  simpa using a1.symm
 rw [h1,this]
theorem yS {w:World} {b:Nat} {t:TypeId} {A:Array Value} (h:w.heap[b]?=some (.cells A t (0,0))):w.rangeAt b 0 A.toList:=fun j v hv=>by
 rw [Nat.zero_add,(zA h).1 j];simpa using hv
section
variable {P:Program} {ops:Array Oper} {rest:List Oper} {op:Oper} {a:Act} {w:World} {Q:Exit→Act→World→Prop}
theorem zZ (ty:TypeId) (n:Nat) {d:TypeDesc} (hu:P.underlying ty=some d) (hd:d.isRow=true) (hn:(P.info? ty).map (·.size)=some n) (hgd:op.guard=none) (x:Operand) (ho:op.op=.load ty x)
  (b:Nat) (hx:a.eval x=.pointer (some ⟨b,0,none⟩)) {t:TypeId} {A:Array Value} (hA:w.heap[b]?=some (.cells A t (0,0))) (hs:A.size=n)
  (h:wpList P ops Q rest (a.put op.dst (.agg A)) w):wpList P ops Q (op::rest) a w :=
 wpList_load_mid hgd _ x ho b 0 hx A.toList _ (yS hA) hu hd (by rw [hn];simp [hs]) h
theorem zI (ty:TypeId) (n:Nat) (hn:(P.info? ty).map (·.size)=some n) (hgd:op.guard=none) (x y:Operand) (ho:op.op=.store ty x y)
  (b:Nat) (cs:Array Value) (hx:a.eval x=.pointer (some ⟨b,0,none⟩)) (hy:a.eval y=.agg cs) {t:TypeId} {B:Array Value} (hB:w.heap[b]?=some (.cells B t (0,0))) (hs:B.size=n) (hc:cs.size=n) (h1:cs.all (·.oneCell')=true)
  (h:∀ w2:World,w2.heap[b]?=some (.cells cs t (0,0))→(∀ k,k≠b→w2.heap[k]?=w.heap[k]?)→w2.heap.size=w.heap.size→(∀ L,L≤b→Below L w w2)→wpList P ops Q rest (a.put op.dst undef) w2):wpList P ops Q (op::rest) a w:=by
 have hb:=zA hB
 refine wpList_store_mid hgd _ x y ho b 0 cs hx hy (jN hb.1 hb.2 _ (by omega)) (by rw [hn,hc]) h1 ?_
 exact h _ (zCJ hB cs (by omega)) (fun k hk=>jQ b _ 0 w k hk) (below_setCells b _ 0 w 0 (Nat.zero_le _)).2 (fun L hL=>(below_setCells b _ 0 w L hL).1)
end
theorem kL {P:Program} {fn:Func} {p u:Tmp} (ty:TypeId) (n:Nat) {d:TypeDesc} (hu:P.underlying ty=some d) (hd:d.isRow=true) (hn:(P.info? ty).map (·.size)=some n) (hr:fn.results=#[.cell p ty,.tmp u]) {tmps:Array Value} {w:World} {b:Nat} {t:TypeId} {A:Array Value}
  (hp:tmps.getD p undef=.pointer (some ⟨b,0,none⟩)) (hA:w.heap[b]?=some (.cells A t (0,0))) (hs:A.size=n) :
  (results fn tmps).run P w=.ok (.tuple #[.agg A,tmps.getD u undef]) w:=by
 rw [results_cell_tmp hr,hp]
 have:=run_loadVar_mid (P:=P) w b 0 ty A.toList _ (yS hA) hu hd (by rw [hn];simp [hs])
 simp [asAddr,Result.andThen,this]
theorem zGZ {fn:Func} {p:Tmp} {ty:TypeId} (h:fn.results=#[.cell p ty]) (tmps:Array Value) (P:Program) (w:World) :
  (results fn tmps).run P w=((asAddr (tmps.getD p undef)).run P w).andThen fun a w₁=>((loadVar ty a).run P w₁).andThen fun v w₂=>.ok v w₂:=by
 simp only [results,h]
 simp [Sem.run_bind,Result.andThen]
 cases Sem.run P (asAddr (tmps[p]?.getD undef)) w with
 | ok a w1=>dsimp only;cases Sem.run P (loadVar ty a) w1 <;> rfl
 | halt h w1=>rfl
theorem zEJ {P:Program} {fn:Func} {p:Tmp} (ty:TypeId) (n:Nat) {d:TypeDesc} (hu:P.underlying ty=some d) (hd:d.isRow=true) (hn:(P.info? ty).map (·.size)=some n) (hr:fn.results=#[.cell p ty]) {tmps:Array Value} {w:World} {b:Nat} {t:TypeId} {A:Array Value}
  (hp:tmps.getD p undef=.pointer (some ⟨b,0,none⟩)) (hA:w.heap[b]?=some (.cells A t (0,0))) (hs:A.size=n) :
  (results fn tmps).run P w=.ok (.agg A) w:=by
 rw [zGZ hr,hp]
 have:=run_loadVar_mid (P:=P) w b 0 ty A.toList _ (yS hA) hu hd (by rw [hn];simp [hs])
 simp [asAddr,Result.andThen,this]
theorem jE (w:World) (A:Obj):(w.alloc A).heap[w.heap.size]?=some A:=heap_alloc_new _ _
theorem zAX (w:World) (A B:Obj):((w.alloc A).alloc B).heap[w.heap.size]?=some A:=by rw [zX _ _ _ (by simp),heap_alloc_new]
theorem zAH (w:World) (A B:Obj):((w.alloc A).alloc B).heap[w.heap.size+1]?=some B:=by
 have:(w.alloc A).heap.size=w.heap.size+1:=by simp
 rw [← this,heap_alloc_new]
def setMany {α:Type}:List α→Nat→List α→List α
 | xs,_,[]=>xs
 | xs,o,v::r=>setMany (xs.set o v) (o+1) r
theorem zJr {α:Type}:∀ (vs xs:List α) (o:Nat),(setMany xs o vs).length=xs.length
 | [],xs,o=>rfl
 | v::r,xs,o=>by rw [setMany,zJr r];simp
theorem zCu {e:TypeId} {s g n cap base:Nat}:∀ (vs:List Value) (o:Nat) (w:World) (xs:List Value),w.ownsRow base e s (.slice (some ⟨g,0,none⟩) n cap) n xs→(w.setCells g o vs).ownsRow base e s (.slice (some ⟨g,0,none⟩) n cap) n (setMany xs o vs)
 | [],o,w,xs,h=>h
 | v::r,o,w,xs,h=>zCu r (o+1) _ _ (World.ownsRow.stored h o v).1
theorem zKf {α:Type} (f:α→List Value) (k:Nat) (hk:∀ a,(f a).length=k):∀ (l:List α) (i j:Nat) (v:Value) (a':α),i<l.length→j<k→(∀ a,l[i]?=some a→f a'=(f a).set j v)→(l.flatMap f).set (i*k+j) v=(l.set i a').flatMap f
 | [],i,j,v,a',h,_,_=>by simp at h
 | x::r,0,j,v,a',_,hj,h=>by
  simp only [List.flatMap_cons,List.set_cons_zero]
  rw [show 0*k+j=j by omega,List.set_append_left _ _ (by rw [hk];exact hj),h x rfl]
 | x::r,i+1,j,v,a',hi,hj,h=>by
  simp only [List.flatMap_cons,List.set_cons_succ]
  have e:(i+1)*k+j=k+(i*k+j):=by rw [Nat.add_mul];omega
  rw [e,List.set_append_right _ _ (by rw [hk];omega),hk,show k+(i*k+j)-k=i*k+j by omega,zKf f k hk r i j v a' (by simpa using hi) hj (fun a ha=>h a (by simpa using ha))]
theorem zEl {α:Type} (f:α→List Value) (k:Nat) (hk:∀ a,(f a).length=k):∀ (l:List α) (i j:Nat) (vs:List Value) (a':α),i<l.length→j+vs.length≤k→(∀ a,l[i]?=some a→f a'=setMany (f a) j vs)→setMany (l.flatMap f) (i*k+j) vs=(l.set i a').flatMap f:=by
 have key:∀ (vs:List Value) (L:List Value) (p:Nat) (X Y:List Value),X.length+Y.length≤L.length→L=X++Y++L.drop (X.length+Y.length)→∀ j,j+vs.length≤Y.length→setMany L (X.length+j) vs=X++setMany Y j vs++L.drop (X.length+Y.length):=by
  intro vs
  induction vs with
  | nil=>intro L p X Y h1 h2 j hj;simpa [setMany] using h2
  | cons v r ih =>
   intro L p X Y h1 h2 j hj
   simp only [List.length_cons] at hj
   simp only [setMany]
   have e:L.set (X.length+j) v=X++Y.set j v++L.drop (X.length+Y.length):=by
    conv=>lhs;rw [h2]
    rw [List.append_assoc,List.set_append_right _ _ (by omega),show X.length+j-X.length=j by omega,List.set_append_left _ _ (by omega),List.append_assoc]
   have d:(L.set (X.length+j) v).drop (X.length+Y.length)=L.drop (X.length+Y.length):=by rw [List.drop_set_of_lt (by omega)]
   have:=ih (L.set (X.length+j) v) p X (Y.set j v) (by simpa using h1) (by rw [List.length_set,d];exact e) (j+1) (by simp;omega)
   rw [List.length_set,d] at this
   rw [show X.length+j+1=X.length+(j+1) by omega,this]
 intro l
 induction l with
 | nil=>intro i j vs a' h;simp at h
 | cons x r ih =>
  intro i j vs a' hi hj h
  match i with
  | 0 =>
   have:=key vs ((x::r).flatMap f) 0 [] (f x) (by simp) (by simp) j (by rw [hk];exact hj)
   simp only [List.length_nil,Nat.zero_add,List.nil_append] at this
   rw [show 0*k+j=j by omega,this,← h x rfl]
   simp
  | i+1 =>
   have e:(i+1)*k+j=k+(i*k+j):=by rw [Nat.add_mul];omega
   have fl:∀ m:List α,(m.flatMap f).length=m.length*k:=by
    intro m;induction m with
    | nil=>simp
    | cons y s ihs=>rw [List.flatMap_cons,List.length_append,ihs,hk,List.length_cons,Nat.add_mul];omega
   have hir:i<r.length:=by simpa using hi
   have:=key vs ((x::r).flatMap f) 0 (f x) (r.flatMap f) (by simp) (by simp) (i*k+j) (by
    rw [fl]
    have:(i+1)*k≤r.length*k:=Nat.mul_le_mul_right _ (by omega)
    rw [Nat.add_mul] at this;omega)
   rw [hk] at this
   rw [e,this,ih i j vs a' hir hj (fun a ha=>h a (by simpa using ha))]
   simp [hk]
theorem zEK {P:Program} {op:Oper} {r:Operand→Value} {t:TypeId} {parts:Array (Nat × Operand)} (hop:op.op=.build t parts) {z:World} {u:Value} (h:(Instr.build t (parts.map fun q=>(q.1,r q.2))).run P z=.ok u z):(execOp r op).run P z=.ok (.value u) z:=by
 unfold execOp
 simp only [hop]
 simp only [Sem.run_bind,h,Result.andThen_ok,Sem.run_pure]
theorem zRE {P:Program} {md:Region.Mode} {ops:Array Oper} {Q:Exit→Act→World→Prop} {S:World→Prop} (i:Nat) (oi:Oper) {fuel:Nat} {listed:Array Bool} {a:Act} {w:World} (hi:ops[i]?=some oi) (hgd:oi.guard=none) (hr:Region.ready md ops listed=[i]) (hr2:Region.ready md ops (listed.setIfInBounds i true)=[])
  (h:Oper.wp P oi a w (fun a' w'=>S w'∧Q .normal a' w') Q):wpAnyH P md ops Q S (fuel+1) listed a w:=by
 refine ⟨fun h0=>(by rw [hr] at h0;cases h0),fun j hj=>?_⟩
 rw [hr] at hj
 simp only [List.mem_singleton] at hj
 subst hj
 refine wpOp_mono (K:=fun a' w'=>S w'∧Q .normal a' w') (fun a' w' (h':S w'∧Q .normal a' w')=>⟨h'.1,wpAnyH_done hr2 h'.2 _⟩) ?_
 have hw:Region.wanted oi (yielded ops a.tmps)=true:=by simp [Region.wanted,hgd]
 unfold wpOp
 simp only [hi,hw,if_true]
 exact .inl h
theorem zCv {P:Program} {md:Region.Mode} {ops:Array Oper} {Q:Exit→Act→World→Prop} {S:World→Prop} (i:Nat) (oi:Oper) {fuel:Nat} {listed:Array Bool} {a:Act} {w:World} (hi:ops[i]?=some oi) (hgd:oi.guard=none) (hr:Region.ready md ops listed=[i]) (hr2:Region.ready md ops (listed.setIfInBounds i true)=[])
  (ty:TypeId) (x y:Operand) (ho:oi.op=.store ty x y) (b o:Nat) (cells:Array Value) (hx:a.eval x=.pointer (some ⟨b,o,none⟩)) (hy:a.eval y=.agg cells) (ht:w.there b o cells.size) (hz:(P.info? ty).map (·.size)=some cells.size) (h1:cells.all (·.oneCell')=true)
  (hdn:oi.dst=none) (h:S (w.setCells b o cells.toList)∧Q .normal a (w.setCells b o cells.toList)):wpAnyH P md ops Q S (fuel+1) listed a w :=
 zRE i oi hi hgd hr hr2 (wp_store_mid ty x y ho b o cells hx hy ht hz h1 (by rw [hdn];exact h))
theorem kG {P:Program} {md:Region.Mode} {ops:Array Oper} {Q:Exit→Act→World→Prop} {S:World→Prop} (i d:Nat) (v:Value) {oi:Oper} {fuel:Nat} {listed:Array Bool} {a:Act} {w:World} (hi:ops[i]?=some oi) (hd:oi.dst=some d)
  (hs:Region.noSelect ops=true) (hf:Region.free md ops listed i=true) (hr:(Region.ready md ops listed).contains i=true)
  (hQ:∀ c a w,Q (.panic c) (a.put (some d) v) w→Q (.panic c) a w) (hy:YieldsIf P ops S oi v a) (hS:S w)
  (h:wpAnyH P md ops Q S fuel (listed.setIfInBounds i true) (a.put (some d) v) w):wpAnyH P md ops Q S (fuel+1) listed a w :=
 wpAnyH_take hi hs hf hr (by rw [hd];exact hQ) hy hS (by rw [hd];exact h)
end Go.Proofs.YtebpgfodelggoaaGreat
