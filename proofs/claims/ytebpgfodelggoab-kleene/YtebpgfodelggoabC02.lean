import Derived.Test.YtebpgfodelggoabC00
set_option linter.unusedVariables false
set_option linter.unusedSimpArgs false
namespace Mt
abbrev BSet:=Nat→Bool
def none0:BSet:=fun _=>false
def addR (S:BSet) (a b:Int):BSet:=fun c=>S c||(decide (a≤(c:Int))&&decide ((c:Int)≤b))
def addTo (S:BSet) (a b:Int) (k:Nat):BSet:=fun c=>if c<k then addR S a b c else S c
theorem addTo_zero (S:BSet) (a b:Int):addTo S a b 0=S:=by funext c;simp [addTo]
theorem addTo_hit (S:BSet) (a b:Int) (k:Nat) (h:a≤(k:Int)∧(k:Int)≤b):addTo S a b (k+1)=fun c=>if c=k then true else addTo S a b k c:=by
 funext c
 simp only [addTo,addR]
 by_cases e:c=k
 ·subst e;simp [h]
 ·rw [if_neg e]
  by_cases l:c<k
  ·rw [if_pos (by omega),if_pos l]
  ·rw [if_neg (by omega),if_neg l]
theorem addTo_miss (S:BSet) (a b:Int) (k:Nat) (h:¬ (a≤(k:Int)∧(k:Int)≤b)):addTo S a b (k+1)=addTo S a b k:=by
 funext c
 simp only [addTo,addR]
 by_cases e:c=k
 ·subst e
  rw [if_pos (by omega),if_neg (by omega)]
  have:(decide (a≤(c:Int))&&decide ((c:Int)≤b))=false:=by
   rw [← Bool.decide_and];simpa using h
  rw [this];simp
 ·by_cases l:c<k
  ·rw [if_pos (by omega),if_pos l]
  ·rw [if_neg (by omega),if_neg l]
def sameB (S T:BSet):Prop:=∀ c,c<256→S c=T c
theorem addTo_end (S:BSet) (a b:Int):sameB (addTo S a b 256) (addR S a b):=fun c h=>by simp [addTo,h]
def notTo (S:BSet) (k:Nat):BSet:=fun c=>if c<k then !S c else S c
theorem notTo_next (S:BSet) (k:Nat):notTo S (k+1)=fun c=>if c=k then !(S k) else notTo S k c:=by
 funext c
 simp only [notTo]
 by_cases e:c=k
 ·subst e;simp
 ·rw [if_neg e]
  by_cases l:c<k
  ·rw [if_pos (by omega),if_pos l]
  ·rw [if_neg (by omega),if_neg l]
def setTo (S:BSet) (n:Nat):List UInt8:=((List.range n).filter S).map UInt8.ofNat
theorem setTo_hit {S:BSet} {n:Nat} (h:S n=true):setTo S (n+1)=setTo S n++[UInt8.ofNat n]:=by
 unfold setTo
 rw [List.range_succ,List.filter_append,List.map_append]
 congr 1
 rw [List.filter_cons,if_pos h];rfl
theorem setTo_miss {S:BSet} {n:Nat} (h:S n=false):setTo S (n+1)=setTo S n:=by
 unfold setTo
 rw [List.range_succ,List.filter_append,List.map_append,List.filter_cons,if_neg (by simp [h])];simp
theorem setTo_len (S:BSet) (n:Nat):(setTo S n).length≤n:=by
 unfold setTo;rw [List.length_map];exact Nat.le_trans (List.length_filter_le _ _) (by simp)
theorem setTo_same {S T:BSet} (h:sameB S T):setTo S 256=setTo T 256:=by
 unfold setTo
 congr 1
 apply List.filter_congr
 intro c hc
 exact h c (by simpa using hc)
theorem setTo_all (p:ByteArray) (a b:Int) (no:Bool):setTo (fun c=>inClass p a b (c:Int) != no) 256=all p a b no:=rfl
theorem filter_one (c:Nat):∀ n,(List.range n).filter (fun k:Nat=>decide (k=c))=if c<n then [c] else []
 | 0=>by simp
 | n+1=>by
  rw [List.range_succ,List.filter_append,filter_one c n]
  by_cases e:n=c
  ·subst e;simp
  ·by_cases l:c<n
   ·rw [if_pos l,if_pos (by omega)];simp [e]
   ·rw [if_neg l,if_neg (by omega)];simp [e]
theorem set_one (c:Int) (h0:0≤c) (h1:c≤255):setTo (addR none0 c c) 256=[UInt8.ofNat c.toNat]:=by
 have:setTo (addR none0 c c) 256=setTo (fun k=>decide (k=c.toNat)) 256:=by
  refine setTo_same (fun k hk=>?_)
  simp only [addR,none0,Bool.false_or]
  rw [← Bool.decide_and]
  congr 1
  exact propext ⟨fun h=>by omega,fun h=>by omega⟩
 rw [this]
 unfold setTo
 rw [filter_one,if_pos (by omega)];rfl
theorem inClass_empty (p:ByteArray) (i c:Int):inClass p i i c=false:=by rw [inClass_step,if_pos (Int.le_refl _)]
theorem set_any (p:ByteArray) (i:Int):setTo (addR none0 0 255) 256=all p i i true:=by
 rw [← setTo_all]
 refine setTo_same (fun k hk=>?_)
 rw [inClass_empty]
 simp [addR,none0];omega
def addL (S:BSet) (w:Bool):BSet:=if w then addR (addR (addR (addR S 48 57) 65 90) 95 95) 97 122 else addR S 48 57
theorem addL_short (S:BSet) (w:Bool) (c:Nat):addL S w c=(S c||shortB w (c:Int)):=by
 unfold addL shortB digB letB
 cases w
 ·simp [addR]
 ·simp only [addR,if_true,Bool.true_and]
  by_cases h1:48≤(c:Int)∧(c:Int)≤57 <;> by_cases h2:65≤(c:Int)∧(c:Int)≤90 <;> by_cases h3:97≤(c:Int)∧(c:Int)≤122 <;> by_cases h4:(c:Int)=95
  all_goals
   simp only [← Bool.decide_and]
   have h5:(95≤(c:Int)∧(c:Int)≤95)↔(c:Int)=95:=by omega
   simp only [h5,h1,h2,h3,h4]
   simp
def addI (p:ByteArray) (i:Int) (S:BSet):BSet :=
 if (item p i).2.2.2 then addL S (decide ((item p i).2.1=119)) else addR S (item p i).1 (item p i).2.1
theorem addI_in (p:ByteArray) (i b:Int) (S:BSet) (c:Nat) (h:i<b) (h0:(item p i).2.2.1≠0):(S c||inClass p i b (c:Int))=(addI p i S c||inClass p (i+(item p i).2.2.1) b (c:Int)):=by
 rw [inClass_step,if_neg (by omega),if_neg h0]
 unfold addI
 cases hw:(item p i).2.2.2
 ·simp only [Bool.false_eq_true,if_false]
  by_cases h1:(item p i).1≤(c:Int)∧(c:Int)≤(item p i).2.1
  ·rw [if_pos h1];simp [addR,h1]
  ·rw [if_neg h1]
   have:(decide ((item p i).1≤(c:Int))&&decide ((c:Int)≤(item p i).2.1))=false:=by rw [← Bool.decide_and];simpa using h1
   simp only [addR,this,Bool.or_false]
 ·simp only [if_true]
  rw [addL_short]
  cases hs:shortB (decide ((item p i).2.1=119)) (c:Int) <;> simp
structure PT where
 kind:Int
 en:Int
 group:Int
 number:Int
 least:Int
 most:Int
 mood:Int
 set:List UInt8
def pt0:PT:=⟨0,0,0,0,0,0,0,[]⟩
def kindP (k:Int):Int:=if k=1 then 5 else if k=2 then 6 else if k=3 then 7 else if k=4 then 8 else if k=5 then 1 else if k=6 then 2 else if k=7 then 3 else if k=8 then 4 else 0
def grpP (h:Int):Int:=if h=4 then 1 else if h=3 then 2 else h+3
def ptok (t:Tok):PT :=
 ⟨kindP t.kind,t.to,if t.kind=6 then grpP t.how else 0,if t.kind=2 then t.n else 0,if t.kind=8 then t.n else 0,if t.kind=8 then t.m else 0,if t.kind=8 then t.how+1 else 0,t.set⟩
def readP (p:ByteArray) (i:Int):PT × Int:=if (nextT p i).2=0 then (ptok (nextT p i).1,0) else (pt0,(nextT p i).2)
end Mt
