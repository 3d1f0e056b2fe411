import Derived.Test.YtebpgfodelggoabC17
import Derived.Test.YtebpgfodelggoabC10
set_option linter.unusedVariables false
set_option linter.unusedSimpArgs false
namespace Mt
def capRe (k:Int) (w:List UInt8):Re:=.cat (.cap k (wordRe w)) .eps
def orderRe (u v w:List UInt8):Re:=.alt (capRe 1 u) (.alt (capRe 2 v) (capRe 3 w))
def orderC (u v w:List UInt8):List Ins:=(orderRe u v w).code 0 0++[⟨13,0,0,[]⟩]
variable {E:Env} {u v w:List UInt8} {R:List Int} {pos:Nat}
def firstOf (t:ByteArray) (i:Nat) (u v w:List UInt8):Int:=if standsB t i u then 0 else if standsB t i v then 1 else if standsB t i w then 2 else -1
def nth3 (k:Int) (u v w:List UInt8):List UInt8:=if k=0 then u else if k=1 then v else w
def free:List Int:=nowhere++List.replicate 22 0
end Mt
namespace Mt
inductive Reads (p:ByteArray):List Tok→Int→List Tok→Int→Prop
 | nil (l:List Tok) (i:Int):Reads p l i [] i
 | cons {l m:List Tok} {i j:Int} {t:Tok} (h0:0≤i) (h1:i<p.size) (ht:nextT p i=(t,0)) (hm:may l t=0) (hl:Reads p (l++[joined l t]) t.to m j):Reads p l i (joined l t::m) j
theorem Reads.app {p:ByteArray} {l m n:List Tok} {i j k:Int} (h:Reads p l i m j):Reads p (l++m) j n k→Reads p l i (m++n) k:=by
 induction h with
 | nil l i=>intro g;simpa using g
 | cons h0 h1 ht hm hl ih =>
  intro g
  exact Reads.cons h0 h1 ht hm (ih (by simpa using g))
theorem Reads.one {p:ByteArray} {l:List Tok} {i:Int} {t u:Tok} (h0:0≤i) (h1:i<p.size) (ht:nextT p i=(t,0)) (hm:may l t=0) (hu:joined l t=u):Reads p l i [u] t.to:=by
 subst hu;exact Reads.cons h0 h1 ht hm (Reads.nil _ _)
def wordC (c:UInt8):Bool:=digB (c.toNat:Int)||letB (c.toNat:Int)
def quoteL:List UInt8→List UInt8
 | []=>[]
 | c::w=>if wordC c then c::quoteL w else 92::c::quoteL w
theorem quoteL_len:∀ w:List UInt8,(quoteL w).length≤2*w.length
 | []=>Nat.le_refl _
 | c::w=>by
  have:=quoteL_len w
  simp only [quoteL];split <;> simp only [List.length_cons] <;> omega
def wide (c:UInt8):Int:=if wordC c then 1 else 2
def qToks:List UInt8→Int→List Tok
 | [],_=>[]
 | c::w,i=>⟨1,i,i+wide c,0,0,0,[c]⟩::qToks w (i+wide c)
def qFs:List UInt8→Int→Fs→Fs
 | [],_,rest=>rest
 | c::w,i,rest=>.leaf ⟨1,i,i+wide c,0,0,0,[c]⟩ none (qFs w (i+wide c) rest)
def wordBe:List UInt8→Re→Re
 | [],r=>r
 | c::w,r=>.cat (.one [c]) (wordBe w r)
def capToks (k:Int) (w:List UInt8) (i:Int):List Tok:=⟨6,i,i+1,k,0,4,[]⟩::(qToks w (i+1)++[⟨7,i+1+(quoteL w).length,i+1+(quoteL w).length+1,0,0,0,[]⟩])
def orderL (u v w:List UInt8):List UInt8:=40::(quoteL u++(41::124::40::(quoteL v++(41::124::40::(quoteL w++[41])))))
theorem orderL_len (u v w:List UInt8):(orderL u v w).length=(quoteL u).length+(quoteL v).length+(quoteL w).length+8:=by simp [orderL];omega
def capFs (k:Int) (w:List UInt8) (i:Int) (rest:Fs):Fs:=.grp ⟨6,i,i+1,k,0,4,[]⟩ (qFs w (i+1) .nil) ⟨7,i+1+(quoteL w).length,i+1+(quoteL w).length+1,0,0,0,[]⟩ none rest
variable {E:Env} {r:Option Sta} {R:List Int} {K L:Nat} {pc pos:Nat}
def cutRe (u v w:List UInt8):Re:=.cat (.sub 0 (.alt (wordRe u) (wordRe v))) (wordRe w)
def cutC (u v w:List UInt8):List Ins:=(cutRe u v w).code 0 0++[⟨13,0,0,[]⟩]
def cutAt (t:ByteArray) (u v w:List UInt8) (i:Nat):Option Nat :=
 if standsB t i u then (if standsB t (i+u.length) w then some (u.length+w.length) else none)
 else if standsB t i v then (if standsB t (i+v.length) w then some (v.length+w.length) else none) else none
def seeRe (s:Int) (u v:List UInt8):Re:=.cat (.sub s (wordRe u)) (wordRe v)
def seeC (s:Int) (u v:List UInt8):List Ins:=(seeRe s u v).code 0 0++[⟨13,0,0,[]⟩]
def seeAt (t:ByteArray) (u v:List UInt8) (yes:Bool) (i:Nat):Option Nat :=
 if standsB t i u=yes then (if standsB t i v then some v.length else none) else none
section
variable {u v w:List UInt8}
end
end Mt
