import Derived.Test.YtebpgfodelggoabC13
import Derived.Test.YtebpgfodelggoabC16
set_option linter.unusedVariables false
set_option linter.unusedSimpArgs false
namespace Mt
variable {E:Env} {s u:Sta} {r:Option Sta} {k k1 k2:Nat}
def Gives (E:Env) (s:Sta) (r:Option Sta) (k:Nat):Prop :=
 ∃ u,(∀ v,r=some v→u=v)∧∀ m,look E (m+k) s [] 0=⟨u,r.isSome,m,[],0,false⟩
def Within (E:Env) (K:Nat) (s:Sta) (r:Option Sta):Prop:=∃ k,k≤K∧Gives E s r k
theorem Within.mono {K L:Nat} (h:Within E K s r) (hL:K≤L):Within E L s r:=by
 obtain ⟨k,a,b⟩:=h;exact ⟨k,by omega,b⟩
end Mt
namespace Mt
variable {E:Env} {r:Option Sta} {R:List Int} {K L:Nat} {pc pos:Nat}
def Here (c:List Ins):Nat→List Ins→Prop
 | _,[]=>True
 | p,x::l=>c.getD p ins0=x∧Here c (p+1) l
def byteAt (t:ByteArray) (i:Nat) (s:List UInt8):Bool:=if (i:Int)<t.size then hasB ⟨s.toArray⟩ (byI t i) else false
def wordRe:List UInt8→Re
 | []=>.eps
 | c::w=>.cat (.one [c]) (wordRe w)
def standsB (t:ByteArray):Nat→List UInt8→Bool
 | _,[]=>true
 | i,c::w=>byteAt t i [c]&&standsB t (i+1) w
def capR (R:List Int) (k pos n:Nat):List Int:=((R.set (20+k) (pos:Int)).set (2*k) ((R.set (20+k) (pos:Int)).getD (20+k) 0)).set (2*k+1) ((pos+n:Nat):Int)
end Mt
