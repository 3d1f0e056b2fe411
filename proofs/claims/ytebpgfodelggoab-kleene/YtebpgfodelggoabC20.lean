import Derived.Test.YtebpgfodelggoabC18
import Derived.Test.YtebpgfodelggoabC16
import Derived.Test.YtebpgfodelggoabC13
import Derived.Test.YtebpgfodelggoabC19
set_option linter.unusedVariables false
set_option linter.unusedSimpArgs false
namespace Mt
def dotS:List UInt8:=(List.range 256).map UInt8.ofNat
theorem byteAt_dot (t:ByteArray) (i:Nat):byteAt t i dotS=decide (i<t.size):=by
 unfold byteAt
 by_cases h:i<t.size
 ·rw [if_pos (by omega)]
  have:decide (i<t.size)=true:=by simpa using h
  rw [this]
  unfold hasB byI
  rw [dif_pos h]
  rw [List.any_eq_true]
  refine ⟨t[i]'h,?_,by simp⟩
  unfold dotS
  simp only [List.mem_map,List.mem_range]
  exact ⟨(t[i]'h).toNat,(t[i]'h).toNat_lt,by simp⟩
 ·rw [if_neg (by omega)]
  simpa using h
variable {E:Env} {A:Int→Att}
def keysAt (E:Env) (p:Nat):List Nat:=(List.range (E.t.size+1)).flatMap fun pos=>(List.range (loopsAt E.c p+1)).map fun l=>(p*(E.t.size+1)+pos)*12+l
def keysTo (E:Env):Nat→List Nat
 | 0=>[]
 | p+1=>keysTo E p++keysAt E p
theorem flat_len {f:Nat→List Nat} {m:Nat} (h:∀ i,(f i).length=m):∀ k,((List.range k).flatMap f).length=k*m
 | 0=>by simp
 | k+1=>by rw [List.range_succ,List.flatMap_append,List.length_append,flat_len h k];simp [h,Nat.add_mul]
def inTab (E:Env) (kn:List Bool):Nat:=(keysTo E E.c.length).countP fun k=>kn.getD k false
structure Str (E:Env) (A:Int→Att):Prop where
 k:Kn E.c A
 ar:∀ p,p<E.c.length→E.ar.getD p 0=loopsAt E.c p
 inn:∀ s,Good E.c.length E.t.size s→E.isIn s=true
 no11:∀ q,q<E.c.length→(E.c.getD q ins0).op≠11
 few:(E.t.size+1)*weightC E.c<5000
end Mt
namespace Mt
inductive Shape where
 | byte (c:UInt8)
 | dot
 | both (x y:Shape)
 | either (x y:Shape)
 | star (late:Bool) (x:Shape)
 | maybe (late:Bool) (x:Shape)
def lateL (late:Bool):List UInt8:=if late then [63] else []
def Shape.pat:Shape→List UInt8
 | .byte c=>[c]
 | .dot=>[46]
 | .both x y=>x.pat++y.pat
 | .either x y=>40::63::58::(x.pat++124::(y.pat++[41]))
 | .star l x=>40::63::58::(x.pat++41::42::lateL l)
 | .maybe l x=>40::63::58::(x.pat++41::63::lateL l)
def Shape.deep:Shape→Nat
 | .byte _=>0
 | .dot=>0
 | .both x y=>max x.deep y.deep
 | .either x y=>max x.deep y.deep+1
 | .star _ x=>x.deep+1
 | .maybe _ x=>x.deep+1
def Shape.ok:Shape→Prop
 | .byte c=>c=97∨c=98
 | .dot=>True
 | .both x y=>x.ok∧y.ok
 | .either x y=>x.ok∧y.ok
 | .star _ x=>x.ok
 | .maybe _ x=>x.ok
def Shape.loops:Shape→Nat
 | .byte _=>0
 | .dot=>0
 | .both x y=>x.loops+y.loops
 | .either x y=>x.loops+y.loops
 | .star _ x=>x.loops+1
 | .maybe _ x=>x.loops
def starRe (l:Bool) (x r:Re):Re:=.cat (.cat .eps (.loop l x)) r
def maybeRe (l:Bool) (x r:Re):Re:=.cat (.cat .eps (.opt l (.cat x .eps))) r
def Shape.be:Shape→Re→Re
 | .byte c,r=>.cat (.one [c]) r
 | .dot,r=>.cat (.one dotS) r
 | .both x y,r=>x.be (y.be r)
 | .either x y,r=>.cat (.alt (x.be .eps) (y.be .eps)) r
 | .star l x,r=>starRe l (x.be .eps) r
 | .maybe l x,r=>maybeRe l (x.be .eps) r
def moodI (l:Bool):Int:=if l then 1 else 0
def Shape.fs:Shape→Int→Fs→Fs
 | .byte c,i,rest=>.leaf ⟨1,i,i+1,0,0,0,[c]⟩ none rest
 | .dot,i,rest=>.leaf ⟨1,i,i+1,0,0,0,dotS⟩ none rest
 | .both x y,i,rest=>x.fs i (y.fs (i+x.pat.length) rest)
 | .either x y,i,rest=>.grp ⟨6,i,i+3,0,0,3,[]⟩ (x.fs (i+3) (.bar ⟨5,i+3+x.pat.length,i+3+x.pat.length+1,0,0,0,[]⟩ (y.fs (i+3+x.pat.length+1) .nil))) ⟨7,i+3+x.pat.length+1+y.pat.length,i+3+x.pat.length+1+y.pat.length+1,0,0,0,[]⟩ none rest
 | .star l x,i,rest=>.grp ⟨6,i,i+3,0,0,3,[]⟩ (x.fs (i+3) .nil) ⟨7,i+3+x.pat.length,i+3+x.pat.length+1,0,0,0,[]⟩ (some ⟨8,i+3+x.pat.length+1,i+3+x.pat.length+1+1+(lateL l).length,0,-1,moodI l,[]⟩) rest
 | .maybe l x,i,rest=>.grp ⟨6,i,i+3,0,0,3,[]⟩ (x.fs (i+3) .nil) ⟨7,i+3+x.pat.length,i+3+x.pat.length+1,0,0,0,[]⟩ (some ⟨8,i+3+x.pat.length+1,i+3+x.pat.length+1+1+(lateL l).length,0,1,moodI l,[]⟩) rest
end Mt
