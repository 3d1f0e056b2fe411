import Derived.Test.YtebpgfodelggoaaGreatC00
import Derived.Test.YtebpgfodelggoaaGreatRows
import Derived.WalkKit
import Derived.WalkSpells
import Derived.WalkLawsBesides
import Derived.Handy
import Derived.Laws.IdiomStrings
import Derived.Deep.MidRow
set_option linter.unusedVariables false
set_option linter.unusedSimpArgs false
set_option maxHeartbeats 1000000
namespace Mt
structure Ins where
 op:Int
 x:Int
 y:Int
 set:List UInt8
def jA:Ins:=⟨0,0,0,[]⟩
def zAc (i:Ins) (by':Int):Ins :=
 if i.op=2 then ⟨i.op,i.x+by',i.y+by',i.set⟩
 else if i.op=3∨i.op=5 then ⟨i.op,i.x+by',i.y,i.set⟩
 else if i.op=11 then ⟨i.op,i.x,i.y+by',i.set⟩
 else i
def moved (c:List Ins) (by':Int):List Ins:=c.map fun i=>zAc i by'
theorem jV (c:List Ins) (n:Int):(moved c n).length=c.length:=by simp [moved]
def behind (a b:List Ins):List Ins:=if 300<a.length then a else a++moved b a.length
def jL (x y:Int) (late:Bool):List Ins:=if late then [⟨2,y,x,[]⟩] else [⟨2,x,y,[]⟩]
def zIV (M:Int) (i:Ins):Prop:=-M≤i.x∧i.x≤M∧-M≤i.y∧i.y≤M
def fit (M:Int) (c:List Ins):Prop:=(c.length:Int)≤M∧∀ i∈c,zIV M i
theorem vN {M N:Int} {i:Ins} (h:zIV M i) (hn:M≤N):zIV N i:=by unfold zIV at *;omega
theorem zJ {M N:Int} {c:List Ins} (h:fit M c) (hn:M≤N):fit N c:=⟨by have:=h.1;omega,fun i hi=>vN (h.2 i hi) hn⟩
theorem zAU {M:Int} {i:Ins} (h:zIV M i) (h1:1≤M):fit M [i]:=⟨by simpa using h1,fun j hj=>by simp at hj;rw [hj];exact h⟩
theorem xZ {M:Int} (h:0≤M):fit M []:=⟨by simpa using h,fun j hj=>by simp at hj⟩
theorem zDK {M n:Int} {i:Ins} (h:zIV M i) (h0:0≤n) (hn:n≤300):zIV (M+300) (zAc i n):=by
 unfold zIV at *
 unfold zAc
 split
 ·simp only;omega
 ·split
  ·simp only;omega
  ·split
   ·simp only;omega
   ·omega
theorem yJ {M:Int} {a b:List Ins} (ha:fit M a) (hb:fit M b):fit (M+300) (behind a b):=by
 unfold behind
 by_cases h:300<a.length
 ·rw [if_pos h];exact zJ ha (by omega)
 ·rw [if_neg h]
  refine ⟨?_,fun i hi=>?_⟩
  ·rw [List.length_append,jV];have:=hb.1;omega
  ·rcases List.mem_append.1 hi with hi | hi
   ·exact vN (ha.2 i hi) (by omega)
   ·unfold moved at hi
    obtain ⟨j,hj,rfl⟩:=List.mem_map.1 hi
    exact zDK (hb.2 j hj) (by omega) (by omega)
def jW (l:List Tok) (k:Nat):Int:=(l.getD k kX).kind
def zBM (l:List Tok) (b:Nat):Nat→Nat→Nat
 | 0,_=>b
 | f+1,i =>
  if b≤i then b
  else if jW l i=5 then i
  else if jW l i=6 then zBM l b f (closing l i+1)
  else zBM l b f (i+1)
theorem zEc (l:List Tok) (b:Nat):∀ (f g i:Nat),b-i≤f→b-i≤g→zBM l b f i=zBM l b g i:=by
 intro f
 induction f with
 | zero =>
  intro g i hf hg
  cases g with
  | zero=>rfl
  | succ g=>simp only [zBM];rw [if_pos (by omega)]
 | succ f ih =>
  intro g i hf hg
  cases g with
  | zero=>simp only [zBM];rw [if_pos (by omega)]
  | succ g =>
   simp only [zBM]
   by_cases h:b≤i
   ·rw [if_pos h,if_pos h]
   ·rw [if_neg h,if_neg h]
    have hc:=zA8 l i
    rw [ih g (closing l i+1) (by omega) (by omega),ih g (i+1) (by omega) (by omega)]
def bar (l:List Tok) (a b:Nat):Nat:=zBM l b (b-a) a
theorem xD (l:List Tok) (i b:Nat):bar l i b =
  if b≤i then b else if jW l i=5 then i else if jW l i=6 then bar l (closing l i+1) b else bar l (i+1) b:=by
 have hc:=zA8 l i
 by_cases h:b≤i
 ·rw [if_pos h];unfold bar;rw [show b-i=0 by omega];rfl
 ·rw [if_neg h];unfold bar
  rw [show b-i=(b-i-1)+1 by omega];simp only [zBM];rw [if_neg h]
  rw [zEc l b (b-i-1) (b-(closing l i+1)) (closing l i+1) (by omega) (by omega),zEc l b (b-i-1) (b-(i+1)) (i+1) (by omega) (by omega)]
theorem zRd (l:List Tok) (b:Nat):∀ f i,b-i≤f→bar l i b≤b:=by
 intro f
 induction f with
 | zero=>intro i h;rw [xD,if_pos (by omega)];omega
 | succ f ih =>
  intro i h
  have hc:=zA8 l i
  rw [xD]
  by_cases h1:b≤i
  ·rw [if_pos h1];omega
  ·rw [if_neg h1]
   split
   ·omega
   ·split
    ·exact ih _ (by omega)
    ·exact ih _ (by omega)
theorem zRe (l:List Tok) (b:Nat):∀ f i,b-i≤f→bar l i b=b∨(i≤bar l i b∧bar l i b<b):=by
 intro f
 induction f with
 | zero=>intro i h;rw [xD,if_pos (by omega)];simp
 | succ f ih =>
  intro i h
  have hc:=zA8 l i
  rw [xD]
  by_cases h1:b≤i
  ·rw [if_pos h1];simp
  ·rw [if_neg h1]
   split
   ·omega
   ·split
    ·have:=ih (closing l i+1) (by omega);omega
    ·have:=ih (i+1) (by omega);omega
def after (l:List Tok) (i:Nat):Nat:=if jW l i=6 then closing l i+1 else i+1
theorem zN7 (l:List Tok) (i:Nat):i<after l i:=by unfold after;have:=zA8 l i;split <;> omega
theorem zN8 (l:List Tok) (i:Nat) (h:i<l.length):after l i≤l.length+1:=by unfold after;have:=zDJ l i (by omega);split <;> omega
def alone (sort:Int) (c:List Ins):List Ins:=behind (behind [⟨11,sort,c.length+2,[]⟩] c) [⟨12,0,0,[]⟩]
def vG (y:List Ins) (d:Int) (late:Bool):List Ins:=behind (behind (behind (jL 1 (y.length+3) late) [⟨4,d,0,[]⟩]) y) [⟨5,-y.length-2,d,[]⟩]
def vH (x:List Ins) (late:Bool):Nat→List Ins→List Ins
 | 0,c=>c
 | n+1,c=>vH x late n (behind c (behind (jL 1 (((n:Int)+1)*(x.length+1)) late) x))
def upTo (x:List Ins) (k:Nat) (late:Bool):List Ins:=vH x late k []
def zC (x:List Ins):Nat→List Ins→List Ins
 | 0,c=>c
 | n+1,c=>zC x n (behind c x)
def yI (at' rp:Nat→Nat→List Ins) (l:List Tok) (b:Nat):Nat→Nat→List Ins→List Ins
 | 0,_,c=>c
 | f+1,i,c =>
  if b≤i then c
  else if after l i<b∧jW l (after l i)=8 then yI at' rp l b f (after l i+1) (behind c (rp i (after l i)))
  else yI at' rp l b f (after l i) (behind c (at' i (after l i)))
def zEt (n:Int):List Ins:=[⟨3,n,0,[]⟩]
def gen (l:List Tok):Nat→Nat→Nat→Nat→Int→List Ins
 | 0,_,_,_,_=>[]
 | f+1,0,a,b,d =>
  if bar l a b=b then gen l f 1 a (bar l a b) d
  else behind (behind (behind (jL 1 ((gen l f 1 a (bar l a b) d).length+2) false) (gen l f 1 a (bar l a b) d)) (zEt (1+(gen l f 0 (bar l a b+1) b d).length))) (gen l f 0 (bar l a b+1) b d)
 | f+1,1,a,b,d=>yI (fun i j=>gen l f 2 i j d) (fun i j=>gen l f 3 i j d) l b (b-a) a []
 | f+1,2,a,b,d =>
  if jW l a=1 then [⟨1,0,0,(l.getD a kX).set⟩]
  else if jW l a=2 then [⟨8,(l.getD a kX).n,0,[]⟩]
  else if jW l a=3 then [⟨9,0,0,[]⟩]
  else if jW l a=4 then [⟨10,0,0,[]⟩]
  else if (l.getD a kX).how=3 then gen l f 0 (a+1) (b-1) d
  else if (l.getD a kX).how=4 then behind (behind [⟨6,(l.getD a kX).n,0,[]⟩] (gen l f 0 (a+1) (b-1) d)) [⟨7,(l.getD a kX).n,0,[]⟩]
  else alone (l.getD a kX).how (gen l f 0 (a+1) (b-1) d)
 | f+1,_+3,a,b,d =>
  let r:=l.getD b kX
  let c1:=if 0<r.n∨0<r.m then
    (if r.n<r.m then behind (zC (gen l f 2 a b d) r.n.toNat []) (upTo (gen l f 2 a b d) (r.m-r.n).toNat (decide (r.how=1))) else zC (gen l f 2 a b d) r.n.toNat [])
   else []
  let c2:=if r.m<0 then behind c1 (vG (gen l f 2 a b (d+1)) d (decide (r.how=1))) else c1
  if r.how=2 then alone 0 c2 else c2
def coded (l:List Tok):List Ins:=behind (gen l 283 0 0 l.length 0) [⟨13,0,0,[]⟩]
end Mt
namespace Go.Proofs.YtebpgfodelggoaaGreat
open Go.RowKit
theorem kP {a b:Bool} (h:a=b):Ending.returned (.bool a)=.returned (.bool b):=by rw [h]
theorem zIW (p:ByteArray) (k:Nat) (h:k<p.size):wrap64 ((p[k]'h).toNat:Int)=Mt.atB p k:=by
 rw [Mt.zPC p k (by omega) (by omega)]
 have e:p.data.toList.getD (Int.toNat (k:Int)) 0=p[k]'h:=by
  rw [Int.toNat_natCast,List.getD_eq_getElem?_getD,List.getElem?_eq_getElem (by simpa using h)]
  rfl
 rw [e]
 have:=(p[k]'h).toNat_lt
 exact IntWalk.wrap64_in _ ⟨by omega,by omega⟩
theorem zPD {c:Int} (h:48≤c∧c≤57):Mt.zCX c=true:=by simp [Mt.zCX,h]
theorem zJ1 {c:Int} (h:¬ (48≤c∧c≤57)):Mt.zCX c=false:=by simp only [Mt.zCX,decide_eq_false_iff_not];exact h
def zAZ (l:List UInt8):List Value:=l.map fun b=>Value.int .u8 (b.toNat:Int)
theorem Tryz.info5:(Tryz.prog.info? 5).map (fun i=>(i.zero,i.size,i.bytes))=some (some (.int .u8 0),1,1):=by kernel_rfl
theorem zF8 (w:World) (base:Nat) (v:Value) (l:List UInt8) (h:w.ownsRow base 5 1 v l.length (zAZ l)) :
  (convert 158 9 v).run Tryz.prog w=.ok (.string ⟨l.toArray⟩) w:=by
 rcases h.2 with ⟨rfl,hn⟩ | ⟨g,cap,cur,rfl,hb,hg,h1,h2,h3,h4⟩
 ·have:l=[]:=List.length_eq_zero_iff.1 hn
  subst this
  rw [run_convert_bytes_string w _ _ _ none 0 0 Tryz.underlying158 Tryz.underlying5 Tryz.underlying9];simp [Conv.bytesToString];rfl
 ·refine run_convert_bytes_back w _ _ _ ⟨g,0,none⟩ cap l Tryz.underlying158 Tryz.underlying5 Tryz.underlying9 ?_
  intro j hj
  have:=h.cells (g:=g) rfl j (.int .u8 (l[j].toNat:Int)) (by simp [zAZ,hj])
  exact this
theorem zX (w:World) (o:Obj) (k:Nat) (h:k<w.heap.size):(w.alloc o).heap[k]?=w.heap[k]?:=Below.heap_alloc w o k h
theorem zA {w:World} {b:Nat} {A:Array Value} {t:TypeId} (h:w.heap[b]?=some (.cells A t (0,0))):(∀ o,w.cell? ⟨b,o,none⟩=A[o]?)∧(∀ o,w.frozen? ⟨b,o,none⟩=false) :=
 ⟨fun o=>by simp [World.cell?,h],fun o=>by simp [World.frozen?,h]⟩
theorem zAd {w w':World} {base:Nat} {e:TypeId} {s:Nat} {v:Value} {n:Nat} {xs:List Value} (h:w.ownsRow base e s v n xs) (hb:Below w.heap.size w w'):w'.ownsRow base e s v n xs:=by
 refine ⟨h.1,?_⟩
 rcases h.2 with h' | ⟨g,cap,cur,rfl,h0,hg,rest⟩
 ·exact .inl h'
 ·exact .inr ⟨g,cap,cur,rfl,h0,by rw [hb.block g (Array.getElem?_eq_some_iff.1 hg).1];exact hg,rest⟩
theorem jY {w:World} {base base':Nat} {e:TypeId} {s:Nat} {v:Value} {n:Nat} {xs:List Value} (h:w.ownsRow base e s v n xs) (hb:base'≤base):w.ownsRow base' e s v n xs:=by
 refine ⟨h.1,?_⟩
 rcases h.2 with h' | ⟨g,cap,cur,rfl,h0,rest⟩
 ·exact .inl h'
 ·exact .inr ⟨g,cap,cur,rfl,by omega,rest⟩
theorem zAC (w:World) (xs:List Value) (e':TypeId):∀ j u,xs[j]?=some u→(w.alloc (.cells xs.toArray e')).cell? ((⟨w.heap.size,0,none⟩:Addr).add j)=some u:=by
 intro j u h
 have e:((⟨w.heap.size,0,none⟩:Addr).add j)=⟨w.heap.size,j,none⟩:=by
  simp only [Addr.add,Nat.zero_add]
  split
  ·rename_i h0;rw [h0]
  ·rfl
 rw [e]
 have hb:(w.alloc (.cells xs.toArray e')).heap[w.heap.size]?=some (.cells xs.toArray e' (0,0)):=heap_alloc_new w _
 rw [(zA hb).1 j]
 simpa using h
theorem below_setCells (b:Nat):∀ (vs:List Value) (o:Nat) (w:World) (B:Nat),B≤b→Below B w (w.setCells b o vs)∧(w.setCells b o vs).heap.size=w.heap.size
 | [],o,w,B,h=>⟨Below.refl _ _,rfl⟩
 | v::r,o,w,B,h=>by
  have ih:=below_setCells b r (o+1) (w.setCell ⟨b,o,none⟩ v) B h
  refine ⟨((Below.refl B w).setCell (p:=⟨b,o,none⟩) h v).trans ih.1,?_⟩
  show ((w.setCell ⟨b,o,none⟩ v).setCells b (o+1) r).heap.size=_
  rw [ih.2];simp [World.setCell]
theorem zCh {w:World} {b:Nat} {B:Array Value} (q2:∀ o,w.cell? ⟨b,o,none⟩=B[o]?) (q3:∀ o,w.frozen? ⟨b,o,none⟩=false) (cs:Array Value) (hs:cs.size=B.size) :
  ∃ w2,w2=w.setCells b 0 cs.toList∧(∀ o,w2.cell? ⟨b,o,none⟩=cs[o]?)∧(∀ o,w2.frozen? ⟨b,o,none⟩=false) ∧
   (∀ c o,c≠b→w2.cell? ⟨c,o,none⟩=w.cell? ⟨c,o,none⟩)∧(∀ c o,w2.frozen? ⟨c,o,none⟩=w.frozen? ⟨c,o,none⟩)∧w2.heap.size=w.heap.size∧(∀ L,L≤b→Below L w w2):=by
 refine ⟨_,rfl,fun o=>?_,fun o=>?_,fun c o hc=>?_,fun c o=>?_,(below_setCells b _ 0 w 0 (Nat.zero_le _)).2,fun L hL=>(below_setCells b _ 0 w L hL).1⟩
 ·by_cases ho:o<cs.size
  ·have:=World.cell?_setCells_in b cs.toList 0 w (fun j hj=>by rw [Nat.zero_add,q2];rw [Array.getElem?_eq_getElem (by simp at hj;omega)];rfl) o (by simpa using ho)
   rw [Nat.zero_add] at this
   rw [this];simp [ho]
  ·rw [World.cell?_setCells_out b cs.toList 0 w ⟨b,o,none⟩ (fun _ _=>Or.inr (by simp;omega)),q2,Array.getElem?_eq_none (by omega),Array.getElem?_eq_none (by omega)]
 ·rw [World.frozen?_setCells];exact q3 o
 ·exact World.cell?_setCells_out b cs.toList 0 w ⟨c,o,none⟩ (fun h=>absurd h hc)
 ·rw [World.frozen?_setCells]
theorem jN {w:World} {b:Nat} {B:Array Value} (q2:∀ o,w.cell? ⟨b,o,none⟩=B[o]?) (q3:∀ o,w.frozen? ⟨b,o,none⟩=false) (n:Nat) (hn:n≤B.size):w.there b 0 n:=by
 intro j hj
 rw [Nat.zero_add,q2,Array.getElem?_eq_getElem (by omega)]
 exact ⟨rfl,q3 j⟩
def zT (i:Mt.Ins):List Value:=[.int .i64 i.op,.int .i64 i.x,.int .i64 i.y,.string ⟨i.set.toArray⟩]
def zB (w:World) (base:Nat) (v:Value) (c:List Mt.Ins):Prop:=w.ownsRow base 112 4 v c.length (c.flatMap zT)
theorem zB.below {w w':World} {base:Nat} {v:Value} {l:List Mt.Ins} (h:zB w base v l) (hb:Below w.heap.size w w'):zB w' base v l:=zAd h hb
theorem zB.base {w:World} {base base':Nat} {v:Value} {l:List Mt.Ins} (h:zB w base v l) (hb:base'≤base):zB w base' v l:=jY h hb
theorem zB.nil (w:World) (base:Nat):zB w base (.slice none 0 0) []:=World.ownsRow_nil _ _ _ _
theorem zAD:∀ (l:List Mt.Ins) (k j:Nat),k<l.length→j<4→(l.flatMap zT)[k*4+j]?=(zT (l.getD k Mt.jA))[j]?:=by
 intro l
 induction l with
 | nil=>intro k j h;simp at h
 | cons t r ih =>
  intro k j h hj
  rw [List.flatMap_cons]
  have h7:(zT t).length=4:=rfl
  cases k with
  | zero=>rw [List.getElem?_append_left (by omega)];simp
  | succ k =>
   rw [List.getElem?_append_right (by omega),h7,show (k+1)*4+j-4=k*4+j by omega,ih k j (by simpa using h) hj]
   simp
theorem zEd {fn:Func} {t u v x:Tmp} (h:fn.results=#[.tmp t,.tmp u,.tmp v,.tmp x]) (tmps:Array Value) (P:Program) (w:World) :
  (results fn tmps).run P w=.ok (.tuple #[tmps.getD t undef,tmps.getD u undef,tmps.getD v undef,tmps.getD x undef]) w:=by
 simp [results,h]
theorem zBt {k:IntKind} {a b:Int} (h:a=b):Ending.returned (.int k a)=.returned (.int k b):=by rw [h]
theorem zAO (p:ByteArray) (i:Int) (w:World) (hp:p.size≤64) :
  Calls Tryz.prog 107 #[.string p,.int .i64 i] w fun e w'=>e=.returned (.int .i64 (Mt.atB p i))∧w=w':=by
 by_cases h0:i<0
 ·rw [Mt.zEO p i (by omega)]
  go_enter Tryz.func107,Tryz.ntmps107
  go_wp2
  go_ret
  exact ⟨rfl,rfl⟩
 ·by_cases h1:(p.size:Int)≤i
  ·rw [Mt.zEO p i (by omega)]
   go_enter Tryz.func107,Tryz.ntmps107
   go_wp2
   go_ret
   exact ⟨rfl,rfl⟩
  ·obtain ⟨k,rfl⟩:=Int.eq_ofNat_of_zero_le (show 0≤i by omega)
   have hk:k<p.size:=by omega
   rw [← zIW p k hk]
   go_enter Tryz.func107,Tryz.ntmps107
   go_wp2
   go_ret
   exact ⟨rfl,rfl⟩
theorem zET (c:Int) (w:World) (_h0:0≤c) (_h1:c≤255) :
  Calls Tryz.prog 108 #[.int .u8 c] w fun e w'=>e=.returned (.bool (Mt.zCX c))∧w=w':=by
 by_cases a:48≤c
 ·by_cases b:c≤57
  ·rw [zPD ⟨a,b⟩]
   go_enter Tryz.func108,Tryz.ntmps108
   go_wp2
   go_ret
   exact ⟨rfl,rfl⟩
  ·rw [zJ1 (by omega)]
   go_enter Tryz.func108,Tryz.ntmps108
   go_wp2
   go_ret
   exact ⟨rfl,rfl⟩
 ·rw [zJ1 (by omega)]
  go_enter Tryz.func108,Tryz.ntmps108
  go_wp2
  go_ret
  exact ⟨rfl,rfl⟩
theorem zDL (c:Int) (w:World) (_h0:0≤c) (_h1:c≤255) :
  Calls Tryz.prog 109 #[.int .u8 c] w fun e w'=>e=.returned (.bool (Mt.zCT c))∧w=w':=by
 rcases (show (c<65∧Mt.zCT c=false)∨((65≤c∧c≤90)∧Mt.zCT c=true)∨((90<c∧c<97)∧Mt.zCT c=false)∨((97≤c∧c≤122)∧Mt.zCT c=true)∨(122<c∧Mt.zCT c=false) by
   simp only [Mt.zCT,decide_eq_true_eq,decide_eq_false_iff_not];omega) with ⟨h,e⟩ | ⟨⟨h,h'⟩,e⟩ | ⟨⟨h,h'⟩,e⟩ | ⟨⟨h,h'⟩,e⟩ | ⟨h,e⟩
 all_goals
  rw [e];clear e
  go_enter Tryz.func109,Tryz.ntmps109
  go_wp2
  go_ret
  first | exact ⟨rfl,rfl⟩ | exact ⟨kP (by simp;omega),rfl⟩
theorem zGF (p:ByteArray) (i:Int) (w:World) (hp:p.size≤64) (zQ5:0≤i) (zQ6:i≤1000) :
  Calls Tryz.prog 127 #[.string p,.int .i64 i] w fun e w'=>e=.returned (.tuple #[.int .u8 (Mt.zD p i).1,.int .i64 (Mt.zD p i).2])∧w=w':=by
 have l0:=Mt.zHy p i
 have l1:=Mt.zEa p i
 have m0:=Mt.zHy p (i+1)
 have m1:=Mt.zEa p (i+1)
 rcases Mt.zEP p i with ⟨a1,e⟩ | ⟨a0,a1,⟨a2,e⟩ | ⟨a2,a3,e⟩ | ⟨a2,a3,a4,e⟩ | ⟨a2,a3,a4,a5,e⟩ | ⟨a2,a3,a4,a5,a6,a7,e⟩ | ⟨a2,a3,a4,a5,a6,a7,a8,e⟩ | ⟨a2,a3,a4,a5,a6,a7,a8,e⟩⟩
 all_goals
  rw [e];clear e
  go_enter Tryz.func127,Tryz.ntmps127
  go_wp2_with (first | (go_at_call 107;refine (zAO _ _ _ hp).mono ?_;rintro e w' ⟨rfl,rfl⟩) | (go_at_call 108;refine (zET _ _ (by omega) (by omega)).mono ?_;rintro e w' ⟨rfl,rfl⟩) | (go_at_call 109;refine (zDL _ _ (by omega) (by omega)).mono ?_;rintro e w' ⟨rfl,rfl⟩))
  go_ret2
  exact ⟨rfl,rfl⟩
theorem zHC (x:Bool) (c:Int) (w:World) (_h0:0≤c) (_h1:c≤255) :
  Calls Tryz.prog 129 #[.bool x,.int .u8 c] w fun e w'=>e=.returned (.bool (Mt.zCe x c))∧w=w':=by
 cases x <;> cases hd:Mt.zCX c <;> cases hl:Mt.zCT c
 all_goals
  go_enter Tryz.func129,Tryz.ntmps129
  go_wp2_with (first | (go_at_call 108;refine (zET _ _ (by omega) (by omega)).mono ?_;rintro e w' ⟨rfl,rfl⟩) | (go_at_call 109;refine (zDL _ _ (by omega) (by omega)).mono ?_;rintro e w' ⟨rfl,rfl⟩))
  all_goals
   go_ret
   exact ⟨kP (by simp [Mt.zCe,hd,hl];try rfl),rfl⟩
theorem zAN (p:ByteArray) (i:Int) (w:World) (hp:p.size≤64) (zQ5:0≤i) (zQ6:i≤900) :
  Calls Tryz.prog 110 #[.string p,.int .i64 i] w fun e w'=>e=.returned (.tuple #[.int .u8 (Mt.item p i).1,.int .u8 (Mt.item p i).2.1,.int .i64 (Mt.item p i).2.2.1,.bool (Mt.item p i).2.2.2])∧w=w':=by
 have ⟨b1,b2,b3,b4⟩:=Mt.vU p i
 have ⟨c1,c2,c3,c4⟩:=Mt.vU p (i+(Mt.zD p i).2+1)
 have m1:=Mt.zEa p (i+1)
 rcases Mt.zKD p i with ⟨a1,a2,m0,e⟩ | ⟨a1,a2,a3,m0,e⟩ | ⟨a0,⟨a1,e⟩ | ⟨a1,a2,e⟩ | ⟨a1,a2,a3,e⟩ | ⟨a1,a2,a3,a4,e⟩ | ⟨a1,a2,a3,a4,e⟩⟩
 rotate_left 2
 all_goals try rcases a0 with a0 | ⟨a0,a0',zTU⟩
 all_goals
  rw [e];clear e
  go_enter Tryz.func110,Tryz.ntmps110
  go_wp2_with (first | (go_at_call 107;refine (zAO _ _ _ hp).mono ?_;rintro e w' ⟨rfl,rfl⟩) | (go_at_call 127;refine (zGF _ _ _ hp (by omega) (by omega)).mono ?_;rintro e w' ⟨rfl,rfl⟩))
 all_goals
  refine bodyPost_ret (zEd rfl _ _ _) rfl ?_
  exact ⟨rfl,rfl⟩
theorem zKF (p:ByteArray) (i:Int) (w:World) (hp:p.size≤64) (zQ5:0≤i) (zQ6:i≤900) :
  Calls Tryz.prog 128 #[.string p,.int .i64 i] w fun e w'=>e=.returned (.tuple #[.int .i64 (Mt.number p i).1,.int .i64 (Mt.number p i).2])∧w=w':=by
 rcases Mt.zHz p i with ⟨a1,e⟩ | ⟨a1,a2,e⟩ | ⟨a1,a2,a3,a4,⟨a5,e⟩ | ⟨a5,a6,e⟩ | ⟨a5,a6,a7,a8,e⟩⟩
 all_goals
  rw [e];clear e
  go_enter Tryz.func128,Tryz.ntmps128
  go_wp2_with (go_at_call 107;refine (zAO _ _ _ hp).mono ?_;rintro e w' ⟨rfl,rfl⟩)
  go_ret2
  exact ⟨rfl,rfl⟩
theorem zHD (p:ByteArray) (i:Int) (w:World) (hp:p.size≤64) (zQ5:0≤i) (zQ6:i≤800) :
  Calls Tryz.prog 111 #[.string p,.int .i64 i] w fun e w'=>e=.returned (.tuple #[.int .i64 (Mt.count p i).1,.int .i64 (Mt.count p i).2.1,.int .i64 (Mt.count p i).2.2.1,.bool (Mt.count p i).2.2.2])∧w=w':=by
 have ⟨b1,b2,b3,b4⟩:=Mt.vV p (i+1)
 have ⟨c1,c2,c3,c4⟩:=Mt.vV p (i+1+(Mt.number p (i+1)).2+1)
 rcases Mt.zEQ p i with ⟨a1,e⟩ | ⟨a1,a2,e⟩ | ⟨a1,a2,⟨a3,e⟩ | ⟨a3,a4,e⟩ | ⟨a3,a4,⟨a5,e⟩ | ⟨a5,⟨a6,e⟩ | ⟨a6,a7,e⟩ | ⟨a6,a7,a8,e⟩ | ⟨a6,a7,a8,a9,e⟩ | ⟨a6,a7,a8,a9,e⟩⟩⟩⟩
 all_goals
  rw [e];clear e
  go_enter Tryz.func111,Tryz.ntmps111
  go_wp2_with (first | (go_at_call 107;refine (zAO _ _ _ hp).mono ?_;rintro e w' ⟨rfl,rfl⟩) | (go_at_call 128;refine (zKF _ _ _ hp (by omega) (by omega)).mono ?_;rintro e w' ⟨rfl,rfl⟩))
  refine bodyPost_ret (zEd rfl _ _ _) rfl ?_
  exact ⟨rfl,rfl⟩
theorem zPV {p:ByteArray} {k b c:Int} (h:b≤k):Mt.kN p k b c=false:=by rw [Mt.yA,if_pos h]
theorem zRf {p:ByteArray} {k b c:Int} (h:k<b) (h0:((Mt.item p k).2.2.1==0)=true):Mt.kN p k b c=false:=by
 rw [Mt.yA,if_neg (by omega),if_pos (by simpa using h0)]
theorem zPW {p:ByteArray} {k b c:Int} (h:k<b) (h0:((Mt.item p k).2.2.1==0)=false) (hs:(Mt.item p k).2.2.2=true) (hy:Mt.zCe ((Mt.item p k).2.1==119) c=true):Mt.kN p k b c=true:=by
 rw [Mt.yA,if_neg (by omega),if_neg (by simpa using h0),if_pos hs,if_pos (by rw [← hy];congr 1)]
theorem zKG {p:ByteArray} {k b c:Int} (h:k<b) (h0:((Mt.item p k).2.2.1==0)=false) (hs:(Mt.item p k).2.2.2=true) (hy:Mt.zCe ((Mt.item p k).2.1==119) c=false):Mt.kN p k b c=Mt.kN p (k+(Mt.item p k).2.2.1) b c:=by
 rw [Mt.yA,if_neg (by omega),if_neg (by simpa using h0),if_pos hs,if_neg (by rw [Bool.not_eq_true,← hy];congr 1)]
theorem zRg {p:ByteArray} {k b c:Int} (h:k<b) (h0:((Mt.item p k).2.2.1==0)=false) (hs:(Mt.item p k).2.2.2=false) (h1:decide ((Mt.item p k).1≤c)=true) (h2:decide (c≤(Mt.item p k).2.1)=true):Mt.kN p k b c=true:=by
 rw [Mt.yA,if_neg (by omega),if_neg (by simpa using h0),if_neg (by simp [hs]),if_pos ⟨by simpa using h1,by simpa using h2⟩]
theorem zRh {p:ByteArray} {k b c:Int} (h:k<b) (h0:((Mt.item p k).2.2.1==0)=false) (hs:(Mt.item p k).2.2.2=false) (h1:decide ((Mt.item p k).1≤c)=false):Mt.kN p k b c=Mt.kN p (k+(Mt.item p k).2.2.1) b c:=by
 rw [Mt.yA,if_neg (by omega),if_neg (by simpa using h0),if_neg (by simp [hs]),if_neg (by intro x;simp at h1;omega)]
theorem zRi {p:ByteArray} {k b c:Int} (h:k<b) (h0:((Mt.item p k).2.2.1==0)=false) (hs:(Mt.item p k).2.2.2=false) (h1:decide (c≤(Mt.item p k).2.1)=false):Mt.kN p k b c=Mt.kN p (k+(Mt.item p k).2.2.1) b c:=by
 rw [Mt.yA,if_neg (by omega),if_neg (by simpa using h0),if_neg (by simp [hs]),if_neg (by intro x;simp at h1;omega)]
theorem zEU (p:ByteArray) (a b c:Int) (w:World) (hp:p.size≤64) (ha0:0≤a) (ha1:a≤200) (hb1:b≤200) (hc0:0≤c) (hc1:c≤255) :
  Calls Tryz.prog 112 #[.string p,.int .i64 a,.int .i64 b,.int .u8 c] w fun e w'=>e=.returned (.bool (Mt.kN p a b c))∧w=w':=by
 go_enter Tryz.func112,Tryz.ntmps112
 go_wp2_with fail
 go_loop [9] (fun i=>∃ k:Int,a≤k∧k≤300∧i=.int .i64 k∧Mt.kN p a b c=Mt.kN p k b c) (fun i=>(b-intOf i).toNat)
 case atStart=>exact ⟨a,by omega,by omega,rfl,rfl⟩
 case round =>
  obtain ⟨k,hk1,hk2,rfl,hr⟩:=hrel
  have H:Hid (Mt.kN p a b c=Mt.kN p k b c):=hr
  clear hr
  have ⟨d1,d2,d3,d4,d5,d6⟩:=Mt.zBs p k
  by_cases hlt:k<b
  ·cases h0:((Mt.item p k).2.2.1==0)
   ·have h1:1≤(Mt.item p k).2.2.1:=by
                        have:(Mt.item p k).2.2.1≠0:=by simpa using h0
                        omega
    cases hs:(Mt.item p k).2.2.2
    ·cases q1:decide ((Mt.item p k).1≤c)
     ·have R:Hid (Mt.kN p a b c=Mt.kN p (k+(Mt.item p k).2.2.1) b c):=H.out.trans (zRh hlt h0 hs q1)
      go_wp2_with (first | (go_at_call 110;refine (zAN _ _ _ hp (by omega) (by omega)).mono ?_;rintro e w' ⟨rfl,rfl⟩))
      go_round
      case rel=>exact ⟨_,by omega,by omega,rfl,R.out⟩
      case measure=>simp [intOf];omega
     ·cases q2:decide (c≤(Mt.item p k).2.1)
      ·have R:Hid (Mt.kN p a b c=Mt.kN p (k+(Mt.item p k).2.2.1) b c):=H.out.trans (zRi hlt h0 hs q2)
       go_wp2_with (first | (go_at_call 110;refine (zAN _ _ _ hp (by omega) (by omega)).mono ?_;rintro e w' ⟨rfl,rfl⟩))
       go_round
       case rel=>exact ⟨_,by omega,by omega,rfl,R.out⟩
       case measure=>simp [intOf];omega
      ·have R:Hid (Mt.kN p a b c=true):=H.out.trans (zRg hlt h0 hs q1 q2)
       go_wp2_with (first | (go_at_call 110;refine (zAN _ _ _ hp (by omega) (by omega)).mono ?_;rintro e w' ⟨rfl,rfl⟩))
       go_ret
       exact ⟨kP (by rw [R.out]),rfl⟩
    ·cases q1:Mt.zCe ((Mt.item p k).2.1==119) c
     ·have R:Hid (Mt.kN p a b c=Mt.kN p (k+(Mt.item p k).2.2.1) b c):=H.out.trans (zKG hlt h0 hs q1)
      go_wp2_with (first | (go_at_call 110;refine (zAN _ _ _ hp (by omega) (by omega)).mono ?_;rintro e w' ⟨rfl,rfl⟩) | (go_at_call 129;refine (zHC _ _ _ (by omega) (by omega)).mono ?_;rintro e w' ⟨rfl,rfl⟩))
      go_round
      case rel=>exact ⟨_,by omega,by omega,rfl,R.out⟩
      case measure=>simp [intOf];omega
     ·have R:Hid (Mt.kN p a b c=true):=H.out.trans (zPW hlt h0 hs q1)
      go_wp2_with (first | (go_at_call 110;refine (zAN _ _ _ hp (by omega) (by omega)).mono ?_;rintro e w' ⟨rfl,rfl⟩) | (go_at_call 129;refine (zHC _ _ _ (by omega) (by omega)).mono ?_;rintro e w' ⟨rfl,rfl⟩))
      go_ret
      exact ⟨kP (by rw [R.out]),rfl⟩
   ·have R:Hid (Mt.kN p a b c=false):=H.out.trans (zRf hlt h0)
    go_wp2_with (first | (go_at_call 110;refine (zAN _ _ _ hp (by omega) (by omega)).mono ?_;rintro e w' ⟨rfl,rfl⟩))
    go_ret
    exact ⟨kP (by rw [R.out]),rfl⟩
  ·have R:Hid (Mt.kN p a b c=false):=H.out.trans (zPV (by omega))
   go_wp2_with fail
   go_ret
   exact ⟨kP (by rw [R.out]),rfl⟩
end Go.Proofs.YtebpgfodelggoaaGreat
