import Derived.Test.YtebpgfodelggoabGreatKC00
import Derived.Test.YtebpgfodelggoabGreatRows
import Derived.WalkKit
import Derived.WalkSpells
import Derived.WalkLawsBesides
import Derived.Handy
import Derived.Laws.IdiomStrings
import Derived.Deep.MidRow
set_option linter.unusedVariables false
set_option linter.unusedSimpArgs false
set_option maxRecDepth 100000
set_option maxHeartbeats 4000000
namespace Go.Proofs.YtebpgfodelggoabGreat
open Go.RowKit
theorem jC{a b:Bool}(h:a=b):Ending.returned (.bool a)=.returned (.bool b):=by rw[h]
theorem zHF(p:ByteArray)(k:Nat)(h:k<p.size):wrap64 ((p[k]'h).toNat:Int)=Mt.zTC p k:=by
 rw[Mt.zOD p k (by omega) (by omega)]
 have e:p.data.toList.getD (Int.toNat (k:Int)) 0=p[k]'h:=by
  rw[Int.toNat_natCast,lH,lK (by simpa using h)];rfl
 rw[e];have:=(p[k]'h).toNat_lt;exact IntWalk.wrap64_in _ ⟨by omega,by omega⟩
theorem zOE{c:Int}(h:48<=c/\c<=57):Mt.zBa c=true:=by simp[Mt.zBa,h]
theorem zIM{c:Int}(h:¬(48<=c/\c<=57)):Mt.zBa c=false:=by simp only[Mt.zBa,lJ];exact h
def nA(l:List UInt8):List Value:=l.map λb=>Value.int .u8 (b.toNat:Int)
theorem Tryz.info5:(Tryz.prog.info? 5).map (λi=>(i.zero,i.size,i.bytes))=some (some (.int .u8 0),1,1):=by kernel_rfl
theorem zEy(w:World)(base:Nat)(v:Value)(l:List UInt8)(h:w.ownsRow base 5 1 v l.length (nA l)) :
  (convert 151 9 v).run Tryz.prog w=.ok (.string ⟨l.toArray⟩) w:=by
 rcases h.2 with ⟨rfl,hn⟩ | ⟨g,cap,cur,rfl,hb,hg,h1,h2,h3,h4⟩
 ·have:l=[]:=List.length_eq_zero_iff.1 hn;subst this;rw[run_convert_bytes_string w _ _ _ none 0 0 Tryz.underlying151 Tryz.underlying5 Tryz.underlying9];simp[Conv.bytesToString];rfl
 ·refine run_convert_bytes_back w _ _ _ ⟨g,0,none⟩ cap l Tryz.underlying151 Tryz.underlying5 Tryz.underlying9 ?_;intro j hj;have:=h.cells (g:=g) rfl j (.int .u8 (l[j].toNat:Int)) (by simp[nA,hj]);exact this
theorem kT(w:World)(o:Obj)(k:Nat)(h:k<w.heap.size):(w.alloc o).heap[k]?=w.heap[k]?:=Below.heap_alloc w o k h
theorem zC{w:World}{b:Nat}{A:Array Value}{t:TypeId}(h:w.heap[b]?=some (.cells A t (0,0))):(∀o,w.cell? ⟨b,o,none⟩=A[o]?)/\(∀o,w.frozen? ⟨b,o,none⟩=false) :=
 ⟨λo=>by simp[World.cell?,h],λo=>by simp[World.frozen?,h]⟩
theorem qH{w w':World}{base:Nat}{e:TypeId}{s:Nat}{v:Value}{n:Nat}{xs:List Value}(h:w.ownsRow base e s v n xs)(hb:Below w.heap.size w w'):w'.ownsRow base e s v n xs:=by
 refine⟨h.1,?_⟩;rcases h.2 with h' | ⟨g,cap,cur,rfl,h0,hg,rest⟩
 ·exact .inl h'
 ·exact .inr ⟨g,cap,cur,rfl,h0,by rw[hb.block g (lI.1 hg).1];exact hg,rest⟩
theorem jG{w:World}{base base':Nat}{e:TypeId}{s:Nat}{v:Value}{n:Nat}{xs:List Value}(h:w.ownsRow base e s v n xs)(hb:base'<=base):w.ownsRow base' e s v n xs:=by
 refine⟨h.1,?_⟩;rcases h.2 with h' | ⟨g,cap,cur,rfl,h0,rest⟩
 ·exact .inl h'
 ·exact .inr ⟨g,cap,cur,rfl,by omega,rest⟩
theorem xU(w:World)(xs:List Value)(e':TypeId):∀j u,xs[j]?=some u->(w.alloc (.cells xs.toArray e')).cell? ((⟨w.heap.size,0,none⟩:Addr).add j)=some u:=by
 intro j u h
 have e:((⟨w.heap.size,0,none⟩:Addr).add j)=⟨w.heap.size,j,none⟩:=by
  simp only[Addr.add,Nat.zero_add];split
  ·rename_i h0;rw[h0]
  ·rfl
 rw[e];have hb:(w.alloc (.cells xs.toArray e')).heap[w.heap.size]?=some (.cells xs.toArray e' (0,0)):=heap_alloc_new w _;rw[(zC hb).1 j];simpa using h
theorem below_setCells(b:Nat):∀(vs:List Value) (o:Nat) (w:World) (B:Nat),B<=b->Below B w (w.setCells b o vs)/\(w.setCells b o vs).heap.size=w.heap.size
 | [],o,w,B,h=>⟨Below.refl _ _,rfl⟩
 | v::r,o,w,B,h=>by
  have ih:=below_setCells b r (o+1) (w.setCell ⟨b,o,none⟩ v) B h;refine⟨((Below.refl B w).setCell (p:=⟨b,o,none⟩) h v).trans ih.1,?_⟩;show((w.setCell ⟨b,o,none⟩ v).setCells b (o+1) r).heap.size=_;rw[ih.2];simp[World.setCell]
theorem zAv{w:World}{b:Nat}{B:Array Value}(q2:∀o,w.cell? ⟨b,o,none⟩=B[o]?)(q3:∀o,w.frozen? ⟨b,o,none⟩=false)(cs:Array Value)(hs:cs.size=B.size) :
  ∃w2,w2=w.setCells b 0 cs.toList/\(∀o,w2.cell? ⟨b,o,none⟩=cs[o]?)/\(∀o,w2.frozen? ⟨b,o,none⟩=false) /\
   (∀c o,c≠b->w2.cell? ⟨c,o,none⟩=w.cell? ⟨c,o,none⟩)/\(∀c o,w2.frozen? ⟨c,o,none⟩=w.frozen? ⟨c,o,none⟩)/\w2.heap.size=w.heap.size/\(∀L,L<=b->Below L w w2):=by
 refine⟨_,rfl,λo=>?_,λo=>?_,λc o hc=>?_,λc o=>?_,(below_setCells b _ 0 w 0 (Nat.zero_le _)).2,λL hL=>(below_setCells b _ 0 w L hL).1⟩
 ·by_cases ho:o<cs.size
  ·have:=World.cell?_setCells_in b cs.toList 0 w (λj hj=>by rw[Nat.zero_add,q2];rw[Array.getElem?_eq_getElem (by simp at hj;omega)];rfl) o (by simpa using ho);rw[Nat.zero_add]at this;rw[this];simp[ho]
  ·rw[World.cell?_setCells_out b cs.toList 0 w ⟨b,o,none⟩ (λ_ _=>Or.inr (by simp;omega)),q2,Array.getElem?_eq_none (by omega),Array.getElem?_eq_none (by omega)]
 ·rw[World.frozen?_setCells];exact q3 o
 ·exact World.cell?_setCells_out b cs.toList 0 w ⟨c,o,none⟩ (λh=>absurd h hc)
 ·rw[World.frozen?_setCells]
theorem qW{w:World}{b:Nat}{B:Array Value}(q2:∀o,w.cell? ⟨b,o,none⟩=B[o]?)(q3:∀o,w.frozen? ⟨b,o,none⟩=false)(n:Nat)(hn:n<=B.size):w.there b 0 n:=by
 intro j hj;rw[Nat.zero_add,q2,Array.getElem?_eq_getElem (by omega)];exact⟨rfl,q3 j⟩
def kM(i:Mt.zTG):List Value:=[.int .i64 i.op,.int .i64 i.x,.int .i64 i.y,.string ⟨i.set.toArray⟩]
def zF(w:World)(base:Nat)(v:Value)(c:List Mt.zTG):Prop:=w.ownsRow base 48 4 v c.length (c.flatMap kM)
theorem zF.below{w w':World}{base:Nat}{v:Value}{l:List Mt.zTG}(h:zF w base v l)(hb:Below w.heap.size w w'):zF w' base v l:=qH h hb
theorem zF.base{w:World}{base base':Nat}{v:Value}{l:List Mt.zTG}(h:zF w base v l)(hb:base'<=base):zF w base' v l:=jG h hb
theorem zF.nil(w:World)(base:Nat):zF w base (.slice none 0 0) []:=World.ownsRow_nil _ _ _ _
theorem bX:∀(l:List Mt.zTG) (k j:Nat),k<l.length->j<4->(l.flatMap kM)[k*4+j]?=(kM (l.getD k Mt.jY))[j]?:=by
 intro l;induction l with
 | nil=>intro k j h;simp at h
 | cons t r ih =>
  intro k j h hj;rw[List.flatMap_cons];have h7:(kM t).length=4:=rfl;cases k with
  | zero=>rw[List.getElem?_append_left (by omega)];simp
  | succ k =>
   rw[List.getElem?_append_right (by omega),h7,show(k+1)*4+j-4=k*4+j by omega,ih k j (by simpa using h) hj];simp
theorem zCv{fn:Func}{t u v x:Tmp}(h:fn.results=#[.tmp t,.tmp u,.tmp v,.tmp x])(tmps:Array Value)(P:Program)(w:World) :
  (results fn tmps).run P w=.ok (.tuple #[tmps.getD t undef,tmps.getD u undef,tmps.getD v undef,tmps.getD x undef]) w:=by
 simp[results,h]
theorem tQ{k:IntKind}{a b:Int}(h:a=b):Ending.returned (.int k a)=.returned (.int k b):=by rw[h]
theorem mJ(p:ByteArray)(i:Int)(w:World)(hp:p.size<=64) :
  Calls Tryz.prog 98 #[.string p,.int .i64 i] w λe w'=>e=.returned (.int .i64 (Mt.zTC p i))/\w=w':=by
 by_cases h0:i<0
 ·rw[Mt.zDc p i (by omega)];go_enter Tryz.func98,Tryz.ntmps98
  go_wp2
  go_ret;exact⟨rfl,rfl⟩
 ·by_cases h1:(p.size:Int)<=i
  ·rw[Mt.zDc p i (by omega)];go_enter Tryz.func98,Tryz.ntmps98
   go_wp2
   go_ret;exact⟨rfl,rfl⟩
  ·obtain⟨k,rfl⟩:=Int.eq_ofNat_of_zero_le (show 0<=i by omega);have hk:k<p.size:=by omega
   rw[<-zHF p k hk];go_enter Tryz.func98,Tryz.ntmps98
   go_wp2
   go_ret;exact⟨rfl,rfl⟩
theorem zDh(c:Int)(w:World)(_h0:0<=c)(_h1:c<=255) :
  Calls Tryz.prog 99 #[.int .u8 c] w λe w'=>e=.returned (.bool (Mt.zBa c))/\w=w':=by
 by_cases a:48<=c
 ·by_cases b:c<=57
  ·rw[zOE ⟨a,b⟩];go_enter Tryz.func99,Tryz.ntmps99
   go_wp2
   go_ret;exact⟨rfl,rfl⟩
  ·rw[zIM (by omega)];go_enter Tryz.func99,Tryz.ntmps99
   go_wp2
   go_ret;exact⟨rfl,rfl⟩
 ·rw[zIM (by omega)];go_enter Tryz.func99,Tryz.ntmps99
  go_wp2
  go_ret;exact⟨rfl,rfl⟩
theorem zB5(c:Int)(w:World)(_h0:0<=c)(_h1:c<=255) :
  Calls Tryz.prog 100 #[.int .u8 c] w λe w'=>e=.returned (.bool (Mt.zA6 c))/\w=w':=by
 rcases(show(c<65/\Mt.zA6 c=false)\/((65<=c/\c<=90)/\Mt.zA6 c=true)\/((90<c/\c<97)/\Mt.zA6 c=false)\/((97<=c/\c<=122)/\Mt.zA6 c=true)\/(122<c/\Mt.zA6 c=false) by
   simp only[Mt.zA6,decide_eq_true_eq,lJ];omega)with ⟨h,e⟩ | ⟨⟨h,h'⟩,e⟩ | ⟨⟨h,h'⟩,e⟩ | ⟨⟨h,h'⟩,e⟩ | ⟨h,e⟩
 all_goals
  rw[e];clear e;go_enter Tryz.func100,Tryz.ntmps100
  go_wp2
  go_ret;first | exact⟨rfl,rfl⟩ | exact⟨jC (by simp;omega),rfl⟩
theorem zE8(p:ByteArray)(i:Int)(w:World)(hp:p.size<=64)(zP6:0<=i)(zP7:i<=1000) :
  Calls Tryz.prog 130 #[.string p,.int .i64 i] w λe w'=>e=.returned (.tuple #[.int .u8 (Mt.zJ p i).1,.int .i64 (Mt.zJ p i).2])/\w=w':=by
 have l0:=Mt.zGc p i;have l1:=Mt.zCs p i;have m0:=Mt.zGc p (i+1);have m1:=Mt.zCs p (i+1);rcases Mt.zDd p i with ⟨a1,e⟩ | ⟨a0,a1,⟨a2,e⟩ | ⟨a2,a3,e⟩ | ⟨a2,a3,a4,e⟩ | ⟨a2,a3,a4,a5,e⟩ | ⟨a2,a3,a4,a5,a6,a7,e⟩ | ⟨a2,a3,a4,a5,a6,a7,a8,e⟩ | ⟨a2,a3,a4,a5,a6,a7,a8,e⟩⟩
 all_goals
  rw[e];clear e;go_enter Tryz.func130,Tryz.ntmps130
  go_wp2_with (first|(go_at_call 98;refine(mJ _ _ _ hp).mono ?_;rintro e w' ⟨rfl,rfl⟩)|(go_at_call 99;refine(zDh _ _ (by omega) (by omega)).mono ?_;rintro e w' ⟨rfl,rfl⟩)|(go_at_call 100;refine(zB5 _ _ (by omega) (by omega)).mono ?_;rintro e w' ⟨rfl,rfl⟩))
  go_ret2
  exact⟨rfl,rfl⟩
theorem zGg(x:Bool)(c:Int)(w:World)(_h0:0<=c)(_h1:c<=255) :
  Calls Tryz.prog 132 #[.bool x,.int .u8 c] w λe w'=>e=.returned (.bool (Mt.zAs x c))/\w=w':=by
 cases x <;> cases hd:Mt.zBa c <;> cases hl:Mt.zA6 c
 all_goals
  go_enter Tryz.func132,Tryz.ntmps132
  go_wp2_with (first|(go_at_call 99;refine(zDh _ _ (by omega) (by omega)).mono ?_;rintro e w' ⟨rfl,rfl⟩)|(go_at_call 100;refine(zB5 _ _ (by omega) (by omega)).mono ?_;rintro e w' ⟨rfl,rfl⟩))
  all_goals
   go_ret;exact⟨jC (by simp[Mt.zAs,hd,hl];try rfl),rfl⟩
theorem mI(p:ByteArray)(i:Int)(w:World)(hp:p.size<=64)(zP6:0<=i)(zP7:i<=900) :
  Calls Tryz.prog 101 #[.string p,.int .i64 i] w λe w'=>e=.returned (.tuple #[.int .u8 (Mt.yB p i).1,.int .u8 (Mt.yB p i).2.1,.int .i64 (Mt.yB p i).2.2.1,.bool (Mt.yB p i).2.2.2])/\w=w':=by
 have⟨b1,b2,b3,b4⟩:=Mt.dJ p i;have⟨c1,c2,c3,c4⟩:=Mt.dJ p (i+(Mt.zJ p i).2+1);have m1:=Mt.zCs p (i+1);rcases Mt.zJt p i with ⟨a1,a2,m0,e⟩ | ⟨a1,a2,a3,m0,e⟩ | ⟨a0,⟨a1,e⟩ | ⟨a1,a2,e⟩ | ⟨a1,a2,a3,e⟩ | ⟨a1,a2,a3,a4,e⟩ | ⟨a1,a2,a3,a4,e⟩⟩
 rotate_left 2
 all_goals try rcases a0 with a0 | ⟨a0,a0',zSY⟩
 all_goals
  rw[e];clear e;go_enter Tryz.func101,Tryz.ntmps101
  go_wp2_with (first|(go_at_call 98;refine(mJ _ _ _ hp).mono ?_;rintro e w' ⟨rfl,rfl⟩)|(go_at_call 130;refine(zE8 _ _ _ hp (by omega) (by omega)).mono ?_;rintro e w' ⟨rfl,rfl⟩))
 all_goals
  refine bodyPost_ret (zCv rfl _ _ _) rfl ?_;exact⟨rfl,rfl⟩
theorem zJv(p:ByteArray)(i:Int)(w:World)(hp:p.size<=64)(zP6:0<=i)(zP7:i<=900) :
  Calls Tryz.prog 131 #[.string p,.int .i64 i] w λe w'=>e=.returned (.tuple #[.int .i64 (Mt.number p i).1,.int .i64 (Mt.number p i).2])/\w=w':=by
 rcases Mt.zGd p i with ⟨a1,e⟩ | ⟨a1,a2,e⟩ | ⟨a1,a2,a3,a4,⟨a5,e⟩ | ⟨a5,a6,e⟩ | ⟨a5,a6,a7,a8,e⟩⟩
 all_goals
  rw[e];clear e;go_enter Tryz.func131,Tryz.ntmps131
  go_wp2_with (go_at_call 98;refine(mJ _ _ _ hp).mono ?_;rintro e w' ⟨rfl,rfl⟩)
  go_ret2
  exact⟨rfl,rfl⟩
theorem zGh(p:ByteArray)(i:Int)(w:World)(hp:p.size<=64)(zP6:0<=i)(zP7:i<=800) :
  Calls Tryz.prog 102 #[.string p,.int .i64 i] w λe w'=>e=.returned (.tuple #[.int .i64 (Mt.count p i).1,.int .i64 (Mt.count p i).2.1,.int .i64 (Mt.count p i).2.2.1,.bool (Mt.count p i).2.2.2])/\w=w':=by
 have⟨b1,b2,b3,b4⟩:=Mt.dK p (i+1);have⟨c1,c2,c3,c4⟩:=Mt.dK p (i+1+(Mt.number p (i+1)).2+1);rcases Mt.zDe p i with ⟨a1,e⟩ | ⟨a1,a2,e⟩ | ⟨a1,a2,⟨a3,e⟩ | ⟨a3,a4,e⟩ | ⟨a3,a4,⟨a5,e⟩ | ⟨a5,⟨a6,e⟩ | ⟨a6,a7,e⟩ | ⟨a6,a7,a8,e⟩ | ⟨a6,a7,a8,a9,e⟩ | ⟨a6,a7,a8,a9,e⟩⟩⟩⟩
 all_goals
  rw[e];clear e;go_enter Tryz.func102,Tryz.ntmps102
  go_wp2_with (first|(go_at_call 98;refine(mJ _ _ _ hp).mono ?_;rintro e w' ⟨rfl,rfl⟩)|(go_at_call 131;refine(zJv _ _ _ hp (by omega) (by omega)).mono ?_;rintro e w' ⟨rfl,rfl⟩))
  refine bodyPost_ret (zCv rfl _ _ _) rfl ?_;exact⟨rfl,rfl⟩
theorem zOV{p:ByteArray}{k b c:Int}(h:b<=k):Mt.jM p k b c=false:=by rw[Mt.vQ,if_pos h]
theorem zQg{p:ByteArray}{k b c:Int}(h:k<b)(h0:((Mt.yB p k).2.2.1==0)=true):Mt.jM p k b c=false:=by
 rw[Mt.vQ,if_neg (by omega),if_pos (by simpa using h0)]
theorem zOW{p:ByteArray}{k b c:Int}(h:k<b)(h0:((Mt.yB p k).2.2.1==0)=false)(hs:(Mt.yB p k).2.2.2=true)(hy:Mt.zAs ((Mt.yB p k).2.1==119) c=true):Mt.jM p k b c=true:=by
 rw[Mt.vQ,if_neg (by omega),if_neg (by simpa using h0),if_pos hs,if_pos (by rw[<-hy];congr 1)]
theorem zJw{p:ByteArray}{k b c:Int}(h:k<b)(h0:((Mt.yB p k).2.2.1==0)=false)(hs:(Mt.yB p k).2.2.2=true)(hy:Mt.zAs ((Mt.yB p k).2.1==119) c=false):Mt.jM p k b c=Mt.jM p (k+(Mt.yB p k).2.2.1) b c:=by
 rw[Mt.vQ,if_neg (by omega),if_neg (by simpa using h0),if_pos hs,if_neg (by rw[Bool.not_eq_true,<-hy];congr 1)]
theorem zQh{p:ByteArray}{k b c:Int}(h:k<b)(h0:((Mt.yB p k).2.2.1==0)=false)(hs:(Mt.yB p k).2.2.2=false)(h1:decide ((Mt.yB p k).1<=c)=true)(h2:decide (c<=(Mt.yB p k).2.1)=true):Mt.jM p k b c=true:=by
 rw[Mt.vQ,if_neg (by omega),if_neg (by simpa using h0),if_neg (by simp[hs]),if_pos ⟨by simpa using h1,by simpa using h2⟩]
theorem zQi{p:ByteArray}{k b c:Int}(h:k<b)(h0:((Mt.yB p k).2.2.1==0)=false)(hs:(Mt.yB p k).2.2.2=false)(h1:decide ((Mt.yB p k).1<=c)=false):Mt.jM p k b c=Mt.jM p (k+(Mt.yB p k).2.2.1) b c:=by
 rw[Mt.vQ,if_neg (by omega),if_neg (by simpa using h0),if_neg (by simp[hs]),if_neg (by intro x;simp at h1;omega)]
theorem zQj{p:ByteArray}{k b c:Int}(h:k<b)(h0:((Mt.yB p k).2.2.1==0)=false)(hs:(Mt.yB p k).2.2.2=false)(h1:decide (c<=(Mt.yB p k).2.1)=false):Mt.jM p k b c=Mt.jM p (k+(Mt.yB p k).2.2.1) b c:=by
 rw[Mt.vQ,if_neg (by omega),if_neg (by simpa using h0),if_neg (by simp[hs]),if_neg (by intro x;simp at h1;omega)]
theorem zDi(p:ByteArray)(a b c:Int)(w:World)(hp:p.size<=64)(ha0:0<=a)(ha1:a<=200)(zTH:b<=200)(hc0:0<=c)(hc1:c<=255) :
  Calls Tryz.prog 103 #[.string p,.int .i64 a,.int .i64 b,.int .u8 c] w λe w'=>e=.returned (.bool (Mt.jM p a b c))/\w=w':=by
 go_enter Tryz.func103,Tryz.ntmps103
 go_wp2_with fail
 go_loop [9] (λi=>∃k:Int,a<=k/\k<=300/\i=.int .i64 k/\Mt.jM p a b c=Mt.jM p k b c) (λi=>(b-intOf i).toNat)
 case atStart=>exact⟨a,by omega,by omega,rfl,rfl⟩
 case round =>
  obtain⟨k,hk1,hk2,rfl,hr⟩:=hrel;have H:Hid (Mt.jM p a b c=Mt.jM p k b c):=hr;clear hr;have⟨d1,d2,d3,d4,d5,d6⟩:=Mt.tO p k;by_cases zTI:k<b
  ·cases h0:((Mt.yB p k).2.2.1==0)
   ·have h1:1<=(Mt.yB p k).2.2.1:=by
                        have:(Mt.yB p k).2.2.1≠0:=by simpa using h0
                        omega
    cases hs:(Mt.yB p k).2.2.2
    ·cases q1:decide ((Mt.yB p k).1<=c)
     ·have R:Hid (Mt.jM p a b c=Mt.jM p (k+(Mt.yB p k).2.2.1) b c):=H.out.trans (zQi zTI h0 hs q1);go_wp2_with (first|(go_at_call 101;refine(mI _ _ _ hp (by omega) (by omega)).mono ?_;rintro e w' ⟨rfl,rfl⟩))
      go_round
      case rel=>exact⟨_,by omega,by omega,rfl,R.out⟩
      case measure=>simp[intOf];omega
     ·cases q2:decide (c<=(Mt.yB p k).2.1)
      ·have R:Hid (Mt.jM p a b c=Mt.jM p (k+(Mt.yB p k).2.2.1) b c):=H.out.trans (zQj zTI h0 hs q2);go_wp2_with (first|(go_at_call 101;refine(mI _ _ _ hp (by omega) (by omega)).mono ?_;rintro e w' ⟨rfl,rfl⟩))
       go_round
       case rel=>exact⟨_,by omega,by omega,rfl,R.out⟩
       case measure=>simp[intOf];omega
      ·have R:Hid (Mt.jM p a b c=true):=H.out.trans (zQh zTI h0 hs q1 q2);go_wp2_with (first|(go_at_call 101;refine(mI _ _ _ hp (by omega) (by omega)).mono ?_;rintro e w' ⟨rfl,rfl⟩))
       go_ret;exact⟨jC (by rw[R.out]),rfl⟩
    ·cases q1:Mt.zAs ((Mt.yB p k).2.1==119) c
     ·have R:Hid (Mt.jM p a b c=Mt.jM p (k+(Mt.yB p k).2.2.1) b c):=H.out.trans (zJw zTI h0 hs q1);go_wp2_with (first|(go_at_call 101;refine(mI _ _ _ hp (by omega) (by omega)).mono ?_;rintro e w' ⟨rfl,rfl⟩)|(go_at_call 132;refine(zGg _ _ _ (by omega) (by omega)).mono ?_;rintro e w' ⟨rfl,rfl⟩))
      go_round
      case rel=>exact⟨_,by omega,by omega,rfl,R.out⟩
      case measure=>simp[intOf];omega
     ·have R:Hid (Mt.jM p a b c=true):=H.out.trans (zOW zTI h0 hs q1);go_wp2_with (first|(go_at_call 101;refine(mI _ _ _ hp (by omega) (by omega)).mono ?_;rintro e w' ⟨rfl,rfl⟩)|(go_at_call 132;refine(zGg _ _ _ (by omega) (by omega)).mono ?_;rintro e w' ⟨rfl,rfl⟩))
      go_ret;exact⟨jC (by rw[R.out]),rfl⟩
   ·have R:Hid (Mt.jM p a b c=false):=H.out.trans (zQg zTI h0);go_wp2_with (first|(go_at_call 101;refine(mI _ _ _ hp (by omega) (by omega)).mono ?_;rintro e w' ⟨rfl,rfl⟩))
    go_ret;exact⟨jC (by rw[R.out]),rfl⟩
  ·have R:Hid (Mt.jM p a b c=false):=H.out.trans (zOV (by omega));go_wp2_with fail
   go_ret;exact⟨jC (by rw[R.out]),rfl⟩
theorem zKT(p:ByteArray)(a b:Int)(no:Bool)(n:Nat):(Mt.nE p a b no n).length<=n:=by
 unfold Mt.nE;rw[List.length_map];exact Nat.le_trans (List.length_filter_le _ _) (by simp)
theorem zKU{p:ByteArray}{a b:Int}{no:Bool}{n:Nat}(hn:n<256)(h:(Mt.jM p a b (n:Int) != no)=true):nA (Mt.nE p a b no (n+1))=nA (Mt.nE p a b no n)++[.int .u8 (n:Int)]/\(Mt.nE p a b no (n+1)).length=(Mt.nE p a b no n).length+1:=by
 have e:Mt.nE p a b no (n+1)=Mt.nE p a b no n++[UInt8.ofNat n]:=by
  unfold Mt.nE;rw[List.range_succ,List.filter_append,List.map_append];congr 1;rw[List.filter_cons,if_pos h];rfl
 rw[e];refine⟨?_,by simp⟩;simp only[nA,List.map_append,List.map_cons,List.map_nil];have:(UInt8.ofNat n).toNat=n:=by simp;omega
 rw[this]
theorem zJx{p:ByteArray}{a b:Int}{no:Bool}{n:Nat}(h:(Mt.jM p a b (n:Int) != no)=false):Mt.nE p a b no (n+1)=Mt.nE p a b no n:=by
 unfold Mt.nE;rw[List.range_succ,List.filter_append,List.map_append];have:List.filter (λc:Nat=>Mt.jM p a b (c:Int) != no) [n]=[]:=by rw[List.filter_cons,if_neg (by simp[h])];rfl
 rw[this];simp
theorem zDj(p:ByteArray)(a b:Int)(no:Bool)(w:World)(hp:p.size<=64)(ha0:0<=a)(ha1:a<=200)(zTH:b<=200) :
  Calls Tryz.prog 63 #[.string p,.int .i64 a,.int .i64 b,.bool no] w λe w'=>e=.returned (.string ⟨(Mt.all p a b no).toArray⟩)/\Below w.heap.size w w':=by
 obtain⟨i0,hi,hz0,hz1,hz2⟩:=info_parts Tryz.info5;go_enter Tryz.func63,Tryz.ntmps63
 go_wp2_with fail
 go_loopw [9,10] (λv i wr=>∃k:Nat,k<=256/\i=.int .i64 k/\wr.ownsRow w.heap.size 5 1 v (Mt.nE p a b no k).length (nA (Mt.nE p a b no k))/\Below w.heap.size w wr) (λ_ i _=>256-(intOf i).toNat)
 case atStart=>exact⟨0,by omega,rfl,World.ownsRow_nil _ _ _ _,Below.refl _ _⟩
 case round =>
  obtain⟨k,hk,rfl,jS,qV⟩:=hrel;have hl:=zKT p a b no k;have hsz:=qV.size;by_cases zTI:k<256
  ·cases hq:(!(Mt.jM p a b (k:Int)==no))
   ·have em:=zJx hq;have H1:Hid (wr.ownsRow w.heap.size 5 1 u9 (Mt.nE p a b no (k+1)).length (nA (Mt.nE p a b no (k+1)))):=by rw[em];exact jS
    clear em;go_wp2_with (first|(go_at_call 103;refine(zDi _ _ _ _ _ hp (by omega) (by omega) (by omega) (by omega) (by omega)).mono ?_;rintro e w' ⟨rfl,rfl⟩))
    go_roundw
    case rel=>exact⟨k+1,by omega,by go_num,H1.out,qV⟩
    case measure=>simp[intOf];omega
   ·have eh:=zKU zTI hq;have H1:Hid (nA (Mt.nE p a b no (k+1))=nA (Mt.nE p a b no k)++[.int .u8 (k:Int)]/\(Mt.nE p a b no (k+1)).length=(Mt.nE p a b no k).length+1):=eh;clear eh;go_wp2_with (first|(go_at_call 103;refine(zDi _ _ _ _ _ hp (by omega) (by omega) (by omega) (by omega) (by omega)).mono ?_;rintro e w' ⟨rfl,rfl⟩)|(at_builtin;refine wpList_append_own _ rfl _ _ 151 rfl w.heap.size 5 i0 (.int .u8 0) 1 1 Tryz.underlying151 hi hz0 hz1 hz2 rfl (by decide) _ _ _ rfl (jS.alloc _) ⟨wr.heap.size,0,none⟩ 1 1 [.int .u8 (k:Int)] rfl rfl ?c1 ?c2 ?c3 ?c4 ?c5 ?_))
    case c1 =>
     intro j u hj
     match j,hj with
     | 0,hj=>simp at hj;subst hj;simp[Addr.add]
    case c2=>intro u hu;simp at hu;subst hu;rfl
    case c3=>unfold maxLen;omega
    case c4=>omega
    case c5=>simp;omega
    ·intro v' w1 hown' jL _
     have R1:Hid (w1.ownsRow w.heap.size 5 1 v' (Mt.nE p a b no (k+1)).length (nA (Mt.nE p a b no (k+1)))):=by
      show w1.ownsRow _ _ _ _ _ _;rw[H1.out.1,H1.out.2];exact hown'
     have R2:Below w.heap.size w w1:=(qV.alloc hsz _).grown jL (by simp;omega) (λq hq'=>(jS.lt q hq').1);clear hown' jL jS
     go_wp2
     go_roundw
     case rel=>exact⟨k+1,by omega,by go_num,R1.out,R2⟩
     case measure=>simp[intOf];omega
  ·have hk2:k=256:=by omega
   subst hk2;have hcv:=zEy wr w.heap.size _ _ jS;go_wp2_with fail
   go_ret;exact⟨rfl,qV⟩
theorem fB{w w1:World}{A:Array Value}{t:TypeId}(hb:Below (w.alloc (.cells A t)).heap.size (w.alloc (.cells A t)) w1) :
  (∀o,w1.cell? ⟨w.heap.size,o,none⟩=A[o]?)/\(∀o,w1.frozen? ⟨w.heap.size,o,none⟩=false)/\w.heap.size<w1.heap.size/\Below w.heap.size w w1:=by
 have hs:(w.alloc (.cells A t)).heap.size=w.heap.size+1:=by simp
 have h0:w1.heap[w.heap.size]?=some (.cells A t (0,0)):=by rw[hb.block _ (by omega),heap_alloc_new]
 have:=hb.size;exact⟨(zC h0).1,(zC h0).2,by omega,((Below.refl _ _).alloc (lG _) _).trans (hb.mono (by omega))⟩
theorem tT{w w1:World}{A B:Array Value}{t u:TypeId}(hb:Below ((w.alloc (.cells A t)).alloc (.cells B u)).heap.size ((w.alloc (.cells A t)).alloc (.cells B u)) w1) :
  (∀o,w1.cell? ⟨w.heap.size,o,none⟩=A[o]?)/\(∀o,w1.frozen? ⟨w.heap.size,o,none⟩=false) /\
  (∀o,w1.cell? ⟨w.heap.size+1,o,none⟩=B[o]?)/\(∀o,w1.frozen? ⟨w.heap.size+1,o,none⟩=false)/\w.heap.size+1<w1.heap.size/\Below w.heap.size w w1:=by
 have hs:((w.alloc (.cells A t)).alloc (.cells B u)).heap.size=w.heap.size+2:=by simp
 have hs1:(w.alloc (.cells A t)).heap.size=w.heap.size+1:=by simp
 have h0:w1.heap[w.heap.size]?=some (.cells A t (0,0)):=by rw[hb.block _ (by omega),kT _ _ _ (by omega),heap_alloc_new]
 have h1:w1.heap[w.heap.size+1]?=some (.cells B u (0,0)):=by rw[hb.block _ (by omega),<-hs1,heap_alloc_new]
 have:=hb.size;exact⟨(zC h0).1,(zC h0).2,(zC h1).1,(zC h1).2,by omega,(((Below.refl _ _).alloc (lG _) _).alloc (by omega) _).trans (hb.mono (by omega))⟩
def vU(t:Mt.zTD):List Value:=[.int .i64 t.kind,.int .i64 t.zTE,.int .i64 t.to,.int .i64 t.n,.int .i64 t.m,.int .i64 t.zTF,.string ⟨t.set.toArray⟩]
def mK(t:Mt.zTD):Value:=.agg #[.int .i64 t.kind,.int .i64 t.zTE,.int .i64 t.to,.int .i64 t.n,.int .i64 t.m,.int .i64 t.zTF,.string ⟨t.set.toArray⟩]
theorem zHG(p:ByteArray)(i:Int)(w:World)(hp:p.size<=64)(hi0:0<=i)(hi1:i<=100) :
  Calls Tryz.prog 61 #[.string p,.int .i64 i] w λe w'=>e=.returned (.tuple #[mK (Mt.kW p i).1,.bool (Mt.kW p i).2])/\Below w.heap.size w w':=by
 rcases Mt.nG p i with ⟨a1,e⟩ | ⟨a1,⟨a2,e⟩ | ⟨a2,a3,e⟩ | ⟨a2,a3,a4,e⟩ | ⟨a2,a3,a4,a5,e⟩ | ⟨a2,a3,a4,a5,e⟩⟩
 all_goals
  rw[e];clear e;go_enter Tryz.func61,Tryz.ntmps61
  go_wp2_with (go_at_call 98;refine(mJ _ _ _ hp).mono ?_;rintro e w' ⟨rfl,rfl⟩)
  go_returns;exact⟨rfl,by go_grown⟩
theorem zAL(p:ByteArray)(t:Int) :
  ((Mt.zTC p t==63)=true/\Mt.fF p t=(1,t+1))\/((Mt.zTC p t==63)=false/\(Mt.zTC p t==43)=true/\Mt.fF p t=(2,t+1)) \/
  ((Mt.zTC p t==63)=false/\(Mt.zTC p t==43)=false/\Mt.fF p t=(0,t)):=by
 unfold Mt.fF;simp only[beq_iff_eq,beq_eq_false_iff_ne];by_cases h:Mt.zTC p t=63
 ·simp[h]
 ·rw[if_neg h];by_cases h2:Mt.zTC p t=43
  ·simp[h2]
  ·simp[h,h2]
theorem byte_at(p:ByteArray)(k:Nat)(h:k<p.size):((p[k]'h).toNat:Int)=Mt.zTC p k:=by
 have:=zHF p k h;have hb:=(p[k]'h).toNat_lt;rw[<-this];exact(IntWalk.wrap64_in _ ⟨by omega,by omega⟩).symm
theorem zGi(p:ByteArray)(k:Nat)(w:World)(hp:p.size<=64)(hk:k<p.size)(h1:(((p[k]'hk).toNat:Int)==43)=false)(h2:(((p[k]'hk).toNat:Int)==63)=false)(h3:(((p[k]'hk).toNat:Int)==123)=false) :
  Calls Tryz.prog 62 #[.string p,.int .i64 k] w λe w'=>e=.returned (.tuple #[mK ⟨8,k,(Mt.fF p (k+1)).2,0,-1,(Mt.fF p (k+1)).1,[]⟩,.bool true])/\Below w.heap.size w w':=by
 rcases zAL p (k+1)with ⟨a1,e⟩ | ⟨a1,a2,e⟩ | ⟨a1,a2,e⟩
 all_goals
  rw[e];clear e;go_enter Tryz.func62,Tryz.ntmps62
  go_wp2_with (go_at_call 98;refine(mJ _ _ _ hp).mono ?_;rintro e w' ⟨rfl,rfl⟩)
  go_returns;exact⟨rfl,by go_grown⟩
theorem zHH(p:ByteArray)(k:Nat)(w:World)(hp:p.size<=64)(hk:k<p.size)(h1:(((p[k]'hk).toNat:Int)==43)=true) :
  Calls Tryz.prog 62 #[.string p,.int .i64 k] w λe w'=>e=.returned (.tuple #[mK ⟨8,k,(Mt.fF p (k+1)).2,1,-1,(Mt.fF p (k+1)).1,[]⟩,.bool true])/\Below w.heap.size w w':=by
 rcases zAL p (k+1)with ⟨a1,e⟩ | ⟨a1,a2,e⟩ | ⟨a1,a2,e⟩
 all_goals
  rw[e];clear e;go_enter Tryz.func62,Tryz.ntmps62
  go_wp2_with (go_at_call 98;refine(mJ _ _ _ hp).mono ?_;rintro e w' ⟨rfl,rfl⟩)
  go_returns;exact⟨rfl,by go_grown⟩
theorem zHI(p:ByteArray)(k:Nat)(w:World)(hp:p.size<=64)(hk:k<p.size)(h1:(((p[k]'hk).toNat:Int)==43)=false)(h2:(((p[k]'hk).toNat:Int)==63)=true) :
  Calls Tryz.prog 62 #[.string p,.int .i64 k] w λe w'=>e=.returned (.tuple #[mK ⟨8,k,(Mt.fF p (k+1)).2,0,1,(Mt.fF p (k+1)).1,[]⟩,.bool true])/\Below w.heap.size w w':=by
 rcases zAL p (k+1)with ⟨a1,e⟩ | ⟨a1,a2,e⟩ | ⟨a1,a2,e⟩
 all_goals
  rw[e];clear e;go_enter Tryz.func62,Tryz.ntmps62
  go_wp2_with (go_at_call 98;refine(mJ _ _ _ hp).mono ?_;rintro e w' ⟨rfl,rfl⟩)
  go_returns;exact⟨rfl,by go_grown⟩
theorem zGj(p:ByteArray)(k:Nat)(w:World)(hp:p.size<=64)(hk:k<p.size)(h1:(((p[k]'hk).toNat:Int)==43)=false)(h2:(((p[k]'hk).toNat:Int)==63)=false)(h3:(((p[k]'hk).toNat:Int)==123)=true)(hc:(Mt.count p k).2.2.2=true) :
  Calls Tryz.prog 62 #[.string p,.int .i64 k] w λe w'=>e=.returned (.tuple #[mK ⟨8,k,(Mt.fF p (Mt.count p k).2.2.1).2,(Mt.count p k).1,(Mt.count p k).2.1,(Mt.fF p (Mt.count p k).2.2.1).1,[]⟩,.bool true])/\Below w.heap.size w w':=by
 have⟨b1,b2,b3,b4,b5,b6⟩:=Mt.zM3 p k (by omega);rcases zAL p (Mt.count p k).2.2.1 with ⟨a1,e⟩ | ⟨a1,a2,e⟩ | ⟨a1,a2,e⟩
 all_goals
  rw[e];clear e;go_enter Tryz.func62,Tryz.ntmps62
  go_wp2_with (first|(go_at_call 98;refine(mJ _ _ _ hp).mono ?_;rintro e w' ⟨rfl,rfl⟩)|(go_at_call 102;refine(zGh _ _ _ hp (by omega) (by omega)).mono ?_;rintro e w' ⟨rfl,rfl⟩))
  go_returns;exact⟨rfl,by go_grown⟩
theorem zHJ(p:ByteArray)(k:Nat)(w:World)(hp:p.size<=64)(hk:k<p.size)(h1:(((p[k]'hk).toNat:Int)==43)=false)(h2:(((p[k]'hk).toNat:Int)==63)=false)(h3:(((p[k]'hk).toNat:Int)==123)=true)(hc:(Mt.count p k).2.2.2=false) :
  Calls Tryz.prog 62 #[.string p,.int .i64 k] w λe w'=>e=.returned (.tuple #[mK ⟨8,k,k+1,0,-1,0,[]⟩,.bool false])/\Below w.heap.size w w':=by
 go_enter Tryz.func62,Tryz.ntmps62
 go_wp2_with (first|(go_at_call 98;refine(mJ _ _ _ hp).mono ?_;rintro e w' ⟨rfl,rfl⟩)|(go_at_call 102;refine(zGh _ _ _ hp (by omega) (by omega)).mono ?_;rintro e w' ⟨rfl,rfl⟩))
 go_returns;exact⟨rfl,by go_grown⟩
theorem zAM(p:ByteArray)(i:Int)(w:World)(hp:p.size<=64)(hi0:0<=i)(hi1:i<(p.size:Int)) :
  Calls Tryz.prog 62 #[.string p,.int .i64 i] w λe w'=>e=.returned (.tuple #[mK (Mt.jF p i).1,.bool (Mt.jF p i).2])/\Below w.heap.size w w':=by
 obtain⟨k,rfl⟩:=Int.eq_ofNat_of_zero_le hi0;have hk:k<p.size:=by omega
 have eb:=byte_at p k hk;unfold Mt.jF;by_cases h1:Mt.zTC p k=43
 ·rw[if_pos h1];exact zHH p k w hp hk (by rw[eb];simpa using h1)
 ·rw[if_neg h1];by_cases h2:Mt.zTC p k=63
  ·rw[if_pos h2];exact zHI p k w hp hk (by rw[eb];simpa using h1) (by rw[eb];simpa using h2)
  ·rw[if_neg h2];by_cases h3:Mt.zTC p k=123
   ·rw[if_pos h3];cases hc:(Mt.count p k).2.2.2
    ·exact zHJ p k w hp hk (by rw[eb];simpa using h1) (by rw[eb];simpa using h2) (by rw[eb];simpa using h3) hc
    ·exact zGj p k w hp hk (by rw[eb];simpa using h1) (by rw[eb];simpa using h2) (by rw[eb];simpa using h3) hc
   ·rw[if_neg h3];exact zGi p k w hp hk (by rw[eb];simpa using h1) (by rw[eb];simpa using h2) (by rw[eb];simpa using h3)
theorem wR{p:ByteArray}{i:Int}(h:Mt.kI p (Mt.xC p i)=-1):Mt.qU p i=(⟨0,0,0,0,0,0,[]⟩,false):=by unfold Mt.qU;rw[if_pos (Or.inl h)]
theorem zCw{p:ByteArray}{i:Int}(h:Mt.kI p (Mt.xC p i)=Mt.xC p i):Mt.qU p i=(⟨0,0,0,0,0,0,[]⟩,false):=by unfold Mt.qU;rw[if_pos (Or.inr h)]
theorem zDk{p:ByteArray}{i k:Int}(h:Mt.kI p (Mt.xC p i)=k)(h1:0<=k)(h2:k≠Mt.xC p i):Mt.qU p i=(⟨1,i,k+1,0,0,0,Mt.all p (Mt.xC p i) k (decide (Mt.zTC p (i+1)=94))⟩,true):=by
 unfold Mt.qU;rw[h,if_neg (by omega)]
theorem zJy(p:ByteArray)(i a:Int)(no:Bool)(w:World)(hp:p.size<=64)(hi0:0<=i)(hi1:i<=64)(hno:(Mt.zTC p (i+1)==94)=no)(ha:Hid (a=Mt.xC p i))(ha0:a=if no then i+1+1 else i+1) :
  Calls Tryz.prog 60 #[.string p,.int .i64 i] w λe w'=>e=.returned (.tuple #[mK (Mt.qU p i).1,.bool (Mt.qU p i).2])/\Below w.heap.size w w':=by
 have hdec:Hid (decide (Mt.zTC p (i+1)=94)=no):=by show _=_;rw[<-hno];rfl
 cases no
 ·simp only[Bool.false_eq_true,if_false]at ha0;subst ha0;go_enter Tryz.func60,Tryz.ntmps60
  go_wp2_with (first|(go_at_call 98;refine(mJ _ _ _ hp).mono ?_;rintro e w' ⟨rfl,rfl⟩))
  go_loop [8] (λb=>∃k:Nat,i+1<=(k:Int)/\k<=100/\b=.int .i64 k/\Mt.kI p (i+1)=Mt.kI p k) (λb=>200-(intOf b).toNat)
  case atStart=>exact⟨(i+1).toNat,by omega,by omega,by rw[Int.toNat_of_nonneg (by omega)],by rw[Int.toNat_of_nonneg (by omega)]⟩
  case round =>
   obtain⟨k,hk1,hk2,rfl,hr⟩:=hrel;have H:Hid (Mt.kI p (i+1)=Mt.kI p k):=hr;clear hr;have⟨d1,d2,d3,d4,d5,d6⟩:=Mt.tO p k;have zTJ:=Mt.xJ p k;by_cases zTI:k<p.size
   ·have eb:Hid (((p[k]'zTI).toNat:Int)=Mt.zTC p k):=byte_at p k zTI;rw[if_neg (by omega)]at zTJ;cases hq:(((p[k]'zTI).toNat:Int) != 93)
    ·have h93:Mt.zTC p k=93:=by rw[<-eb.out];simpa using hq
     rw[if_pos h93]at zTJ;have HS:Hid (Mt.kI p (i+1)=k):=H.out.trans zTJ;clear zTJ h93 H;cases hka:((k:Int)==i+1)
     ·have hT:=zDk (p:=p) (i:=i) (k:=k) (by rw[<-ha.out];exact HS.out) (by omega) (by rw[<-ha.out];simpa using hka);rw[<-ha.out,hdec.out]at hT;have HT:Hid (Mt.qU p i=(⟨1,i,k+1,0,0,0,Mt.all p (i+1) k false⟩,true)):=hT;clear hT;go_wp2_with (first|(go_at_call 63;refine(zDj _ _ _ _ _ hp (by omega) (by omega) (by omega)).mono ?_;rintro e w1 ⟨rfl,zTH⟩;obtain⟨q0,q1,q4,q5⟩:=fB zTH;clear zTH))
      refine bodyPost_ret (v:=.tuple #[mK ⟨1,i,k+1,0,0,0,Mt.all p (i+1) k false⟩,.bool true]) (by simp[results,Tryz.results60,go_sem,q0,q1,mK]) rfl ⟨by rw[HT.out],?_⟩
      go_grown
     ·have hT:=zCw (p:=p) (i:=i) (by rw[<-ha.out,HS.out];simpa using hka);have HT:Hid (Mt.qU p i=(⟨0,0,0,0,0,0,[]⟩,false)):=hT;clear hT;go_wp2_with fail
      go_returns;exact⟨by rw[HT.out];rfl,by go_grown⟩
    ·have h93:¬Mt.zTC p k=93:=by rw[<-eb.out];simpa using hq
     rw[if_neg h93]at zTJ;clear h93;cases hz:((Mt.yB p k).2.2.1==0)
     ·rw[if_neg (by simpa using hz)]at zTJ
      have hz1:1<=(Mt.yB p k).2.2.1:=by
       have:(Mt.yB p k).2.2.1≠0:=by simpa using hz
       omega
      have R:Hid (Mt.kI p (i+1)=Mt.kI p (k+(Mt.yB p k).2.2.1)):=H.out.trans zTJ;clear zTJ H;go_wp2_with (first|(go_at_call 101;refine(mI _ _ _ hp (by omega) (by omega)).mono ?_;rintro e w' ⟨rfl,rfl⟩))
      go_round
      case rel=>exact⟨((k:Int)+(Mt.yB p k).2.2.1).toNat,by omega,by omega,by rw[Int.toNat_of_nonneg (by omega)],by rw[Int.toNat_of_nonneg (by omega)];exact R.out⟩
      case measure=>simp[intOf];omega
     ·rw[if_pos (by simpa using hz)]at zTJ;have HT:Hid (Mt.qU p i=(⟨0,0,0,0,0,0,[]⟩,false)):=wR (by rw[<-ha.out];exact H.out.trans zTJ);clear zTJ H;go_wp2_with (first|(go_at_call 101;refine(mI _ _ _ hp (by omega) (by omega)).mono ?_;rintro e w' ⟨rfl,rfl⟩))
      go_returns;exact⟨by rw[HT.out];rfl,by go_grown⟩
   ·rw[if_pos (by omega)]at zTJ;have HT:Hid (Mt.qU p i=(⟨0,0,0,0,0,0,[]⟩,false)):=wR (by rw[<-ha.out];exact H.out.trans zTJ);clear zTJ H;cases hka:((k:Int)==i+1)
    all_goals
     go_wp2_with fail
     go_returns;exact⟨by rw[HT.out];rfl,by go_grown⟩
 ·simp only[if_true]at ha0;subst ha0;go_enter Tryz.func60,Tryz.ntmps60
  go_wp2_with (first|(go_at_call 98;refine(mJ _ _ _ hp).mono ?_;rintro e w' ⟨rfl,rfl⟩))
  go_loop [8] (λb=>∃k:Nat,i+1+1<=(k:Int)/\k<=100/\b=.int .i64 k/\Mt.kI p (i+1+1)=Mt.kI p k) (λb=>200-(intOf b).toNat)
  case atStart=>exact⟨(i+1+1).toNat,by omega,by omega,by rw[Int.toNat_of_nonneg (by omega)],by rw[Int.toNat_of_nonneg (by omega)]⟩
  case round =>
   obtain⟨k,hk1,hk2,rfl,hr⟩:=hrel;have H:Hid (Mt.kI p (i+1+1)=Mt.kI p k):=hr;clear hr;have⟨d1,d2,d3,d4,d5,d6⟩:=Mt.tO p k;have zTJ:=Mt.xJ p k;by_cases zTI:k<p.size
   ·have eb:Hid (((p[k]'zTI).toNat:Int)=Mt.zTC p k):=byte_at p k zTI;rw[if_neg (by omega)]at zTJ;cases hq:(((p[k]'zTI).toNat:Int) != 93)
    ·have h93:Mt.zTC p k=93:=by rw[<-eb.out];simpa using hq
     rw[if_pos h93]at zTJ;have HS:Hid (Mt.kI p (i+1+1)=k):=H.out.trans zTJ;clear zTJ h93 H;cases hka:((k:Int)==i+1+1)
     ·have hT:=zDk (p:=p) (i:=i) (k:=k) (by rw[<-ha.out];exact HS.out) (by omega) (by rw[<-ha.out];simpa using hka);rw[<-ha.out,hdec.out]at hT;have HT:Hid (Mt.qU p i=(⟨1,i,k+1,0,0,0,Mt.all p (i+1+1) k true⟩,true)):=hT;clear hT;go_wp2_with (first|(go_at_call 63;refine(zDj _ _ _ _ _ hp (by omega) (by omega) (by omega)).mono ?_;rintro e w1 ⟨rfl,zTH⟩;obtain⟨q0,q1,q4,q5⟩:=fB zTH;clear zTH))
      refine bodyPost_ret (v:=.tuple #[mK ⟨1,i,k+1,0,0,0,Mt.all p (i+1+1) k true⟩,.bool true]) (by simp[results,Tryz.results60,go_sem,q0,q1,mK]) rfl ⟨by rw[HT.out],?_⟩
      go_grown
     ·have hT:=zCw (p:=p) (i:=i) (by rw[<-ha.out,HS.out];simpa using hka);have HT:Hid (Mt.qU p i=(⟨0,0,0,0,0,0,[]⟩,false)):=hT;clear hT;go_wp2_with fail
      go_returns;exact⟨by rw[HT.out];rfl,by go_grown⟩
    ·have h93:¬Mt.zTC p k=93:=by rw[<-eb.out];simpa using hq
     rw[if_neg h93]at zTJ;clear h93;cases hz:((Mt.yB p k).2.2.1==0)
     ·rw[if_neg (by simpa using hz)]at zTJ
      have hz1:1<=(Mt.yB p k).2.2.1:=by
       have:(Mt.yB p k).2.2.1≠0:=by simpa using hz
       omega
      have R:Hid (Mt.kI p (i+1+1)=Mt.kI p (k+(Mt.yB p k).2.2.1)):=H.out.trans zTJ;clear zTJ H;go_wp2_with (first|(go_at_call 101;refine(mI _ _ _ hp (by omega) (by omega)).mono ?_;rintro e w' ⟨rfl,rfl⟩))
      go_round
      case rel=>exact⟨((k:Int)+(Mt.yB p k).2.2.1).toNat,by omega,by omega,by rw[Int.toNat_of_nonneg (by omega)],by rw[Int.toNat_of_nonneg (by omega)];exact R.out⟩
      case measure=>simp[intOf];omega
     ·rw[if_pos (by simpa using hz)]at zTJ;have HT:Hid (Mt.qU p i=(⟨0,0,0,0,0,0,[]⟩,false)):=wR (by rw[<-ha.out];exact H.out.trans zTJ);clear zTJ H;go_wp2_with (first|(go_at_call 101;refine(mI _ _ _ hp (by omega) (by omega)).mono ?_;rintro e w' ⟨rfl,rfl⟩))
      go_returns;exact⟨by rw[HT.out];rfl,by go_grown⟩
   ·rw[if_pos (by omega)]at zTJ;have HT:Hid (Mt.qU p i=(⟨0,0,0,0,0,0,[]⟩,false)):=wR (by rw[<-ha.out];exact H.out.trans zTJ);clear zTJ H;cases hka:((k:Int)==i+1+1)
    all_goals
     go_wp2_with fail
     go_returns;exact⟨by rw[HT.out];rfl,by go_grown⟩
theorem zKV(p:ByteArray)(i:Int)(w:World)(hp:p.size<=64)(hi0:0<=i)(hi1:i<=64) :
  Calls Tryz.prog 60 #[.string p,.int .i64 i] w λe w'=>e=.returned (.tuple #[mK (Mt.qU p i).1,.bool (Mt.qU p i).2])/\Below w.heap.size w w':=by
 refine zJy p i (Mt.xC p i) (Mt.zTC p (i+1)==94) w hp hi0 hi1 rfl rfl ?_;unfold Mt.xC;by_cases h:Mt.zTC p (i+1)=94
 ·rw[if_pos h,if_pos (by simpa using h)];omega
 ·rw[if_neg h,if_neg (by simpa using h)]
