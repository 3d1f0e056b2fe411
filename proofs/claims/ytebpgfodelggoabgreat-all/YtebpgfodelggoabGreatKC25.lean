import Derived.Test.YtebpgfodelggoabGreatKC01
import Derived.Test.YtebpgfodelggoabGreatKC23
import Derived.Laws.ResultCell
import Derived.Deep.RegionHeld3
import Derived.Deep.RegionWith
import Derived.Deep.QuietTactic
import Derived.BigQuiet
set_option linter.unusedVariables false
set_option linter.unusedSimpArgs false
set_option maxRecDepth 100000
set_option maxHeartbeats 2000000
namespace Go.Proofs.YtebpgfodelggoabGreat
open Go.RowKit
theorem results_tmp3{fn:Func}{t u v:Tmp}(h:fn.results=#[.tmp t,.tmp u,.tmp v])(tmps:Array Value)(P:Program)(w:World) :
  (results fn tmps).run P w=.ok (.tuple #[tmps.getD t undef,tmps.getD u undef,tmps.getD v undef]) w:=by
 simp[results,h]
theorem kG(p:ByteArray)(i:Int)(w:World)(hp:p.size<=64) :
  Calls Tryz.prog 84 #[.string p,.int .i64 i] w λe w'=>e=.returned (.int .i64 (Mt.zTC p i))/\w=w':=by
 by_cases h0:i<0
 ·rw[Mt.zDc p i (by omega)];go_enter Tryz.func84,Tryz.ntmps84
  go_wp2
  go_ret;exact⟨rfl,rfl⟩
 ·by_cases h1:(p.size:Int)<=i
  ·rw[Mt.zDc p i (by omega)];go_enter Tryz.func84,Tryz.ntmps84
   go_wp2
   go_ret;exact⟨rfl,rfl⟩
  ·obtain⟨k,rfl⟩:=Int.eq_ofNat_of_zero_le (show 0<=i by omega);have hk:k<p.size:=by omega
   rw[<-zHF p k hk];go_enter Tryz.func84,Tryz.ntmps84
   go_wp2
   go_ret;exact⟨rfl,rfl⟩
theorem zDQ(c:Int)(w:World) :
  Calls Tryz.prog 144 #[.int .i64 c] w λe w'=>e=.returned (.bool (Mt.zBa c))/\w=w':=by
 by_cases a:48<=c
 ·by_cases b:c<=57
  ·rw[zOE ⟨a,b⟩];go_enter Tryz.func144,Tryz.ntmps144
   go_wp2
   go_ret;exact⟨rfl,rfl⟩
  ·rw[zIM (by omega)];go_enter Tryz.func144,Tryz.ntmps144
   go_wp2
   go_ret;exact⟨rfl,rfl⟩
 ·rw[zIM (by omega)];go_enter Tryz.func144,Tryz.ntmps144
  go_wp2
  go_ret;exact⟨rfl,rfl⟩
theorem zGW(c:Int)(w:World) :
  Calls Tryz.prog 146 #[.int .i64 c] w λe w'=>e=.returned (.bool (Mt.zA6 c))/\w=w':=by
 rcases(show(c<65/\Mt.zA6 c=false)\/((65<=c/\c<=90)/\Mt.zA6 c=true)\/((90<c/\c<97)/\Mt.zA6 c=false)\/((97<=c/\c<=122)/\Mt.zA6 c=true)\/(122<c/\Mt.zA6 c=false) by
   simp only[Mt.zA6,decide_eq_true_eq,lJ];omega)with ⟨h,e⟩ | ⟨⟨h,h'⟩,e⟩ | ⟨⟨h,h'⟩,e⟩ | ⟨⟨h,h'⟩,e⟩ | ⟨h,e⟩
 all_goals
  rw[e];clear e;go_enter Tryz.func146,Tryz.ntmps146
  go_wp2
  go_ret;first | exact⟨rfl,rfl⟩ | exact⟨jC (by simp;omega),rfl⟩
theorem yJ(c:Int)(w:World) :
  Calls Tryz.prog 125 #[.int .i64 c] w λe w'=>e=.returned (.bool (c==100||c==119))/\w=w':=by
 cases a:(c==100) <;> cases b:(c==119)
 all_goals
  go_enter Tryz.func125,Tryz.ntmps125
  go_wp2
  go_ret;first | exact⟨rfl,rfl⟩ | exact⟨jC (by simp_all),rfl⟩
def zId(c:Int):Bool:=c != -1&&!Mt.zA6 c&&!Mt.zBa c
theorem mW(c:Int)(w:World) :
  Calls Tryz.prog 127 #[.int .i64 c] w λe w'=>e=.returned (.bool (zId c))/\w=w':=by
 unfold zId;cases a:(c != -1) <;> cases b:Mt.zA6 c <;> cases d:Mt.zBa c
 all_goals
  go_enter Tryz.func127,Tryz.ntmps127
  go_wp2_with (first|(go_at_call 146;refine(zGW _ _).mono ?_;rintro e w' ⟨rfl,rfl⟩)|(go_at_call 144;refine(zDQ _ _).mono ?_;rintro e w' ⟨rfl,rfl⟩))
  all_goals
   go_ret;first | exact⟨rfl,rfl⟩ | exact⟨jC (by simp_all),rfl⟩
def zJ9(S:Mt.tX):Array Value:=((List.range 256).map λc=>Value.bool (S c)).toArray
theorem zGX(S:Mt.tX):(zJ9 S).size=256:=by simp[zJ9]
theorem zFE(S:Mt.tX)(c:Nat)(h:c<256):(zJ9 S)[c]?=some (.bool (S c)):=by
 unfold zJ9;rw[List.getElem?_toArray,List.getElem?_map,List.getElem?_range h];rfl
theorem zI4(S T:Mt.tX)(k:Nat)(b:Bool)(hk:k<256)(h:∀c,T c=if c=k then b else S c):(zJ9 S).setIfInBounds k (.bool b)=zJ9 T:=by
 apply Array.ext
 ·simp[zJ9]
 ·intro i h1 h2;simp only[Array.size_setIfInBounds,zGX]at h1;rw[Array.getElem_setIfInBounds (by rw[zGX];exact h1)];simp only[zJ9,List.getElem_toArray,List.getElem_map,List.getElem_range];rw[h i];by_cases e:k=i
  ·rw[if_pos e,if_pos e.symm]
  ·rw[if_neg e,if_neg (Ne.symm e)]
theorem zGY{S T:Mt.tX}(h:Mt.zPm S T):zJ9 S=zJ9 T:=by
 unfold zJ9;congr 1;apply List.map_congr_left;intro c hc;rw[h c (by simpa using hc)]
def pK(w:World)(g:Nat)(S:Mt.tX):Prop:=w.heap[g]?=some (.cells (zJ9 S) 172 (0,0))
structure Only (g:Nat) (w w':World):Prop where
 os:w'.os=w.os
 tape:w'.tape=w.tape
 output:w'.output=w.output
 size:w'.heap.size=w.heap.size
 block:∀k,k≠g->w'.heap[k]?=w.heap[k]?
theorem Only.refl(g:Nat)(w:World):Only g w w:=⟨rfl,rfl,rfl,rfl,λ_ _=>rfl⟩
theorem Only.trans{g:Nat}{a b c:World}(h:Only g a b)(k:Only g b c):Only g a c :=
 ⟨k.os.trans h.os,k.tape.trans h.tape,k.output.trans h.output,k.size.trans h.size,λi hi=>(k.block i hi).trans (h.block i hi)⟩
theorem Only.set{g:Nat}{a w:World}(h:Only g a w)(k:Nat)(u:Value):Only g a (w.setCell ⟨g,k,none⟩ u) :=
 h.trans ⟨rfl,rfl,rfl,by simp[World.setCell],λi hi=>Below.heap_setCell _ _ _ _ hi⟩
theorem Only.below{g L:Nat}{a w:World}(h:Only g a w)(hl:L<=g):Below L a w :=
 ⟨h.os,h.tape,h.output,Nat.le_of_eq h.size.symm,λi hi=>h.block i (by omega)⟩
theorem pE(w:World)(g:Nat)(S:Mt.tX)(a b:Int)(hS:pK w g S) :
  Calls Tryz.prog 121 #[.pointer (some ⟨g,0,none⟩),.int .i64 a,.int .i64 b] w λe w'=>e=.returned (.tuple #[])/\pK w' g (Mt.bW S a b)/\Only g w w':=by
 have H0:Hid (pK w g (Mt.nX S a b 0)):=by show pK _ _ _;rw[Mt.zJ3];exact hS
 clear hS;go_enter Tryz.func121,Tryz.ntmps121
 go_wp2_with fail
 go_loopw [6] (λi wr=>∃k:Nat,k<=256/\i=.int .i64 k/\pK wr g (Mt.nX S a b k)/\Only g w wr) (λi _=>256-(intOf i).toNat)
 case atStart=>exact⟨0,by omega,rfl,H0.out,Only.refl _ _⟩
 case round =>
  obtain⟨k,hk,rfl,hs,hO⟩:=hrel;have HS:Hid (pK wr g (Mt.nX S a b k)):=hs;have HO:Hid (Only g w wr):=hO;by_cases hl:k<256
  ·have zz:wr.cell? ⟨g,k,none⟩=some (.bool (Mt.nX S a b k k)):=by rw[(zC hs).1,zFE _ _ hl]
   have z2:=(zC hs).2 k;clear hs hO;by_cases h1:a<=(k:Int)
   ·by_cases h2:(k:Int)<=b
    ·have HN:=Mt.zLD S a b k ⟨h1,h2⟩;have HN':Hid (Mt.nX S a b (k+1)=λc=>if c=k then true else Mt.nX S a b k c):=HN;clear HN;go_wp2_with fail
     go_roundw
     case rel =>
      refine⟨k+1,by omega,by go_num,?_,HO.out.set _ _⟩;have:=Go.heap_setCell_same wr g k _ _ (.bool true) HS.out;unfold pK;rw[zI4 (Mt.nX S a b k) (Mt.nX S a b (k+1)) k true hl (λc=>by rw[HN'.out])]at this;exact this
     case measure=>simp[intOf];omega
    ·have HN':Hid (Mt.nX S a b (k+1)=Mt.nX S a b k):=Mt.zEO S a b k (by omega);go_wp2_with fail
     go_roundw
     case rel=>exact⟨k+1,by omega,by go_num,by rw[HN'.out];exact HS.out,HO.out⟩
     case measure=>simp[intOf];omega
   ·have HN':Hid (Mt.nX S a b (k+1)=Mt.nX S a b k):=Mt.zEO S a b k (by omega);go_wp2_with fail
    go_roundw
    case rel=>exact⟨k+1,by omega,by go_num,by rw[HN'.out];exact HS.out,HO.out⟩
    case measure=>simp[intOf];omega
  ·have e:k=256:=by omega
   subst e;clear hs hO;go_wp2_with fail
   go_returns;refine⟨rfl,?_,HO.out⟩;have:=HS.out;unfold pK at this |-;rw[zGY (Mt.zLE S a b)]at this;exact this
theorem zBX(w:World)(g:Nat)(S:Mt.tX)(c:Int)(hS:pK w g S) :
  Calls Tryz.prog 126 #[.pointer (some ⟨g,0,none⟩),.int .i64 c] w λe w'=>e=.returned (.tuple #[])/\pK w' g (Mt.zHD S (decide (c=119)))/\Only g w w':=by
 have H0:Hid (pK w g S):=hS;clear hS;cases hc:(c==119)
 ·have HL:Hid (Mt.zHD S (decide (c=119))=Mt.bW S 48 57):=by
   show _=_;have:¬c=119:=by simpa using hc
   simp[Mt.zHD,this]
  go_enter Tryz.func126,Tryz.ntmps126
  go_wp2_with fail
  refine(pE w g S 48 57 H0.out).mono ?_;rintro e w1 ⟨rfl,s1,o1⟩;have H1:Hid (pK w1 g (Mt.bW S 48 57)/\Only g w w1):=⟨s1,o1⟩
  clear s1 o1;go_wp2_with fail
  go_returns;exact⟨rfl,by rw[HL.out];exact H1.out.1,H1.out.2⟩
 ·have HL:Hid (Mt.zHD S (decide (c=119))=Mt.bW (Mt.bW (Mt.bW (Mt.bW S 48 57) 65 90) 95 95) 97 122):=by
   show _=_;have:c=119:=by simpa using hc
   simp[Mt.zHD,this]
  go_enter Tryz.func126,Tryz.ntmps126
  go_wp2_with fail
  refine(pE w g S 48 57 H0.out).mono ?_;rintro e w1 ⟨rfl,s1,o1⟩;have H1:Hid (pK w1 g (Mt.bW S 48 57)/\Only g w w1):=⟨s1,o1⟩
  clear s1 o1;go_wp2_with fail
  refine(pE w1 g _ 65 90 H1.out.1).mono ?_;rintro e w2 ⟨rfl,s1,o1⟩;have H2:Hid (pK w2 g (Mt.bW (Mt.bW S 48 57) 65 90)/\Only g w w2):=⟨s1,H1.out.2.trans o1⟩
  clear s1 o1 H1;go_wp2_with fail
  refine(pE w2 g _ 95 95 H2.out.1).mono ?_;rintro e w3 ⟨rfl,s1,o1⟩;have H3:Hid (pK w3 g (Mt.bW (Mt.bW (Mt.bW S 48 57) 65 90) 95 95)/\Only g w w3):=⟨s1,H2.out.2.trans o1⟩
  clear s1 o1 H2;go_wp2_with fail
  refine(pE w3 g _ 97 122 H3.out.1).mono ?_;rintro e w4 ⟨rfl,s1,o1⟩;have H4:Hid (pK w4 g (Mt.bW (Mt.bW (Mt.bW (Mt.bW S 48 57) 65 90) 95 95) 97 122)/\Only g w w4):=⟨s1,H3.out.2.trans o1⟩
  clear s1 o1 H3;go_wp2_with fail
  go_returns;exact⟨rfl,by rw[HL.out];exact H4.out.1,H4.out.2⟩
theorem zC5(w:World)(g:Nat)(S:Mt.tX)(hS:pK w g S) :
  Calls Tryz.prog 122 #[.pointer (some ⟨g,0,none⟩)] w λe w'=>e=.returned (.string ⟨(Mt.yY S 256).toArray⟩)/\Below w.heap.size w w':=by
 obtain⟨i0,hi,hz0,hz1,hz2⟩:=info_parts Tryz.info5;have H0:Hid (pK w g S):=hS;have hg:g<w.heap.size:=(lI.1 hS).1;clear hS;go_enter Tryz.func122,Tryz.ntmps122
 go_wp2_with fail
 go_loopw [3,4] (λv i wr=>∃k:Nat,k<=256/\i=.int .i64 k/\wr.ownsRow w.heap.size 5 1 v (Mt.yY S k).length (nA (Mt.yY S k))/\Below w.heap.size w wr) (λ_ i _=>256-(intOf i).toNat)
 case atStart=>exact⟨0,by omega,rfl,World.ownsRow_nil _ _ _ _,Below.refl _ _⟩
 case round =>
  obtain⟨k,hk,rfl,jS,qV⟩:=hrel;have hl:=Mt.zLG S k;have hsz:=qV.size;by_cases zTI:k<256
  ·have zz:wr.cell? ⟨g,k,none⟩=some (.bool (S k)):=by
    rw[qV.cell (p:=⟨g,k,none⟩) hg,(zC H0.out).1,zFE _ _ zTI]
   cases hq:S k
   ·rw[hq]at zz;have H1:Hid (wr.ownsRow w.heap.size 5 1 u3 (Mt.yY S (k+1)).length (nA (Mt.yY S (k+1)))):=by rw[Mt.zJ5 hq];exact jS
    go_wp2_with fail
    go_roundw
    case rel=>exact⟨k+1,by omega,by go_num,H1.out,qV⟩
    case measure=>simp[intOf];omega
   ·rw[hq]at zz
    have H1:Hid (nA (Mt.yY S (k+1))=nA (Mt.yY S k)++[.int .u8 (k:Int)]/\(Mt.yY S (k+1)).length=(Mt.yY S k).length+1):=by
     rw[Mt.zLF hq];refine⟨?_,by simp⟩;simp only[nA,List.map_append,List.map_cons,List.map_nil];have:(UInt8.ofNat k).toNat=k:=by simp;omega
     rw[this]
    go_wp2_with (first|(at_builtin;refine wpList_append_own _ rfl _ _ 151 rfl w.heap.size 5 i0 (.int .u8 0) 1 1 Tryz.underlying151 hi hz0 hz1 hz2 rfl (by decide) _ _ _ rfl (jS.alloc _) ⟨wr.heap.size,0,none⟩ 1 1 [.int .u8 (k:Int)] rfl rfl ?c1 ?c2 ?c3 ?c4 ?c5 ?_))
    case c1 =>
     intro j u hj
     match j,hj with
     | 0,hj=>simp at hj;subst hj;simp[Addr.add]
    case c2=>intro u hu;simp at hu;subst hu;rfl
    case c3=>unfold maxLen;omega
    case c4=>omega
    case c5=>simp;omega
    ·intro v' w1 hown' jL _
     have R1:Hid (w1.ownsRow w.heap.size 5 1 v' (Mt.yY S (k+1)).length (nA (Mt.yY S (k+1)))):=by
      show World.ownsRow _ _ _ _ _ _ _;rw[H1.out.1,H1.out.2];exact hown'
     have R2:Hid (Below w.heap.size w w1):=(qV.alloc hsz _).grown jL (by simp;omega) (λq hq'=>(jS.lt q hq').1);clear hown' jL;go_wp2_with fail
     go_roundw
     case rel=>exact⟨k+1,by omega,by go_num,R1.out,R2.out⟩
     case measure=>simp[intOf];omega
  ·have e:k=256:=by omega
   subst e;have hcv:=zEy wr w.heap.size u3 (Mt.yY S 256) jS;go_wp2_with fail
   go_returns;exact⟨rfl,qV⟩
def cbP(p:ByteArray)(i:Int):Int × Int × Bool:=if(Mt.zJ p i).2=0 then(0,0,false)else((Mt.zJ p i).1,i+(Mt.zJ p i).2,true)
theorem zI5(d:Int)(hd:-1<=d):zId d=true↔¬(d<0\/Mt.zBa d=true\/Mt.zA6 d=true):=by
 unfold zId;cases Mt.zBa d <;> cases Mt.zA6 d <;> simp <;> omega
theorem zLS(p:ByteArray)(i:Int) :
  ((Mt.zTC p i==-1)=true/\cbP p i=(0,0,false))\/((Mt.zTC p i==-1)=false/\(Mt.zTC p i==93)=true/\cbP p i=(0,0,false)) \/
  ((Mt.zTC p i==-1)=false/\(Mt.zTC p i==93)=false/\(Mt.zTC p i==45)=true/\cbP p i=(0,0,false)) \/
  ((Mt.zTC p i==-1)=false/\(Mt.zTC p i==93)=false/\(Mt.zTC p i==45)=false/\(Mt.zTC p i==92)=true/\zId (Mt.zTC p (i+1))=false/\cbP p i=(0,0,false)) \/
  ((Mt.zTC p i==-1)=false/\(Mt.zTC p i==93)=false/\(Mt.zTC p i==45)=false/\(Mt.zTC p i==92)=true/\zId (Mt.zTC p (i+1))=true/\cbP p i=(Mt.zTC p (i+1),i+2,true)) \/
  ((Mt.zTC p i==-1)=false/\(Mt.zTC p i==93)=false/\(Mt.zTC p i==45)=false/\(Mt.zTC p i==92)=false/\cbP p i=(Mt.zTC p i,i+1,true)):=by
 unfold cbP Mt.zJ;have l0:=Mt.zGc p i;have l1:=Mt.zGc p (i+1);have he:=zI5 (Mt.zTC p (i+1)) l1;generalize Mt.zTC p i=c at *;generalize Mt.zTC p (i+1)=d at *;simp only[beq_iff_eq,beq_eq_false_iff_ne];by_cases h1:c<0\/c=93\/c=45
 ·rw[if_pos h1];simp;omega
 ·rw[if_neg h1];by_cases h2:c≠92
  ·rw[if_pos h2];simp;omega
  ·rw[if_neg h2];by_cases h3:d<0\/Mt.zBa d=true\/Mt.zA6 d=true
   ·rw[if_pos h3];have:zId d=false:=by cases x:zId d;rfl;exact absurd h3 (he.1 x)
    simp[this];omega
   ·rw[if_neg h3];have:zId d=true:=he.2 h3;simp[this];omega
theorem xY(p:ByteArray)(i:Int)(w:World)(hp:p.size<=64)(zP6:0<=i)(zP7:i<=1000) :
  Calls Tryz.prog 145 #[.string p,.int .i64 i] w λe w'=>e=.returned (.tuple #[.int .i64 (cbP p i).1,.int .i64 (cbP p i).2.1,.bool (cbP p i).2.2])/\w=w':=by
 rcases zLS p i with ⟨a1,e⟩ | ⟨a1,a2,e⟩ | ⟨a1,a2,a3,e⟩ | ⟨a1,a2,a3,a4,a5,e⟩ | ⟨a1,a2,a3,a4,a5,e⟩ | ⟨a1,a2,a3,a4,e⟩
 all_goals
  rw[e];clear e;go_enter Tryz.func145,Tryz.ntmps145
  go_wp2_with (first|(go_at_call 84;refine(kG _ _ _ hp).mono ?_;rintro e w' ⟨rfl,rfl⟩)|(go_at_call 127;refine(mW _ _).mono ?_;rintro e w' ⟨rfl,rfl⟩))
  refine bodyPost_ret (results_tmp3 rfl _ _ _) rfl ?_;exact⟨rfl,rfl⟩
def fE(p:ByteArray)(i:Int):Int × Int × Bool:=if(Mt.number p i).2=0\/20<(Mt.number p i).1 then(0,0,false)else((Mt.number p i).1,i+(Mt.number p i).2,true)
theorem zKa(p:ByteArray)(i:Int) :
  (Mt.zBa (Mt.zTC p i)=false/\fE p i=(0,0,false)) \/
  (48<=Mt.zTC p i/\Mt.zTC p i<=57/\Mt.zBa (Mt.zTC p i)=true/\Mt.zBa (Mt.zTC p (i+1))=false/\fE p i=(Mt.zTC p i-48,i+1,true)) \/
  (48<=Mt.zTC p i/\Mt.zTC p i<=57/\48<=Mt.zTC p (i+1)/\Mt.zTC p (i+1)<=57/\Mt.zBa (Mt.zTC p i)=true/\Mt.zBa (Mt.zTC p (i+1))=true /\
   (
   (decide (20<(Mt.zTC p i-48)*10+Mt.zTC p (i+1)-48)=true/\fE p i=(0,0,false)) \/
   (decide (20<(Mt.zTC p i-48)*10+Mt.zTC p (i+1)-48)=false/\fE p i=((Mt.zTC p i-48)*10+Mt.zTC p (i+1)-48,i+1+1,true)))):=by
 unfold fE Mt.number;simp only[Mt.zBa,decide_eq_true_eq,lJ];generalize Mt.zTC p i=c;generalize Mt.zTC p (i+1)=d;by_cases h1:c<48\/57<c
 ·rw[if_pos h1];simp;omega
 ·rw[if_neg h1];by_cases h2:d<48\/57<d
  ·rw[if_pos h2];simp;omega
  ·rw[if_neg h2];by_cases h3:20<10*(c-48)+d-48
   ·simp[h3];omega
   ·simp[h3];omega
theorem vS(p:ByteArray)(i:Int)(w:World)(hp:p.size<=64)(zP6:0<=i)(zP7:i<=1000) :
  Calls Tryz.prog 119 #[.string p,.int .i64 i] w λe w'=>e=.returned (.tuple #[.int .i64 (fE p i).1,.int .i64 (fE p i).2.1,.bool (fE p i).2.2])/\w=w':=by
 rcases zKa p i with ⟨a1,e⟩ | ⟨b1,b2,a1,a2,e⟩ | ⟨b1,b2,b3,b4,a1,a2,⟨a3,e⟩ | ⟨a3,e⟩⟩
 all_goals
  rw[e];clear e;go_enter Tryz.func119,Tryz.ntmps119
  go_wp2_with (first|(go_at_call 84;refine(kG _ _ _ hp).mono ?_;rintro e w' ⟨rfl,rfl⟩)|(go_at_call 144;refine(zDQ _ _).mono ?_;rintro e w' ⟨rfl,rfl⟩))
  refine bodyPost_ret (results_tmp3 rfl _ _ _) rfl ?_;exact⟨rfl,rfl⟩
def dX(p:ByteArray)(i:Int):Int × Int × Bool:=if Mt.zTC p i=125 then(-1,i,true)else fE p i
theorem dM(p:ByteArray)(i:Int)(w:World)(hp:p.size<=64)(zP6:0<=i)(zP7:i<=1000) :
  Calls Tryz.prog 120 #[.string p,.int .i64 i] w λe w'=>e=.returned (.tuple #[.int .i64 (dX p i).1,.int .i64 (dX p i).2.1,.bool (dX p i).2.2])/\w=w':=by
 cases a:(Mt.zTC p i==125)
 ·have e:dX p i=fE p i:=by unfold dX;rw[if_neg (by simpa using a)]
  rw[e];clear e;go_enter Tryz.func120,Tryz.ntmps120
  go_wp2_with (first|(go_at_call 84;refine(kG _ _ _ hp).mono ?_;rintro e w' ⟨rfl,rfl⟩)|(go_at_call 119;refine(vS _ _ _ hp (by omega) (by omega)).mono ?_;rintro e w' ⟨rfl,rfl⟩))
  refine bodyPost_ret (results_tmp3 rfl _ _ _) rfl ?_;exact⟨rfl,rfl⟩
 ·have e:dX p i=(-1,i,true):=by unfold dX;rw[if_pos (by simpa using a)]
  rw[e];clear e;go_enter Tryz.func120,Tryz.ntmps120
  go_wp2_with (first|(go_at_call 84;refine(kG _ _ _ hp).mono ?_;rintro e w' ⟨rfl,rfl⟩))
  refine bodyPost_ret (results_tmp3 rfl _ _ _) rfl ?_;exact⟨rfl,rfl⟩
theorem zAF(b:Nat)(t:TypeId):∀(vs:List Value) (o:Nat) (w:World) (C:Array Value),w.heap[b]?=some (.cells C t (0,0))->∃D:Array Value,(w.setCells b o vs).heap[b]?=some (.cells D t (0,0))/\D.size=C.size
 | [],o,w,C,h=>⟨C,h,rfl⟩
 | v::r,o,w,C,h=>by
  obtain⟨D,h1,h2⟩:=zAF b t r (o+1) (w.setCell ⟨b,o,none⟩ v) _ (Go.heap_setCell_same w b o C t v h);exact⟨D,h1,by rw[h2];simp⟩
theorem qZ(b:Nat):∀(vs:List Value) (o:Nat) (w:World) (k:Nat),k≠b->(w.setCells b o vs).heap[k]?=w.heap[k]?
 | [],o,w,k,h=>rfl
 | v::r,o,w,k,h=>by
  show((w.setCell ⟨b,o,none⟩ v).setCells b (o+1) r).heap[k]?=_;rw[qZ b r (o+1) _ k h,Below.heap_setCell _ _ _ _ h]
theorem zAZ{w:World}{b:Nat}{t:TypeId}{B:Array Value}(h:w.heap[b]?=some (.cells B t (0,0)))(cs:Array Value)(hs:cs.size=B.size) :
  (w.setCells b 0 cs.toList).heap[b]?=some (.cells cs t (0,0)):=by
 obtain⟨D,h1,h2⟩:=zAF b t cs.toList 0 w B h;have hb:=zC h;obtain⟨w2,e,q1,_⟩:=zAv hb.1 hb.2 cs hs;have hd:=zC h1
 have:D=cs:=by
  apply Array.ext (by omega);intro i hi1 hi2;have a1:=hd.1 i;have a2:=q1 i;rw[e]at a2;rw[a2,Array.getElem?_eq_getElem hi1,Array.getElem?_eq_getElem hi2]at a1;simpa using a1.symm
 rw[h1,this]
theorem xP{w:World}{b:Nat}{t:TypeId}{A:Array Value}(h:w.heap[b]?=some (.cells A t (0,0))):w.rangeAt b 0 A.toList:=λj v hv=>by
 rw[Nat.zero_add,(zC h).1 j];simpa using hv
section
variable {P:Program} {ops:Array Oper} {rest:List Oper} {op:Oper} {a:Act} {w:World} {Q:Exit->Act->World->Prop}
theorem kQ(ty:TypeId)(n:Nat){d:TypeDesc}(hu:P.underlying ty=some d)(hd:d.isRow=true)(hn:(P.info? ty).map (·.size)=some n)(hgd:op.guard=none)(x:Operand)(ho:op.op=.load ty x)
  (b:Nat) (hx:a.eval x=.pointer (some ⟨b,0,none⟩)) {t:TypeId} {A:Array Value} (hA:w.heap[b]?=some (.cells A t (0,0))) (hs:A.size=n)
  (h:wpList P ops Q rest (a.put op.dst (.agg A)) w):wpList P ops Q (op::rest) a w :=
 wpList_load_mid hgd _ x ho b 0 hx A.toList _ (xP hA) hu hd (by rw[hn];simp[hs]) h
theorem zM(ty:TypeId)(n:Nat)(hn:(P.info? ty).map (·.size)=some n)(hgd:op.guard=none)(x y:Operand)(ho:op.op=.store ty x y)
  (b:Nat) (cs:Array Value) (hx:a.eval x=.pointer (some ⟨b,0,none⟩)) (hy:a.eval y=.agg cs) {t:TypeId} {B:Array Value} (hB:w.heap[b]?=some (.cells B t (0,0))) (hs:B.size=n) (hc:cs.size=n) (h1:cs.all (·.oneCell')=true)
  (h:∀w2:World,w2.heap[b]?=some (.cells cs t (0,0))->(∀k,k≠b->w2.heap[k]?=w.heap[k]?)->w2.heap.size=w.heap.size->(∀L,L<=b->Below L w w2)->wpList P ops Q rest (a.put op.dst undef) w2):wpList P ops Q (op::rest) a w:=by
 have hb:=zC hB;refine wpList_store_mid hgd _ x y ho b 0 cs hx hy (qW hb.1 hb.2 _ (by omega)) (by rw[hn,hc]) h1 ?_;exact h _ (zAZ hB cs (by omega)) (λk hk=>qZ b _ 0 w k hk) (below_setCells b _ 0 w 0 (Nat.zero_le _)).2 (λL hL=>(below_setCells b _ 0 w L hL).1)
end
theorem jK{P:Program}{fn:Func}{p u:Tmp}(ty:TypeId)(n:Nat){d:TypeDesc}(hu:P.underlying ty=some d)(hd:d.isRow=true)(hn:(P.info? ty).map (·.size)=some n)(hr:fn.results=#[.cell p ty,.tmp u]){tmps:Array Value}{w:World}{b:Nat}{t:TypeId}{A:Array Value}
  (hp:tmps.getD p undef=.pointer (some ⟨b,0,none⟩)) (hA:w.heap[b]?=some (.cells A t (0,0))) (hs:A.size=n) :
  (results fn tmps).run P w=.ok (.tuple #[.agg A,tmps.getD u undef]) w:=by
 rw[results_cell_tmp hr,hp];have:=run_loadVar_mid (P:=P) w b 0 ty A.toList _ (xP hA) hu hd (by rw[hn];simp[hs]);simp[asAddr,Result.andThen,this]
theorem zFF{fn:Func}{p:Tmp}{ty:TypeId}(h:fn.results=#[.cell p ty])(tmps:Array Value)(P:Program)(w:World) :
  (results fn tmps).run P w=((asAddr (tmps.getD p undef)).run P w).andThen λa w₁=>((loadVar ty a).run P w₁).andThen λv w₂=>.ok v w₂:=by
 simp only[results,h];simp[Sem.run_bind,Result.andThen];cases Sem.run P (asAddr (tmps[p]?.getD undef)) w with
 | ok a w1=>dsimp only;cases Sem.run P (loadVar ty a) w1 <;> rfl
 | halt h w1=>rfl
theorem zC6{P:Program}{fn:Func}{p:Tmp}(ty:TypeId)(n:Nat){d:TypeDesc}(hu:P.underlying ty=some d)(hd:d.isRow=true)(hn:(P.info? ty).map (·.size)=some n)(hr:fn.results=#[.cell p ty]){tmps:Array Value}{w:World}{b:Nat}{t:TypeId}{A:Array Value}
  (hp:tmps.getD p undef=.pointer (some ⟨b,0,none⟩)) (hA:w.heap[b]?=some (.cells A t (0,0))) (hs:A.size=n) :
  (results fn tmps).run P w=.ok (.agg A) w:=by
 rw[zFF hr,hp];have:=run_loadVar_mid (P:=P) w b 0 ty A.toList _ (xP hA) hu hd (by rw[hn];simp[hs]);simp[asAddr,Result.andThen,this]
theorem jR(w:World)(A:Obj):(w.alloc A).heap[w.heap.size]?=some A:=heap_alloc_new _ _
theorem mX(w:World)(A B:Obj):((w.alloc A).alloc B).heap[w.heap.size]?=some A:=by rw[kT _ _ _ (by simp),heap_alloc_new]
theorem mF(w:World)(A B:Obj):((w.alloc A).alloc B).heap[w.heap.size+1]?=some B:=by
 have:(w.alloc A).heap.size=w.heap.size+1:=by simp
 rw[<-this,heap_alloc_new]
def setMany{α:Type}:List α->Nat->List α->List α
 | xs,_,[]=>xs
 | xs,o,v::r=>setMany (xs.set o v) (o+1) r
theorem zIe{α:Type}:∀(vs xs:List α) (o:Nat),(setMany xs o vs).length=xs.length
 | [],xs,o=>rfl
 | v::r,xs,o=>by rw[setMany,zIe r];simp
theorem tJ{e:TypeId}{s g n cap base:Nat}:∀(vs:List Value) (o:Nat) (w:World) (xs:List Value),w.ownsRow base e s (.slice (some ⟨g,0,none⟩) n cap) n xs->(w.setCells g o vs).ownsRow base e s (.slice (some ⟨g,0,none⟩) n cap) n (setMany xs o vs)
 | [],o,w,xs,h=>h
 | v::r,o,w,xs,h=>tJ r (o+1) _ _ (World.ownsRow.stored h o v).1
theorem zI6{α:Type}(f:α->List Value)(k:Nat)(hk:∀a,(f a).length=k):∀(l:List α) (i j:Nat) (v:Value) (a':α),i<l.length->j<k->(∀a,l[i]?=some a->f a'=(f a).set j v)->(l.flatMap f).set (i*k+j) v=(l.set i a').flatMap f
 | [],i,j,v,a',h,_,_=>by simp at h
 | x::r,0,j,v,a',_,hj,h=>by
  simp only[List.flatMap_cons,lD];rw[show 0*k+j=j by omega,List.set_append_left _ _ (by rw[hk];exact hj),h x rfl]
 | x::r,i+1,j,v,a',hi,hj,h=>by
  simp only[List.flatMap_cons,lF];have e:(i+1)*k+j=k+(i*k+j):=by rw[Nat.add_mul];omega
  rw[e,List.set_append_right _ _ (by rw[hk];omega),hk,show k+(i*k+j)-k=i*k+j by omega,zI6 f k hk r i j v a' (by simpa using hi) hj (λa ha=>h a (by simpa using ha))]
theorem zCF{α:Type}(f:α->List Value)(k:Nat)(hk:∀a,(f a).length=k):∀(l:List α) (i j:Nat) (vs:List Value) (a':α),i<l.length->j+vs.length<=k->(∀a,l[i]?=some a->f a'=setMany (f a) j vs)->setMany (l.flatMap f) (i*k+j) vs=(l.set i a').flatMap f:=by
 have key:∀(vs:List Value) (L:List Value) (p:Nat) (X Y:List Value),X.length+Y.length<=L.length->L=X++Y++L.drop (X.length+Y.length)->∀j,j+vs.length<=Y.length->setMany L (X.length+j) vs=X++setMany Y j vs++L.drop (X.length+Y.length):=by
  intro vs;induction vs with
  | nil=>intro L p X Y h1 h2 j hj;simpa[setMany]using h2
  | cons v r ih =>
   intro L p X Y h1 h2 j hj;simp only[List.length_cons]at hj;simp only[setMany]
   have e:L.set (X.length+j) v=X++Y.set j v++L.drop (X.length+Y.length):=by
    conv=>lhs;rw[h2]
    rw[List.append_assoc,List.set_append_right _ _ (by omega),show X.length+j-X.length=j by omega,List.set_append_left _ _ (by omega),List.append_assoc]
   have d:(L.set (X.length+j) v).drop (X.length+Y.length)=L.drop (X.length+Y.length):=by rw[List.drop_set_of_lt (by omega)]
   have:=ih (L.set (X.length+j) v) p X (Y.set j v) (by simpa using h1) (by rw[List.length_set,d];exact e) (j+1) (by simp;omega);rw[List.length_set,d]at this;rw[show X.length+j+1=X.length+(j+1) by omega,this]
 intro l;induction l with
 | nil=>intro i j vs a' h;simp at h
 | cons x r ih =>
  intro i j vs a' hi hj h
  match i with
  | 0 =>
   have:=key vs ((x::r).flatMap f) 0 [] (f x) (by simp) (by simp) j (by rw[hk];exact hj);simp only[List.length_nil,Nat.zero_add,List.nil_append]at this;rw[show 0*k+j=j by omega,this,<-h x rfl];simp
  | i+1 =>
   have e:(i+1)*k+j=k+(i*k+j):=by rw[Nat.add_mul];omega
   have fl:∀m:List α,(m.flatMap f).length=m.length*k:=by
    intro m;induction m with
    | nil=>simp
    | cons y s ihs=>rw[List.flatMap_cons,lM,ihs,hk,List.length_cons,Nat.add_mul];omega
   have hir:i<r.length:=by simpa using hi
   have:=key vs ((x::r).flatMap f) 0 (f x) (r.flatMap f) (by simp) (by simp) (i*k+j) (by
    rw[fl];have:(i+1)*k<=r.length*k:=Nat.mul_le_mul_right _ (by omega);rw[Nat.add_mul]at this;omega)
   rw[hk]at this;rw[e,this,ih i j vs a' hir hj (λa ha=>h a (by simpa using ha))];simp[hk]
theorem zC7{P:Program}{op:Oper}{r:Operand->Value}{t:TypeId}{parts:Array (Nat × Operand)}(hop:op.op=.build t parts){z:World}{u:Value}(h:(Instr.build t (parts.map λq=>(q.1,r q.2))).run P z=.ok u z):(execOp r op).run P z=.ok (.value u) z:=by
 unfold execOp;simp only[hop];simp only[Sem.run_bind,h,Result.andThen_ok,Sem.run_pure]
theorem zQH{P:Program}{md:Region.Mode}{ops:Array Oper}{Q:Exit->Act->World->Prop}{S:World->Prop}(i:Nat)(oi:Oper){fuel:Nat}{listed:Array Bool}{a:Act}{w:World}(hi:ops[i]?=some oi)(hgd:oi.guard=none)(hr:Region.ready md ops listed=[i])(hr2:Region.ready md ops (listed.setIfInBounds i true)=[])
  (h:Oper.wp P oi a w (λa' w'=>S w'/\Q .normal a' w') Q):wpAnyH P md ops Q S (fuel+1) listed a w:=by
 refine⟨λh0=>(by rw[hr]at h0;cases h0),λj hj=>?_⟩;rw[hr]at hj;simp only[List.mem_singleton]at hj;subst hj;refine wpOp_mono (K:=λa' w'=>S w'/\Q .normal a' w') (λa' w' (h':S w'/\Q .normal a' w')=>⟨h'.1,wpAnyH_done hr2 h'.2 _⟩) ?_;have hw:Region.wanted oi (yielded ops a.tmps)=true:=by simp[Region.wanted,hgd]
 unfold wpOp;simp only[hi,hw,if_true];exact .inl h
theorem zAG{P:Program}{md:Region.Mode}{ops:Array Oper}{Q:Exit->Act->World->Prop}{S:World->Prop}(i:Nat)(oi:Oper){fuel:Nat}{listed:Array Bool}{a:Act}{w:World}(hi:ops[i]?=some oi)(hgd:oi.guard=none)(hr:Region.ready md ops listed=[i])(hr2:Region.ready md ops (listed.setIfInBounds i true)=[])
  (ty:TypeId) (x y:Operand) (ho:oi.op=.store ty x y) (b o:Nat) (cells:Array Value) (hx:a.eval x=.pointer (some ⟨b,o,none⟩)) (hy:a.eval y=.agg cells) (ht:w.there b o cells.size) (hz:(P.info? ty).map (·.size)=some cells.size) (h1:cells.all (·.oneCell')=true)
  (hdn:oi.dst=none) (h:S (w.setCells b o cells.toList)/\Q .normal a (w.setCells b o cells.toList)):wpAnyH P md ops Q S (fuel+1) listed a w :=
 zQH i oi hi hgd hr hr2 (wp_store_mid ty x y ho b o cells hx hy ht hz h1 (by rw[hdn];exact h))
theorem kD{P:Program}{md:Region.Mode}{ops:Array Oper}{Q:Exit->Act->World->Prop}{S:World->Prop}(i d:Nat)(v:Value){oi:Oper}{fuel:Nat}{listed:Array Bool}{a:Act}{w:World}(hi:ops[i]?=some oi)(hd:oi.dst=some d)
  (hs:Region.noSelect ops=true) (hf:Region.free md ops listed i=true) (hr:(Region.ready md ops listed).contains i=true)
  (hQ:∀c a w,Q (.panic c) (a.put (some d) v) w->Q (.panic c) a w) (hy:YieldsIf P ops S oi v a) (hS:S w)
  (h:wpAnyH P md ops Q S fuel (listed.setIfInBounds i true) (a.put (some d) v) w):wpAnyH P md ops Q S (fuel+1) listed a w :=
 wpAnyH_take hi hs hf hr (by rw[hd];exact hQ) hy hS (by rw[hd];exact h)
def zTQ(t:Mt.PT):Array Value:=#[.int .i64 t.kind,.int .i64 t.en,.int .i64 t.group,.int .i64 t.number,.int .i64 t.least,.int .i64 t.most,.int .i64 t.fF,.string ⟨t.set.toArray⟩]
def ptV(t:Mt.PT):Value:=.agg (zTQ t)
theorem zI7(t:Mt.PT):(zTQ t).size=8:=rfl
theorem xQ(t:Mt.PT):(zTQ t).all (·.oneCell')=true:=by simp[zTQ,Value.oneCell']
theorem Tryz.sizePT:(Tryz.prog.info? 100).map (·.size)=some 8:=by kernel_rfl
theorem Tryz.zeroSet:Tryz.zeroCells172=zJ9 Mt.none0:=by kernel_rfl
theorem zDR{w w1:World}{A:Array Value}{t:TypeId}(o1:Only (w.heap.size+1) ((w.alloc (.cells A t)).alloc (.cells Tryz.zeroCells172 172)) w1) :
  w1.heap[w.heap.size]?=some (.cells A t (0,0))/\Below w.heap.size w w1/\w1.heap.size=w.heap.size+2:=by
 refine⟨by rw[o1.block _ (by omega)];exact mX _ _ _,?_,by rw[o1.size];simp⟩;exact(((Below.refl _ _).alloc (lG _) _).alloc (by simp) _).trans (o1.below (by omega))
theorem zDS(w:World)(A:Obj):pK ((w.alloc A).alloc (.cells Tryz.zeroCells172 172)) (w.heap.size+1) Mt.none0:=by
 unfold pK;rw[mF,Tryz.zeroSet]
theorem zDT(w:World)(a b i:Int) :
  Calls Tryz.prog 88 #[.int .i64 a,.int .i64 b,.int .i64 i] w λe w'=>e=.returned (ptV ⟨5,i,0,0,0,0,0,Mt.yY (Mt.bW Mt.none0 a b) 256⟩)/\Below w.heap.size w w':=by
 obtain⟨T,hT⟩:∃T,T=Mt.yY (Mt.bW Mt.none0 a b) 256:=⟨_,rfl⟩
 rw[<-hT];have HT:Hid (T=Mt.yY (Mt.bW Mt.none0 a b) 256):=hT;clear hT;go_enter Tryz.func88,Tryz.ntmps88
 go_wp2_with fail
 refine(pE _ (w.heap.size+1) Mt.none0 a b (by exact zDS _ _)).mono ?_;rintro e w1 ⟨rfl,s1,o1⟩;obtain⟨z1,b1,sz⟩:=zDR o1;have HS:Hid (pK w1 (w.heap.size+1) (Mt.bW Mt.none0 a b)):=s1;have HB:Hid (Below w.heap.size w w1):=b1;clear s1 o1 b1;go_wp2_with fail
 have TA:=zC5 w1 (w.heap.size+1) _ HS.out;rw[<-HT.out]at TA;refine TA.mono ?_;clear TA;rintro e w2 ⟨rfl,b2⟩;have z2:w2.heap[w.heap.size]?=_:=(b2.block _ (by omega)).trans z1;have HB2:Hid (Below w.heap.size w w2):=HB.out.trans (b2.mono (by omega));clear b2 z1;go_wp2_with (refine zM 100 8 Tryz.sizePT (by rfl) (.tmp 6) (.tmp 13) (by rfl) w.heap.size (zTQ ⟨5,i,0,0,0,0,0,T⟩) (by rfl) (by rfl) z2 (by rfl) (by rfl) (xQ _) ?_;intro w3 r1 r2 r3 r4)
 refine bodyPost_ret (zC6 100 8 Tryz.underlying100 rfl Tryz.sizePT rfl (by rfl) r1 (by rfl)) rfl ⟨rfl,?_⟩;exact HB2.out.trans (r4 _ (lG _))
def mY(p:ByteArray)(t n m:Int):Mt.PT:=⟨4,(Mt.fF p t).2,0,0,n,m,(Mt.fF p t).1+1,[]⟩
theorem zIf(p:ByteArray)(t n m:Int) :
  ((Mt.zTC p t==63)=true/\mY p t n m=⟨4,t+1,0,0,n,m,2,[]⟩)\/((Mt.zTC p t==63)=false/\(Mt.zTC p t==43)=true/\mY p t n m=⟨4,t+1,0,0,n,m,3,[]⟩) \/
  ((Mt.zTC p t==63)=false/\(Mt.zTC p t==43)=false/\mY p t n m=⟨4,t,0,0,n,m,1,[]⟩):=by
 unfold mY Mt.fF;simp only[beq_iff_eq,beq_eq_false_iff_ne];by_cases h1:Mt.zTC p t=63
 ·rw[if_pos h1];simp[h1]
 ·rw[if_neg h1];by_cases h2:Mt.zTC p t=43
  ·rw[if_pos h2];simp[h2]
  ·rw[if_neg h2];simp[h1,h2]
theorem mO(p:ByteArray)(t n m:Int)(w:World)(hp:p.size<=64)(h0:0<=t)(h1:t<=1000) :
  Calls Tryz.prog 86 #[.string p,.int .i64 t,.int .i64 n,.int .i64 m] w λe w'=>e=.returned (ptV (mY p t n m))/\Below w.heap.size w w':=by
 rcases zIf p t n m with ⟨a1,e⟩ | ⟨a1,a2,e⟩ | ⟨a1,a2,e⟩
 all_goals
  rw[e];clear e;go_enter Tryz.func86,Tryz.ntmps86
  go_wp2_with (first|(go_at_call 84;refine(kG _ _ _ hp).mono ?_;rintro e w' ⟨rfl,rfl⟩))
  go_returns;exact⟨rfl,by go_grown⟩
def itP(p:ByteArray)(i:Int):Int × Bool:=if(Mt.yB p i).2.2.1=0 then(0,false)else(i+(Mt.yB p i).2.2.1,true)
theorem zLT(p:ByteArray)(i:Int)(S:Mt.tX) :
  ((Mt.zTC p i==92)=true/\(Mt.zTC p (i+1)==100||Mt.zTC p (i+1)==119)=true/\itP p i=(i+2,true)/\Mt.zKN p i S=Mt.zHD S (decide (Mt.zTC p (i+1)=119))) \/
  ((
   (Mt.zTC p i==92)=false\/(Mt.zTC p i==92)=true/\(Mt.zTC p (i+1)==100||Mt.zTC p (i+1)==119)=false) /\
   (
   ((cbP p i).2.2=false/\itP p i=(0,false)) \/
   ((cbP p i).2.2=true/\(Mt.zTC p (cbP p i).2.1 != 45)=true/\itP p i=((cbP p i).2.1,true)/\Mt.zKN p i S=Mt.bW S (cbP p i).1 (cbP p i).1) \/
   ((cbP p i).2.2=true/\(Mt.zTC p (cbP p i).2.1 != 45)=false/\(cbP p ((cbP p i).2.1+1)).2.2=false/\itP p i=(0,false)) \/
   ((cbP p i).2.2=true/\(Mt.zTC p (cbP p i).2.1 != 45)=false/\(cbP p ((cbP p i).2.1+1)).2.2=true/\decide ((cbP p ((cbP p i).2.1+1)).1<(cbP p i).1)=true/\itP p i=(0,false)) \/
   ((
    cbP p i).2.2=true/\(Mt.zTC p (cbP p i).2.1 != 45)=false/\(cbP p ((cbP p i).2.1+1)).2.2=true/\decide ((cbP p ((cbP p i).2.1+1)).1<(cbP p i).1)=false /\
    itP p i=((cbP p ((cbP p i).2.1+1)).2.1,true)/\Mt.zKN p i S=Mt.bW S (cbP p i).1 (cbP p ((cbP p i).2.1+1)).1))):=by
 have b1:=Mt.dJ p i;have b2:=Mt.dJ p (i+(Mt.zJ p i).2+1);have key:∀j,(Mt.zJ p j).2=0->cbP p j=(0,0,false):=λj h=>by unfold cbP;rw[if_pos h]
 have key2:∀j,¬(Mt.zJ p j).2=0->cbP p j=((Mt.zJ p j).1,j+(Mt.zJ p j).2,true):=λj h=>by unfold cbP;rw[if_neg h]
 unfold itP Mt.zKN;by_cases h0:Mt.zTC p i=92/\(Mt.zTC p (i+1)=100\/Mt.zTC p (i+1)=119)
 ·have e:Mt.yB p i=(92,Mt.zTC p (i+1),2,true):=by unfold Mt.yB;rw[if_pos h0]
  left;rw[e];refine⟨by simpa using h0.1,by simpa using h0.2,by simp,by simp⟩
 ·right;refine⟨?_,?_⟩
  ·by_cases h1:Mt.zTC p i=92
   ·right;refine⟨by simpa using h1,?_⟩;have:¬(Mt.zTC p (i+1)=100\/Mt.zTC p (i+1)=119):=λx=>h0 ⟨h1,x⟩
    simpa using this
   ·left;simpa using h1
  ·by_cases h1:(Mt.zJ p i).2=0
   ·have e:Mt.yB p i=(0,0,0,false):=by unfold Mt.yB;rw[if_neg h0,if_pos h1]
    left;rw[e,key i h1];simp
   ·right;rw[key2 i h1];dsimp only;by_cases h2:Mt.zTC p (i+(Mt.zJ p i).2)≠45
    ·have e:Mt.yB p i=((Mt.zJ p i).1,(Mt.zJ p i).1,(Mt.zJ p i).2,false):=by unfold Mt.yB;rw[if_neg h0,if_neg h1,if_pos h2]
     left;rw[e];simp[h1,h2]
    ·right;have h2':(Mt.zTC p (i+(Mt.zJ p i).2) != 45)=false:=by simpa using h2
     by_cases h3:(Mt.zJ p (i+(Mt.zJ p i).2+1)).2=0
     ·have e:Mt.yB p i=(0,0,0,false):=by unfold Mt.yB;rw[if_neg h0,if_neg h1,if_neg h2,if_pos (Or.inl h3)]
      left;rw[e,key _ h3];simp[h2']
     ·right;rw[key2 _ h3];by_cases h4:(Mt.zJ p (i+(Mt.zJ p i).2+1)).1<(Mt.zJ p i).1
      ·have e:Mt.yB p i=(0,0,0,false):=by unfold Mt.yB;rw[if_neg h0,if_neg h1,if_neg h2,if_pos (Or.inr h4)]
       left;rw[e];simp[h2',h4]
      ·have e:Mt.yB p i=((Mt.zJ p i).1,(Mt.zJ p (i+(Mt.zJ p i).2+1)).1,(Mt.zJ p i).2+1+(Mt.zJ p (i+(Mt.zJ p i).2+1)).2,false):=by
        unfold Mt.yB;rw[if_neg h0,if_neg h1,if_neg h2,if_neg (by omega)]
       right;rw[e];refine⟨rfl,h2',rfl,by simpa using h4,?_,by simp⟩;rw[if_neg (by simp only;omega)];simp only[Prod.mk.injEq,and_true];omega
theorem zOO(p:ByteArray)(i:Int)(h:0<=i):0<=(cbP p i).2.1/\(cbP p i).2.1<=i+2:=by
 have b1:=Mt.dJ p i;unfold cbP;split
 ·simp;omega
 ·simp only;omega
def zDU(p:ByteArray)(i:Int)(S:Mt.tX):Mt.tX:=if(itP p i).2 then Mt.zKN p i S else S
theorem zCG(p:ByteArray)(i:Int)(w:World)(g:Nat)(S:Mt.tX)(hp:p.size<=64)(hi0:0<=i)(hi1:i<=900)(hS:pK w g S) :
  Calls Tryz.prog 123 #[.string p,.int .i64 i,.pointer (some ⟨g,0,none⟩)] w λe w'=>e=.returned (.tuple #[.int .i64 (itP p i).1,.bool (itP p i).2])/\pK w' g (zDU p i S)/\Only g w w':=by
 have H0:Hid (pK w g S):=hS;clear hS;obtain⟨c1,c2⟩:=zOO p i hi0;obtain⟨d1,d2⟩:=zOO p ((cbP p i).2.1+1) (by omega);unfold zDU;rcases zLT p i S with ⟨a1,a2,e,f⟩ | ⟨a0,⟨a1,e⟩ | ⟨a1,a2,e,f⟩ | ⟨a1,a2,a3,e⟩ | ⟨a1,a2,a3,a4,e⟩ | ⟨a1,a2,a3,a4,e,f⟩⟩
 ·rw[e];have HF:Hid (Mt.zKN p i S=Mt.zHD S (decide (Mt.zTC p (i+1)=119))):=f;clear e f;go_enter Tryz.func123,Tryz.ntmps123
  go_wp2_with (first|(go_at_call 84;refine(kG _ _ _ hp).mono ?_;rintro e w' ⟨rfl,rfl⟩)|(go_at_call 125;refine(yJ _ _).mono ?_;rintro e w' ⟨rfl,rfl⟩))
  refine(zBX _ g S _ H0.out).mono ?_;rintro e w1 ⟨rfl,s1,o1⟩;have H1:Hid (pK w1 g (Mt.zHD S (decide (Mt.zTC p (i+1)=119)))/\Only g w w1):=⟨s1,o1⟩
  clear s1 o1;go_wp2_with fail
  go_returns;exact⟨rfl,by rw[HF.out];exact H1.out.1,H1.out.2⟩
 ·rw[e];clear e;rcases a0 with a0 | ⟨a0,a0'⟩
  all_goals
   go_enter Tryz.func123,Tryz.ntmps123
   go_wp2_with (first|(go_at_call 84;refine(kG _ _ _ hp).mono ?_;rintro e w' ⟨rfl,rfl⟩)|(go_at_call 125;refine(yJ _ _).mono ?_;rintro e w' ⟨rfl,rfl⟩)|(go_at_call 145;refine(xY _ _ _ hp (by omega) (by omega)).mono ?_;rintro e w' ⟨rfl,rfl⟩))
   go_returns;exact⟨rfl,H0.out,Only.refl _ _⟩
 ·rw[e];have HF:Hid (Mt.zKN p i S=Mt.bW S (cbP p i).1 (cbP p i).1):=f;clear e f;rcases a0 with a0 | ⟨a0,a0'⟩
  all_goals
   go_enter Tryz.func123,Tryz.ntmps123
   go_wp2_with (first|(go_at_call 84;refine(kG _ _ _ hp).mono ?_;rintro e w' ⟨rfl,rfl⟩)|(go_at_call 125;refine(yJ _ _).mono ?_;rintro e w' ⟨rfl,rfl⟩)|(go_at_call 145;refine(xY _ _ _ hp (by omega) (by omega)).mono ?_;rintro e w' ⟨rfl,rfl⟩))
   refine(pE _ g S _ _ H0.out).mono ?_;rintro e w1 ⟨rfl,s1,o1⟩;have H1:Hid (pK w1 g (Mt.bW S (cbP p i).1 (cbP p i).1)/\Only g w w1):=⟨s1,o1⟩
   clear s1 o1;go_wp2_with fail
   go_returns;exact⟨rfl,by rw[HF.out];exact H1.out.1,H1.out.2⟩
 ·rw[e];clear e;rcases a0 with a0 | ⟨a0,a0'⟩
  all_goals
   go_enter Tryz.func123,Tryz.ntmps123
   go_wp2_with (first|(go_at_call 84;refine(kG _ _ _ hp).mono ?_;rintro e w' ⟨rfl,rfl⟩)|(go_at_call 125;refine(yJ _ _).mono ?_;rintro e w' ⟨rfl,rfl⟩)|(go_at_call 145;refine(xY _ _ _ hp (by omega) (by omega)).mono ?_;rintro e w' ⟨rfl,rfl⟩))
   go_returns;exact⟨rfl,H0.out,Only.refl _ _⟩
 ·rw[e];clear e;rcases a0 with a0 | ⟨a0,a0'⟩
  all_goals
   go_enter Tryz.func123,Tryz.ntmps123
   go_wp2_with (first|(go_at_call 84;refine(kG _ _ _ hp).mono ?_;rintro e w' ⟨rfl,rfl⟩)|(go_at_call 125;refine(yJ _ _).mono ?_;rintro e w' ⟨rfl,rfl⟩)|(go_at_call 145;refine(xY _ _ _ hp (by omega) (by omega)).mono ?_;rintro e w' ⟨rfl,rfl⟩))
   go_returns;exact⟨rfl,H0.out,Only.refl _ _⟩
 ·rw[e];have HF:Hid (Mt.zKN p i S=Mt.bW S (cbP p i).1 (cbP p ((cbP p i).2.1+1)).1):=f;clear e f;rcases a0 with a0 | ⟨a0,a0'⟩
  all_goals
   go_enter Tryz.func123,Tryz.ntmps123
   go_wp2_with (first|(go_at_call 84;refine(kG _ _ _ hp).mono ?_;rintro e w' ⟨rfl,rfl⟩)|(go_at_call 125;refine(yJ _ _).mono ?_;rintro e w' ⟨rfl,rfl⟩)|(go_at_call 145;refine(xY _ _ _ hp (by omega) (by omega)).mono ?_;rintro e w' ⟨rfl,rfl⟩))
   refine(pE _ g S _ _ H0.out).mono ?_;rintro e w1 ⟨rfl,s1,o1⟩;have H1:Hid (pK w1 g (Mt.bW S (cbP p i).1 (cbP p ((cbP p i).2.1+1)).1)/\Only g w w1):=⟨s1,o1⟩
   clear s1 o1;go_wp2_with fail
   go_returns;exact⟨rfl,by rw[HF.out];exact H1.out.1,H1.out.2⟩
theorem Only.drew{g:Nat}{a w:World}(h:Only g a w):Only g a w.drew:=h.trans ⟨(Below.refl 0 w).drew.os,(Below.refl 0 w).drew.tape,(Below.refl 0 w).drew.output,rfl,λ_ _=>rfl⟩
theorem zKb(w:World)(g:Nat)(S:Mt.tX)(hS:pK w g S) :
  Calls Tryz.prog 124 #[.pointer (some ⟨g,0,none⟩)] w λe w'=>e=.returned (.tuple #[])/\pK w' g (λc=>!S c)/\Below g w w'/\w'.heap.size=w.heap.size/\(∀k,k≠g->w'.heap[k]?=w.heap[k]?):=by
 have H0:Hid (pK w g (Mt.zCS S 0)):=by
                        show pK _ _ _;have:Mt.zCS S 0=S:=by funext c;simp[Mt.zCS]
                        rw[this];exact hS
 clear hS;go_enter Tryz.func124,Tryz.ntmps124
 go_wp2_with fail
 go_loopw [2] (λi wr=>∃k:Nat,k<=256/\i=.int .i64 k/\pK wr g (Mt.zCS S k)/\Below g w wr/\wr.heap.size=w.heap.size/\(∀j,j≠g->wr.heap[j]?=w.heap[j]?)) (λi _=>256-(intOf i).toNat)
 case atStart=>exact⟨0,by omega,rfl,H0.out,Below.refl _ _,rfl,λ_ _=>rfl⟩
 case round =>
  obtain⟨k,hk,rfl,hs,hO,hz,hj⟩:=hrel;have HS:Hid (pK wr g (Mt.zCS S k)):=hs;have HO:Hid (Below g w wr/\wr.heap.size=w.heap.size/\(∀j,j≠g->wr.heap[j]?=w.heap[j]?)):=⟨hO,hz,hj⟩
  by_cases hl:k<256
  ·have zz:wr.cell? ⟨g,k,none⟩=some (.bool (S k)):=by rw[(zC hs).1,zFE _ _ hl];simp[Mt.zCS]
   have z2:=(zC hs).2 k;clear hs hO hz hj;generalize hq:S k=q at *;have HQ:Hid (S k=q):=hq;clear hq;go_wp2_with fail
   go_region
   go_wp2_with fail
   go_roundw
   case rel =>
    refine⟨k+1,by omega,by go_num,?_,(HO.out.1.setCell (p:=⟨g,k,none⟩) (lG _) _).drew,?_,λj hj=>?_⟩
    ·have:=Go.heap_setCell_same wr g k _ _ (.bool !q) HS.out;rw[zI4 (Mt.zCS S k) (Mt.zCS S (k+1)) k (!q) hl (λc=>by rw[Mt.zJ4,HQ.out])]at this;exact this
    ·show(wr.setCell ⟨g,k,none⟩ (.bool !q)).heap.size=_;rw[<-HO.out.2.1];simp[World.setCell]
    ·show(wr.setCell ⟨g,k,none⟩ (.bool !q)).heap[j]?=_;rw[Below.heap_setCell _ _ _ _ hj];exact HO.out.2.2 j hj
   case measure=>simp[intOf];omega
  ·have e:k=256:=by omega
   subst e;clear hs hO hz hj;go_wp2_with fail
   go_returns;refine⟨rfl,?_,HO.out⟩;have:=HS.out;unfold pK at this |-;rw[zGY (T:=λc=>!S c) (λc hc=>by simp[Mt.zCS,hc])]at this;exact this
end Go.Proofs.YtebpgfodelggoabGreat
namespace Mt
theorem zLU(p:ByteArray)(i:Int)(h0:0<=i)(h:(yB p i).2.2.1≠0):i<(p.size:Int):=by
 rcases Int.lt_or_le i p.size with h1 | h1
 ·exact h1
 ·have e:=zDc p i (Or.inr h1);exfalso;apply h;have c:zJ p i=(0,0):=by unfold zJ;rw[if_pos (Or.inl (by omega))]
  unfold yB;rw[if_neg (by omega),if_pos (by rw[c])]
theorem zEq(p:ByteArray)(b:Int)(h0:0<=b)(h1:zTC p b≠93)(h2:(yB p b).2.2.1≠0):kI p b=kI p (b+(yB p b).2.2.1):=by
 have:=zLU p b h0 h2;rw[xJ,if_neg (by omega),if_neg h1,if_neg h2]
theorem zEr(p:ByteArray)(b:Int)(h1:zTC p b≠93)(h2:(yB p b).2.2.1=0):kI p b=-1:=by
 rw[xJ];by_cases h:(p.size:Int)<=b
 ·rw[if_pos h]
 ·rw[if_neg h,if_neg h1,if_pos h2]
theorem zFG(p:ByteArray)(b:Int)(h1:zTC p b=93):kI p b=b:=by
 have:=zAn p b (by omega);rw[xJ,if_neg (by omega),if_pos h1]
def Half(p:ByteArray)(a b:Int)(S:tX):Prop:=kI p b=kI p a/\(kI p a≠-1->∀c:Nat,(S c||jM p b (kI p a) (c:Int))=jM p a (kI p a) (c:Int))
theorem half_start(p:ByteArray)(a:Int):Half p a a none0:=⟨rfl,λ_ c=>by simp[none0]⟩
theorem zLV{p:ByteArray}{a b:Int}{S:tX}(h:Half p a b S)(h0:0<=b)(h1:zTC p b≠93)(h2:(yB p b).2.2.1≠0):Half p a (b+(yB p b).2.2.1) (zKN p b S):=by
 have e:=zEq p b h0 h1 h2;refine⟨by rw[<-e];exact h.1,λhn c=>?_⟩;have hb:=tO p b;have bd:=zCt p ((p.size:Int)-(b+(yB p b).2.2.1)+1).toNat (b+(yB p b).2.2.1) (by omega) (by omega);have e2:=h.1;rw[<-h.2 hn c];exact(zPo p b (kI p a) S c (by omega) h2).symm
theorem zNY{p:ByteArray}{a b:Int}{S:tX}(h:Half p a b S)(h1:zTC p b=93):kI p a=b/\∀c:Nat,S c=jM p a b (c:Int):=by
 have e:=zFG p b h1;have e2:=h.1;have g:=zAn p b (by omega);have e3:kI p a=b:=by rw[<-e2,e]
 refine⟨e3,λc=>?_⟩;have:=h.2 (by omega) c;rw[e3,zAd]at this;simpa using this
end Mt
namespace Go.Proofs.YtebpgfodelggoabGreat
open Go.RowKit
def clP(p:ByteArray)(i:Int):Mt.PT × Int:=if(Mt.qU p i).2 then(Mt.yC (Mt.qU p i).1,0)else(Mt.pt0,3)
theorem zNZ(p:ByteArray)(i:Int)(h:Mt.kI p (Mt.xC p i)=-1):clP p i=(Mt.pt0,3):=by
 have e:(Mt.qU p i).2=false:=by unfold Mt.qU;rw[if_pos (Or.inl h)]
 unfold clP;rw[e];rfl
theorem zLW(p:ByteArray)(i:Int)(h:Mt.kI p (Mt.xC p i)=Mt.xC p i):clP p i=(Mt.pt0,3):=by
 have e:(Mt.qU p i).2=false:=by unfold Mt.qU;rw[if_pos (Or.inr h)]
 unfold clP;rw[e];rfl
theorem zN0(p:ByteArray)(i b:Int)(h:Mt.kI p (Mt.xC p i)=b)(h1:b≠-1)(h2:b≠Mt.xC p i):clP p i=(⟨5,b+1,0,0,0,0,0,Mt.all p (Mt.xC p i) b (decide (Mt.zTC p (i+1)=94))⟩,0):=by
 have e:Mt.qU p i=(⟨1,i,b+1,0,0,0,Mt.all p (Mt.xC p i) b (decide (Mt.zTC p (i+1)=94))⟩,true):=by
  unfold Mt.qU;rw[h,if_neg (by rintro(x | x);exact h1 x;exact h2 x)]
 unfold clP;rw[e];rfl
theorem zOP(p:ByteArray)(a b:Int)(S:Mt.tX)(h:∀c:Nat,S c=Mt.jM p a b (c:Int)):Mt.yY S 256=Mt.all p a b false/\Mt.yY (λc=>!S c) 256=Mt.all p a b true:=by
 rw[<-Mt.zBO,<-Mt.zBO];exact⟨Mt.wL (λc _=>by rw[h c];simp),Mt.wL (λc _=>by rw[h c];simp)⟩
theorem zFH(p:ByteArray)(i:Int)(w:World)(hp:p.size<=64)(hi0:0<=i)(hi1:i<=100) :
  Calls Tryz.prog 89 #[.string p,.int .i64 i] w λe w'=>e=.returned (.tuple #[ptV (clP p i).1,.int .i64 (clP p i).2])/\Below w.heap.size w w':=by
 obtain⟨a,ha⟩:∃a,a=Mt.xC p i:=⟨_,rfl⟩
 cases hv:(Mt.zTC p (i+1)==94)
 all_goals
  have ha2:a=if(Mt.zTC p (i+1)==94)then i+1+1 else i+1:=by
   rw[ha];unfold Mt.xC;by_cases x:Mt.zTC p (i+1)=94 <;> simp[x]
   omega
  rw[hv]at ha2;simp only[if_true,if_false,Bool.false_eq_true]at ha2;have ha0:0<=a:=by omega
  have ha1:a<=102:=by omega
  have HA:Hid (a=Mt.xC p i):=ha;have HV:Hid ((Mt.zTC p (i+1)==94)=_):=hv;obtain⟨R,hR⟩:∃R,R=clP p i:=⟨_,rfl⟩
  rw[<-hR];have HR:Hid (R=clP p i):=hR;clear hR ha;go_enter Tryz.func89,Tryz.ntmps89
  go_wp2_with (first|(go_at_call 84;refine(kG _ _ _ hp).mono ?_;rintro e w' ⟨rfl,rfl⟩))
  rw[<-ha2];clear ha2
  go_loopw [6] (λb wr=>∃(k:Int) (S:Mt.tX),a<=k/\k<=110/\b=.int .i64 k/\pK wr (w.heap.size+1) S/\Mt.Half p a k S/\wr.heap[w.heap.size]?=some (.cells (zTQ Mt.pt0) 100 (0,0))/\wr.heap.size=w.heap.size+2/\Below w.heap.size w wr) (λb _=>(110-intOf b).toNat)
  case atStart =>
   exact⟨a,Mt.none0,by omega,by omega,rfl,by exact zDS _ _,Mt.half_start p a,by exact mX _ _ _,by simp,by go_grown⟩
  case round =>
   obtain⟨k,S,hk1,hk2,rfl,hs,hh,hz,hsz,hB⟩:=hrel;have HS:Hid (pK wr (w.heap.size+1) S):=hs;have HH:Hid (Mt.Half p a k S):=hh;have HB:Hid (Below w.heap.size w wr):=hB;have HZ:Hid (wr.heap[w.heap.size]?=some (.cells (zTQ Mt.pt0) 100 (0,0))):=hz;clear hs hh hB hz;cases hc:(Mt.zTC p k != 93)
   ·have E:=Mt.zNY HH.out (by simpa using hc);have HE:Hid (Mt.kI p a=k/\∀c:Nat,S c=Mt.jM p a k (c:Int)):=E;clear E;cases hf:(k==a)
    ·have HT:Hid (R=(⟨5,k+1,0,0,0,0,0,Mt.all p a k (decide (Mt.zTC p (i+1)=94))⟩,0)):=by
      show _=_;rw[HR.out,zN0 p i k (by rw[<-HA.out];exact HE.out.1) (by omega) (by rw[<-HA.out];simpa using hf),HA.out]
     go_wp2_with (first|(go_at_call 84;refine(kG _ _ _ hp).mono ?_;rintro e w' ⟨rfl,rfl⟩))
     first
     | (
      refine(zKb wr (w.heap.size+1) S HS.out).mono ?_;rintro e w1 ⟨rfl,s1,b1,n1,o1⟩
      have HT2:Hid (R=(⟨5,k+1,0,0,0,0,0,Mt.yY (λc=>!S c) 256⟩,0)):=by
       show _=_;rw[HT.out,(zOP p a k S HE.out.2).2,show decide (Mt.zTC p (i+1)=94)=true by simpa using HV.out]
      have H1:Hid (pK w1 (w.heap.size+1) (λc=>!S c)/\Below w.heap.size w w1/\w1.heap[w.heap.size]?=some (.cells (zTQ Mt.pt0) 100 (0,0))):=⟨s1,HB.out.trans (b1.mono (by omega)),(o1 _ (by omega)).trans HZ.out⟩
      clear s1 b1 o1;generalize hX:(λc=>!S c)=X at *;clear hX;go_wp2_with fail
      have TA:=zC5 w1 (w.heap.size+1) _ H1.out.1;generalize Mt.yY X 256=T at *;refine TA.mono ?_;clear TA;rintro e w2 ⟨rfl,b2⟩;have HZ2:Hid (w2.heap[w.heap.size]?=some (.cells (zTQ Mt.pt0) 100 (0,0))/\Below w.heap.size w w2):=⟨(b2.block _ (by omega)).trans H1.out.2.2,H1.out.2.1.trans (b2.mono (by omega))⟩
      clear b2;go_wp2_with (refine zM 100 8 Tryz.sizePT (by rfl) (.tmp 4) (.tmp 45) (by rfl) w.heap.size (zTQ ⟨5,k+1,0,0,0,0,0,T⟩) (by rfl) (by rfl) HZ2.out.1 (by rfl) (by rfl) (xQ _) ?_;intro w3 r1 r2 r3 r4)
      refine bodyPost_ret (jK 100 8 Tryz.underlying100 rfl Tryz.sizePT rfl (by rfl) r1 (by rfl)) rfl ⟨by rw[HT2.out];rfl,?_⟩;exact HZ2.out.2.trans (r4 _ (lG _)))
     | (
      have HT2:Hid (R=(⟨5,k+1,0,0,0,0,0,Mt.yY S 256⟩,0)):=by
       show _=_;rw[HT.out,(zOP p a k S HE.out.2).1,show decide (Mt.zTC p (i+1)=94)=false by simpa using HV.out]
      have TA:=zC5 wr (w.heap.size+1) _ HS.out;generalize Mt.yY S 256=T at *;refine TA.mono ?_;clear TA;rintro e w2 ⟨rfl,b2⟩;have HZ2:Hid (w2.heap[w.heap.size]?=some (.cells (zTQ Mt.pt0) 100 (0,0))/\Below w.heap.size w w2):=⟨(b2.block _ (by omega)).trans HZ.out,HB.out.trans (b2.mono (by omega))⟩
      clear b2;go_wp2_with (refine zM 100 8 Tryz.sizePT (by rfl) (.tmp 4) (.tmp 45) (by rfl) w.heap.size (zTQ ⟨5,k+1,0,0,0,0,0,T⟩) (by rfl) (by rfl) HZ2.out.1 (by rfl) (by rfl) (xQ _) ?_;intro w3 r1 r2 r3 r4)
      refine bodyPost_ret (jK 100 8 Tryz.underlying100 rfl Tryz.sizePT rfl (by rfl) r1 (by rfl)) rfl ⟨by rw[HT2.out];rfl,?_⟩;exact HZ2.out.2.trans (r4 _ (lG _)))
    ·have HT:Hid (R=(Mt.pt0,3)):=by
      show _=_;have:k=a:=by simpa using hf
      rw[HR.out];exact zLW p i (by rw[<-HA.out,HE.out.1,this])
     go_wp2_with (first|(go_at_call 84;refine(kG _ _ _ hp).mono ?_;rintro e w' ⟨rfl,rfl⟩)|(refine zM 100 8 Tryz.sizePT (by rfl) (.tmp 4) (.tmp 39) (by rfl) w.heap.size (zTQ Mt.pt0) (by rfl) (by rfl) HZ.out (by rfl) (by rfl) (xQ _) ?_;intro w3 r1 r2 r3 r4))
     refine bodyPost_ret (jK 100 8 Tryz.underlying100 rfl Tryz.sizePT rfl (by rfl) r1 (by rfl)) rfl ⟨by rw[HT.out];rfl,?_⟩;exact HB.out.trans (r4 _ (lG _))
   ·cases hit:(itP p k).2
    ·have HT:Hid (R=(Mt.pt0,3)):=by
      show _=_
      have z:(Mt.yB p k).2.2.1=0:=by
       unfold itP at hit;by_cases z:(Mt.yB p k).2.2.1=0
       ·exact z
       ·rw[if_neg z]at hit;simp at hit
      rw[HR.out];exact zNZ p i (by rw[<-HA.out,<-HH.out.1];exact Mt.zEr p k (by simpa using hc) z)
     go_wp2_with (first|(go_at_call 84;refine(kG _ _ _ hp).mono ?_;rintro e w' ⟨rfl,rfl⟩))
     refine(zCG p k wr (w.heap.size+1) S hp (by omega) (by omega) HS.out).mono ?_;rintro e w1 ⟨rfl,s1,o1⟩;have HB1:Hid (Below w.heap.size w w1):=HB.out.trans (o1.below (by omega));have HZ1:Hid (w1.heap[w.heap.size]?=some (.cells (zTQ Mt.pt0) 100 (0,0))):=(o1.block _ (by omega)).trans HZ.out;clear s1 o1;go_wp2_with (refine zM 100 8 Tryz.sizePT (by rfl) (.tmp 4) (.tmp 34) (by rfl) w.heap.size (zTQ Mt.pt0) (by rfl) (by rfl) HZ1.out (by rfl) (by rfl) (xQ _) ?_;intro w3 r1 r2 r3 r4)
     refine bodyPost_ret (jK 100 8 Tryz.underlying100 rfl Tryz.sizePT rfl (by rfl) r1 (by rfl)) rfl ⟨by rw[HT.out];rfl,?_⟩;exact HB1.out.trans (r4 _ (lG _))
    ·have z:(Mt.yB p k).2.2.1≠0:=by
      intro z;unfold itP at hit;rw[if_pos z]at hit;simp at hit
     have zb:=Mt.tO p k;have zi:=Mt.zLU p k (by omega) z
     have HN:Hid (Mt.Half p a (itP p k).1 (zDU p k S)/\(itP p k).1=k+(Mt.yB p k).2.2.1):=by
      have e1:(itP p k).1=k+(Mt.yB p k).2.2.1:=by unfold itP;rw[if_neg z]
      refine⟨?_,e1⟩;have e2:zDU p k S=Mt.zKN p k S:=by unfold zDU;rw[hit,if_pos rfl]
      rw[e1,e2];exact Mt.zLV HH.out (by omega) (by simpa using hc) z
     have k1:k<(itP p k).1:=by rw[HN.out.2];omega
     have k2:(itP p k).1<=110:=by rw[HN.out.2];omega
     clear z zb zi;go_wp2_with (first|(go_at_call 84;refine(kG _ _ _ hp).mono ?_;rintro e w' ⟨rfl,rfl⟩))
     refine(zCG p k wr (w.heap.size+1) S hp (by omega) (by omega) HS.out).mono ?_;rintro e w1 ⟨rfl,s1,o1⟩;have HB1:Hid (Below w.heap.size w w1/\w1.heap[w.heap.size]?=some (.cells (zTQ Mt.pt0) 100 (0,0))/\w1.heap.size=w.heap.size+2/\pK w1 (w.heap.size+1) (zDU p k S)):=⟨HB.out.trans (o1.below (by omega)),(o1.block _ (by omega)).trans HZ.out,by rw[o1.size];exact hsz,s1⟩
     clear s1 o1;go_wp2_with fail
     go_roundw
     case rel=>exact⟨(itP p k).1,zDU p k S,by omega,by omega,rfl,HB1.out.2.2.2,HN.out.1,HB1.out.2.1,HB1.out.2.2.1,HB1.out.1⟩
     case measure=>simp[intOf];omega
