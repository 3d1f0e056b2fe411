import Derived.Test.YtebpgfodelggoaaGreatC01
import Derived.Deep.RegionWith
import Derived.Deep.DrawnRows
import Derived.BigQuiet
set_option linter.all false
set_option maxRecDepth 100000
set_option maxHeartbeats 6000000
namespace Go.Proofs.YtebpgfodelggoaaGreat
open Go.RowKit _root_.Go.Proofs.Tryz Mt
theorem Gt{j}{t u v x:Tmp}(G:j.results=#[.tmp t,.tmp u,.tmp v,.tmp x]) h P w:
  (results j h).run P w=.ok (.tuple #[h.getD t undef,h.getD u undef,h.getD v undef,h.getD x undef]) w:=by
 simp[results,G]
theorem rH{k a b}(h:a=b):Ending.returned (.int k a)=.returned (.int k b):=by rw[h]
theorem nC(p:BA) i w(I:p.size<=64):
  Calls prog 107 #[.string p,.int .i64 i] w λe w'=>e=.returned (.int .i64 (zI p i))/\w=w':=by
 by_cases j:i<0
 ·rw[BJ p i (by omega)]
  go_in
  go_wp2
  go_ret;exact⟨rfl,rfl⟩
 ·by_cases G:(p.size:Int)<=i
  ·rw[BJ p i (by omega)]
   go_in
   go_wp2
   go_ret;exact⟨rfl,rfl⟩
  ·obtain⟨k,rfl⟩:=oQ (show 0<=i by omega);have h:k<p.size:=by omega
   rw[<-PE p k h]
   go_in
   go_wp2
   go_ret;exact⟨rfl,rfl⟩
theorem Io c w(h:0<=c)(j:c<=255):
  Calls prog 108 #[.int .u8 c] w λe w'=>e=.returned (.bool (bn c))/\w=w':=by
 by_cases a:48<=c
 ·by_cases b:c<=57
  ·rw[zAK ⟨a,b⟩]
   go_in
   go_wp2
   go_ret;exact⟨rfl,rfl⟩
  ·rw[PG (by omega)]
   go_in
   go_wp2
   go_ret;exact⟨rfl,rfl⟩
 ·rw[PG (by omega)]
  go_in
  go_wp2
  go_ret;exact⟨rfl,rfl⟩
theorem FD c w(j:0<=c)(G:c<=255):
  Calls prog 109 #[.int .u8 c] w λe w'=>e=.returned (.bool (aX c))/\w=w':=by
 rcases(show(c<65/\aX c=false)\/((65<=c/\c<=90)/\aX c=true)\/((90<c/\c<97)/\aX c=false)\/((97<=c/\c<=122)/\aX c=true)\/(122<c/\aX c=false) by
   simp only[aX,gM,lW];omega)with ⟨h,e⟩ | ⟨⟨h,h'⟩,e⟩ | ⟨⟨h,h'⟩,e⟩ | ⟨⟨h,h'⟩,e⟩ | ⟨h,e⟩
 all_goals
  rw[e];clear e
  go_in
  go_wp2
  go_ret;first | exact⟨rfl,rfl⟩ | exact⟨jM (by simp;omega),rfl⟩
theorem MW(p:BA) i w(Y:p.size<=64)(Z:0<=i)(a0:i<=1000):
  Calls prog 127 #[.string p,.int .i64 i] w λe w'=>e=.returned (.tuple #[.int .u8 (zF p i).1,.int .i64 (zF p i).2])/\w=w':=by
 have a2:=KA p i;have a3:=BI p i;have a4:=KA p (i+1);have a5:=BI p (i+1);rcases JN p i with ⟨U,e⟩ | ⟨a1,U,⟨h,e⟩ | ⟨h,j,e⟩ | ⟨h,j,G,e⟩ | ⟨h,j,G,I,e⟩ | ⟨h,j,G,I,J,O,e⟩ | ⟨h,j,G,I,J,O,W,e⟩ | ⟨h,j,G,I,J,O,W,e⟩⟩
 all_goals
  rw[e];clear e
  go_in
  go_wp2_with (first|(go_at_call 107;refine(nC _ _ _ Y).mono ?_;rintro e w' ⟨rfl,rfl⟩)|(go_at_call 108;refine(Io _ _ (by omega) (by omega)).mono ?_;rintro e w' ⟨rfl,rfl⟩)|(go_at_call 109;refine(FD _ _ (by omega) (by omega)).mono ?_;rintro e w' ⟨rfl,rfl⟩))
  go_ret2
  exact⟨rfl,rfl⟩
theorem Od x c w(G:0<=c)(I:c<=255):
  Calls prog 129 #[.bool x,.int .u8 c] w λe w'=>e=.returned (.bool (zf x c))/\w=w':=by
 cases x <;> cases h:bn c <;> cases j:aX c
 all_goals
  go_in
  go_wp2_with (first|(go_at_call 108;refine(Io _ _ (by omega) (by omega)).mono ?_;rintro e w' ⟨rfl,rfl⟩)|(go_at_call 109;refine(FD _ _ (by omega) (by omega)).mono ?_;rintro e w' ⟨rfl,rfl⟩))
  all_goals
   go_ret;exact⟨jM (by simp[zf,h,j];try rfl),rfl⟩
theorem dh(p:BA) i w(J:p.size<=64)(W:0<=i)(Y:i<=900):
  Calls prog 110 #[.string p,.int .i64 i] w λe w'=>e=.returned (.tuple #[.int .u8 (jS p i).1,.int .u8 (jS p i).2.1,.int .i64 (jS p i).2.2.1,.bool (jS p i).2.2.2])/\w=w':=by
 have⟨b1,b2,b3,b4⟩:=mQ p i;have⟨c1,c2,c3,c4⟩:=mQ p (i+(zF p i).2+1);have a1:=BI p (i+1);rcases Ua p i with ⟨h,j,U,e⟩ | ⟨h,j,I,U,e⟩ | ⟨G,⟨h,e⟩ | ⟨h,j,e⟩ | ⟨h,j,I,e⟩ | ⟨h,j,I,O,e⟩ | ⟨h,j,I,O,e⟩⟩
 rotate_left 2
 all_goals try rcases G with G | ⟨G,Z,a0⟩
 all_goals
  rw[e];clear e
  go_in
  go_wp2_with (first|(go_at_call 107;refine(nC _ _ _ J).mono ?_;rintro e w' ⟨rfl,rfl⟩)|(go_at_call 127;refine(MW _ _ _ J (by omega) (by omega)).mono ?_;rintro e w' ⟨rfl,rfl⟩))
 all_goals
  refine lT (Gt rfl _ _ _) rfl ?_;exact⟨rfl,rfl⟩
theorem UQ(p:BA) i w(J:p.size<=64)(O:0<=i)(U:i<=900):
  Calls prog 128 #[.string p,.int .i64 i] w λe w'=>e=.returned (.tuple #[.int .i64 (number p i).1,.int .i64 (number p i).2])/\w=w':=by
 rcases OY p i with ⟨h,e⟩ | ⟨h,G,e⟩ | ⟨h,G,W,Y,⟨j,e⟩ | ⟨j,I,e⟩ | ⟨j,I,Z,a0,e⟩⟩
 all_goals
  rw[e];clear e
  go_in
  go_wp2_with (go_at_call 107;refine(nC _ _ _ J).mono ?_;rintro e w' ⟨rfl,rfl⟩)
  go_ret2
  exact⟨rfl,rfl⟩
theorem Oe(p:BA) i w(O:p.size<=64)(a0:0<=i)(a1:i<=800):
  Calls prog 111 #[.string p,.int .i64 i] w λe w'=>e=.returned (.tuple #[.int .i64 (count p i).1,.int .i64 (count p i).2.1,.int .i64 (count p i).2.2.1,.bool (count p i).2.2.2])/\w=w':=by
 have⟨b1,b2,b3,b4⟩:=cK p (i+1);have⟨c1,c2,c3,c4⟩:=cK p (i+1+(number p (i+1)).2+1);rcases Ja p i with ⟨G,e⟩ | ⟨G,U,e⟩ | ⟨G,U,⟨I,e⟩ | ⟨I,W,e⟩ | ⟨I,W,⟨Y,e⟩ | ⟨Y,⟨h,e⟩ | ⟨h,j,e⟩ | ⟨h,j,J,e⟩ | ⟨h,j,J,Z,e⟩ | ⟨h,j,J,Z,e⟩⟩⟩⟩
 all_goals
  rw[e];clear e
  go_in
  go_wp2_with (first|(go_at_call 107;refine(nC _ _ _ O).mono ?_;rintro e w' ⟨rfl,rfl⟩)|(go_at_call 128;refine(UQ _ _ _ O (by omega) (by omega)).mono ?_;rintro e w' ⟨rfl,rfl⟩))
  refine lT (Gt rfl _ _ _) rfl ?_;exact⟨rfl,rfl⟩
theorem zC9{p k b c}(h:b<=k):yF p k b c=false:=by rw[pK,lG h]
theorem zEu{p}{k b c}(j:k<b)(h:((jS p k).2.2.1==0)=true):yF p k b c=false:=by
 rw[pK,lC (by omega),lG (by simpa using h)]
theorem zDa{p}{k b c}(I:k<b)(h:((jS p k).2.2.1==0)=false)(j:(jS p k).2.2.2=true)(G:zf ((jS p k).2.1==119) c=true):yF p k b c=true:=by
 rw[pK,lC (by omega),lC (by simpa using h),lG j,lG (by rw[<-G];congr 1)]
theorem UR{p}{k b c}(I:k<b)(h:((jS p k).2.2.1==0)=false)(j:(jS p k).2.2.2=true)(G:zf ((jS p k).2.1==119) c=false):yF p k b c=yF p (k+(jS p k).2.2.1) b c:=by
 rw[pK,lC (by omega),lC (by simpa using h),lG j,lC (by rw[Bool.not_eq_true,<-G];congr 1)]
theorem zEv{p}{k b c}(J:k<b)(h:((jS p k).2.2.1==0)=false)(I:(jS p k).2.2.2=false)(j:decide ((jS p k).1<=c)=true)(G:decide (c<=(jS p k).2.1)=true):yF p k b c=true:=by
 rw[pK,lC (by omega),lC (by simpa using h),lC (by simp[I]),lG ⟨by simpa using j,by simpa using G⟩]
theorem zEw{p}{k b c}(I:k<b)(h:((jS p k).2.2.1==0)=false)(G:(jS p k).2.2.2=false)(j:decide ((jS p k).1<=c)=false):yF p k b c=yF p (k+(jS p k).2.2.1) b c:=by
 rw[pK,lC (by omega),lC (by simpa using h),lC (by simp[G]),lC (by intro x;simp at j;omega)]
theorem zEx{p}{k b c}(I:k<b)(h:((jS p k).2.2.1==0)=false)(G:(jS p k).2.2.2=false)(j:decide (c<=(jS p k).2.1)=false):yF p k b c=yF p (k+(jS p k).2.2.1) b c:=by
 rw[pK,lC (by omega),lC (by simpa using h),lC (by simp[G]),lC (by intro x;simp at j;omega)]
theorem Ju(p:BA) a b c w(G:p.size<=64)(Y:0<=a)(Z:a<=200)(a0:b<=200)(a1:0<=c)(a2:c<=255):
  Calls prog 112 #[.string p,.int .i64 a,.int .i64 b,.int .u8 c] w λe w'=>e=.returned (.bool (yF p a b c))/\w=w':=by
 go_in
 go_wp2_with fail
 go_loop [9] (λi=>∃k:Int,a<=k/\k<=300/\i=.int .i64 k/\yF p a b c=yF p k b c) (λi=>(b-intOf i).toNat)
 case atStart=>exact⟨a,by omega,by omega,rfl,rfl⟩
 case round =>
  obtain⟨k,a3,a4,rfl,O⟩:=hrel;have H:=hid O;clear O;have⟨d1,d2,d3,d4,d5,d6⟩:=qy p k;by_cases j:k<b
  ·cases h:((jS p k).2.2.1==0)
   ·have W:1<=(jS p k).2.2.1:=by
                        have:(jS p k).2.2.1≠0:=by simpa using h
                        omega
    cases I:(jS p k).2.2.2
    ·cases J:decide ((jS p k).1<=c)
     ·have R:=hid (H.o.trans (zEw j h I J));go_wp2_with (first|(go_at_call 110;refine(dh _ _ _ G (by omega) (by omega)).mono ?_;rintro e w' ⟨rfl,rfl⟩))
      go_round
      case rel=>exact⟨_,by omega,by omega,rfl,R.o⟩
      case measure=>simp[intOf];omega
     ·cases U:decide (c<=(jS p k).2.1)
      ·have R:=hid (H.o.trans (zEx j h I U));go_wp2_with (first|(go_at_call 110;refine(dh _ _ _ G (by omega) (by omega)).mono ?_;rintro e w' ⟨rfl,rfl⟩))
       go_round
       case rel=>exact⟨_,by omega,by omega,rfl,R.o⟩
       case measure=>simp[intOf];omega
      ·have R:=hid (H.o.trans (zEv j h I J U));go_wp2_with (first|(go_at_call 110;refine(dh _ _ _ G (by omega) (by omega)).mono ?_;rintro e w' ⟨rfl,rfl⟩))
       go_ret;exact⟨jM (by rw[R.o]),rfl⟩
    ·cases J:zf ((jS p k).2.1==119) c
     ·have R:=hid (H.o.trans (UR j h I J));go_wp2_with (first|(go_at_call 110;refine(dh _ _ _ G (by omega) (by omega)).mono ?_;rintro e w' ⟨rfl,rfl⟩)|(go_at_call 129;refine(Od _ _ _ (by omega) (by omega)).mono ?_;rintro e w' ⟨rfl,rfl⟩))
      go_round
      case rel=>exact⟨_,by omega,by omega,rfl,R.o⟩
      case measure=>simp[intOf];omega
     ·have R:=hid (H.o.trans (zDa j h I J));go_wp2_with (first|(go_at_call 110;refine(dh _ _ _ G (by omega) (by omega)).mono ?_;rintro e w' ⟨rfl,rfl⟩)|(go_at_call 129;refine(Od _ _ _ (by omega) (by omega)).mono ?_;rintro e w' ⟨rfl,rfl⟩))
      go_ret;exact⟨jM (by rw[R.o]),rfl⟩
   ·have R:=hid (H.o.trans (zEu j h));go_wp2_with (first|(go_at_call 110;refine(dh _ _ _ G (by omega) (by omega)).mono ?_;rintro e w' ⟨rfl,rfl⟩))
    go_ret;exact⟨jM (by rw[R.o]),rfl⟩
  ·have R:=hid (H.o.trans (zC9 (by omega)));go_wp2_with fail
   go_ret;exact⟨jM (by rw[R.o]),rfl⟩
theorem Yg p a b no n:(iw p a b no n).length<=n:=by
 unfold iw;rw[uD];exact gX (iF _ _) (by simp)
theorem Yh{p a b no}{n:Nat}(j:n<256)(h:(yF p a b n != no)=true):mo (iw p a b no (n+1))=mo (iw p a b no n)++[.int .u8 (n)]/\(iw p a b no (n+1)).length=(iw p a b no n).length+1:=by
 have e:iw p a b no (n+1)=iw p a b no n++[UInt8.ofNat n]:=by
  unfold iw;rw[rE,wI,rW];congr 1;rw[wG,lG h];rfl
 rw[e];refine⟨?_,by simp⟩;simp only[mo,rW,oZ,sO];have:(UInt8.ofNat n).toNat=n:=by simp;omega
 rw[this]
theorem UU{p a b no}{n:Nat}(h:(yF p a b n != no)=false):iw p a b no (n+1)=iw p a b no n:=by
 unfold iw;rw[rE,wI,rW];have:List.filter (λc:Nat=>yF p a b (c:Int) != no) [n]=[]:=by rw[wG,lC (by simp[h])];rfl
 rw[this];simp
theorem Gu(p:BA) a b no w(Y:p.size<=64)(b4:0<=a)(b5:a<=200)(b6:b<=200):
  Calls prog 82 #[.string p,.int .i64 a,.int .i64 b,.bool no] w λe w'=>e=.returned (.string ⟨(all p a b no).toArray⟩)/\Below w.heap.size w w':=by
 obtain⟨b1,a3,a8,a9,b0⟩:=sK zAL
 go_in
 go_wp2_with fail
 go_loopw [9,10] (λv i wr=>∃k:Nat,k<=256/\i=.int .i64 k/\wr.ownsRow w.heap.size 5 1 v (iw p a b no k).length (mo (iw p a b no k))/\Below w.heap.size w wr) (λ_ i _=>256-(intOf i).toNat)
 case atStart=>exact⟨0,by omega,rfl,oC _ _ _ _,lK _ _⟩
 case round =>
  obtain⟨k,b8,rfl,h,G⟩:=hrel;have b9:=Yg p a b no k;have a7:=G.size;by_cases a5:k<256
  ·cases Z:(!(yF p a b (k:Int)==no))
   ·have O:=UU Z;have j:Hid (wr.ownsRow w.heap.size 5 1 u9 (iw p a b no (k+1)).length (mo (iw p a b no (k+1)))):=by rw[O];exact h
    clear O;go_wp2_with (first|(go_at_call 112;refine(Ju _ _ _ _ _ Y (by omega) (by omega) (by omega) (by omega) (by omega)).mono ?_;rintro e w' ⟨rfl,rfl⟩))
    go_roundw
    case rel=>exact⟨k+1,by omega,by go_num,j.o,G⟩
    case measure=>simp[intOf];omega
   ·have J:=Yh a5 Z;have j:=hid J;clear J;go_wp2_with (first|(go_at_call 112;refine(Ju _ _ _ _ _ Y (by omega) (by omega) (by omega) (by omega) (by omega)).mono ?_;rintro e w' ⟨rfl,rfl⟩)|(at_builtin;refine rZ _ rfl _ _ 158 rfl w.heap.size 5 b1 (.int .u8 0) 1 1 underlying158 a3 a8 a9 b0 rfl (by decide) _ _ _ rfl (h.alloc _) ⟨wr.heap.size,0,none⟩ 1 1 [.int .u8 (k:Int)] rfl rfl ?c1 ?c2 ?c3 ?c4 ?c5 ?_))
    case c1 =>
     intro b2 u I
     match b2,I with
     | 0,I=>simp at I;subst I;simp[Addr.add]
    case c2=>intro u a0;simp at a0;subst a0;rfl
    case c3=>unfold maxLen;omega
    case c4=>omega
    case c5=>simp;omega
    ·intro b3 w1 W U _
     have a1:Hid (w1.ownsRow w.heap.size 5 1 b3 (iw p a b no (k+1)).length (mo (iw p a b no (k+1)))):=by
      show w1.ownsRow _ _ _ _ _ _;rw[j.o.1,j.o.2];exact W
     have a2:Below w.heap.size w w1:=(G.alloc a7 _).grown U (by simp;omega) (λq a6=>(h.lt q a6).1);clear W U h
     go_wp2
     go_roundw
     case rel=>exact⟨k+1,by omega,by go_num,a1.o,a2⟩
     case measure=>simp[intOf];omega
  ·have a4:k=256:=by omega
   subst a4;have b7:=Lv wr w.heap.size _ _ h;go_wp2_with fail
   go_ret;exact⟨rfl,G⟩
theorem Ap{w w1}{A}{t}(h:Below (w.alloc (.cells A t)).heap.size (w.alloc (.cells A t)) w1):
  (∀o,w1.cell? ⟨w.heap.size,o,none⟩=A[o]?)/\(∀o,w1.frozen? ⟨w.heap.size,o,none⟩=false)/\w.heap.size<w1.heap.size/\Below w.heap.size w w1:=by
 have G:(w.alloc (.cells A t)).heap.size=w.heap.size+1:=by simp
 have j:w1.heap[w.heap.size]?=some (.cells A t (0,0)):=by rw[h.block _ (by omega),gF]
 have:=h.size;exact⟨(zB j).1,(zB j).2,by omega,((lK _ _).alloc (lF _) _).trans (h.mono (by omega))⟩
theorem rM{w w1}{A B}{t u}(h:Below ((w.alloc (.cells A t)).alloc (.cells B u)).heap.size ((w.alloc (.cells A t)).alloc (.cells B u)) w1):
  (∀o,w1.cell? ⟨w.heap.size,o,none⟩=A[o]?)/\(∀o,w1.frozen? ⟨w.heap.size,o,none⟩=false)/\
  (∀o,w1.cell? ⟨w.heap.size+1,o,none⟩=B[o]?)/\(∀o,w1.frozen? ⟨w.heap.size+1,o,none⟩=false)/\w.heap.size+1<w1.heap.size/\Below w.heap.size w w1:=by
 have J:((w.alloc (.cells A t)).alloc (.cells B u)).heap.size=w.heap.size+2:=by simp
 have I:(w.alloc (.cells A t)).heap.size=w.heap.size+1:=by simp
 have j:w1.heap[w.heap.size]?=some (.cells A t (0,0)):=by rw[h.block _ (by omega),kQ _ _ _ (by omega),gF]
 have G:w1.heap[w.heap.size+1]?=some (.cells B u (0,0)):=by rw[h.block _ (by omega),<-I,gF]
 have:=h.size;exact⟨(zB j).1,(zB j).2,(zB G).1,(zB G).2,by omega,(((lK _ _).alloc (lF _) _).alloc (by omega) _).trans (h.mono (by omega))⟩
def dO(t:zU):List Value:=[.int .i64 t.kind,.int .i64 t.jK,.int .i64 t.to,.int .i64 t.n,.int .i64 t.m,.int .i64 t.jB,.string ⟨t.set.toArray⟩]
def pY(t:zU):Value:=.agg #[.int .i64 t.kind,.int .i64 t.jK,.int .i64 t.to,.int .i64 t.n,.int .i64 t.m,.int .i64 t.jB,.string ⟨t.set.toArray⟩]
theorem Sc(p:BA) i w(O:p.size<=64)(U:0<=i)(W:i<=100):
  Calls prog 80 #[.string p,.int .i64 i] w λe w'=>e=.returned (.tuple #[pY (kU p i).1,.bool (kU p i).2])/\Below w.heap.size w w':=by
 rcases qz p i with ⟨I,e⟩ | ⟨I,⟨h,e⟩ | ⟨h,j,e⟩ | ⟨h,j,G,e⟩ | ⟨h,j,G,J,e⟩ | ⟨h,j,G,J,e⟩⟩
 all_goals
  rw[e];clear e
  go_in
  go_wp2_with (go_at_call 107;refine(nC _ _ _ O).mono ?_;rintro e w' ⟨rfl,rfl⟩)
  go_returns;exact⟨rfl,by go_grown⟩
theorem Cu p t:
  ((zI p t==63)=true/\vY p t=(1,t+1))\/((zI p t==63)=false/\(zI p t==43)=true/\vY p t=(2,t+1))\/
  ((zI p t==63)=false/\(zI p t==43)=false/\vY p t=(0,t)):=by
 unfold vY;simp only[oU,gP];by_cases h:zI p t=63
 ·simp[h]
 ·rw[lC h];by_cases j:zI p t=43
  ·simp[j]
  ·simp[h,j]
theorem byte_at p(k:Nat)(h:k<p.size):((p[k]'h).toNat:Int)=zI p k:=by
 have:=PE p k h;have j:=(p[k]'h).toNat_lt;rw[<-this];exact(IntWalk.wrap64_in _ ⟨by omega,by omega⟩).symm
theorem Qc(p:BA) k w(I:p.size<=64)(h:k<p.size)(J:(((p[k]'h).toNat:Int)==43)=false)(O:(((p[k]'h).toNat:Int)==63)=false)(U:(((p[k]'h).toNat:Int)==123)=false):
  Calls prog 81 #[.string p,.int .i64 k] w λe w'=>e=.returned (.tuple #[pY ⟨8,k,(vY p (k+1)).2,0,-1,(vY p (k+1)).1,[]⟩,.bool true])/\Below w.heap.size w w':=by
 rcases Cu p (k+1)with ⟨j,e⟩ | ⟨j,G,e⟩ | ⟨j,G,e⟩
 all_goals
  rw[e];clear e
  go_in
  go_wp2_with (go_at_call 107;refine(nC _ _ _ I).mono ?_;rintro e w' ⟨rfl,rfl⟩)
  go_returns;exact⟨rfl,by go_grown⟩
theorem Sw(p:BA) k w(I:p.size<=64)(G:k<p.size)(J:(((p[k]'G).toNat:Int)==43)=true):
  Calls prog 81 #[.string p,.int .i64 k] w λe w'=>e=.returned (.tuple #[pY ⟨8,k,(vY p (k+1)).2,1,-1,(vY p (k+1)).1,[]⟩,.bool true])/\Below w.heap.size w w':=by
 rcases Cu p (k+1)with ⟨h,e⟩ | ⟨h,j,e⟩ | ⟨h,j,e⟩
 all_goals
  rw[e];clear e
  go_in
  go_wp2_with (go_at_call 107;refine(nC _ _ _ I).mono ?_;rintro e w' ⟨rfl,rfl⟩)
  go_returns;exact⟨rfl,by go_grown⟩
theorem Sy(p:BA) k w(I:p.size<=64)(j:k<p.size)(J:(((p[k]'j).toNat:Int)==43)=false)(O:(((p[k]'j).toNat:Int)==63)=true):
  Calls prog 81 #[.string p,.int .i64 k] w λe w'=>e=.returned (.tuple #[pY ⟨8,k,(vY p (k+1)).2,0,1,(vY p (k+1)).1,[]⟩,.bool true])/\Below w.heap.size w w':=by
 rcases Cu p (k+1)with ⟨h,e⟩ | ⟨h,G,e⟩ | ⟨h,G,e⟩
 all_goals
  rw[e];clear e
  go_in
  go_wp2_with (go_at_call 107;refine(nC _ _ _ I).mono ?_;rintro e w' ⟨rfl,rfl⟩)
  go_returns;exact⟨rfl,by go_grown⟩
theorem Qd(p)(k:Nat)(w)(G:p.size<=64)(h:k<p.size)(J:(((p[k]'h).toNat:Int)==43)=false)(O:(((p[k]'h).toNat:Int)==63)=false)(U:(((p[k]'h).toNat:Int)==123)=true)(W:(count p k).2.2.2=true):
  Calls prog 81 #[.string p,.int .i64 k] w λe w'=>e=.returned (.tuple #[pY ⟨8,k,(vY p (count p k).2.2.1).2,(count p k).1,(count p k).2.1,(vY p (count p k).2.2.1).1,[]⟩,.bool true])/\Below w.heap.size w w':=by
 have⟨b1,b2,b3,b4,b5,b6⟩:=ZJ p k (by omega);rcases Cu p (count p k).2.2.1 with ⟨j,e⟩ | ⟨j,I,e⟩ | ⟨j,I,e⟩
 all_goals
  rw[e];clear e
  go_in
  go_wp2_with (first|(go_at_call 107;refine(nC _ _ _ G).mono ?_;rintro e w' ⟨rfl,rfl⟩)|(go_at_call 111;refine(Oe _ _ _ G (by omega) (by omega)).mono ?_;rintro e w' ⟨rfl,rfl⟩))
  go_returns;exact⟨rfl,by go_grown⟩
theorem Sz(p)(k:Nat)(w)(j:p.size<=64)(h:k<p.size)(G:(((p[k]'h).toNat:Int)==43)=false)(I:(((p[k]'h).toNat:Int)==63)=false)(J:(((p[k]'h).toNat:Int)==123)=true)(O:(count p k).2.2.2=false):
  Calls prog 81 #[.string p,.int .i64 k] w λe w'=>e=.returned (.tuple #[pY ⟨8,k,k+1,0,-1,0,[]⟩,.bool false])/\Below w.heap.size w w':=by
 go_in
 go_wp2_with (first|(go_at_call 107;refine(nC _ _ _ j).mono ?_;rintro e w' ⟨rfl,rfl⟩)|(go_at_call 111;refine(Oe _ _ _ j (by omega) (by omega)).mono ?_;rintro e w' ⟨rfl,rfl⟩))
 go_returns;exact⟨rfl,by go_grown⟩
theorem Cv(p:BA) i w(O:p.size<=64)(W:0<=i)(Y:i<(p.size:Int)):
  CT 81 #[.string p,.int .i64 i] w λe w'=>e=.returned (.tuple #[pY (jN p i).1,.bool (jN p i).2])/\Below w.heap.size w w':=by
 obtain⟨k,rfl⟩:=oQ W;have I:k<p.size:=by omega
 have h:=byte_at p k I;unfold jN;by_cases j:zI p k=43
 ·rw[lG j];exact Sw p k w O I (by rw[h];simpa using j)
 ·rw[lC j];by_cases G:zI p k=63
  ·rw[lG G];exact Sy p k w O I (by rw[h];simpa using j) (by rw[h];simpa using G)
  ·rw[lC G];by_cases J:zI p k=123
   ·rw[lG J];cases U:(count p k).2.2.2
    ·exact Sz p k w O I (by rw[h];simpa using j) (by rw[h];simpa using G) (by rw[h];simpa using J) U
    ·exact Qd p k w O I (by rw[h];simpa using j) (by rw[h];simpa using G) (by rw[h];simpa using J) U
   ·rw[lC J];exact Qc p k w O I (by rw[h];simpa using j) (by rw[h];simpa using G) (by rw[h];simpa using J)
attribute [local go_sem ↓] Go.wp_at_zero Go.wp_at_succ
theorem zBy c b w(h:bn c=b)(j:0<=c)(G:c<=255):
  CT 108 #[.int .u8 c] w λe w'=>e=.returned (.bool b)/\w=w':=by rw[<-h];exact Io c w j G
theorem YC c b w(h:aX c=b)(j:0<=c)(G:c<=255):
  CT 109 #[.int .u8 c] w λe w'=>e=.returned (.bool b)/\w=w':=by rw[<-h];exact FD c w j G
theorem zBz(w:World) A B t u x(h:0<=x)(I:x<=255):
  (convert 158 9 (.slice (some ⟨w.heap.size+1+1,0,none⟩) 1 1)).run prog (((w.alloc (.cells A t)).alloc (.cells B u)).alloc (.cells #[.int .u8 x] 5))=
   .ok (.string ⟨#[UInt8.ofNat x.toNat]⟩) (((w.alloc (.cells A t)).alloc (.cells B u)).alloc (.cells #[.int .u8 x] 5)):=by
 refine run_convert_bytes_back _ _ _ _ ⟨w.heap.size+1+1,0,none⟩ 1 [UInt8.ofNat x.toNat] underlying158 underlying5 underlying9 ?_;intro G j;have:G=0:=by simpa using j
 subst this;obtain⟨k,rfl⟩:=oQ h;have e:k % 256=k:=by omega
 simp[Addr.add,go_sem,e]
theorem Vl(p:BA) i w(h:p.size<=64)(b0:0<=i)(b1:i<=100):
  Calls prog 78 #[.string p,.int .i64 i] w λe w'=>e=.returned (.tuple #[pY (vM p i).1,.bool (vM p i).2])/\Below w.heap.size w w':=by
 have a4:=BI p (i+1);rcases BK p i with ⟨a0,e⟩ | ⟨Z,a0,⟨I,e⟩ | ⟨I,Y,e⟩ | ⟨I,Y,G,a1,a7,a8,e⟩ | ⟨I,Y,G,e⟩⟩
 ·rw[e];clear e
  go_in
  go_wp2_with (go_at_call 107;refine(nC _ _ _ h).mono ?_;rintro e w' ⟨rfl,rfl⟩)
  go_returns;exact⟨rfl,by go_grown⟩
 ·rw[e];clear e
  go_in
  go_wp2_with (first|(go_at_call 107;refine(nC _ _ _ h).mono ?_;rintro e w' ⟨rfl,rfl⟩)|(go_at_call 82;refine(Gu _ _ _ _ _ h (by omega) (by omega) (by omega)).mono ?_;rintro e w1 ⟨rfl,j⟩;obtain⟨J,O,U,W,a5,a6⟩:=rM j;clear j))
  refine lT (v:=.tuple #[pY ⟨1,i,i+2,0,0,0,all p i (i+2) false⟩,.bool true]) (by simp[results,results78,go_sem,J,O,U,W,pY]) rfl ⟨rfl,?_⟩
  go_grown
 ·rw[e];clear e
  go_in
  go_wp2_with (first|(go_at_call 107;refine(nC _ _ _ h).mono ?_;rintro e w' ⟨rfl,rfl⟩)|(go_at_call 82;refine(Gu _ _ _ _ _ h (by omega) (by omega) (by omega)).mono ?_;rintro e w1 ⟨rfl,j⟩;obtain⟨J,O,U,W,a5,a6⟩:=rM j;clear j))
  refine lT (v:=.tuple #[pY ⟨1,i,i+2,0,0,0,all p i (i+2) false⟩,.bool true]) (by simp[results,results78,go_sem,J,O,U,W,pY]) rfl ⟨rfl,?_⟩
  go_grown
 ·rw[e];clear e
  go_in
  go_wp2_with (go_at_call 107;refine(nC _ _ _ h).mono ?_;rintro e w' ⟨rfl,rfl⟩)
  go_returns;exact⟨rfl,by go_grown⟩
 ·rw[e];clear e;have a9:=λA B=>zBz w A B 97 97 (zI p (i+1)) Z a4
  rcases G with G | ⟨G,a1⟩ <;> cases a2:bn (zI p (i+1)) <;> cases a3:aX (zI p (i+1))
  all_goals
   go_in
   go_wp2_with (first|(go_at_call 107;refine(nC _ _ _ h).mono ?_;rintro e w' ⟨rfl,rfl⟩))
   first|(go_region_with (first|(go_at_call 108;refine(zBy _ _ _ a2 (by omega) (by omega)).mono ?_;rintro e w' ⟨rfl,rfl⟩)|(go_at_call 109;refine(YC _ _ _ a3 (by omega) (by omega)).mono ?_;rintro e w' ⟨rfl,rfl⟩))) | fail
   all_goals
    go_wp2
    go_returns;exact⟨rfl,by go_grown⟩
