import Derived.Test.YtebpgfodelggoaaGreatC12
import Derived.Test.YtebpgfodelggoaaGreatC13
import Derived.BigQuiet
set_option linter.all false
set_option maxRecDepth 100000
set_option maxHeartbeats 2000000
namespace Go.Proofs.YtebpgfodelggoaaGreat
open Go.RowKit _root_.Go.Proofs.Tryz Mt
def pQ(t:PT):Array Value:=#[.int .i64 t.kind,.int .i64 t.en,.int .i64 t.group,.int .i64 t.number,.int .i64 t.least,.int .i64 t.most,.int .i64 t.vY,.string ⟨t.set.toArray⟩]
def jv(t:PT):Value:=.agg (pQ t)
theorem RY t:(pQ t).size=8:=rfl
theorem pR t:(pQ t).all (·.oneCell')=true:=by simp[pQ,Value.oneCell']
theorem qF:(prog.info? 174).map (·.size)=some 8:=by kernel_rfl
theorem zAM:Tryz.zeroCells208=Ik none0:=by kernel_rfl
theorem Jt{w w1}{A}{t}(h:Only (w.heap.size+1) ((w.alloc (.cells A t)).alloc (.cells Tryz.zeroCells208 208)) w1):
  w1.heap[w.heap.size]?=some (.cells A t (0,0))/\Below w.heap.size w w1/\w1.heap.size=w.heap.size+2:=by
 refine⟨by rw[h.block _ (by omega)];exact nN _ _ _,?_,by rw[h.size];simp⟩;exact(((lK _ _).alloc (lF _) _).alloc (by simp) _).trans (h.below (by omega))
theorem Il(w:World) A:aW ((w.alloc A).alloc (.cells Tryz.zeroCells208 208)) (w.heap.size+1) none0:=by
 unfold aW;rw[nA,zAM]
theorem Im w a b i:
  Calls prog 136 #[.int .i64 a,.int .i64 b,.int .i64 i] w λe w'=>e=.returned (jv ⟨5,i,0,0,0,0,0,yZ (mR none0 a b) 256⟩)/\Below w.heap.size w w':=by
 obtain⟨T,G⟩:∃T,T=yZ (mR none0 a b) 256:=⟨_,rfl⟩
 rw[<-G];have Z:=hid G;clear G
 go_in
 go_wp2_with fail
 refine(bI _ (w.heap.size+1) none0 a b (by exact Il _ _)).mono ?_;rintro e w1 ⟨rfl,s1,J⟩;obtain⟨O,I,a5⟩:=Jt J;have Y:=hid s1;have U:=hid I;clear s1 J I;go_wp2_with fail
 have h:=Gm w1 (w.heap.size+1) _ Y.o;rw[<-Z.o]at h;refine h.mono ?_;clear h;rintro e a6 ⟨rfl,j⟩;have a2:=(j.block _ (by omega)).trans O;have W:=hid (U.o.trans (j.mono (by omega)));clear j O;go_wp2_with (refine zN 174 8 qF (by rfl) (.tmp 6) (.tmp 13) (by rfl) w.heap.size (pQ ⟨5,i,0,0,0,0,0,T⟩) (by rfl) (by rfl) a2 (by rfl) (by rfl) (pR _) ?_;intro a7 a0 a3 a4 a1)
 refine lT (Gn 174 8 underlying174 rfl qF rfl (by rfl) a0 (by rfl)) rfl ⟨rfl,?_⟩;exact W.o.trans (a1 _ (lF _))
def tF(p:BA)(t n m:Int):PT:=⟨4,(vY p t).2,0,0,n,m,(vY p t).1+1,[]⟩
theorem RZ p t n m:
  ((zI p t==63)=true/\tF p t n m=⟨4,t+1,0,0,n,m,2,[]⟩)\/((zI p t==63)=false/\(zI p t==43)=true/\tF p t n m=⟨4,t+1,0,0,n,m,3,[]⟩)\/
  ((zI p t==63)=false/\(zI p t==43)=false/\tF p t n m=⟨4,t,0,0,n,m,1,[]⟩):=by
 unfold tF vY;simp only[oU,gP];by_cases h:zI p t=63
 ·rw[lG h];simp[h]
 ·rw[lC h];by_cases j:zI p t=43
  ·rw[lG j];simp[j]
  ·rw[lC j];simp[h,j]
theorem mq(p:BA) t n m w(G:p.size<=64)(I:0<=t)(J:t<=1000):
  Calls prog 134 #[.string p,.int .i64 t,.int .i64 n,.int .i64 m] w λe w'=>e=.returned (jv (tF p t n m))/\Below w.heap.size w w':=by
 rcases RZ p t n m with ⟨h,e⟩ | ⟨h,j,e⟩ | ⟨h,j,e⟩
 all_goals
  rw[e];clear e
  go_in
  go_wp2_with (first|(go_at_call 132;refine(kJ _ _ _ G).mono ?_;rintro e w' ⟨rfl,rfl⟩))
  go_returns;exact⟨rfl,by go_grown⟩
def Oa(p:BA)(i:Int):Int × Bool:=if(jS p i).2.2.1=0 then(0,false)else(i+(jS p i).2.2.1,true)
theorem XT p i S:
  ((zI p i==92)=true/\(zI p (i+1)==100||zI p (i+1)==119)=true/\Oa p i=(i+2,true)/\Pd p i S=JO S (decide (zI p (i+1)=119)))\/
  ((
   (zI p i==92)=false\/(zI p i==92)=true/\(zI p (i+1)==100||zI p (i+1)==119)=false)/\
   (
   ((zx p i).2.2=false/\Oa p i=(0,false))\/
   ((zx p i).2.2=true/\(zI p (zx p i).2.1 != 45)=true/\Oa p i=((zx p i).2.1,true)/\Pd p i S=mR S (zx p i).1 (zx p i).1)\/
   ((zx p i).2.2=true/\(zI p (zx p i).2.1 != 45)=false/\(zx p ((zx p i).2.1+1)).2.2=false/\Oa p i=(0,false))\/
   ((zx p i).2.2=true/\(zI p (zx p i).2.1 != 45)=false/\(zx p ((zx p i).2.1+1)).2.2=true/\decide ((zx p ((zx p i).2.1+1)).1<(zx p i).1)=true/\Oa p i=(0,false))\/
   ((
    zx p i).2.2=true/\(zI p (zx p i).2.1 != 45)=false/\(zx p ((zx p i).2.1+1)).2.2=true/\decide ((zx p ((zx p i).2.1+1)).1<(zx p i).1)=false/\
    Oa p i=((zx p ((zx p i).2.1+1)).2.1,true)/\Pd p i S=mR S (zx p i).1 (zx p ((zx p i).2.1+1)).1))):=by
 have Z:=mQ p i;have a0:=mQ p (i+(zF p i).2+1);have key:∀j,(zF p j).2=0->zx p j=(0,0,false):=λj J=>by unfold zx;rw[lG J]
 have Y:∀j,¬(zF p j).2=0->zx p j=((zF p j).1,j+(zF p j).2,true):=λj J=>by unfold zx;rw[lC J]
 unfold Oa Pd;by_cases G:zI p i=92/\(zI p (i+1)=100\/zI p (i+1)=119)
 ·have e:jS p i=(92,zI p (i+1),2,true):=by unfold jS;rw[lG G]
  left;rw[e];refine⟨by simpa using G.1,by simpa using G.2,by simp,by simp⟩
 ·right;refine⟨?_,?_⟩
  ·by_cases h:zI p i=92
   ·right;refine⟨by simpa using h,?_⟩;have:¬(zI p (i+1)=100\/zI p (i+1)=119):=λx=>G ⟨h,x⟩
    simpa using this
   ·left;simpa using h
  ·by_cases h:(zF p i).2=0
   ·have e:jS p i=(0,0,0,false):=by unfold jS;rw[lC G,lG h]
    left;rw[e,key i h];simp
   ·right;rw[Y i h];dsimp only;by_cases I:zI p (i+(zF p i).2)≠45
    ·have e:jS p i=((zF p i).1,(zF p i).1,(zF p i).2,false):=by unfold jS;rw[lC G,lC h,lG I]
     left;rw[e];simp[h,I]
    ·right;have O:(zI p (i+(zF p i).2) != 45)=false:=by simpa using I
     by_cases U:(zF p (i+(zF p i).2+1)).2=0
     ·have e:jS p i=(0,0,0,false):=by unfold jS;rw[lC G,lC h,lC I,lG (gG U)]
      left;rw[e,key _ U];simp[O]
     ·right;rw[Y _ U];by_cases W:(zF p (i+(zF p i).2+1)).1<(zF p i).1
      ·have e:jS p i=(0,0,0,false):=by unfold jS;rw[lC G,lC h,lC I,lG (lZ W)]
       left;rw[e];simp[O,W]
      ·have e:jS p i=((zF p i).1,(zF p (i+(zF p i).2+1)).1,(zF p i).2+1+(zF p (i+(zF p i).2+1)).2,false):=by
        unfold jS;rw[lC G,lC h,lC I,lC (by omega)]
       right;rw[e];refine⟨rfl,O,rfl,by simpa using W,?_,by simp⟩;rw[lC (by simp only;omega)];simp only[Prod.mk.injEq,wJ];omega
theorem zAN p i(j:0<=i):0<=(zx p i).2.1/\(zx p i).2.1<=i+2:=by
 have h:=mQ p i;unfold zx;split
 ·simp;omega
 ·simp only;omega
def FC(p:BA)(i:Int)(S:bP):bP:=if(Oa p i).2 then Pd p i S else S
theorem Gq(p:BA) i w g S(j:p.size<=64)(a2:0<=i)(a7:i<=900)(a0:aW w g S):
  Calls prog 154 #[.string p,.int .i64 i,.pointer (some ⟨g,0,none⟩)] w λe w'=>e=.returned (.tuple #[.int .i64 (Oa p i).1,.bool (Oa p i).2])/\aW w' g (FC p i S)/\Only g w w':=by
 have J:=hid a0;clear a0;obtain⟨a3,a4⟩:=zAN p i a2;obtain⟨a5,a6⟩:=zAN p ((zx p i).2.1+1) (by omega);unfold FC;rcases XT p i S with ⟨U,Y,e,f⟩ | ⟨h,⟨U,e⟩ | ⟨U,Y,e,f⟩ | ⟨U,Y,Z,e⟩ | ⟨U,Y,Z,a1,e⟩ | ⟨U,Y,Z,a1,e,f⟩⟩
 ·rw[e];have O:=hid f;clear e f
  go_in
  go_wp2_with (first|(go_at_call 132;refine(kJ _ _ _ j).mono ?_;rintro e w' ⟨rfl,rfl⟩)|(go_at_call 156;refine(vV _ _).mono ?_;rintro e w' ⟨rfl,rfl⟩))
  refine(EU _ g S _ J.o).mono ?_;rintro e w1 ⟨rfl,s1,I⟩;have G:=hnd s1 I;clear s1 I;go_wp2_with fail
  go_returns;exact⟨rfl,by rw[O.o];exact G.o.1,G.o.2⟩
 ·rw[e];clear e;rcases h with h | ⟨h,W⟩
  all_goals
   go_in
   go_wp2_with (first|(go_at_call 132;refine(kJ _ _ _ j).mono ?_;rintro e w' ⟨rfl,rfl⟩)|(go_at_call 156;refine(vV _ _).mono ?_;rintro e w' ⟨rfl,rfl⟩)|(go_at_call 165;refine(bJ _ _ _ j (by omega) (by omega)).mono ?_;rintro e w' ⟨rfl,rfl⟩))
   go_returns;exact⟨rfl,J.o,Only.refl _ _⟩
 ·rw[e];have O:=hid f;clear e f;rcases h with h | ⟨h,W⟩
  all_goals
   go_in
   go_wp2_with (first|(go_at_call 132;refine(kJ _ _ _ j).mono ?_;rintro e w' ⟨rfl,rfl⟩)|(go_at_call 156;refine(vV _ _).mono ?_;rintro e w' ⟨rfl,rfl⟩)|(go_at_call 165;refine(bJ _ _ _ j (by omega) (by omega)).mono ?_;rintro e w' ⟨rfl,rfl⟩))
   refine(bI _ g S _ _ J.o).mono ?_;rintro e w1 ⟨rfl,s1,I⟩;have G:=hnd s1 I;clear s1 I;go_wp2_with fail
   go_returns;exact⟨rfl,by rw[O.o];exact G.o.1,G.o.2⟩
 ·rw[e];clear e;rcases h with h | ⟨h,W⟩
  all_goals
   go_in
   go_wp2_with (first|(go_at_call 132;refine(kJ _ _ _ j).mono ?_;rintro e w' ⟨rfl,rfl⟩)|(go_at_call 156;refine(vV _ _).mono ?_;rintro e w' ⟨rfl,rfl⟩)|(go_at_call 165;refine(bJ _ _ _ j (by omega) (by omega)).mono ?_;rintro e w' ⟨rfl,rfl⟩))
   go_returns;exact⟨rfl,J.o,Only.refl _ _⟩
 ·rw[e];clear e;rcases h with h | ⟨h,W⟩
  all_goals
   go_in
   go_wp2_with (first|(go_at_call 132;refine(kJ _ _ _ j).mono ?_;rintro e w' ⟨rfl,rfl⟩)|(go_at_call 156;refine(vV _ _).mono ?_;rintro e w' ⟨rfl,rfl⟩)|(go_at_call 165;refine(bJ _ _ _ j (by omega) (by omega)).mono ?_;rintro e w' ⟨rfl,rfl⟩))
   go_returns;exact⟨rfl,J.o,Only.refl _ _⟩
 ·rw[e];have O:=hid f;clear e f;rcases h with h | ⟨h,W⟩
  all_goals
   go_in
   go_wp2_with (first|(go_at_call 132;refine(kJ _ _ _ j).mono ?_;rintro e w' ⟨rfl,rfl⟩)|(go_at_call 156;refine(vV _ _).mono ?_;rintro e w' ⟨rfl,rfl⟩)|(go_at_call 165;refine(bJ _ _ _ j (by omega) (by omega)).mono ?_;rintro e w' ⟨rfl,rfl⟩))
   refine(bI _ g S _ _ J.o).mono ?_;rintro e w1 ⟨rfl,s1,I⟩;have G:=hnd s1 I;clear s1 I;go_wp2_with fail
   go_returns;exact⟨rfl,by rw[O.o];exact G.o.1,G.o.2⟩
theorem Only.drew{g a w}(h:Only g a w):Only g a w.drew:=h.trans ⟨(lK 0 w).drew.os,(lK 0 w).drew.tape,(lK 0 w).drew.output,rfl,λ_ _=>rfl⟩
theorem UD w g S(U:aW w g S):
  Calls prog 155 #[.pointer (some ⟨g,0,none⟩)] w λe w'=>e=.returned (.tuple #[])/\aW w' g (λc=>!S c)/\Below g w w'/\w'.heap.size=w.heap.size/\(∀k,k≠g->w'.heap[k]?=w.heap[k]?):=by
 have Z:Hid (aW w g (Dc S 0)):=by
                        show aW _ _ _;have:Dc S 0=S:=by funext c;simp[Dc]
                        rw[this];exact U
 clear U
 go_in
 go_wp2_with fail
 go_loopw [2] (λi wr=>∃k:Nat,k<=256/\i=.int .i64 k/\aW wr g (Dc S k)/\Below g w wr/\wr.heap.size=w.heap.size/\(∀j,j≠g->wr.heap[j]?=w.heap[j]?)) (λi _=>256-(intOf i).toNat)
 case atStart=>exact⟨0,by omega,rfl,Z.o,lK _ _,rfl,λ_ _=>rfl⟩
 case round =>
  obtain⟨k,a2,rfl,G,J,hz,h⟩:=hrel;have O:=hid G;have I:=hnd J (And.intro hz h);by_cases W:k<256
  ·have a4:wr.cell? ⟨g,k,none⟩=some (.bool (S k)):=by rw[(zB G).1,Lx _ _ W];simp[Dc]
   have a3:=(zB G).2 k;clear G J hz h;generalize Y:S k=q at *;have a0:=hid Y;clear Y;go_wp2_with fail
   go_region
   go_wp2_with fail
   go_roundw
   case rel =>
    refine⟨k+1,by omega,by go_num,?_,(I.o.1.setCell (p:=⟨g,k,none⟩) (lF _) _).drew,?_,λj h=>?_⟩
    ·have:=lX wr g k _ _ (.bool !q) O.o;rw[RU (Dc S k) (Dc S (k+1)) k (!q) W (λc=>by rw[Ud,a0.o])]at this;exact this
    ·show(wr.setCell ⟨g,k,none⟩ (.bool !q)).heap.size=_;rw[<-I.o.2.1];simp[World.setCell]
    ·show(wr.setCell ⟨g,k,none⟩ (.bool !q)).heap[j]?=_;rw[lS _ _ _ _ h];exact I.o.2.2 j h
   case measure=>simp[intOf];omega
  ·have e:k=256:=by omega
   subst e;clear G J hz h;go_wp2_with fail
   go_returns;refine⟨rfl,?_,I.o⟩;have:=O.o;unfold aW at this |-;rw[NZ (T:=λc=>!S c) (λc a1=>by simp[Dc,a1])]at this;exact this
end Go.Proofs.YtebpgfodelggoaaGreat
namespace Mt
theorem Wy(p)(i)(G:0<=i)(j:(jS p i).2.2.1≠0):i<(p.size:Int):=by
 rcases Int.lt_or_le i p.size with h | h
 ·exact h
 ·have e:=BJ p i (lZ h);exfalso;apply j;have c:zF p i=(0,0):=by unfold zF;rw[lG (gG (by omega))]
  unfold jS;rw[lC (by omega),lG (by rw[c])]
theorem LA(p)(b)(j:0<=b)(G:zI p b≠93)(h:(jS p b).2.2.1≠0):jR p b=jR p (b+(jS p b).2.2.1):=by
 have:=Wy p b j h;rw[fE,lC (by omega),lC G,lC h]
theorem LB(p)(b)(j:zI p b≠93)(G:(jS p b).2.2.1=0):jR p b=-1:=by
 rw[fE];by_cases h:(p.size:Int)<=b
 ·rw[lG h]
 ·rw[lC h,lC j,lG G]
theorem MS p b(h:zI p b=93):jR p b=b:=by
 have:=uR p b (by omega);rw[fE,lC (by omega),lG h]
def Half(p:BA)(a b:Int)(S:bP):Prop:=jR p b=jR p a/\(jR p a≠-1->∀c:Nat,(S c||yF p b (jR p a) (c:Int))=yF p a (jR p a) (c:Int))
theorem half_start p a:Half p a a none0:=⟨rfl,λ_ c=>by simp[none0]⟩
theorem XU{p}{a b}{S}(h:Half p a b S)(G:0<=b)(I:zI p b≠93)(j:(jS p b).2.2.1≠0):Half p a (b+(jS p b).2.2.1) (Pd p b S):=by
 have e:=LA p b G I j;refine⟨by rw[<-e];exact h.1,λJ c=>?_⟩;have W:=qy p b;have O:=FX p ((p.size:Int)-(b+(jS p b).2.2.1)+1).toNat (b+(jS p b).2.2.1) (by omega) (by omega);have U:=h.1;rw[<-h.2 J c];exact(zCA p b (jR p a) S c (by omega) j).symm
theorem zAO{p a b S}(j:Half p a b S)(I:zI p b=93):jR p a=b/\∀c,S c=yF p a b (c):=by
 have e:=MS p b I;have G:=j.1;have g:=uR p b (by omega);have h:jR p a=b:=by rw[<-G,e]
 refine⟨h,λc=>?_⟩;have:=j.2 (by omega) c;rw[h,AB]at this;simpa using this
end Mt
namespace Go.Proofs.YtebpgfodelggoaaGreat
open Go.RowKit _root_.Go.Proofs.Tryz Mt
def Wz(p:BA)(i:Int):PT × Int:=if(yI p i).2 then(jQ (yI p i).1,0)else(mJ,3)
theorem zAP(p)(i)(h:jR p (xU p i)=-1):Wz p i=(mJ,3):=by
 have e:(yI p i).2=false:=by unfold yI;rw[lG (gG h)]
 unfold Wz;rw[e];rfl
theorem XV(p)(i)(h:jR p (xU p i)=xU p i):Wz p i=(mJ,3):=by
 have e:(yI p i).2=false:=by unfold yI;rw[lG (lZ h)]
 unfold Wz;rw[e];rfl
theorem zAQ(p)(i b)(h:jR p (xU p i)=b)(j:b≠-1)(G:b≠xU p i):Wz p i=(⟨5,b+1,0,0,0,0,0,all p (xU p i) b (decide (zI p (i+1)=94))⟩,0):=by
 have e:yI p i=(⟨1,i,b+1,0,0,0,all p (xU p i) b (decide (zI p (i+1)=94))⟩,true):=by
  unfold yI;rw[h,lC (by rintro(x | x);exact j x;exact G x)]
 unfold Wz;rw[e];rfl
theorem zAR p a b S(h:∀c:Nat,S c=yF p a b c):yZ S 256=all p a b false/\yZ (λc=>!S c) 256=all p a b true:=by
 rw[<-Ej,<-Ej];exact⟨zi (λc _=>by rw[h c];simp),zi (λc _=>by rw[h c];simp)⟩
theorem MU(p:BA) i w(I:p.size<=64)(d4:0<=i)(d5:i<=100):
  Calls prog 137 #[.string p,.int .i64 i] w λe w'=>e=.returned (.tuple #[jv (Wz p i).1,.int .i64 (Wz p i).2])/\Below w.heap.size w w':=by
 obtain⟨a,b2⟩:∃a,a=xU p i:=⟨_,rfl⟩
 cases c4:(zI p (i+1)==94)
 all_goals
  have a5:a=if(zI p (i+1)==94)then i+1+1 else i+1:=by
   rw[b2];unfold xU;by_cases x:zI p (i+1)=94 <;> simp[x]
   omega
  rw[c4]at a5;simp only[wS,wX,sH]at a5;have d2:0<=a:=by omega
  have d3:a<=102:=by omega
  have Y:=hid b2;have b7:=hid c4;obtain⟨R,b1⟩:∃R,R=Wz p i:=⟨_,rfl⟩
  rw[<-b1];have a9:=hid b1;clear b1 b2
  go_in
  go_wp2_with (first|(go_at_call 132;refine(kJ _ _ _ I).mono ?_;rintro e w' ⟨rfl,rfl⟩))
  rw[<-a5];clear a5
  go_loopw [6] (λb wr=>∃(k:Int) (S:bP),a<=k/\k<=110/\b=.int .i64 k/\aW wr (w.heap.size+1) S/\Half p a k S/\wr.heap[w.heap.size]?=some (.cells (pQ mJ) 174 (0,0))/\wr.heap.size=w.heap.size+2/\Below w.heap.size w wr) (λb _=>(110-intOf b).toNat)
  case atStart =>
   exact⟨a,none0,by omega,by omega,rfl,by exact Il _ _,half_start p a,by exact nN _ _ _,by simp,by go_grown⟩
  case round =>
   obtain⟨k,S,d6,d7,rfl,c3,c2,hz,c8,c0⟩:=hrel;have a4:=hid c3;have a7:=hid c2;have Z:=hid c0;have a0:=hid hz;clear c3 c2 c0 hz;cases b3:(zI p k != 93)
   ·have E:=zAO a7.o (by simpa using b3);have a3:=hid E;clear E;cases c1:(k==a)
    ·have W:Hid (R=(⟨5,k+1,0,0,0,0,0,all p a k (decide (zI p (i+1)=94))⟩,0)):=by
      show _=_;rw[a9.o,zAQ p i k (by rw[<-Y.o];exact a3.o.1) (by omega) (by rw[<-Y.o];simpa using c1),Y.o]
     go_wp2_with (first|(go_at_call 132;refine(kJ _ _ _ I).mono ?_;rintro e w' ⟨rfl,rfl⟩))
     first
     | (
      refine(UD wr (w.heap.size+1) S a4.o).mono ?_;rintro e w1 ⟨rfl,s1,b8,e0,h⟩
      have b0:Hid (R=(⟨5,k+1,0,0,0,0,0,yZ (λc=>!S c) 256⟩,0)):=by
       show _=_;rw[W.o,(zAR p a k S a3.o.2).2,show decide (zI p (i+1)=94)=true by simpa using b7.o]
      have a6:=hnd s1 (And.intro (Z.o.trans (b8.mono (by omega))) ((h _ (by omega)).trans a0.o));clear s1 b8 h;generalize c7:(λc=>!S c)=X at *;clear c7;go_wp2_with fail
      have a2:=Gm w1 (w.heap.size+1) _ a6.o.1;generalize yZ X 256=T at *;refine a2.mono ?_;clear a2;rintro e c9 ⟨rfl,j⟩;have a1:=hnd ((j.block _ (by omega)).trans a6.o.2.2) (a6.o.2.1.trans (j.mono (by omega)));clear j;go_wp2_with (refine zN 174 8 qF (by rfl) (.tmp 4) (.tmp 45) (by rfl) w.heap.size (pQ ⟨5,k+1,0,0,0,0,0,T⟩) (by rfl) (by rfl) a1.o.1 (by rfl) (by rfl) (pR _) ?_;intro b6 J b4 b5 O)
      refine lT (qA 174 8 underlying174 rfl qF rfl (by rfl) J (by rfl)) rfl ⟨by rw[b0.o];rfl,?_⟩;exact a1.o.2.trans (O _ (lF _)))
     | (
      have b0:Hid (R=(⟨5,k+1,0,0,0,0,0,yZ S 256⟩,0)):=by
       show _=_;rw[W.o,(zAR p a k S a3.o.2).1,show decide (zI p (i+1)=94)=false by simpa using b7.o]
      have a2:=Gm wr (w.heap.size+1) _ a4.o;generalize yZ S 256=T at *;refine a2.mono ?_;clear a2;rintro e c9 ⟨rfl,j⟩;have a1:=hnd ((j.block _ (by omega)).trans a0.o) (Z.o.trans (j.mono (by omega)));clear j;go_wp2_with (refine zN 174 8 qF (by rfl) (.tmp 4) (.tmp 45) (by rfl) w.heap.size (pQ ⟨5,k+1,0,0,0,0,0,T⟩) (by rfl) (by rfl) a1.o.1 (by rfl) (by rfl) (pR _) ?_;intro b6 J b4 b5 O)
      refine lT (qA 174 8 underlying174 rfl qF rfl (by rfl) J (by rfl)) rfl ⟨by rw[b0.o];rfl,?_⟩;exact a1.o.2.trans (O _ (lF _)))
    ·have W:Hid (R=(mJ,3)):=by
      show _=_;have:k=a:=by simpa using c1
      rw[a9.o];exact XV p i (by rw[<-Y.o,a3.o.1,this])
     go_wp2_with (first|(go_at_call 132;refine(kJ _ _ _ I).mono ?_;rintro e w' ⟨rfl,rfl⟩)|(refine zN 174 8 qF (by rfl) (.tmp 4) (.tmp 39) (by rfl) w.heap.size (pQ mJ) (by rfl) (by rfl) a0.o (by rfl) (by rfl) (pR _) ?_;intro b6 J b4 b5 O))
     refine lT (qA 174 8 underlying174 rfl qF rfl (by rfl) J (by rfl)) rfl ⟨by rw[W.o];rfl,?_⟩;exact Z.o.trans (O _ (lF _))
   ·cases G:(Oa p k).2
    ·have W:Hid (R=(mJ,3)):=by
      show _=_
      have z:(jS p k).2.2.1=0:=by
       unfold Oa at G;by_cases z:(jS p k).2.2.1=0
       ·exact z
       ·rw[lC z]at G;simp at G
      rw[a9.o];exact zAP p i (by rw[<-Y.o,<-a7.o.1];exact LB p k (by simpa using b3) z)
     go_wp2_with (first|(go_at_call 132;refine(kJ _ _ _ I).mono ?_;rintro e w' ⟨rfl,rfl⟩))
     refine(Gq p k wr (w.heap.size+1) S I (by omega) (by omega) a4.o).mono ?_;rintro e w1 ⟨rfl,s1,h⟩;have U:=hid (Z.o.trans (h.below (by omega)));have c5:=hid ((h.block _ (by omega)).trans a0.o);clear s1 h;go_wp2_with (refine zN 174 8 qF (by rfl) (.tmp 4) (.tmp 34) (by rfl) w.heap.size (pQ mJ) (by rfl) (by rfl) c5.o (by rfl) (by rfl) (pR _) ?_;intro b6 J b4 b5 O)
     refine lT (qA 174 8 underlying174 rfl qF rfl (by rfl) J (by rfl)) rfl ⟨by rw[W.o];rfl,?_⟩;exact U.o.trans (O _ (lF _))
    ·have z:(jS p k).2.2.1≠0:=by
      intro z;unfold Oa at G;rw[lG z]at G;simp at G
     have d0:=qy p k;have d1:=Wy p k (by omega) z
     have a8:Hid (Half p a (Oa p k).1 (FC p k S)/\(Oa p k).1=k+(jS p k).2.2.1):=by
      have b9:(Oa p k).1=k+(jS p k).2.2.1:=by unfold Oa;rw[lC z]
      refine⟨?_,b9⟩;have c6:FC p k S=Pd p k S:=by unfold FC;rw[G,lG rfl]
      rw[b9,c6];exact XU a7.o (by omega) (by simpa using b3) z
     have d8:k<(Oa p k).1:=by rw[a8.o.2];omega
     have d9:(Oa p k).1<=110:=by rw[a8.o.2];omega
     clear z d0 d1;go_wp2_with (first|(go_at_call 132;refine(kJ _ _ _ I).mono ?_;rintro e w' ⟨rfl,rfl⟩))
     refine(Gq p k wr (w.heap.size+1) S I (by omega) (by omega) a4.o).mono ?_;rintro e w1 ⟨rfl,s1,h⟩;have U:Hid (Below w.heap.size w w1/\w1.heap[w.heap.size]?=some (.cells (pQ mJ) 174 (0,0))/\w1.heap.size=w.heap.size+2/\aW w1 (w.heap.size+1) (FC p k S)):=⟨Z.o.trans (h.below (by omega)),(h.block _ (by omega)).trans a0.o,by rw[h.size];exact c8,s1⟩
     clear s1 h;go_wp2_with fail
     go_roundw
     case rel=>exact⟨(Oa p k).1,FC p k S,by omega,by omega,rfl,U.o.2.2.2,a8.o.1,U.o.2.1,U.o.2.2.1,U.o.1⟩
     case measure=>simp[intOf];omega
