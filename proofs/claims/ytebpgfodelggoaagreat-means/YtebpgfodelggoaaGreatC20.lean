import Derived.Test.YtebpgfodelggoaaGreatC18
import Derived.Test.YtebpgfodelggoaaGreatC13
import Derived.Test.YtebpgfodelggoaaGreatC05
set_option linter.all false
set_option maxRecDepth 100000
set_option maxHeartbeats 4000000
namespace Go.Proofs.YtebpgfodelggoaaGreat
open Go.RowKit _root_.Go.Proofs.Tryz Mt
theorem Ar{p}{i}(h:jR p (xU p i)=-1):yI p i=(⟨0,0,0,0,0,0,[]⟩,false):=by unfold yI;rw[lG (gG h)]
theorem GA{p}{i}(h:jR p (xU p i)=xU p i):yI p i=(⟨0,0,0,0,0,0,[]⟩,false):=by unfold yI;rw[lG (lZ h)]
theorem JB{p}{i k}(h:jR p (xU p i)=k)(j:0<=k)(G:k≠xU p i):yI p i=(⟨1,i,k+1,0,0,0,all p (xU p i) k (decide (zI p (i+1)=94))⟩,true):=by
 unfold yI;rw[h,lC (by omega)]
theorem Vf(p)(i a)(no)(w)(O:p.size<=64)(b3:0<=i)(b4:i<=64)(a9:(zI p (i+1)==94)=no)(I:Hid (a=xU p i))(a3:a=if no then i+1+1 else i+1):
  Calls prog 79 #[.string p,.int .i64 i] w λe w'=>e=.returned (.tuple #[pY (yI p i).1,.bool (yI p i).2])/\Below w.heap.size w w':=by
 have a6:Hid (decide (zI p (i+1)=94)=no):=by show _=_;rw[<-a9];rfl
 cases no
 ·simp only[sH,wX]at a3;subst a3
  go_in
  go_wp2_with (first|(go_at_call 107;refine(nC _ _ _ O).mono ?_;rintro e w' ⟨rfl,rfl⟩))
  go_loop [8] (λb=>∃k:Nat,i+1<=(k:Int)/\k<=100/\b=.int .i64 k/\jR p (i+1)=jR p k) (λb=>200-(intOf b).toNat)
  case atStart=>exact⟨(i+1).toNat,by omega,by omega,by rw[oN (by omega)],by rw[oN (by omega)]⟩
  case round =>
   obtain⟨k,a7,a8,rfl,a2⟩:=hrel;have H:=hid a2;clear a2;have⟨d1,d2,d3,d4,d5,d6⟩:=qy p k;have h:=fE p k;by_cases W:k<p.size
   ·have Z:Hid (((p[k]'W).toNat:Int)=zI p k):=byte_at p k W;rw[lC (by omega)]at h;cases a1:(((p[k]'W).toNat:Int) != 93)
    ·have J:zI p k=93:=by rw[<-Z.o];simpa using a1
     rw[lG J]at h;have Y:=hid (H.o.trans h);clear h J H;cases U:((k:Int)==i+1)
     ·have G:=JB (p:=p) (i:=i) (k:=k) (by rw[<-I.o];exact Y.o) (by omega) (by rw[<-I.o];simpa using U);rw[<-I.o,a6.o]at G;have j:=hid G;clear G;go_wp2_with (first|(go_at_call 82;refine(Gu _ _ _ _ _ O (by omega) (by omega) (by omega)).mono ?_;rintro e w1 ⟨rfl,a0⟩;obtain⟨a4,a5,b1,b2⟩:=Ap a0;clear a0))
      refine lT (v:=.tuple #[pY ⟨1,i,k+1,0,0,0,all p (i+1) k false⟩,.bool true]) (by simp[results,results79,go_sem,a4,a5,pY]) rfl ⟨by rw[j.o],?_⟩
      go_grown
     ·have G:=GA (p:=p) (i:=i) (by rw[<-I.o,Y.o];simpa using U);have j:=hid G;clear G;go_wp2_with fail
      go_returns;exact⟨by rw[j.o];rfl,by go_grown⟩
    ·have J:¬zI p k=93:=by rw[<-Z.o];simpa using a1
     rw[lC J]at h;clear J;cases hz:((jS p k).2.2.1==0)
     ·rw[lC (by simpa using hz)]at h
      have b0:1<=(jS p k).2.2.1:=by
       have:(jS p k).2.2.1≠0:=by simpa using hz
       omega
      have R:=hid (H.o.trans h);clear h H;go_wp2_with (first|(go_at_call 110;refine(dh _ _ _ O (by omega) (by omega)).mono ?_;rintro e w' ⟨rfl,rfl⟩))
      go_round
      case rel=>exact⟨((k:Int)+(jS p k).2.2.1).toNat,by omega,by omega,by rw[oN (by omega)],by rw[oN (by omega)];exact R.o⟩
      case measure=>simp[intOf];omega
     ·rw[lG (by simpa using hz)]at h;have j:Hid (yI p i=(⟨0,0,0,0,0,0,[]⟩,false)):=Ar (by rw[<-I.o];exact H.o.trans h);clear h H;go_wp2_with (first|(go_at_call 110;refine(dh _ _ _ O (by omega) (by omega)).mono ?_;rintro e w' ⟨rfl,rfl⟩))
      go_returns;exact⟨by rw[j.o];rfl,by go_grown⟩
   ·rw[lG (by omega)]at h;have j:Hid (yI p i=(⟨0,0,0,0,0,0,[]⟩,false)):=Ar (by rw[<-I.o];exact H.o.trans h);clear h H;cases U:((k:Int)==i+1)
    all_goals
     go_wp2_with fail
     go_returns;exact⟨by rw[j.o];rfl,by go_grown⟩
 ·simp only[wS]at a3;subst a3
  go_in
  go_wp2_with (first|(go_at_call 107;refine(nC _ _ _ O).mono ?_;rintro e w' ⟨rfl,rfl⟩))
  go_loop [8] (λb=>∃k:Nat,i+1+1<=(k:Int)/\k<=100/\b=.int .i64 k/\jR p (i+1+1)=jR p k) (λb=>200-(intOf b).toNat)
  case atStart=>exact⟨(i+1+1).toNat,by omega,by omega,by rw[oN (by omega)],by rw[oN (by omega)]⟩
  case round =>
   obtain⟨k,a7,a8,rfl,a2⟩:=hrel;have H:=hid a2;clear a2;have⟨d1,d2,d3,d4,d5,d6⟩:=qy p k;have h:=fE p k;by_cases W:k<p.size
   ·have Z:Hid (((p[k]'W).toNat:Int)=zI p k):=byte_at p k W;rw[lC (by omega)]at h;cases a1:(((p[k]'W).toNat:Int) != 93)
    ·have J:zI p k=93:=by rw[<-Z.o];simpa using a1
     rw[lG J]at h;have Y:=hid (H.o.trans h);clear h J H;cases U:((k:Int)==i+1+1)
     ·have G:=JB (p:=p) (i:=i) (k:=k) (by rw[<-I.o];exact Y.o) (by omega) (by rw[<-I.o];simpa using U);rw[<-I.o,a6.o]at G;have j:=hid G;clear G;go_wp2_with (first|(go_at_call 82;refine(Gu _ _ _ _ _ O (by omega) (by omega) (by omega)).mono ?_;rintro e w1 ⟨rfl,a0⟩;obtain⟨a4,a5,b1,b2⟩:=Ap a0;clear a0))
      refine lT (v:=.tuple #[pY ⟨1,i,k+1,0,0,0,all p (i+1+1) k true⟩,.bool true]) (by simp[results,results79,go_sem,a4,a5,pY]) rfl ⟨by rw[j.o],?_⟩
      go_grown
     ·have G:=GA (p:=p) (i:=i) (by rw[<-I.o,Y.o];simpa using U);have j:=hid G;clear G;go_wp2_with fail
      go_returns;exact⟨by rw[j.o];rfl,by go_grown⟩
    ·have J:¬zI p k=93:=by rw[<-Z.o];simpa using a1
     rw[lC J]at h;clear J;cases hz:((jS p k).2.2.1==0)
     ·rw[lC (by simpa using hz)]at h
      have b0:1<=(jS p k).2.2.1:=by
       have:(jS p k).2.2.1≠0:=by simpa using hz
       omega
      have R:=hid (H.o.trans h);clear h H;go_wp2_with (first|(go_at_call 110;refine(dh _ _ _ O (by omega) (by omega)).mono ?_;rintro e w' ⟨rfl,rfl⟩))
      go_round
      case rel=>exact⟨((k:Int)+(jS p k).2.2.1).toNat,by omega,by omega,by rw[oN (by omega)],by rw[oN (by omega)];exact R.o⟩
      case measure=>simp[intOf];omega
     ·rw[lG (by simpa using hz)]at h;have j:Hid (yI p i=(⟨0,0,0,0,0,0,[]⟩,false)):=Ar (by rw[<-I.o];exact H.o.trans h);clear h H;go_wp2_with (first|(go_at_call 110;refine(dh _ _ _ O (by omega) (by omega)).mono ?_;rintro e w' ⟨rfl,rfl⟩))
      go_returns;exact⟨by rw[j.o];rfl,by go_grown⟩
   ·rw[lG (by omega)]at h;have j:Hid (yI p i=(⟨0,0,0,0,0,0,[]⟩,false)):=Ar (by rw[<-I.o];exact H.o.trans h);clear h H;cases U:((k:Int)==i+1+1)
    all_goals
     go_wp2_with fail
     go_returns;exact⟨by rw[j.o];rfl,by go_grown⟩
theorem Yu(p:BA) i w(I:p.size<=64)(j:0<=i)(G:i<=64):
  CT 79 #[.string p,.int .i64 i] w λe w'=>e=.returned (.tuple #[pY (yI p i).1,.bool (yI p i).2])/\Below w.heap.size w w':=by
 refine Vf p i (xU p i) (zI p (i+1)==94) w I j G rfl rfl ?_;unfold xU;by_cases h:zI p (i+1)=94
 ·rw[lG h,lG (by simpa using h)];omega
 ·rw[lC h,lC (by simpa using h)]
theorem zDo:(prog.info? 97).map (·.size)=some 7:=by kernel_rfl
theorem pG{G}{O}{j}{a}{w}{Q}(a4:j.guard=none)(x y)(a5:j.op=.store 97 x y)
  (b) (t) (a6:a.eval x=.pointer (some ⟨b,0,none⟩)) (a7:a.eval y=pY t) {B:Array Value} (I:∀o,w.cell? ⟨b,o,none⟩=B[o]?) (J:∀o,w.frozen? ⟨b,o,none⟩=false) (a3:B.size=7)
  (U:∀h,(∀o,h.cell? ⟨b,o,none⟩=#[Value.int .i64 t.kind,.int .i64 t.jK,.int .i64 t.to,.int .i64 t.n,.int .i64 t.m,.int .i64 t.jB,.string ⟨t.set.toArray⟩][o]?)->(∀o,h.frozen? ⟨b,o,none⟩=false)->
   (∀c o,c≠b->h.cell? ⟨c,o,none⟩=w.cell? ⟨c,o,none⟩)->(∀c o,h.frozen? ⟨c,o,none⟩=w.frozen? ⟨c,o,none⟩)->h.heap.size=w.heap.size->(∀L,L<=b->Below L w h)->
   wpList prog G Q O (a.put j.dst undef) h):wpList prog G Q (j::O) a w:=by
 obtain⟨h,e,W,Y,Z,a0,a1,a2⟩:=Ci I J #[Value.int .i64 t.kind,.int .i64 t.jK,.int .i64 t.to,.int .i64 t.n,.int .i64 t.m,.int .i64 t.jB,.string ⟨t.set.toArray⟩] (by simp[a3]);refine wpList_store_mid a4 97 x y a5 b 0 #[Value.int .i64 t.kind,.int .i64 t.jK,.int .i64 t.to,.int .i64 t.n,.int .i64 t.m,.int .i64 t.jB,.string ⟨t.set.toArray⟩] a6 a7 (vC I J 7 (by omega)) zDo (by simp[Value.oneCell']) ?_;rw[<-e];exact U h W Y Z a0 a1 a2
theorem Vp(p)(k:Nat)(w)(h:k<p.size)(a3:p.size<=64)(a7:(((p[k]'h).toNat:Int)==124)=false)(a9:(((p[k]'h).toNat:Int)==41)=false)(b0:(((p[k]'h).toNat:Int)==94)=false)(b1:(((p[k]'h).toNat:Int)==36)=false)(b2:(((p[k]'h).toNat:Int)==92)=false)(b3:(((p[k]'h).toNat:Int)==91)=false)(b4:(((p[k]'h).toNat:Int)==40)=false)(b5:(((p[k]'h).toNat:Int)==42)=false)(b6:(((p[k]'h).toNat:Int)==43)=false)(a8:(((p[k]'h).toNat:Int)==63)=true)(b)(a2:(jN p k).2=b):
  Calls prog 48 #[.string p,.int .i64 k] w λe w'=>e=.returned (.tuple #[pY (jN p k).1,.int .i64 (if b then 0 else 4)])/\Below w.heap.size w w':=by
 generalize j:jN p k=T at *;have a1:=hid j;clear j;cases b
 all_goals
  go_in
  go_wp2_with fail
  refine(Cv _ _ _ a3 (by omega) (by omega)).mono ?_;rw[a1.o];rintro e w1 ⟨rfl,G⟩;simp only[a2];obtain⟨I,J,O,U,b7,W⟩:=rM G;clear G;go_wp2_with (refine pG rfl (.tmp 6) (.tmp 68) (by rfl) (w.heap.size+1) T.1 (by rfl) (by rfl) O U (by rfl) ?_;intro a6 a4 a5 Y Z b8 a0;have s0:=λo=>(Y w.heap.size o (by omega)).trans (I o);have s1:=λo=>(Z w.heap.size o).trans (J o);have s2:Below w.heap.size w a6:=W.trans (a0 _ (by omega));clear Y Z a0 I J O U W)
  refine lT (v:=.tuple #[pY T.1,_]) (by simp[results,results48,go_sem,s0,s1,a4,a5,pY]) rfl ⟨rfl,?_⟩
  go_grown
theorem SB(p)(k:Nat)(w)(h:k<p.size)(a3:p.size<=64)(a7:(((p[k]'h).toNat:Int)==124)=false)(b0:(((p[k]'h).toNat:Int)==41)=false)(b1:(((p[k]'h).toNat:Int)==94)=false)(b2:(((p[k]'h).toNat:Int)==36)=false)(b3:(((p[k]'h).toNat:Int)==92)=false)(b4:(((p[k]'h).toNat:Int)==91)=false)(b5:(((p[k]'h).toNat:Int)==40)=false)(b6:(((p[k]'h).toNat:Int)==42)=false)(b7:(((p[k]'h).toNat:Int)==43)=false)(a8:(((p[k]'h).toNat:Int)==63)=false)(a9:(((p[k]'h).toNat:Int)==123)=true)(b)(a2:(jN p k).2=b):
  Calls prog 48 #[.string p,.int .i64 k] w λe w'=>e=.returned (.tuple #[pY (jN p k).1,.int .i64 (if b then 0 else 4)])/\Below w.heap.size w w':=by
 generalize j:jN p k=T at *;have a1:=hid j;clear j;cases b
 all_goals
  go_in
  go_wp2_with fail
  refine(Cv _ _ _ a3 (by omega) (by omega)).mono ?_;rw[a1.o];rintro e w1 ⟨rfl,G⟩;simp only[a2];obtain⟨I,J,O,U,b8,W⟩:=rM G;clear G;go_wp2_with (refine pG rfl (.tmp 6) (.tmp 68) (by rfl) (w.heap.size+1) T.1 (by rfl) (by rfl) O U (by rfl) ?_;intro a6 a4 a5 Y Z b9 a0;have s0:=λo=>(Y w.heap.size o (by omega)).trans (I o);have s1:=λo=>(Z w.heap.size o).trans (J o);have s2:Below w.heap.size w a6:=W.trans (a0 _ (by omega));clear Y Z a0 I J O U W)
  refine lT (v:=.tuple #[pY T.1,_]) (by simp[results,results48,go_sem,s0,s1,a4,a5,pY]) rfl ⟨rfl,?_⟩
  go_grown
def uz(f:Hz):Array Value:=(Value.bool f.ok::(f.at'.map (Value.int .i64)++[Value.int .i64 f.steps])).toArray
theorem xC f(h:f.at'.length=20):(uz f).size=22:=by simp[uz,h]
theorem sJ f:(uz f).all (·.oneCell')=true:=by
 unfold uz;rw[wH,iO];intro u h;simp only[oH,gV,uY,sS,wY]at h;rcases h with rfl | ⟨i,_,rfl⟩ | rfl <;> rfl
theorem Xa b l u i v(h:i<l.length):(uz ⟨b,l,u⟩).setIfInBounds (1+i) (.int .i64 v)=uz ⟨b,l.set i v,u⟩:=by
 unfold uz;dsimp only;rw[lD,show 1+i=i+1 by omega,lI,iL _ _ (by simpa using h),uW]
theorem zCo b l u i(h:i<l.length):(uz ⟨b,l,u⟩)[1+i]?=some (.int .i64 (l.getD i 0)):=by
 unfold uz;dsimp only;rw[oI,show 1+i=i+1 by omega,gI,gK (by simpa using h),gN,lH,lN h];rfl
theorem dH:(prog.info? 29).map (·.size)=some 22:=by kernel_rfl
