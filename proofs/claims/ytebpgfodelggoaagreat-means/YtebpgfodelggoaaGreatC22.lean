import Derived.Test.YtebpgfodelggoaaGreatC19
import Derived.Test.YtebpgfodelggoaaGreatC20
set_option linter.all false
set_option maxRecDepth 100000
set_option maxHeartbeats 2000000
namespace Go.Proofs.YtebpgfodelggoaaGreat
open Go.RowKit _root_.Go.Proofs.Tryz Mt
theorem EC l i v w(h:nH w v l)(U:l.length<=64)(G:i<l.length):
  Calls prog 86 #[v,.int .i64 i] w λe w'=>e=.returned (.int .i64 (after l i))/\w=w':=by
 have Z:=Fa l i (by omega);have J:Hid (nH w v l):=h;rcases fK h with ⟨rfl,ao,cap,rfl⟩ | ⟨a1,g,cap,rfl,Y,a0,j⟩
 ·simp at G
 ·have W:w.cell? ⟨g,i*7,none⟩=some (.int .i64 (l.getD i zZ).kind):=j i 0 G (by omega);clear j h;have e:after l i=if(l.getD i zZ).kind=6 then jO l i+1 else i+1:=rfl
  rw[e];clear e;generalize O:(l.getD i zZ).kind=T at *;clear O;cases I:(T==6)
  ·rw[lC (by simpa using I)]
   go_in
   go_wp2_with fail
   go_ret;exact⟨rH (by omega),rfl⟩
  ·rw[lG (by simpa using I)]
   go_in
   go_wp2_with (first|(go_at_call 85;refine(DW l _ _ _ J.o U (by omega)).mono ?_;rintro e w' ⟨rfl,rfl⟩))
   go_ret;exact⟨rH (by omega),rfl⟩
theorem Ku l(a b:Nat) v w(G:nH w v l)(a2:l.length<=64)(a3:a<=100)(a0:b<=l.length):
  Calls prog 52 #[v,.int .i64 a,.int .i64 b] w λe w'=>e=.returned (.int .i64 (bar l a b))/\w=w':=by
 have Y:=hid G;rcases fK G with ⟨rfl,ao,cap,rfl⟩ | ⟨b1,g,cap,rfl,a5,a8,O⟩
 ·have a1:b=0:=by simpa using a0
  subst a1;clear G;have e:bar [] a 0=0:=by rw[cZ,lG (by omega)]
  rw[e];clear e
  go_in
  go_wp2_with fail
  refine wM 1 ?_;rw[iM];go_wp2_with fail
  go_ret;exact⟨rfl,rfl⟩
 ·have W:Hid (∀k j,k<l.length->j<7->w.cell? ⟨g,k*7+j,none⟩=(dO (l.getD k zZ))[j]?):=O;clear O G
  go_in
  go_wp2_with fail
  go_loop [7] (λi=>∃k:Nat,k<=200/\i=.int .i64 k/\bar l a b=bar l k b) (λi=>b-(intOf i).toNat)
  case atStart=>exact⟨a,by omega,rfl,rfl⟩
  case round =>
   obtain⟨k,a9,rfl,U⟩:=hrel;have H:Hid (bar l a b=bar l k b):=U;clear U;by_cases b0:k<b
   ·have a4:w.cell? ⟨g,k*7,none⟩=some (.int .i64 (l.getD k zZ).kind):=W.o k 0 (by omega) (by omega);have a7:=Fa l k (by omega);have a6:=pz l k
    have h:bar l a b=if(l.getD k zZ).kind=5 then k else if(l.getD k zZ).kind=6 then bar l (jO l k+1) b else bar l (k+1) b:=by
     rw[H.o,cZ,lC (by omega)];rfl
    generalize Z:(l.getD k zZ).kind=T at *;clear Z H;cases I:(T==5)
    ·rw[lC (by simpa using I)]at h;cases J:(T==6)
     ·rw[lC (by simpa using J)]at h;have R:Hid (bar l a b=bar l (k+1) b):=h;clear h;go_wp2_with fail
      go_round
      case rel=>exact⟨k+1,by omega,by go_num,R.o⟩
      case measure=>simp[intOf];omega
     ·rw[lG (by simpa using J)]at h;have R:Hid (bar l a b=bar l (jO l k+1) b):=h;clear h;go_wp2_with (first|(go_at_call 85;refine(DW l _ _ _ Y.o a2 (by omega)).mono ?_;rintro e w' ⟨rfl,rfl⟩))
      go_round
      case rel=>exact⟨jO l k+1,by omega,by go_num,R.o⟩
      case measure=>simp[intOf];omega
    ·rw[lG (by simpa using I)]at h;have R:Hid (bar l a b=k):=h;clear h;go_wp2_with fail
     go_ret;exact⟨rH (by rw[R.o]),rfl⟩
   ·have R:Hid (bar l a b=b):=by show _=_;rw[H.o,cZ,lG (by omega)]
    clear H;go_wp2_with fail
    go_ret;exact⟨rH (by rw[R.o]),rfl⟩
theorem Gd(p:BA) k w(h:k<p.size)(G:p.size<=64)(j:(((p[k]'h).toNat:Int)==124)=true):
  Calls prog 48 #[.string p,.int .i64 k] w λe w'=>e=.returned (.tuple #[pY ⟨5,k,k+1,0,0,0,[]⟩,.int .i64 0])/\Below w.heap.size w w':=by
 go_in
 go_wp2_with fail
 go_returns;exact⟨rfl,by go_grown⟩
theorem BQ(p:BA) k w(h:k<p.size)(I:p.size<=64)(j:(((p[k]'h).toNat:Int)==124)=false)(G:(((p[k]'h).toNat:Int)==41)=true):
  Calls prog 48 #[.string p,.int .i64 k] w λe w'=>e=.returned (.tuple #[pY ⟨7,k,k+1,0,0,0,[]⟩,.int .i64 0])/\Below w.heap.size w w':=by
 go_in
 go_wp2_with fail
 go_returns;exact⟨rfl,by go_grown⟩
theorem YE(p:BA) k w(h:k<p.size)(J:p.size<=64)(j:(((p[k]'h).toNat:Int)==124)=false)(G:(((p[k]'h).toNat:Int)==41)=false)(I:(((p[k]'h).toNat:Int)==94)=true):
  Calls prog 48 #[.string p,.int .i64 k] w λe w'=>e=.returned (.tuple #[pY ⟨3,k,k+1,0,0,0,[]⟩,.int .i64 0])/\Below w.heap.size w w':=by
 go_in
 go_wp2_with fail
 go_returns;exact⟨rfl,by go_grown⟩
theorem YF(p:BA) k w(h:k<p.size)(O:p.size<=64)(j:(((p[k]'h).toNat:Int)==124)=false)(G:(((p[k]'h).toNat:Int)==41)=false)(I:(((p[k]'h).toNat:Int)==94)=false)(J:(((p[k]'h).toNat:Int)==36)=true):
  Calls prog 48 #[.string p,.int .i64 k] w λe w'=>e=.returned (.tuple #[pY ⟨4,k,k+1,0,0,0,[]⟩,.int .i64 0])/\Below w.heap.size w w':=by
 go_in
 go_wp2_with fail
 go_returns;exact⟨rfl,by go_grown⟩
theorem Vm(p)(k:Nat)(w)(h:k<p.size)(a3:p.size<=64)(a7:(((p[k]'h).toNat:Int)==124)=false)(a8:(((p[k]'h).toNat:Int)==41)=false)(a9:(((p[k]'h).toNat:Int)==94)=false)(b0:(((p[k]'h).toNat:Int)==36)=false)(b1:(((p[k]'h).toNat:Int)==92)=false)(b2:(((p[k]'h).toNat:Int)==91)=true)(b)(a2:(yI p k).2=b):
  Calls prog 48 #[.string p,.int .i64 k] w λe w'=>e=.returned (.tuple #[pY (yI p k).1,.int .i64 (if b then 0 else 3)])/\Below w.heap.size w w':=by
 generalize j:yI p k=T at *;have a1:=hid j;clear j;cases b
 all_goals
  go_in
  go_wp2_with fail
  refine(Yu _ _ _ a3 (by omega) (by omega)).mono ?_;rw[a1.o];rintro e w1 ⟨rfl,G⟩;simp only[a2];obtain⟨I,J,O,U,b3,W⟩:=rM G;clear G;go_wp2_with (refine pG rfl (.tmp 6) (.tmp 49) (by rfl) (w.heap.size+1) T.1 (by rfl) (by rfl) O U (by rfl) ?_;intro a6 a4 a5 Y Z b4 a0;have s0:=λo=>(Y w.heap.size o (by omega)).trans (I o);have s1:=λo=>(Z w.heap.size o).trans (J o);have s2:Below w.heap.size w a6:=W.trans (a0 _ (by omega));clear Y Z a0 I J O U W)
  refine lT (v:=.tuple #[pY T.1,_]) (by simp[results,results48,go_sem,s0,s1,a4,a5,pY]) rfl ⟨rfl,?_⟩
  go_grown
theorem En(p)(k:Nat)(w)(h:k<p.size)(a3:p.size<=64)(a7:(((p[k]'h).toNat:Int)==124)=false)(a8:(((p[k]'h).toNat:Int)==41)=false)(a9:(((p[k]'h).toNat:Int)==94)=false)(b0:(((p[k]'h).toNat:Int)==36)=false)(b1:(((p[k]'h).toNat:Int)==92)=false)(b2:(((p[k]'h).toNat:Int)==91)=false)(b3:(((p[k]'h).toNat:Int)==40)=true)(b)(a2:(kU p k).2=b):
  Calls prog 48 #[.string p,.int .i64 k] w λe w'=>e=.returned (.tuple #[pY (kU p k).1,.int .i64 (if b then 0 else 5)])/\Below w.heap.size w w':=by
 generalize j:kU p k=T at *;have a1:=hid j;clear j;cases b
 all_goals
  go_in
  go_wp2_with fail
  refine(Sc _ _ _ a3 (by omega) (by omega)).mono ?_;rw[a1.o];rintro e w1 ⟨rfl,G⟩;simp only[a2];obtain⟨I,J,O,U,b4,W⟩:=rM G;clear G;go_wp2_with (refine pG rfl (.tmp 6) (.tmp 57) (by rfl) (w.heap.size+1) T.1 (by rfl) (by rfl) O U (by rfl) ?_;intro a6 a4 a5 Y Z b5 a0;have s0:=λo=>(Y w.heap.size o (by omega)).trans (I o);have s1:=λo=>(Z w.heap.size o).trans (J o);have s2:Below w.heap.size w a6:=W.trans (a0 _ (by omega));clear Y Z a0 I J O U W)
  refine lT (v:=.tuple #[pY T.1,_]) (by simp[results,results48,go_sem,s0,s1,a4,a5,pY]) rfl ⟨rfl,?_⟩
  go_grown
theorem Vn(p)(k:Nat)(w)(h:k<p.size)(a3:p.size<=64)(a7:(((p[k]'h).toNat:Int)==124)=false)(a8:(((p[k]'h).toNat:Int)==41)=false)(a9:(((p[k]'h).toNat:Int)==94)=false)(b0:(((p[k]'h).toNat:Int)==36)=false)(b1:(((p[k]'h).toNat:Int)==92)=false)(b2:(((p[k]'h).toNat:Int)==91)=false)(b3:(((p[k]'h).toNat:Int)==40)=false)(b4:(((p[k]'h).toNat:Int)==42)=true)(b)(a2:(jN p k).2=b):
  Calls prog 48 #[.string p,.int .i64 k] w λe w'=>e=.returned (.tuple #[pY (jN p k).1,.int .i64 (if b then 0 else 4)])/\Below w.heap.size w w':=by
 generalize j:jN p k=T at *;have a1:=hid j;clear j;cases b
 all_goals
  go_in
  go_wp2_with fail
  refine(Cv _ _ _ a3 (by omega) (by omega)).mono ?_;rw[a1.o];rintro e w1 ⟨rfl,G⟩;simp only[a2];obtain⟨I,J,O,U,b5,W⟩:=rM G;clear G;go_wp2_with (refine pG rfl (.tmp 6) (.tmp 68) (by rfl) (w.heap.size+1) T.1 (by rfl) (by rfl) O U (by rfl) ?_;intro a6 a4 a5 Y Z b6 a0;have s0:=λo=>(Y w.heap.size o (by omega)).trans (I o);have s1:=λo=>(Z w.heap.size o).trans (J o);have s2:Below w.heap.size w a6:=W.trans (a0 _ (by omega));clear Y Z a0 I J O U W)
  refine lT (v:=.tuple #[pY T.1,_]) (by simp[results,results48,go_sem,s0,s1,a4,a5,pY]) rfl ⟨rfl,?_⟩
  go_grown
theorem Vo(p)(k:Nat)(w)(h:k<p.size)(a3:p.size<=64)(a7:(((p[k]'h).toNat:Int)==124)=false)(a8:(((p[k]'h).toNat:Int)==41)=false)(a9:(((p[k]'h).toNat:Int)==94)=false)(b0:(((p[k]'h).toNat:Int)==36)=false)(b1:(((p[k]'h).toNat:Int)==92)=false)(b2:(((p[k]'h).toNat:Int)==91)=false)(b3:(((p[k]'h).toNat:Int)==40)=false)(b4:(((p[k]'h).toNat:Int)==42)=false)(b5:(((p[k]'h).toNat:Int)==43)=true)(b)(a2:(jN p k).2=b):
  Calls prog 48 #[.string p,.int .i64 k] w λe w'=>e=.returned (.tuple #[pY (jN p k).1,.int .i64 (if b then 0 else 4)])/\Below w.heap.size w w':=by
 generalize j:jN p k=T at *;have a1:=hid j;clear j;cases b
 all_goals
  go_in
  go_wp2_with fail
  refine(Cv _ _ _ a3 (by omega) (by omega)).mono ?_;rw[a1.o];rintro e w1 ⟨rfl,G⟩;simp only[a2];obtain⟨I,J,O,U,b6,W⟩:=rM G;clear G;go_wp2_with (refine pG rfl (.tmp 6) (.tmp 68) (by rfl) (w.heap.size+1) T.1 (by rfl) (by rfl) O U (by rfl) ?_;intro a6 a4 a5 Y Z b7 a0;have s0:=λo=>(Y w.heap.size o (by omega)).trans (I o);have s1:=λo=>(Z w.heap.size o).trans (J o);have s2:Below w.heap.size w a6:=W.trans (a0 _ (by omega));clear Y Z a0 I J O U W)
  refine lT (v:=.tuple #[pY T.1,_]) (by simp[results,results48,go_sem,s0,s1,a4,a5,pY]) rfl ⟨rfl,?_⟩
  go_grown
theorem zBA(p:BA) k w(h:k<p.size)(G:p.size<=64)(W:(((p[k]'h).toNat:Int)==124)=false)(a1:(((p[k]'h).toNat:Int)==41)=false)(a2:(((p[k]'h).toNat:Int)==94)=false)(a3:(((p[k]'h).toNat:Int)==36)=false)(a4:(((p[k]'h).toNat:Int)==92)=false)(a5:(((p[k]'h).toNat:Int)==91)=false)(a6:(((p[k]'h).toNat:Int)==40)=false)(a7:(((p[k]'h).toNat:Int)==42)=false)(a8:(((p[k]'h).toNat:Int)==43)=false)(Y:(((p[k]'h).toNat:Int)==63)=false)(Z:(((p[k]'h).toNat:Int)==123)=false)(a0:(((p[k]'h).toNat:Int)==46)=true):
  Calls prog 48 #[.string p,.int .i64 k] w λe w'=>e=.returned (.tuple #[pY ⟨1,k,k+1,0,0,0,all p k k true⟩,.int .i64 0])/\Below w.heap.size w w':=by
 go_in
 go_wp2_with (first|(go_at_call 82;refine(Gu _ _ _ _ _ G (by omega) (by omega) (by omega)).mono ?_;rintro e w1 ⟨rfl,j⟩;obtain⟨I,J,O,U,a9,b0⟩:=rM j;clear j))
 refine lT (v:=.tuple #[pY ⟨1,k,k+1,0,0,0,all p k k true⟩,.int .i64 0]) (by simp[results,results48,go_sem,I,J,O,U,pY]) rfl ⟨rfl,?_⟩
 go_grown
theorem SC(p:BA) k(h:k<p.size):p.extract k (k+1)=⟨([UInt8.ofNat (zI p k).toNat]:List UInt8).toArray⟩:=by
 have e:=byte_at p k h;have G:(zI p k).toNat=(p[k]'h).toNat:=by rw[<-e];simp
 rw[G];have I:UInt8.ofNat (p[k]'h).toNat=p[k]'h:=by simp
 rw[I];apply ByteArray.ext;rw[ByteArray.data_extract];apply Array.ext';have j:k<p.data.size:=h;rw[Array.toList_extract];simp[List.extract_eq_take_drop,List.take_one,j];rw[sD j];rfl
theorem YG(p:BA) k w(h:k<p.size)(a3:p.size<=64)(j:(((p[k]'h).toNat:Int)==124)=false)(O:(((p[k]'h).toNat:Int)==41)=false)(U:(((p[k]'h).toNat:Int)==94)=false)(W:(((p[k]'h).toNat:Int)==36)=false)(Y:(((p[k]'h).toNat:Int)==92)=false)(Z:(((p[k]'h).toNat:Int)==91)=false)(a0:(((p[k]'h).toNat:Int)==40)=false)(a1:(((p[k]'h).toNat:Int)==42)=false)(a2:(((p[k]'h).toNat:Int)==43)=false)(G:(((p[k]'h).toNat:Int)==63)=false)(I:(((p[k]'h).toNat:Int)==123)=false)(J:(((p[k]'h).toNat:Int)==46)=false):
  Calls prog 48 #[.string p,.int .i64 k] w λe w'=>e=.returned (.tuple #[pY ⟨1,k,k+1,0,0,0,[UInt8.ofNat (zI p k).toNat]⟩,.int .i64 0])/\Below w.heap.size w w':=by
 have a4:=SC p k h
 go_in
 go_wp2_with fail
 go_returns;exact⟨rfl,by go_grown⟩
theorem zBB(p)(k:Nat)(w)(h:k<p.size)(a3:p.size<=64)(a7:(((p[k]'h).toNat:Int)==124)=false)(a8:(((p[k]'h).toNat:Int)==41)=false)(a9:(((p[k]'h).toNat:Int)==94)=false)(b0:(((p[k]'h).toNat:Int)==36)=false)(b1:(((p[k]'h).toNat:Int)==92)=true)
  (b) (a2:(vM p k).2=b):
  Calls prog 48 #[.string p,.int .i64 k] w λe w'=>e=.returned (.tuple #[pY (vM p k).1,.int .i64 (if b then 0 else 2)])/\Below w.heap.size w w':=by
 generalize j:vM p k=T at *;have a1:=hid j;clear j;cases b
 all_goals
  go_in
  go_wp2_with fail
  refine(Vl _ _ _ a3 (by omega) (by omega)).mono ?_;rw[a1.o];rintro e w1 ⟨rfl,G⟩;simp only[a2];obtain⟨I,J,O,U,b2,W⟩:=rM G;clear G;go_wp2_with (refine pG rfl (.tmp 6) (.tmp 41) (by rfl) (w.heap.size+1) T.1 (by rfl) (by rfl) O U (by rfl) ?_;intro a6 a4 a5 Y Z b3 a0;have s0:=λo=>(Y w.heap.size o (by omega)).trans (I o);have s1:=λo=>(Z w.heap.size o).trans (J o);have s2:Below w.heap.size w a6:=W.trans (a0 _ (by omega));clear Y Z a0 I J O U W)
  refine lT (v:=.tuple #[pY T.1,_]) (by simp[results,results48,go_sem,s0,s1,a4,a5,pY]) rfl ⟨rfl,?_⟩
  go_grown
theorem SE(p:BA) i w(J:p.size<=64)(a7:0<=i)(a8:i<(p.size:Int)):
  CT 48 #[.string p,.int .i64 i] w λe w'=>e=.returned (.tuple #[pY (kS p i).1,.int .i64 (kS p i).2])/\Below w.heap.size w w':=by
 obtain⟨k,rfl⟩:=oQ a7;have h:k<p.size:=by omega
 have a6:=byte_at p k h;have U:∀q:Int,zI p k=q->(((p[k]'h).toNat:Int)==q)=true:=λq a0=>by rw[a6];simpa using a0
 have no:∀q:Int,¬zI p k=q->(((p[k]'h).toNat:Int)==q)=false:=λq a0=>by rw[a6];simpa using a0
 unfold kS;by_cases j:zI p k=124
 ·rw[lG j];exact Gd p k w h J (U _ j)
 rw[lC j];by_cases G:zI p k=41
 ·rw[lG G];exact BQ p k w h J (no _ j) (U _ G)
 rw[lC G];by_cases I:zI p k=94
 ·rw[lG I];exact YE p k w h J (no _ j) (no _ G) (U _ I)
 rw[lC I];by_cases O:zI p k=36
 ·rw[lG O];exact YF p k w h J (no _ j) (no _ G) (no _ I) (U _ O)
 rw[lC O];by_cases W:zI p k=92
 ·rw[lG W];exact zBB p k w h J (no _ j) (no _ G) (no _ I) (no _ O) (U _ W) _ rfl
 rw[lC W];by_cases Y:zI p k=91
 ·rw[lG Y];exact Vm p k w h J (no _ j) (no _ G) (no _ I) (no _ O) (no _ W) (U _ Y) _ rfl
 rw[lC Y];by_cases Z:zI p k=40
 ·rw[lG Z];exact En p k w h J (no _ j) (no _ G) (no _ I) (no _ O) (no _ W) (no _ Y) (U _ Z) _ rfl
 rw[lC Z];by_cases a1:zI p k=42
 ·rw[lG (gG a1)];exact Vn p k w h J (no _ j) (no _ G) (no _ I) (no _ O) (no _ W) (no _ Y) (no _ Z) (U _ a1) _ rfl
 by_cases a2:zI p k=43
 ·rw[lG (lZ (gG a2))];exact Vo p k w h J (no _ j) (no _ G) (no _ I) (no _ O) (no _ W) (no _ Y) (no _ Z) (no _ a1) (U _ a2) _ rfl
 by_cases a3:zI p k=63
 ·rw[lG (lZ (lZ (gG a3)))];exact Vp p k w h J (no _ j) (no _ G) (no _ I) (no _ O) (no _ W) (no _ Y) (no _ Z) (no _ a1) (no _ a2) (U _ a3) _ rfl
 by_cases a4:zI p k=123
 ·rw[lG (lZ (lZ (lZ a4)))];exact SB p k w h J (no _ j) (no _ G) (no _ I) (no _ O) (no _ W) (no _ Y) (no _ Z) (no _ a1) (no _ a2) (no _ a3) (U _ a4) _ rfl
 rw[lC (by rintro(a0 | a0 | a0 | a0) <;> contradiction)];by_cases a5:zI p k=46
 ·rw[lG a5];exact zBA p k w h J (no _ j) (no _ G) (no _ I) (no _ O) (no _ W) (no _ Y) (no _ Z) (no _ a1) (no _ a2) (no _ a3) (no _ a4) (U _ a5)
 rw[lC a5];exact YG p k w h J (no _ j) (no _ G) (no _ I) (no _ O) (no _ W) (no _ Y) (no _ Z) (no _ a1) (no _ a2) (no _ a3) (no _ a4) (no _ a5)
