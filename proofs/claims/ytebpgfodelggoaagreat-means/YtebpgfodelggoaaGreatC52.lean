import Derived.Test.YtebpgfodelggoaaGreatC50
import Derived.Test.YtebpgfodelggoaaGreatC51
set_option linter.all false
set_option maxRecDepth 100000
set_option maxHeartbeats 8000000
namespace Go.Proofs.YtebpgfodelggoaaGreat
open Go.RowKit _root_.Go.Proofs.Tryz Mt
def dV(T:Nat)(kZ vK zA zD:Int):Int:=
 if 60<T then 1 else if jW kZ vK=true/\0<=zA/\zA<=5000/\0<=zD/\zD<=10000 then 0 else 13
def Ki:Array Value:=#[.slice none 0 0,.slice none 0 0,.string ⟨#[]⟩,.int .i64 0]
theorem fQ:(prog.info? 43).map (·.size)=some 4:=by kernel_rfl
def zEY(p t:BA)(kZ vK zA zD:Int)(n0:Nat)(v:Array Value)(e:Int)(w:World):Prop:=
 v.size=4/\v.all (·.oneCell')=true/\(((jA p).2≠0/\e=(jA p).2)\/((jA p).2=0/\dV t.size kZ vK zA zD≠0/\e=dV t.size kZ vK zA zD)\/
  ((jA p).2=0/\dV t.size kZ vK zA zD=0/\e=0/\∃g cap q nq cq,v=#[.slice (some ⟨g,0,none⟩) (jA p).1.length cap,.slice (some ⟨q,0,none⟩) nq cq,.string t,.int .i64 zA]/\zY w n0 (.slice (some ⟨g,0,none⟩) (jA p).1.length cap) (jA p).1/\qZ w n0 (.slice (some ⟨q,0,none⟩) nq cq) (qE (qO (jA p).1 kZ vK) (jA p).1.length)/\nq=(qE (qO (jA p).1 kZ vK) (jA p).1.length).length))
theorem EZ(T:Nat) G j zA h:(decide ((T:Int)>60)=true/\dV T G j zA h=1)\/(decide ((T:Int)>60)=false/\jW G j=false/\dV T G j zA h=13)\/(decide ((T:Int)>60)=false/\jW G j=true/\decide (zA<0)=true/\dV T G j zA h=13)\/(decide ((T:Int)>60)=false/\jW G j=true/\decide (zA<0)=false/\decide (zA>5000)=true/\dV T G j zA h=13)\/(decide ((T:Int)>60)=false/\jW G j=true/\decide (zA<0)=false/\decide (zA>5000)=false/\decide (h<0)=true/\dV T G j zA h=13)\/(decide ((T:Int)>60)=false/\jW G j=true/\decide (zA<0)=false/\decide (zA>5000)=false/\decide (h<0)=false/\decide (h>10000)=true/\dV T G j zA h=13)\/(decide ((T:Int)>60)=false/\jW G j=true/\decide (zA<0)=false/\decide (zA>5000)=false/\decide (h<0)=false/\decide (h>10000)=false/\dV T G j zA h=0/\T<=60/\(0<=zA/\zA<=5000)/\(0<=h/\h<=10000)):=by
 unfold dV;simp only[gM,lW];by_cases O:60<T
 ·rw[lG O];left;exact⟨by omega,rfl⟩
 rw[lC O];right;cases Y:jW G j
 ·left;exact⟨by omega,rfl,lC (λx=>by cases x.1)⟩
 right;by_cases I:zA<0
 ·left;exact⟨by omega,rfl,I,lC (by omega)⟩
 right;by_cases U:zA>5000
 ·left;exact⟨by omega,rfl,I,U,lC (by omega)⟩
 right;by_cases J:h<0
 ·left;exact⟨by omega,rfl,I,by omega,J,lC (by omega)⟩
 right;by_cases W:h>10000
 ·left;exact⟨by omega,rfl,I,by omega,J,W,lC (by omega)⟩
 right;exact⟨by omega,rfl,I,by omega,J,by omega,lG ⟨rfl,by omega,by omega,by omega,by omega⟩,by omega,by omega,by omega⟩
theorem TW(p t:BA) U O zA a8 w(f2:p.size<=maxLen)(f3:t.size<=maxLen):Calls prog 17 #[.string p,.string t,.agg #[.int .i64 U,.int .i64 O,.int .i64 zA,.int .i64 a8]] w λe w'=>∃v er,e=.returned (.tuple #[.agg v,.int .i64 er])/\zEY p t U O zA a8 w.heap.size v er w'/\Below w.heap.size w w':=by
 obtain⟨a7,b0⟩:∃a7,a7=(w.alloc (.cells #[.int .i64 U,.int .i64 O,.int .i64 zA,.int .i64 a8] 34)).alloc (.cells Ki 43):=⟨_,rfl⟩
 have B1:Below w.heap.size w a7:=by rw[b0];exact((lK _ _).alloc (lF _) _).alloc (by simp) _
 have T1:a7.heap[w.heap.size]?=some (.cells #[.int .i64 U,.int .i64 O,.int .i64 zA,.int .i64 a8] 34 (0,0)):=by rw[b0];exact nN _ _ _
 have d6:a7.heap[w.heap.size+1]?=some (.cells Ki 43 (0,0)):=by rw[b0];exact nA _ _ _
 have d7:a7.heap.size=w.heap.size+2:=by rw[b0];simp
 have d0:=hid (zCn p a7 f2);have Y:=hid (λz=>QZ U O z);have f1:=(NG p).2;have d3:Hid (∀I:(jA p).2=0,(∃A,Known (jA p).1 A)/\JQ 0 (jA p).1):=λI=>⟨EP p (AA p I),Py p (AA p I)⟩
 have e7:Hid (jW U O=true->0<=U/\U<=4/\0<=O/\O<=4294967295):=λe1=>by unfold jW at e1;simpa using e1
 have c8:=hid B1;have b7:=hnd T1 (And.intro d6 d7);have g0:(t.size:Int)<=9223372036854775807:=by unfold maxLen at f3;omega
 clear B1 T1 d6 d7
 go_in
 go_upto_region 1 with fail
 show Code.wp _ _ _ _ ((w.alloc (.cells #[.int .i64 U,.int .i64 O,.int .i64 zA,.int .i64 a8] 34)).alloc (.cells Ki 43));rw[<-b0];clear b0;generalize a3:w.heap.size=n at *;generalize a2:jA p=K at *;go_wp2_with fail
 refine d0.o.mono ?_;rintro e a6 ⟨v,rfl,e3,c1⟩;have hz:=b7.o.2.2;have T2:=(c1.block n (by omega)).trans b7.o.1;have a1:=(c1.block (n+1) (by omega)).trans b7.o.2.1;have J:=hid (c8.o.trans (c1.mono (by omega)));have b6:Hid (zY a6 (n+2) v K.1):=e3.base (by omega);have f5:=(zB T2).1 0;have f6:=(zB T2).1 1;have f7:=(zB T2).1 2;have f8:=(zB T2).1 3;have b2:=hnd T2 ((lM.1 a1).1);clear e3 c1 d0 b7 c8 hz T2;cases e0:(K.2 != 0)
 ·have I:K.2=0:=by simpa using e0
  rcases EZ t.size U O zA a8 with ⟨Z,G⟩ | ⟨Z,a0,G⟩ | ⟨Z,a0,c2,G⟩ | ⟨Z,a0,c2,c7,G⟩ | ⟨Z,a0,c2,c7,e6,G⟩ | ⟨Z,a0,c2,c7,e6,f4,G⟩ | ⟨Z,a0,c2,c7,e6,f4,G,g3,g2,f9⟩
  ·have b1:decide (60<t.size)=true:=by rw[gM]at Z |-;omega
   have h:=hnd G I;clear G I;go_wp2_with (refine zN 43 4 fQ (by rfl) (.tmp 6) (.tmp 23) (by rfl) (n+1) Ki (by rfl) (by rfl) a1 (by rfl) (by rfl) (by simp[Ki,Value.oneCell']) ?_;intro a5 W a4 a9 j)
   refine lT (qA 43 4 underlying43 rfl fQ rfl (by rfl) W (by rfl)) rfl ⟨_,_,rfl,?_,?_⟩
   ·rw[<-a2]at h;exact⟨rfl,by simp[Ki,Value.oneCell'],lZ (gG ⟨h.o.2,by rw[h.o.1];omega,h.o.1.symm⟩)⟩
   ·first | exact J.o.trans (j n (by omega))|(rw[a3];exact J.o.trans (j n (by omega)))
  ·have b1:decide (60<t.size)=false:=by rw[lW]at Z |-;omega
   have h:=hnd G I;rw[a0]at Y;clear G I;go_wp2_with fail
   refine(Y.o a6).mono ?_;rintro e b5 ⟨rfl,rfl⟩;go_wp2_with (refine zN 43 4 fQ (by rfl) (.tmp 6) (.tmp 50) (by rfl) (n+1) Ki (by rfl) (by rfl) a1 (by rfl) (by rfl) (by simp[Ki,Value.oneCell']) ?_;intro a5 W a4 a9 j)
   refine lT (qA 43 4 underlying43 rfl fQ rfl (by rfl) W (by rfl)) rfl ⟨_,_,rfl,?_,?_⟩
   ·rw[<-a2]at h;exact⟨rfl,by simp[Ki,Value.oneCell'],lZ (gG ⟨h.o.2,by rw[h.o.1];omega,h.o.1.symm⟩)⟩
   ·first | exact J.o.trans (j n (by omega))|(rw[a3];exact J.o.trans (j n (by omega)))
  ·have b1:decide (60<t.size)=false:=by rw[lW]at Z |-;omega
   have h:=hnd G I;rw[a0]at Y;clear G I;go_wp2_with fail
   refine(Y.o a6).mono ?_;rintro e b5 ⟨rfl,rfl⟩;go_wp2_with (refine zN 43 4 fQ (by rfl) (.tmp 6) (.tmp 50) (by rfl) (n+1) Ki (by rfl) (by rfl) a1 (by rfl) (by rfl) (by simp[Ki,Value.oneCell']) ?_;intro a5 W a4 a9 j)
   refine lT (qA 43 4 underlying43 rfl fQ rfl (by rfl) W (by rfl)) rfl ⟨_,_,rfl,?_,?_⟩
   ·rw[<-a2]at h;exact⟨rfl,by simp[Ki,Value.oneCell'],lZ (gG ⟨h.o.2,by rw[h.o.1];omega,h.o.1.symm⟩)⟩
   ·first | exact J.o.trans (j n (by omega))|(rw[a3];exact J.o.trans (j n (by omega)))
  ·have b1:decide (60<t.size)=false:=by rw[lW]at Z |-;omega
   have h:=hnd G I;rw[a0]at Y;clear G I;go_wp2_with fail
   refine(Y.o a6).mono ?_;rintro e b5 ⟨rfl,rfl⟩;go_wp2_with (refine zN 43 4 fQ (by rfl) (.tmp 6) (.tmp 50) (by rfl) (n+1) Ki (by rfl) (by rfl) a1 (by rfl) (by rfl) (by simp[Ki,Value.oneCell']) ?_;intro a5 W a4 a9 j)
   refine lT (qA 43 4 underlying43 rfl fQ rfl (by rfl) W (by rfl)) rfl ⟨_,_,rfl,?_,?_⟩
   ·rw[<-a2]at h;exact⟨rfl,by simp[Ki,Value.oneCell'],lZ (gG ⟨h.o.2,by rw[h.o.1];omega,h.o.1.symm⟩)⟩
   ·first | exact J.o.trans (j n (by omega))|(rw[a3];exact J.o.trans (j n (by omega)))
  ·have b1:decide (60<t.size)=false:=by rw[lW]at Z |-;omega
   have h:=hnd G I;rw[a0]at Y;clear G I;go_wp2_with fail
   refine(Y.o a6).mono ?_;rintro e b5 ⟨rfl,rfl⟩;go_wp2_with (refine zN 43 4 fQ (by rfl) (.tmp 6) (.tmp 50) (by rfl) (n+1) Ki (by rfl) (by rfl) a1 (by rfl) (by rfl) (by simp[Ki,Value.oneCell']) ?_;intro a5 W a4 a9 j)
   refine lT (qA 43 4 underlying43 rfl fQ rfl (by rfl) W (by rfl)) rfl ⟨_,_,rfl,?_,?_⟩
   ·rw[<-a2]at h;exact⟨rfl,by simp[Ki,Value.oneCell'],lZ (gG ⟨h.o.2,by rw[h.o.1];omega,h.o.1.symm⟩)⟩
   ·first | exact J.o.trans (j n (by omega))|(rw[a3];exact J.o.trans (j n (by omega)))
  ·have b1:decide (60<t.size)=false:=by rw[lW]at Z |-;omega
   have h:=hnd G I;rw[a0]at Y;clear G I;go_wp2_with fail
   refine(Y.o a6).mono ?_;rintro e b5 ⟨rfl,rfl⟩;go_wp2_with (refine zN 43 4 fQ (by rfl) (.tmp 6) (.tmp 50) (by rfl) (n+1) Ki (by rfl) (by rfl) a1 (by rfl) (by rfl) (by simp[Ki,Value.oneCell']) ?_;intro a5 W a4 a9 j)
   refine lT (qA 43 4 underlying43 rfl fQ rfl (by rfl) W (by rfl)) rfl ⟨_,_,rfl,?_,?_⟩
   ·rw[<-a2]at h;exact⟨rfl,by simp[Ki,Value.oneCell'],lZ (gG ⟨h.o.2,by rw[h.o.1];omega,h.o.1.symm⟩)⟩
   ·first | exact J.o.trans (j n (by omega))|(rw[a3];exact J.o.trans (j n (by omega)))
  ·have b1:decide (60<t.size)=false:=by rw[lW]at Z |-;omega
   have h:=hnd G I;obtain⟨⟨A,c0⟩,d9⟩:=d3.o I;have b4:=e7.o a0;rw[a0]at Y;obtain⟨g,cap,rfl,_,_⟩:=World.ownsRow.form b6.o c0.pos;have d1:=hid (MJ _ c0.ok d9 U O ⟨b4.1,b4.2.1⟩ b4.2.2.1 b4.2.2.2 f1 g cap a6 (b6.o.base (gD _)));have g1:=c0.pos;clear G I c0 d9 b4 d3;go_wp2_with fail
   refine(Y.o a6).mono ?_;rintro e b5 ⟨rfl,rfl⟩;go_wp2_with fail
   refine d1.o.mono ?_;rintro e c3 ⟨q,nq,b8,rfl,e2,c6,b3⟩;have d5:c3.heap[n]?=some (.cells #[.int .i64 U,.int .i64 O,.int .i64 zA,.int .i64 a8] 34 (0,0)):=(b3.block n (by have:=b2.o.2;omega)).trans b2.o.1;have e8:=(b3.block (n+1) b2.o.2).trans a1;have g4:=(zB d5).1 2;have c9:Hid (Below n w c3):=J.o.trans (b3.mono (by have:=b2.o.2;omega))
   have d4:Hid (zY c3 n (.slice (some ⟨g,0,none⟩) K.1.length cap) K.1/\qZ c3 n (.slice (some ⟨q,0,none⟩) nq b8) (qE (qO K.1 U O) K.1.length)/\nq=(qE (qO K.1 U O) K.1.length).length/\g≠n+1/\q≠n+1):=by
    have d8:=(lY b6.o g rfl).1;have b9:=(lY c6 q rfl).1;have c4:=b2.o.2;exact⟨(b6.o.below b3).base (by omega),qP c6 (by omega),e2,by omega,by omega⟩
   clear b3 c6 e2 d5 a1 f5 f6 f7 f8 d1 Y;go_wp2_with (refine zN 43 4 fQ (by rfl) (.tmp 6) (.tmp 62) (by rfl) (n+1) #[.slice (some ⟨g,0,none⟩) K.1.length cap,.slice (some ⟨q,0,none⟩) nq b8,.string t,.int .i64 zA] (by rfl) (by rfl) e8 (by rfl) (by rfl) (by simp[Ki,Value.oneCell']) ?_;intro a5 W a4 a9 j)
   refine lT (qA 43 4 underlying43 rfl fQ rfl (by rfl) W (by rfl)) rfl ⟨_,_,rfl,?_,?_⟩
   ·rw[<-a2]at h d4;obtain⟨d8,b9,c4,e9,f0⟩:=d4.o;have e4:zY a5 n (.slice (some ⟨g,0,none⟩) (jA p).1.length cap) (jA p).1:=zR d8 (λi c5=>by cases c5;exact a4 g e9)
    have e5:qZ a5 n (.slice (some ⟨q,0,none⟩) nq b8) (qE (qO (jA p).1 U O) (jA p).1.length):=by
     unfold qZ at b9 |-;rw[<-c4]at b9 |-;exact zR b9 (λi c5=>by cases c5;exact a4 q f0)
    refine⟨rfl,by simp[Value.oneCell'],lZ (lZ ⟨h.o.2,h.o.1,rfl,g,cap,q,nq,b8,by rw[a2],?_,?_,c4⟩)⟩
    ·first | exact e4|(rw[a3];exact e4)
    ·first | exact e5|(rw[a3];exact e5)
   ·first | exact c9.o.trans (j n (by omega))|(rw[a3];exact c9.o.trans (j n (by omega)))
 ·have d2:Hid (K.2≠0):=by show _≠_;simpa using e0
  go_wp2_with (refine zN 43 4 fQ (by rfl) (.tmp 6) (.tmp 18) (by rfl) (n+1) Ki (by rfl) (by rfl) a1 (by rfl) (by rfl) (by simp[Ki,Value.oneCell']) ?_;intro a5 W a4 a9 j)
  refine lT (qA 43 4 underlying43 rfl fQ rfl (by rfl) W (by rfl)) rfl ⟨_,_,rfl,?_,?_⟩
  ·rw[<-a2]at d2;exact⟨rfl,by simp[Ki,Value.oneCell'],gG ⟨d2.o,by rw[a2]⟩⟩
  ·first | exact J.o.trans (j n (by omega))|(rw[a3];exact J.o.trans (j n (by omega)))
theorem zCs(p)(h:(jA p).2=0)(k):((jA p).1.take k).countP xG=((jA p).1.take k).countP dS+jY (jA p).1 k:=by
 obtain⟨f,_,_,_,_,_,j,_⟩:=kr p (AA p h);exact Lb f.re _ j k
theorem Wm c t G j p(h:p<c.length):(uh c t G j).ar.getD p 0=jY c p:=by
 unfold uh;dsimp only;rw[lH,gN,sF h];rfl
theorem Ra{c A}(h:Known c A) p(J:p<c.length):jY c p<=11:=by
 have G:=h.loops p J;rcases wZ (p+1) c.length with j | j
 ·have:=(h.rule p j).2.2.2.2.2.2.2.2.2.2.1;omega
 ·have e:p=c.length-1:=by omega
  have I:=h.stop;rw[<-e]at I;rw[I]at G;dsimp only at G;omega
theorem zDZ(p t)(j h)(J:(jA p).2=0)(A)(I:Known (jA p).1 A)(U:t.size<=60):QU (uh (jA p).1 t j h):=by
 refine⟨zCs p J,I.len,λq O=>?_,λq=>?_,U⟩
 ·unfold Env.vk;rw[Wm (jA p).1 t j h q O];show(jY (jA p).1 q:Int).toNat=jY (jA p).1 q;omega
 ·unfold Env.vk;rcases wZ q (jA p).1.length with G | G
  ·rw[Wm _ t j h q G];have:=Ra I q G;omega
  ·have:(uh (jA p).1 t j h).ar.getD q 0=0:=by
    unfold uh;dsimp only;rw[lH,gQ (by simp;omega)];rfl
   rw[this];omega
theorem zCt T jK G j zA h:(dV T G j zA h≠0->mV T jK G j zA h=dV T G j zA h)/\(dV T G j zA h=0->(0<=jK/\jK<=T->mV T jK G j zA h=0)/\(¬(0<=jK/\jK<=T)->mV T jK G j zA h=13)):=by
 unfold dV mV;by_cases J:60<T
 ·rw[lG J,lG J];exact⟨λ_=>rfl,λU=>by omega⟩
 rw[lC J,lC J];by_cases I:jW G j=true/\0<=zA/\zA<=5000/\0<=h/\h<=10000
 ·rw[lG I];refine⟨λU=>absurd rfl U,λ_=>⟨λO=>lG ⟨I.1,O.1,O.2,I.2⟩,λO=>lC (λx=>O ⟨x.2.1,x.2.2.1⟩)⟩⟩
 ·rw[lC I];refine⟨λ_=>lC (λx=>I ⟨x.1,x.2.2.2⟩),λU=>by omega⟩
theorem zD0{T G j zA h}(I:dV T G j zA h=0):T<=60/\(0<=zA/\zA<=5000)/\(0<=h/\h<=10000):=by
 rcases EZ T G j zA h with ⟨_,e⟩ | ⟨_,_,e⟩ | ⟨_,_,_,e⟩ | ⟨_,_,_,_,e⟩ | ⟨_,_,_,_,_,e⟩ | ⟨_,_,_,_,_,_,e⟩ | ⟨_,_,_,_,_,_,_,a,b,c⟩
 all_goals first | exact⟨a,b,c⟩|(exfalso;omega)
theorem zCu:(prog.info? 34).map (·.size)=some 4:=by kernel_rfl
theorem OX E G:∀f p n kn zA(h:Mt.codeOk E.c)(j:0<E.c.length)(J:0<=zA/\zA<=5000)(O:p+f<=E.t.size+1),(search E G f p n kn zA).1.at'.length=20
 | 0,p,n,kn,zA,_,_,_,_=>by simp[search,nowhere]
 | f+1,p,n,kn,zA,h,j,J,O=>by
  have I:=yK E h n n (kL p) kn zA (lF _) (ku _ _ p j (by omega)) J;rw[search];split
  ·rfl
  split
  ·exact Jj _ _ I.2.2.2.1
  ·exact OX E G f (p+1) _ _ _ h j I.2.2.1 (by omega)
theorem JM E j:∀f p n kn zA,(search E j f p n kn zA).2=true->(search E j f p n kn zA).1=yD
 | 0,p,n,kn,zA,h=>by simp[search]at h
 | f+1,p,n,kn,zA,h=>by
  rw[search]at h |-;by_cases a:(zS E n (kL p) kn zA).kI=true
  ·rw[lG a]
  ·rw[lC a]at h |-;by_cases b:(zS E n (kL p) kn zA).ok=true
   ·rw[lG b]at h;cases h
   ·rw[lC b]at h |-;exact JM E j f (p+1) _ _ _ h
theorem zCv(p t:BA) jK G j zA h w(g2:p.size<=maxLen)(e3:t.size<=maxLen):Calls prog 10 #[.string p,.string t,.int .i64 jK,.agg #[.int .i64 G,.int .i64 j,.int .i64 zA,.int .i64 h]] w λe w'=>e=.returned (.tuple #[.agg (uz (pI p t jK G j zA h).1),.int .i64 (pI p t jK G j zA h).2])/\Below w.heap.size w w':=by
 obtain⟨Z,a2⟩:∃Z,Z=(w.alloc (.cells #[.int .i64 G,.int .i64 j,.int .i64 zA,.int .i64 h] 34)).alloc (.cells (uz yD) 29):=⟨_,rfl⟩
 have B1:Below w.heap.size w Z:=by rw[a2];exact((lK _ _).alloc (lF _) _).alloc (by simp) _
 have T1:Z.heap[w.heap.size]?=some (.cells #[.int .i64 G,.int .i64 j,.int .i64 zA,.int .i64 h] 34 (0,0)):=by rw[a2];exact nN _ _ _
 have d2:Z.heap[w.heap.size+1]?=some (.cells (uz yD) 29 (0,0)):=by rw[a2];exact nA _ _ _
 have d4:Z.heap.size=w.heap.size+2:=by rw[a2];simp
 have c8:=hid (TW p t G j zA h Z g2 e3);have c6:=hid B1;have b0:=hnd T1 (And.intro d2 d4);have h5:(t.size:Int)<=9223372036854775807:=by unfold maxLen at e3;omega
 have c9:=zCt t.size jK G j zA h;have b7:=hid c9;clear B1 d2 d4 c9;obtain⟨a0,b9⟩:∃a0,a0=pI p t jK G j zA h:=⟨_,rfl⟩
 rw[<-b9];have a9:=hid b9;clear b9
 go_in
 go_upto_region 1 with fail
 show Code.wp _ _ _ _ ((w.alloc (.cells #[.int .i64 G,.int .i64 j,.int .i64 zA,.int .i64 h] 34)).alloc (.cells (uz yD) 29));rw[<-a2];clear a2;generalize a5:w.heap.size=n at *;go_wp2_with (refine kY 34 4 underlying34 rfl zCu (by rfl) (.tmp 7) (by rfl) n (by rfl) T1 (by rfl) ?_)
 refine c8.o.mono ?_;rintro e a6 ⟨v,d5,rfl,b1,d9⟩;have f2:=hid b1;have e7:=b1.1;have g6:=b1.2.1;have b6:=hid d9;clear b1 d9 c8 T1;go_upto_region 2 with (refine zN 43 4 fQ (by rfl) (.tmp 10) (.tmp 17) (by rfl) a6.heap.size v (by rfl) (by rfl) (by exact jP _ _) (by rfl) e7 g6 ?_;intro a7 e8 g9 h0 e9)
 have b5:=((lK _ _).alloc (lF _) _).trans (e9 _ (lF _));have hz:=b0.o.2.2;have e6:=b6.o.size;have a8:=b6.o.trans (b5.mono e6);have d1:=(a8.block n (by omega)).trans b0.o.1;have a1:=(a8.block (n+1) (by omega)).trans b0.o.2.1;have U:=hid (c6.o.trans (a8.mono (by omega)));have g8:=(zB d1).1 3;have f1:Hid (Below a6.heap.size a6 a7/\n+2<=a6.heap.size/\Z.heap.size=n+2):=⟨b5,by omega,hz⟩
 have d3:=e8;clear e8 g9 h0 e9 b5 hz e6 a8 b0 c6 b6 d1;generalize e2:a6.heap.size=g7 at *;rcases f2.o.2.2 with ⟨J,rfl⟩ | ⟨J,O,rfl⟩ | ⟨J,O,rfl,g,cap,q,nq,f6,c5,c1,c4,c3⟩
 ·have W:Hid (a0=(yD,(jA p).2)):=by show _=_;rw[a9.o];unfold pI;rw[lG J]
  have g3:((jA p).2 != 0)=true:=by simpa using J
  clear J;generalize (jA p).2=d5 at *;go_wp2_with (refine zN 29 22 dH (by rfl) (.tmp 8) (.tmp 21) (by rfl) (n+1) (uz yD) (by rfl) (by rfl) a1 (by rfl) (xC _ rfl) (sJ _) ?_;intro b4 Y b2 b3 I)
  refine lT (qA 29 22 underlying29 rfl dH rfl (by rfl) Y (xC _ rfl)) rfl ⟨?_,?_⟩
  ·rw[W.o];rfl
  ·first | exact U.o.trans (I n (by omega))|(rw[a5];exact U.o.trans (I n (by omega)))
 ·have W:Hid (a0=(yD,dV t.size G j zA h)):=by
   show _=_;rw[a9.o];unfold pI;rw[lC (by omega),b7.o.1 O,lG O]
  have g3:(dV t.size G j zA h != 0)=true:=by simpa using O
  clear J O;generalize dV t.size G j zA h=d5 at *;go_wp2_with (refine zN 29 22 dH (by rfl) (.tmp 8) (.tmp 21) (by rfl) (n+1) (uz yD) (by rfl) (by rfl) a1 (by rfl) (xC _ rfl) (sJ _) ?_;intro b4 Y b2 b3 I)
  refine lT (qA 29 22 underlying29 rfl dH rfl (by rfl) Y (xC _ rfl)) rfl ⟨?_,?_⟩
  ·rw[W.o];rfl
  ·first | exact U.o.trans (I n (by omega))|(rw[a5];exact U.o.trans (I n (by omega)))
 ·by_cases c2:0<=jK/\jK<=t.size
  ·have f8:=(b7.o.2 O).1 c2;obtain⟨h3,h4⟩:=c2;obtain⟨F,rfl⟩:∃F:Nat,jK=(F:Int):=⟨jK.toNat,by omega⟩
   obtain⟨g5,e5,g0⟩:=zD0 O;obtain⟨A,a3⟩:=EP p (AA p J);have d8:=zDZ p t G j J A a3 g5;have e0:decide ((F:Int)<0)=false:=by rw[lW];omega
   have g1:decide ((F:Int)>(t.size:Int))=false:=by rw[lW];omega
   have h2:decide (t.size<F)=false:=by rw[lW];omega
   obtain⟨S,a4⟩:∃S,S=search (uh (jA p).1 t G j) h (t.size+1-F) F h.toNat (List.replicate ((jA p).1.length*(t.size+1)*12) false) zA:=⟨_,rfl⟩
   have e1:S.1.at'.length=20:=by rw[a4];exact OX (uh (jA p).1 t G j) h _ _ _ _ _ a3.ok a3.pos e5 (by show F+(t.size+1-F)<=t.size+1;omega)
   have W:Hid (a0=(if S.2=true then yD else S.1,OU S.2)):=by
    show _=_;rw[a9.o];unfold pI xB OU;have f7:((F:Int)).toNat=F:=by omega
    rw[lC (by omega),lC (by omega),f7,<-a4];split <;> rfl
   have d7:S.2=true->S.1=yD:=by rw[a4];exact JM _ _ _ _ _ _ _
   have b8:=f1.o.1
   have f3:Hid (CT 18 #[.agg v,.int .i64 (F:Int),.int .i64 h] a7 λe w'=>e=.returned (.tuple #[.agg (uz S.1),.int .i64 (OU S.2)])/\Below a7.heap.size a7 w'):=by
    rw[c5];exact Wj (uh (jA p).1 t G j) A d8 a3 (λq g4=>Wm _ t G j q g4) g cap q nq f6 F zA h e5 g0 (by show F<=t.size;omega) a7 ((c1.below (by rw[e2];exact b8)).base (gD _)) (qP (c4.below (by rw[e2];exact b8)) (gD _)) c3 S a4
   have d0:=hid ((lM.1 a1).1);have f4:=hid a1
   have f0:Hid (a0=(S.1,OU S.2)):=by
    show _=_;rw[W.o];cases f9:S.2
    ·rfl
    ·rw[d7 f9];rfl
   clear c5 c1 c4 c3 d8 a3 a4 f8 O J b8 a1 d7 W;have h6:((0:Int) != 0)=false:=rfl;generalize S.1=S1 at *;generalize OU S.2=S2 at *;go_wp2_with (refine kY 43 4 underlying43 rfl fQ (by rfl) (.tmp 10) (by rfl) g7 (by rfl) d3 e7 ?_)
   refine f3.o.mono ?_;rintro e h1 ⟨rfl,c0⟩;have f5:=(c0.block (n+1) d0.o).trans f4.o;have c7:Hid (Below n w h1):=U.o.trans (c0.mono (by have:=d0.o;omega));clear c0 d3 g8;go_wp2_with (refine zN 29 22 dH (by rfl) (.tmp 8) (.tmp 37) (by rfl) (n+1) (uz S1) (by rfl) (by rfl) f5 (by rfl) (xC _ e1) (sJ _) ?_;intro b4 Y b2 b3 I)
   refine lT (qA 29 22 underlying29 rfl dH rfl (by rfl) Y (xC _ e1)) rfl ⟨?_,?_⟩
   ·rw[f0.o];rfl
   ·first | exact c7.o.trans (I n (by omega))|(rw[a5];exact c7.o.trans (I n (by omega)))
  ·have d6:=(b7.o.2 O).2 c2;have W:Hid (a0=(yD,13)):=by show _=_;rw[a9.o];unfold pI;rw[lC (by omega),d6,lG (by omega)]
   clear c5 c1 c4 c3 J O d6;by_cases e4:jK<0
   ·have e0:decide (jK<0)=true:=by rw[gM];exact e4
    go_wp2_with (refine zN 29 22 dH (by rfl) (.tmp 8) (.tmp 31) (by rfl) (n+1) (uz yD) (by rfl) (by rfl) a1 (by rfl) (xC _ rfl) (sJ _) ?_;intro b4 Y b2 b3 I)
    refine lT (qA 29 22 underlying29 rfl dH rfl (by rfl) Y (xC _ rfl)) rfl ⟨?_,?_⟩
    ·rw[W.o];rfl
    ·first | exact U.o.trans (I n (by omega))|(rw[a5];exact U.o.trans (I n (by omega)))
   ·have e0:decide (jK<0)=false:=by rw[lW];exact e4
    have g1:decide (jK>(t.size:Int))=true:=by rw[gM];omega
    go_wp2_with (refine zN 29 22 dH (by rfl) (.tmp 8) (.tmp 31) (by rfl) (n+1) (uz yD) (by rfl) (by rfl) a1 (by rfl) (xC _ rfl) (sJ _) ?_;intro b4 Y b2 b3 I)
    refine lT (qA 29 22 underlying29 rfl dH rfl (by rfl) Y (xC _ rfl)) rfl ⟨?_,?_⟩
    ·rw[W.o];rfl
    ·first | exact U.o.trans (I n (by omega))|(rw[a5];exact U.o.trans (I n (by omega)))
