import Derived.Test.YtebpgfodelggoaaGreatC41
set_option linter.all false
set_option maxRecDepth 100000
set_option maxHeartbeats 4000000
namespace Go.Proofs.YtebpgfodelggoaaGreat
open Go.RowKit _root_.Go.Proofs.Tryz Mt
def Da(L:Nat)(g:Nat)(b:PB)(so ao:Option Addr)(sc ac:Nat)(d:Int)(co:Option Addr)(w:World)(c':List zT)(w':World):Prop:=
 ∃ZG cc',za L w' g b so ao sc ac ZG cc' c' d/\vL g co ZG w w'
theorem JI{L w g b so ao sc ac co cc c d} k(O:za L w g b so ao sc ac co cc c d)(a8:c.length<=1000000)(I:k<c.length):
  Calls prog 163 #[.pointer (some ⟨g,0,none⟩),.int .i64 (k)] w λe w'=>e=.returned (.tuple #[])/\Da L g b so ao sc ac d co w (c.set k { c.getD k kC with y:=c.length+1 }++[⟨12,0,0,[]⟩]) w':=by
 have G:=hid (mI (x:=⟨12,0,0,[]⟩) O a8);clear O;unfold qQ at G
 go_in
 go_wp2_with fail
 refine G.o.mono ?_;rintro e w1 ⟨rfl,q,cap,h,U⟩;obtain⟨a2,a3,a4,a5,a7⟩:=h.cells;obtain⟨q',J,b3,b4,a6⟩:=h.form (by simp);simp only[oP,uO,wJ,iE]at J;subst J;have j:(c++[(⟨12,0,0,[]⟩:zT)]).length=c.length+1:=by simp
 rw[j]at a4 a6
 have a9:w1.cell? ⟨q,k*4+2,none⟩=some (.int .i64 (c.getD k kC).y):=by
  rw[gU h.code _ (by rw[j];omega),jk _ k 2 (by rw[j];omega) (by omega),lH,gK I,<-lH];rfl
 have b0:w1.frozen? ⟨q,k*4+2,none⟩=false:=rA h.code _;have Y:=hid h;have a1:=hid U;have b1:=h.lt.1;clear h U a7 G a2 a3 a5;have b2:(k:Int)<(c.length:Int)+1:=by omega
 have a0:Hid ((c++[(⟨12,0,0,[]⟩:zT)]).set k { c.getD k kC with y:=c.length+1 }=c.set k { c.getD k kC with y:=c.length+1 }++[⟨12,0,0,[]⟩]):=by
  show _=_;rw[iL _ _ I]
 have Z:Hid ((c++[(⟨12,0,0,[]⟩:zT)]).getD k kC=c.getD k kC):=by
  show _=_;rw[lH,gK I,<-lH]
 go_wp2_with fail
 go_region
 go_wp2_with fail
 go_returns;have M:=Y.o.Kw (gc:=q) k 2 [.int .i64 (c.length+1)] { c.getD k kC with y:=c.length+1 } (by rw[j];omega) (by simp) (by rw[Z.o];rfl);rw[a0.o]at M;exact⟨rfl,_,_,M.drew,(a1.o.set (p:=⟨q,k*4+2,none⟩) (lZ rfl) _).drew⟩
theorem Mw{L}{w}{g}{b}{so ao}{sc ac}{q}{cc}{c}{d}(h:za L w g b so ao sc ac (some ⟨q,0,none⟩) cc c d)(k)(j:k<c.length):w.there q (k*4) 4:=OI h.code _ _ (by omega)
theorem Tx{L w g b so ao sc ac co cc c d} k m(j:za L w g b so ao sc ac co cc c d)(a9:c.length<=1000000)(O:k<c.length):
  Calls prog 172 #[.pointer (some ⟨g,0,none⟩),.int .i64 (k),.int .i64 m] w λe w'=>e=.returned (.tuple #[])/\za L w' g b so ao sc ac co cc (c.set k (spl (k+1) c.length (decide (m=2)))) d/\vL g co co w w':=by
 obtain⟨q,a2,b0,b1,a7⟩:=j.form (by omega);subst a2;obtain⟨Z,a0,a5,a1,a4⟩:=j.cells;have Y:=hid j;have J:=Mw j k O;have a8:(k:Int)<(c.length:Int):=by omega
 clear j a4 Z a0 a1
 have I:Hid (∀h G,jE G=setMany (jE (c.getD k kC)) 0 h->h.length=4->za L (w.setCells q (k*4) h) g b so ao sc ac (some ⟨q,0,none⟩) cc (c.set k G) d/\vL g (some ⟨q,0,none⟩) (some ⟨q,0,none⟩) w (w.setCells q (k*4) h)):=λh G a3 a6 =>
  ⟨Y.o.Kw k 0 h G O (by omega) a3,(vL.refl _ _ _).setMany _ _ _ (lZ rfl)⟩
 cases U:(m==2)
 ·have e:decide (m=2)=false:=by simpa using U
  rw[e]
  go_in
  go_wp2_with (refine wpList_store_mid (by rfl) 112 (.tmp 34) (.tmp 33) (by rfl) q (k*4) (qQ ⟨2,k+1,c.length,[]⟩) (by rfl) (by rfl) J (by rw[bZ];rfl) (uy _) ?_)
  go_returns;exact⟨rfl,I.o (qQ ⟨2,k+1,c.length,[]⟩).toList (spl (k+1) c.length false) rfl rfl⟩
 ·have e:decide (m=2)=true:=by simpa using U
  rw[e]
  go_in
  go_wp2_with (refine wpList_store_mid (by rfl) 112 (.tmp 25) (.tmp 24) (by rfl) q (k*4) (qQ ⟨2,c.length,k+1,[]⟩) (by rfl) (by rfl) J (by rw[bZ];rfl) (uy _) ?_)
  go_returns;exact⟨rfl,I.o (qQ ⟨2,c.length,k+1,[]⟩).toList (spl (k+1) c.length true) rfl rfl⟩
def Lays(L:Nat)(g:Nat)(b:PB)(so ao:Option Addr)(sc ac:Nat)(d:Int)(fn:Nat)(args:Array Value)(X:Mt.Re):Prop:=
 ∀(w:World) (co:Option Addr) (cc:Nat) (c:List zT),za L w g b so ao sc ac co cc c d->c.length+X.len<=1000->
  CT fn args w λe w'=>e=.returned (.tuple #[])/\Da L g b so ao sc ac d co w (c++X.code c.length d) w'
structure Bx (W:World) (g:Nat) (co:Option Addr) (n:Nat) (A:PA):Prop where
 bk:W.heap[n]?=some (.cells (pU A).toArray 200 (0,0))
 ng:n≠g
 nc:blk co≠some n
section
variable {L:Nat} {w w':World} {g:Nat} {b:PB} {so ao:Option Addr} {sc ac:Nat} {co ZG:Option Addr} {cc:Nat} {c:List zT} {d:Int} {A:PA} {n:Nat}
theorem Bx.lt(h:Bx w g co n A):n<w.heap.size:=(lM.1 h.bk).1
theorem Bx.step(h:Bx w g co n A)(s:vL g co ZG w w'):Bx w' g ZG n A:=⟨(s.block n h.lt h.ng h.nc).trans h.bk,h.ng,λe=>h.nc (s.sub n h.lt e)⟩
theorem Bx.new(h:za L w g b so ao sc ac co cc c d) A:Bx (w.alloc (.cells (pU A).toArray 200)) g co w.heap.size A/\za L (w.alloc (.cells (pU A).toArray 200)) g b so ao sc ac co cc c d/\vL g co co w (w.alloc (.cells (pU A).toArray 200)):=
 have j:=(lK _ _).alloc (lF _) _
 ⟨⟨gF _ _,λe=>by have:=h.lt.1;omega,λe=>by have:=(h.lt.2.1 _ e).2;omega⟩,h.below j,vL.below j⟩
theorem Bx.cell(h:Bx w g co n A) k:w.cell? ⟨n,k,none⟩=(pU A)[k]?:=by
 have:=(zB h.bk).1 k;rw[this];simp
end
theorem nD{L g b so ao sc ac d co h w w1 j c}(s:vL g co h w w1)(I:Da L g b so ao sc ac d h w1 c j):Da L g b so ao sc ac d co w c j:=by
 obtain⟨ZG,G,J,O⟩:=I;exact⟨ZG,G,J,s.trans O⟩
theorem set_mid c x z(Y:List zT):(c++[x]++Y).set c.length z=c++z::Y:=by
 rw[gZ,sU _ _ (lF _)];simp
theorem QD c x Y:(c++[x]++Y).getD c.length kC=x:=by
 rw[gZ,lH,gL (lF _)];simp
section
variable {L:Nat} {g:Nat} {b:PB} {so ao:Option Addr} {sc ac:Nat} {d:Int}
theorem Tz(s q)(X)(Z:Lays L g b so ao sc ac d 92 #[.pointer (some ⟨g,0,none⟩),.int .i64 q] X):
  Lays L g b so ao sc ac d 171 #[.pointer (some ⟨g,0,none⟩),.int .i64 s,.int .i64 q] (.sub s X):=by
 intro w co cc c U a0;have b1:c.length+X.len+2<=1000:=by simp only[Mt.Re.len]at a0;omega
 have O:=hid (mI (x:=⟨11,s,0,[]⟩) U (by omega));have a7:=hid Z
 have a4:Hid (c++(Mt.Re.sub s X).code c.length d=(c++[(⟨11,s,0,[]⟩:zT)]++X.code ((c.length+1:Nat):Int) d).set c.length ⟨11,s,(c.length+1+X.len:Nat)+1,[]⟩++[⟨12,0,0,[]⟩]):=by
  show _=_;rw[set_mid];simp[Mt.Re.code];omega
 rw[a4.o];have I:(c++[(⟨11,s,0,[]⟩:zT)]).length=c.length+1:=by simp
 have J:∀z:Int,(c++[(⟨11,s,0,[]⟩:zT)]++X.code z d).length=c.length+1+X.len:=λz=>by rw[lQ,I,Mt.Re.zH]
 clear U Z a0;unfold qQ at O;go_enter func171,ntmps171
 go_wp2_with fail
 refine O.o.mono ?_;rintro e w1 ⟨rfl,b2,a8,h,j⟩;have a1:Hid (CT 92 #[.pointer (some ⟨g,0,none⟩),.int .i64 q] w1 _):=a7.o w1 _ _ _ h (by rw[I];omega);have a5:=hid j;clear h j;go_wp2_with fail
 refine a1.o.mono ?_;rintro e b3 ⟨rfl,b0,a9,h,j⟩;rw[I]at h;have G:=JI c.length h (by rw[J];omega) (by rw[J];omega);rw[QD,J]at G;have a2:=hid G;have a6:=hid (a5.o.trans j);clear h j G;go_wp2_with fail
 refine a2.o.mono ?_;rintro e b4 ⟨rfl,Y⟩;have a3:Hid _:=nD a6.o Y;clear Y;go_wp2_with fail
 go_returns;exact⟨rfl,a3.o⟩
theorem Mx(A)(q)(X)(Z:A.tok.group=2)(Y:A.body=q)(a3:Lays L g b so ao sc ac d 92 #[.pointer (some ⟨g,0,none⟩),.int .i64 q] X):
  Lays L g b so ao sc ac d 167 #[.pointer (some ⟨g,0,none⟩),.agg (pU A).toArray] X:=by
 intro w co cc c I a4;obtain⟨h,U,O⟩:=Bx.new I A;have a0:Hid (CT 92 #[.pointer (some ⟨g,0,none⟩),.int .i64 q] (w.alloc (.cells (pU A).toArray 200)) _):=a3 _ _ _ _ U a4;have G:=h.cell 2;change _=some (Value.int .i64 A.tok.group)at G;have j:=h.cell 17;change _=some (Value.int .i64 A.body)at j;rw[Z]at G;rw[Y]at j;have a2:=hid O;clear h U O I Z Y;go_enter func167,ntmps167
 go_upto_region 1 with fail
 generalize w.alloc (.cells (pU A).toArray 200)=W at *;go_wp2_with fail
 refine a0.o.mono ?_;rintro e a5 ⟨rfl,J⟩;have a1:Hid _:=nD a2.o J;clear J;go_wp2_with fail
 go_returns;exact⟨rfl,a1.o⟩
theorem QE(A)(q)(s)(a6:s=0\/s=1\/s=2)(X)(a1:A.tok.group=s+3)(a0:A.body=q)(Y:Lays L g b so ao sc ac d 92 #[.pointer (some ⟨g,0,none⟩),.int .i64 q] X):
  Lays L g b so ao sc ac d 167 #[.pointer (some ⟨g,0,none⟩),.agg (pU A).toArray] (.sub s X):=by
 have Z:=Tz s q X Y;intro w co cc c I a5;obtain⟨h,U,O⟩:=Bx.new I A;have a2:Hid (CT 171 #[.pointer (some ⟨g,0,none⟩),.int .i64 s,.int .i64 q] (w.alloc (.cells (pU A).toArray 200)) _):=Z _ _ _ _ U a5;have G:=h.cell 2;change _=some (Value.int .i64 A.tok.group)at G;have j:=h.cell 17;change _=some (Value.int .i64 A.body)at j;rw[a1]at G;rw[a0]at j;have a4:=hid O;clear h U O I a1 a0 Y Z;rcases a6 with rfl | rfl | rfl
 all_goals
  go_enter func167,ntmps167
  go_upto_region 1 with fail
  generalize w.alloc (.cells (pU A).toArray 200)=W at *;go_wp2_with fail
  refine a2.o.mono ?_;rintro e a7 ⟨rfl,J⟩;have a3:Hid _:=nD a4.o J;clear J;go_wp2_with fail
  go_returns;exact⟨rfl,a3.o⟩
theorem QF(A)(q)(k)(X)(b1:A.tok.group=1)(b0:A.body=q)(J:A.num=k)(a9:Lays L g b so ao sc ac d 92 #[.pointer (some ⟨g,0,none⟩),.int .i64 q] X):
  Lays L g b so ao sc ac d 167 #[.pointer (some ⟨g,0,none⟩),.agg (pU A).toArray] (.cap k X):=by
 intro w co cc c a6 b2;have c5:c.length+X.len+2<=1000:=by simp only[Mt.Re.len]at b2;omega
 obtain⟨G,a8,h⟩:=Bx.new a6 A;have Y:=hid (mI (x:=⟨6,k,0,[]⟩) a8 (by omega));have b7:=hid a9;have a2:=G.cell 2;change _=some (Value.int .i64 A.tok.group)at a2;have a3:=G.cell 8;change _=some (Value.int .i64 A.num)at a3;rw[b1]at a2;rw[J]at a3;have Z:=hnd b0 J;have a0:=hnd h G;have O:(c++[(⟨6,k,0,[]⟩:zT)]).length=c.length+1:=by simp
 have b8:∀z:Int,(c++[(⟨6,k,0,[]⟩:zT)]++X.code z d).length=c.length+1+X.len:=λz=>by rw[lQ,O,Mt.Re.zH]
 have b5:Hid (c++(Mt.Re.cap k X).code c.length d=c++[(⟨6,k,0,[]⟩:zT)]++X.code ((c.length+1:Nat):Int) d++[⟨7,k,0,[]⟩]):=by
  show _=_;simp[Mt.Re.code]
 rw[b5.o];clear G a8 h a6 b1 b0 a9 J b2;unfold qQ at Y;go_enter func167,ntmps167
 go_upto_region 1 with fail
 generalize w.alloc (.cells (pU A).toArray 200)=W at *;go_wp2_with fail
 refine Y.o.mono ?_;rintro e w1 ⟨rfl,c6,c1,j,h⟩;have b3:Hid (CT 92 #[.pointer (some ⟨g,0,none⟩),.int .i64 q] w1 _):=b7.o w1 _ _ _ j (by rw[O];omega);have I:=a0.o.2.step h;have a4:=I.cell 17;change _=some (Value.int .i64 A.body)at a4;rw[Z.o.1]at a4;have a1:=hnd (a0.o.1.trans h) I;clear j h I;go_wp2_with fail
 refine b3.o.mono ?_;rintro e b9 ⟨rfl,c4,c3,j,h⟩;rw[O]at j;have U:Hid (CT 93 #[.pointer (some ⟨g,0,none⟩),.agg (qQ ⟨7,k,0,[]⟩)] b9 _):=mI (x:=⟨7,k,0,[]⟩) j (by rw[b8];omega);have a7:=a1.o.2.step h;have a5:=a7.cell 8;change _=some (Value.int .i64 A.num)at a5;rw[Z.o.2]at a5;have b6:=hid (a1.o.1.trans h);clear j h a7;unfold qQ at U;go_wp2_with fail
 refine U.o.mono ?_;rintro e c0 ⟨rfl,c7,c2,j,h⟩;have b4:Hid (Da L g b so ao sc ac d co w (c++[(⟨6,k,0,[]⟩:zT)]++X.code ((c.length+1:Nat):Int) d++[⟨7,k,0,[]⟩]) c0):=⟨_,_,j,b6.o.trans h⟩
 clear j h;go_wp2_with fail
 go_returns;exact⟨rfl,b4.o⟩
end
section
variable {L:Nat} {g:Nat} {b:PB} {so ao:Option Addr} {sc ac:Nat} {d:Int}
theorem TA(A)(X)(Y:A.tok.kind=2)(U:Lays L g b so ao sc ac d 167 #[.pointer (some ⟨g,0,none⟩),.agg (pU A).toArray] X):
  Lays L g b so ao sc ac d 161 #[.pointer (some ⟨g,0,none⟩),.agg (pU A).toArray] X:=by
 intro w co cc c G a3;obtain⟨h,O,J⟩:=Bx.new G A;have a0:=hid (U _ _ _ _ O a3);have j:=h.cell 0;change _=some (Value.int .i64 A.tok.kind)at j;rw[Y]at j;have Z:=h.bk;have a2:=hid J;clear h O J G Y U;go_enter func161,ntmps161
 go_upto_region 1 with fail
 generalize w.alloc (.cells (pU A).toArray 200)=W at *;go_wp2_with (refine kY 200 20 underlying200 rfl fP (by rfl) (.tmp 3) (by rfl) w.heap.size (by rfl) Z (by rfl) ?_)
 refine a0.o.mono ?_;rintro e a4 ⟨rfl,I⟩;have a1:Hid _:=nD a2.o I;clear I;go_wp2_with fail
 go_returns;exact⟨rfl,a1.o⟩
theorem zCk{w W co cc c}(I:za L W g b so ao sc ac co cc c d)(j:vL g co co w W) x(J:c.length<=1000000):
  CT 93 #[.pointer (some ⟨g,0,none⟩),.agg (qQ x)] W λe w'=>e=.returned (.int .i64 c.length)/\Da L g b so ao sc ac d co w (c++[x]) w':=by
 refine(mI x I J).mono ?_;rintro e w1 ⟨rfl,U,O,h,G⟩;exact⟨rfl,_,_,h,j.trans G⟩
theorem GX A t(j:jy t)(a9:A.tok=jQ t):
  Lays L g b so ao sc ac d 161 #[.pointer (some ⟨g,0,none⟩),.agg (pU A).toArray] (fV t):=by
 intro w co cc c a4 a7;have a8:c.length<=1000000:=by omega
 obtain⟨a2,a6,a5⟩:=Bx.new a4 A;have O:=hid (λx=>zCk a6 a5 x a8);have Y:=a2.cell 0;change _=some (Value.int .i64 A.tok.kind)at Y;have Z:=a2.cell 3;change _=some (Value.int .i64 A.tok.number)at Z;have a0:=a2.cell 7;change _=some (Value.string ⟨A.tok.set.toArray⟩)at a0;rw[a9]at Y Z a0;clear a2 a6 a5 a4 a7;rcases j with j | j | j | j
 ·have G:(jQ t).kind=5:=by rw[qH,j];rfl
  have a1:(jQ t).set=t.set:=rfl;have I:fV t=.one t.set:=by unfold fV;rw[lG j]
  rw[G]at Y;rw[a1]at a0;rw[I];have h:=O.o ⟨1,0,0,t.set⟩;unfold qQ at h;have H:Hid _:=h;clear O h G a1 I Z;go_enter func161,ntmps161
  go_upto_region 1 with fail
  generalize w.alloc (.cells (pU A).toArray 200)=W at *;go_wp2_with fail
  refine Calls.mono H.o ?_;rintro e a3 ⟨rfl,J⟩;have U:Hid _:=J;clear J;go_wp2_with fail
  go_returns;exact⟨rfl,U.o⟩
 ·have G:(jQ t).kind=6:=by rw[qH,j];rfl
  have a1:(jQ t).number=t.n:=by simp[jQ,j]
  have I:fV t=.back t.n:=by unfold fV;rw[lC (by omega),lG j]
  rw[G]at Y;rw[a1]at Z;rw[I];have h:=O.o ⟨8,t.n,0,[]⟩;unfold qQ at h;have H:Hid _:=h;clear O h G a1 I a0;go_enter func161,ntmps161
  go_upto_region 1 with fail
  generalize w.alloc (.cells (pU A).toArray 200)=W at *;go_wp2_with fail
  refine Calls.mono H.o ?_;rintro e a3 ⟨rfl,J⟩;have U:Hid _:=J;clear J;go_wp2_with fail
  go_returns;exact⟨rfl,U.o⟩
 ·have G:(jQ t).kind=7:=by rw[qH,j];rfl
  have I:fV t=.head:=by unfold fV;rw[lC (by omega),lC (by omega),lG j]
  rw[G]at Y;rw[I];have h:=O.o ⟨9,0,0,[]⟩;unfold qQ at h;have H:Hid _:=h;clear O h G I a0 Z;go_enter func161,ntmps161
  go_upto_region 1 with fail
  generalize w.alloc (.cells (pU A).toArray 200)=W at *;go_wp2_with fail
  refine Calls.mono H.o ?_;rintro e a3 ⟨rfl,J⟩;have U:Hid _:=J;clear J;go_wp2_with fail
  go_returns;exact⟨rfl,U.o⟩
 ·have G:(jQ t).kind=8:=by rw[qH,j];rfl
  have I:fV t=.tail:=by unfold fV;rw[lC (by omega),lC (by omega),lC (by omega)]
  rw[G]at Y;rw[I];have h:=O.o ⟨10,0,0,[]⟩;unfold qQ at h;have H:Hid _:=h;clear O h G I a0 Z;go_enter func161,ntmps161
  go_upto_region 1 with fail
  generalize w.alloc (.cells (pU A).toArray 200)=W at *;go_wp2_with fail
  refine Calls.mono H.o ?_;rintro e a3 ⟨rfl,J⟩;have U:Hid _:=J;clear J;go_wp2_with fail
  go_returns;exact⟨rfl,U.o⟩
end
end Go.Proofs.YtebpgfodelggoaaGreat
namespace Mt
theorem JJ x d:∀k p,(kM x (k+1)).code p d=(kM x k).code p d++x.code (p+(k*x.len:Nat)) d
 | 0,p=>by simp[kM,Re.code]
 | k+1,p=>by
  have G:=JJ x d k (p+x.len);have h:(kM x (k+1+1)).code p d=x.code p d++(kM x (k+1)).code (p+x.len) d:=rfl;have j:(kM x (k+1)).code p d=x.code p d++(kM x k).code (p+x.len) d:=rfl;rw[h,j,G,gZ,oV];congr 3
  push_cast;omega
theorem TB x(h:x.len=0) k p d:(kM x k).code p d=[]:=by
 rw[<-uI,Re.zH,gJ,h,Nat.mul_zero]
end Mt
namespace Go.Proofs.YtebpgfodelggoaaGreat
open Go.RowKit _root_.Go.Proofs.Tryz Mt
section
variable {L:Nat} {g:Nat} {b:PB} {so ao:Option Addr} {sc ac:Nat} {d:Int}
theorem QG(A)(x)(d7:0<=d)(d6:d<=1000)(b3:Lays L g b so ao sc ac (d+1) 161 #[.pointer (some ⟨g,0,none⟩),.agg (pU A).toArray] x):
  Lays L g b so ao sc ac d 169 #[.pointer (some ⟨g,0,none⟩),.agg (pU A).toArray] (.loop (decide (A.rep.vY=2)) x):=by
 intro w co cc c b0 b4;have d8:c.length+x.len+3<=1000:=by simp only[Mt.Re.len]at b4;omega
 obtain⟨b1,b2,j⟩:=Bx.new b0 A;have a4:=hid (mI (x:=⟨2,0,0,[]⟩) b2 (by omega));have c0:=hid b3;have a5:=hnd j b1;have c2:(c++[(⟨2,0,0,[]⟩:zT)]).length=c.length+1:=by simp
 have U:(c++[(⟨2,0,0,[]⟩:zT)]++[(⟨4,d,0,[]⟩:zT)]).length=c.length+2:=by simp
 have b5:∀z:Int,(c++[(⟨2,0,0,[]⟩:zT)]++[(⟨4,d,0,[]⟩:zT)]++x.code z (d+1)).length=c.length+2+x.len:=λz=>by rw[lQ,U,Mt.Re.zH]
 have Y:∀z:Int,(c++[(⟨2,0,0,[]⟩:zT)]++[(⟨4,d,0,[]⟩:zT)]++x.code z (d+1)++[(⟨5,c.length,d,[]⟩:zT)]).length=c.length+3+x.len:=λz=>by rw[lQ,b5];simp;omega
 have a3:Hid (c++(Mt.Re.loop (decide (A.rep.vY=2)) x).code c.length d=(c++[(⟨2,0,0,[]⟩:zT)]++[(⟨4,d,0,[]⟩:zT)]++x.code ((c.length+2:Nat):Int) (d+1)++[(⟨5,c.length,d,[]⟩:zT)]).set c.length (spl ((c.length:Int)+1) ((c.length+3+x.len:Nat):Int) (decide (A.rep.vY=2)))):=by
  show _=_;rw[show c++[(⟨2,0,0,[]⟩:zT)]++[(⟨4,d,0,[]⟩:zT)]++x.code ((c.length+2:Nat):Int) (d+1)++[(⟨5,c.length,d,[]⟩:zT)]=c++[(⟨2,0,0,[]⟩:zT)]++([(⟨4,d,0,[]⟩:zT)]++x.code ((c.length+2:Nat):Int) (d+1)++[(⟨5,c.length,d,[]⟩:zT)]) by simp,set_mid];simp[Mt.Re.code];congr 1;omega
 rw[a3.o];clear b1 b2 j b0 b3 b4 a3;unfold qQ at a4;go_enter func169,ntmps169
 go_upto_region 1 with fail
 generalize w.alloc (.cells (pU A).toArray 200)=W at *;go_wp2_with fail
 refine a4.o.mono ?_;rintro e w1 ⟨rfl,e0,c7,h,j⟩;have a0:Hid (CT 93 #[.pointer (some ⟨g,0,none⟩),.agg (qQ ⟨4,d,0,[]⟩)] w1 _):=mI (x:=⟨4,d,0,[]⟩) h (by rw[c2];omega);have c6:=h.cells.2.2.2.1;have a6:=hnd (a5.o.1.trans j) (a5.o.2.step j);clear h j;unfold qQ at a0;go_wp2_with fail
 refine a0.o.mono ?_;rintro e c3 ⟨rfl,e1,c8,h,j⟩;have a8:=h.Tk (d+1);have S2:=j.set (p:=⟨g,3,none⟩) (gG rfl) (.int .i64 (d+1));have G:=a6.o.2.step S2;have b6:Hid (CT 161 #[.pointer (some ⟨g,0,none⟩),.agg (pU A).toArray] (c3.setCell ⟨g,3,none⟩ (.int .i64 (d+1))) _):=c0.o _ _ _ _ a8 (by rw[U];omega);have a7:=hnd (a6.o.1.trans S2) G;have d2:=h.cells.2.2.2.1;have d4:=h.cells.2.2.2.2 3;have a2:=G.bk;clear h j a8 S2 G;go_wp2_with (refine kY 200 20 underlying200 rfl fP (by rfl) (.tmp 3) (by rfl) w.heap.size (by rfl) a2 (by rfl) ?_)
 refine b6.o.mono ?_;rintro e c4 ⟨rfl,d1,d0,h,j⟩;rw[U]at h;have a1:Hid (CT 93 #[.pointer (some ⟨g,0,none⟩),.agg (qQ ⟨5,c.length,d,[]⟩)] c4 _):=mI (x:=⟨5,c.length,d,[]⟩) h (by rw[b5];omega);have J:=hnd (a7.o.1.trans j) (a7.o.2.step j);clear h j a2;unfold qQ at a1;go_wp2_with fail
 refine a1.o.mono ?_;rintro e e3 ⟨rfl,e2,c9,h,j⟩;have a9:=h.Tk d;have O:=j.set (p:=⟨g,3,none⟩) (gG rfl) (.int .i64 d);have Z:=J.o.2.step O;have I:=Tx c.length A.rep.vY a9 (by rw[Y];omega) (by rw[Y];omega);rw[Y]at I;have b7:=hid (I);have b9:=hid (J.o.1.trans O);have d3:=h.cells.2.2.2.1;have d5:=h.cells.2.2.2.2 3;have c1:=(J.o.2.step j).cell 15;change _=some (Value.int .i64 A.rep.vY)at c1;have d9:=Z.ng;clear h j a9 O Z I;go_wp2_with fail
 refine b7.o.mono ?_;rintro e c5 ⟨rfl,h,j⟩;have b8:Hid (Da L g b so ao sc ac d co w ((c++[(⟨2,0,0,[]⟩:zT)]++[(⟨4,d,0,[]⟩:zT)]++x.code ((c.length+2:Nat):Int) (d+1)++[(⟨5,c.length,d,[]⟩:zT)]).set c.length (spl ((c.length:Int)+1) ((c.length+3+x.len:Nat):Int) (decide (A.rep.vY=2)))) c5):=⟨_,_,h,b9.o.trans j⟩
 clear h j;go_wp2_with fail
 go_returns;exact⟨rfl,b8.o⟩
theorem Np(A)(x)(N:Nat)(c0:N<=1000)(a9:Lays L g b so ao sc ac d 161 #[.pointer (some ⟨g,0,none⟩),.agg (pU A).toArray] x):
  Lays L g b so ao sc ac d 168 #[.pointer (some ⟨g,0,none⟩),.agg (pU A).toArray,.int .i64 (N)] (Mt.kM x N):=by
 intro w co cc c a6 Z;rw[gJ]at Z;obtain⟨a7,a8,j⟩:=Bx.new a6 A;have b4:=hid a9;have U:=hnd j (And.intro a7 a8);have b2:=hid Z;clear a7 a8 j a6 a9 Z;go_enter func168,ntmps168
 go_upto_region 1 with fail
 generalize w.alloc (.cells (pU A).toArray 200)=W at *;go_wp2_with fail
 go_loopw [6] (λi wr=>∃(k:Nat) (I:Option Addr) (a3:Nat),k<=N/\i=.int .i64 k/\za L wr g b so ao sc ac I a3 (c++(Mt.kM x k).code c.length d) d/\vL g co I w wr/\Bx wr g I w.heap.size A) (λi _=>N-(intOf i).toNat)
 case atStart=>exact⟨0,co,cc,gD _,rfl,by simpa[Mt.kM,Mt.Re.code]using U.o.2.2,U.o.1,U.o.2.1⟩
 case round =>
  obtain⟨k,I,a3,c2,rfl,h,O,J⟩:=hrel;by_cases c4:k<N
  ·have c3:(k:Int)<(N:Int):=by omega
   have c5:(k+1)*x.len<=N*x.len:=oO _ (by omega);have c6:(k+1)*x.len=k*x.len+x.len:=by rw[oV,iY]
   have Y:(c++(Mt.kM x k).code c.length d).length=c.length+k*x.len:=by rw[lQ,Mt.Re.zH,gJ]
   have c1:=b2.o;have b0:Hid (CT 161 #[.pointer (some ⟨g,0,none⟩),.agg (pU A).toArray] wr _):=b4.o _ _ _ _ h (by rw[Y];omega);have b5:=h.cells.2.2.1;rw[Y]at b5;have a0:=J.bk;have a1:=hnd O J
   have b3:Hid (c++(Mt.kM x k).code c.length d++x.code ((c.length+k*x.len:Nat):Int) d=c++(Mt.kM x (k+1)).code c.length d):=by
    show _=_;rw[JJ,gZ];simp
   clear h O J;generalize b9:c.length+k*x.len=M at *;go_wp2_with (refine kY 200 20 underlying200 rfl fP (by rfl) (.tmp 4) (by rfl) w.heap.size (by rfl) a0 (by rfl) ?_)
   refine b0.o.mono ?_;rintro e w1 ⟨rfl,a4,a2,h,j⟩;rw[Y,b3.o]at h;have a5:=h.cells.2.2.1;have b7:(c++(Mt.kM x (k+1)).code c.length d).length=M+x.len:=by rw[lQ,Mt.Re.zH,gJ];omega
   rw[b7]at a5;have G:=hnd h (And.intro (a1.o.1.trans j) (a1.o.2.step j));clear h j a0;by_cases hz:x.len=0
   ·rw[hz]at a5;go_wp2_with fail
    go_returns;refine⟨rfl,a4,a2,?_,G.o.2.1⟩;have:=G.o.1;rw[TB x hz]at this |-;exact this
   ·have b8:(((M+x.len:Nat):Int)==(M:Int))=false:=by simp;omega
    go_wp2_with fail
    go_roundw
    case measure=>show N-((k:Int)+1).toNat<N-(k:Int).toNat;omega
    case rel=>exact⟨k+1,a4,a2,by omega,by go_num,G.o.1,G.o.2.1,G.o.2.2⟩
  ·have b6:k=N:=by omega
   subst b6;have b1:Hid (Da L g b so ao sc ac d co w (c++(Mt.kM x k).code c.length d) wr):=⟨_,_,h,O⟩
   clear h O J;go_wp2_with fail
   go_returns;exact⟨rfl,b1.o⟩
end
structure MC (W:World) (base g:Nat) (co:Option Addr) (sp:Option Addr) (EK:Nat) (l:List Nat):Prop where
 row:W.ownsRow base 3 1 (.slice sp l.length EK) l.length (PK l)
 ap:∀q,blk sp=some q->q≠g/\blk co≠some q
section
variable {W W':World} {base g:Nat} {co ZG sp:Option Addr} {EK:Nat} {l:List Nat}
theorem MC.lt(h:MC W base g co sp EK l) q(j:blk sp=some q):base<=q/\q<W.heap.size:=lY h.row q (by rw[jC];exact j)
theorem MC.step(h:MC W base g co sp EK l)(s:vL g co ZG W W'):MC W' base g ZG sp EK l:=
 ⟨zR h.row (λq j=>s.block q (h.lt q j).2 (h.ap q j).1 (h.ap q j).2),λq j=>⟨(h.ap q j).1,λe=>(h.ap q j).2 (s.sub q (h.lt q j).2 e)⟩⟩
end
theorem za.grown{L w w1 g b so ao sc ac co cc c d r}(j:za L w g b so ao sc ac co cc c d)(G:w.grownBy w1 r)(I:∀q,r=some q->q≠g/\blk co≠some q/\blk so≠some q/\blk ao≠some q):za L w1 g b so ao sc ac co cc c d:=by
 obtain⟨J,O,U,Y⟩:=j.lt;exact⟨by rw[G.block g J (λe=>(I g e.symm).1 rfl)];exact j.cell,j.lo,⟨zR j.tree.zK (λq h=>G.block q (U q h) (λe=>(I q e.symm).2.2.1 h)),zR j.tree.zC (λq h=>G.block q (Y q h) (λe=>(I q e.symm).2.2.2 h))⟩,zR j.code (λq h=>G.block q (O q h).2 (λe=>(I q e.symm).2.1 h)),j.ap⟩
theorem vL.grown{w w1 J g co G r}(h:vL g co G w w1)(j:w1.grownBy J r)(Y:∀q,r=some q->w.heap.size<=q):vL g co G w J:=
 ⟨j.os.trans h.os,j.tape.trans h.tape,j.output.trans h.output,gX h.size j.size,λk I O U=>(j.block k (rF I h.size) (λe=>by have:=Y k e.symm;omega)).trans (h.block k I O U),h.sub⟩
theorem VY{L}{w w1 I}{g}{b}{so ao}{sc ac}{co j sp}{Z EK}{Y}{d}{l}{n q cap:Nat}{A}
  (a0:za L w1 g b so ao sc ac j Z Y d) (a9:vL g co j w w1) (J:Bx w1 g j w.heap.size A) (G:MC w1 (w.heap.size+1) g j sp EK l) (a5:∀q,blk so=some q\/blk ao=some q->q<w.heap.size) {E} {O}
  (U:(w1.alloc (.cells E O)).grownBy I (blk sp)) (h:blk sp=some q\/q=w1.heap.size+1) (b0:I.ownsRow (w.heap.size+1) 3 1 (.slice (some ⟨q,0,none⟩) (l.length+1) cap) (l.length+1) (PK l++[.int .i64 (n)])):
  za L I g b so ao sc ac j Z Y d/\vL g co j w I/\Bx I g j w.heap.size A/\MC I (w.heap.size+1) g j (some ⟨q,0,none⟩) cap (l++[n]):=by
 have a8:=a0.below ((lK w1.heap.size w1).alloc (lF _) (.cells E O));have a2:Below w1.heap.size w1 (w1.alloc (.cells E O)):=(lK w1.heap.size w1).alloc (lF _) (.cells E O);have a1:=J.step (vL.below a2 (co:=j));have b1:=J.lt;have a3:=a0.lt;refine⟨a8.grown U (λq h=>?_),((a9.trans (vL.below a2)).grown U (λq h=>by have:=(G.lt q h).1;omega)),⟨?_,J.ng,J.nc⟩,⟨?_,λk a4=>?_⟩⟩
 ·have:=G.lt q h;exact⟨(G.ap q h).1,(G.ap q h).2,λe=>by have:=a5 q (gG e);omega,λe=>by have:=a5 q (lZ e);omega⟩
 ·rw[U.block _ a1.lt (λe=>by have:=(G.lt _ e.symm).1;omega)];exact a1.bk
 ·have a6:(l++[n]).length=l.length+1:=by simp
  have a7:PK (l++[n])=PK l++[.int .i64 (n:Int)]:=by simp[PK]
  rw[a6,a7];exact b0
 ·simp[blk]at a4;subst a4;rcases h with h | h
  ·exact G.ap _ h
  ·subst h;exact⟨λe=>by have:=a3.1;omega,λe=>by have:=(a3.2.1 _ e).2;omega⟩
theorem MC.cell{W base g co sp EK l}(G:MC W base g co sp EK l) j(J:j<l.length):∃q,sp=some ⟨q,0,none⟩/\q<W.heap.size/\l.length<=EK/\W.cell? ⟨q,j,none⟩=some (.int .i64 ((l.getD j 0:Nat):Int)):=by
 obtain⟨I,cap,h,_,O⟩:=World.ownsRow.form G.row (by omega);simp only[oD]at h;obtain⟨rfl,_,rfl⟩:=h;rcases G.row.2 with ⟨e,_⟩ | ⟨Z,U,Y,h,_,_,a0,_⟩
 ·simp at e
 ·simp only[oD]at h;refine⟨I,rfl,O,by omega,?_⟩;rw[gU G.row j (by omega)];simp[PK,lH,lN J]
def QJ(x:Mt.Re)(d:Int)(p k:Nat)(late:Bool)(j:Nat):List zT:=
 ou x d (λm=>if m<j then spl (((p+m*(x.len+1):Nat):Int)+1) ((p+k*(x.len+1):Nat):Int) late else⟨2,0,0,[]⟩) k 0 p
theorem VZ x d p k late:QJ x d p k late 0=ou x d (λ_=>⟨2,0,0,[]⟩) k 0 p:=
 CQ _ _ _ _ _ _ _ (λm h j=>by rw[lC (by omega)])
theorem Zt x d c k late h(G:h<k):(c++QJ x d c.length k late h).set (c.length+h*(x.len+1)) (spl (((c.length+h*(x.len+1):Nat):Int)+1) ((c.length+k*(x.len+1):Nat):Int) late)=c++QJ x d c.length k late (h+1):=by
 rw[sU _ _ (by omega),Nat.add_sub_cancel_left];unfold QJ;rw[TD x d _ _ k h 0 _ G];congr 1;refine CQ _ _ _ _ _ _ _ (λm I J=>?_);rw[rO];by_cases e:m=h
 ·subst e;rw[lG rfl,lG (by omega)]
 ·rw[lC e];by_cases j:m<h
  ·rw[lG j,lG (by omega)]
  ·rw[lC j,lC (by omega)]
theorem zCl x d p k late:QJ x d p k late k=(fF x late k).code p d:=by
 unfold QJ;refine OT _ _ _ _ _ _ _ (λm h=>?_);rw[rO,lG h]
 push_cast
 rfl
section
variable {L:Nat} {g:Nat} {b:PB} {so ao:Option Addr} {sc ac:Nat} {d:Int}
theorem IW(A)(x)(N:Nat)(e7:N<=1000)(b8:Lays L g b so ao sc ac d 161 #[.pointer (some ⟨g,0,none⟩),.agg (pU A).toArray] x):
  Lays L g b so ao sc ac d 170 #[.pointer (some ⟨g,0,none⟩),.agg (pU A).toArray,.int .i64 (N)] (fF x (decide (A.rep.vY=2)) N):=by
 intro w co cc c a5 b1;obtain⟨e2,d3,d9,e0,e1⟩:=sK Mj;rw[Bf]at b1;obtain⟨b6,b7,G⟩:=Bx.new a5 A;have b5:=hid b8;have a4:=hnd G (And.intro b6 b7);have b3:=hid b1;have c5:Hid (∀q,blk so=some q\/blk ao=some q->q<w.heap.size):=λq a1=>a1.elim (a5.lt.2.2.1 q) (a5.lt.2.2.2 q)
 clear b6 b7 G a5 b8 b1;go_enter func170,ntmps170
 go_upto_region 1 with fail
 generalize w.alloc (.cells (pU A).toArray 200)=W at *;go_wp2_with fail
 go_loopw [6,7] (λu i wr=>∃(k:Nat) (I sp:Option Addr) (a7 EK:Nat),k<=N/\i=.int .i64 k/\u=.slice sp k EK/\za L wr g b so ao sc ac I a7 (c++ou x d (λ_=>⟨2,0,0,[]⟩) k 0 c.length) d/\vL g co I w wr/\Bx wr g I w.heap.size A/\MC wr (w.heap.size+1) g I sp EK (gq c.length (x.len+1) k)) (λ_ i _=>N-(intOf i).toNat)
 case atStart=>exact⟨0,co,none,cc,0,gD _,rfl,rfl,by simpa[ou]using a4.o.2.2,a4.o.1,a4.o.2.1,oC _ _ _ _,λq a1=>by simp[blk]at a1⟩
 case round =>
  obtain⟨k,I,sp,a7,EK,f0,rfl,rfl,h,U,J,O⟩:=hrel;by_cases f2:k<N
  ·have f1:(k:Int)<(N:Int):=by omega
   have d4:(k+1)*(x.len+1)<=N*(x.len+1):=oO _ (by omega);have d5:(k+1)*(x.len+1)=k*(x.len+1)+(x.len+1):=by rw[oV,iY]
   have Y:(c++ou x d (λ_=>⟨2,0,0,[]⟩) k 0 c.length).length=c.length+k*(x.len+1):=by rw[lQ,MB]
   have d1:=b3.o;have e6:c.length+k*(x.len+1)+x.len+1<=1000:=by omega
   have Z:=mI (x:=⟨2,0,0,[]⟩) h (by rw[Y];omega);rw[Y]at Z;have a3:=hid Z;have a0:=hnd U (And.intro J O)
   have c7:Hid (c++ou x d (λ_=>⟨2,0,0,[]⟩) k 0 c.length++[⟨2,0,0,[]⟩]++x.code ((c.length+k*(x.len+1)+1:Nat):Int) d=c++ou x d (λ_=>⟨2,0,0,[]⟩) (k+1) 0 c.length):=by
    show _=_;rw[OQ,gZ,gZ];simp
   have b9:(c++ou x d (λ_=>⟨2,0,0,[]⟩) k 0 c.length++[(⟨2,0,0,[]⟩:zT)]).length=c.length+k*(x.len+1)+1:=by rw[lQ,Y];rfl
   have c6:Hid (gq c.length (x.len+1) (k+1)=gq c.length (x.len+1) k++[c.length+k*(x.len+1)]):=QI _ _ _;have c1:=Ea c.length (x.len+1) k;clear h U J O Y Z;generalize c.length+k*(x.len+1)=M at *;unfold qQ at a3;go_wp2_with fail
   refine a3.o.mono ?_;rintro e w1 ⟨rfl,f5,e5,h,G⟩;have S1:=hnd h (And.intro (a0.o.1.trans G) (And.intro (a0.o.2.1.step G) (a0.o.2.2.step G)))
   have b4:Hid (w1.ownsRow (w.heap.size+1) 3 1 (.slice sp k EK) k (PK (gq c.length (x.len+1) k))):=by
    have:=S1.o.2.2.2.row;rw[c1]at this;exact this
   have f4:=S1.o.2.2.1.lt;clear h G;go_wp2_with (at_builtin;refine wpList_append_lies _ rfl _ _ 41 rfl (w.heap.size+1) 3 e2 _ 1 8 underlying41 d3 d9 e0 e1 rfl (by decide) _ k _ rfl (oM b4.o _) ⟨w1.heap.size,0,none⟩ 1 1 [.int .i64 (M:Int)] rfl rfl (fJ _ _ _) (by simp[Value.oneCell']) (by decide) (by unfold maxLen;omega) (by omega) (by simp;omega) (w1.heap.size+1) (by simp) ?_)
   intro q cap e3 c0 a9 a1 d6;rw[jC]at a9 a1;have a2:=VY S1.o.1 S1.o.2.1 S1.o.2.2.1 S1.o.2.2.2 c5.o (n:=M) a9 a1 (by rw[c1];exact c0);rw[<-c6.o]at a2;have c2:Hid (CT 161 #[.pointer (some ⟨g,0,none⟩),.agg (pU A).toArray] e3 _):=b5.o _ _ _ _ a2.1 (by rw[b9];omega);have b2:=a2.2.2.1.bk;have S2:=hid a2.2;clear c0 a9 a1 d6 a2 b4 S1;go_wp2_with (refine kY 200 20 underlying200 rfl fP (by rfl) (.tmp 4) (by rfl) w.heap.size (by rfl) b2 (by rfl) ?_)
   refine c2.o.mono ?_;rintro e e4 ⟨rfl,d0,c9,h,G⟩;rw[b9,c7.o]at h;have S3:=hnd h (And.intro (S2.o.1.trans G) (And.intro (S2.o.2.1.step G) (S2.o.2.2.step G)));clear h G b2;go_wp2_with fail
   go_roundw
   case measure=>show N-((k:Int)+1).toNat<N-(k:Int).toNat;omega
   case rel=>exact⟨k+1,d0,some ⟨q,0,none⟩,c9,cap,by omega,by go_num,rfl,S3.o⟩
  ·have a8:k=N:=by omega
   subst a8;have a6:=hnd h (And.intro U (And.intro J O));clear h U J O a4 b5;have c3:=VZ x d c.length k (decide (A.rep.vY=2))
   rename World=>f6
   go_wp2_with fail
   go_loopw [28] (λi wr=>∃(j:Nat),j<=k/\i=.int .i64 j/\za L wr g b so ao sc ac I a7 (c++QJ x d c.length k (decide (A.rep.vY=2)) j) d/\vL g co I w wr/\Bx wr g I w.heap.size A/\MC wr (w.heap.size+1) g I sp EK (gq c.length (x.len+1) k)) (λi _=>k-(intOf i).toNat)
   case atStart=>exact⟨0,gD _,rfl,by rw[c3];exact a6.o.1,a6.o.2⟩
   case round =>
    obtain⟨j,e8,rfl,h,U,J,O⟩:=hrel;by_cases b0:j<k
    ·have e9:(j:Int)<(k:Int):=by omega
     have d4:(j+1)*(x.len+1)<=k*(x.len+1):=oO _ (by omega);have d5:(j+1)*(x.len+1)=j*(x.len+1)+(x.len+1):=by rw[oV,iY]
     have d1:=b3.o;have Y:(c++QJ x d c.length k (decide (A.rep.vY=2)) j).length=c.length+k*(x.len+1):=by rw[lQ];unfold QJ;rw[MB]
     obtain⟨qs,d8,f3,d7,d2⟩:=O.cell j (by rw[Ea];exact b0);rw[Ea]at d7;subst d8;rw[lH,VX _ _ _ _ b0,uS]at d2;have c8:=J.cell 15;change _=some (Value.int .i64 A.rep.vY)at c8;have Z:=Tx (c.length+j*(x.len+1)) A.rep.vY h (by rw[Y];omega) (by rw[Y];omega);rw[Y,Zt x d c k (decide (A.rep.vY=2)) j b0]at Z;have a3:=hid Z;have a0:=hnd U (And.intro J O);clear h U J O Z a6;generalize c.length+j*(x.len+1)=M at *;go_wp2_with fail
     refine a3.o.mono ?_;rintro e e4 ⟨rfl,h,G⟩;have S3:=hnd h (And.intro (a0.o.1.trans G) (And.intro (a0.o.2.1.step G) (a0.o.2.2.step G)));clear h G;go_wp2_with fail
     go_roundw
     case measure=>show k-((j:Int)+1).toNat<k-(j:Int).toNat;omega
     case rel=>exact⟨j+1,by omega,by go_num,S3.o⟩
    ·have a8:j=k:=by omega
     subst a8;rw[zCl]at h;have c4:Hid (Da L g b so ao sc ac d co w (c++(fF x (decide (A.rep.vY=2)) j).code c.length d) wr):=⟨_,_,h,U⟩
     clear h U J O;go_wp2_with fail
     go_returns;exact⟨rfl,c4.o⟩
end
end Go.Proofs.YtebpgfodelggoaaGreat
namespace Mt
def IX(x:Re)(q:zU):Re:=if q.m=-1 then .cat (kM x q.n.toNat) (.loop (decide (q.jB=1)) x)else .cat (kM x q.n.toNat) (fF x (decide (q.jB=1)) (q.m-q.n).toNat)
theorem Zu x q(J:Hu q) p d:(Db x q).code p d=(if q.jB=2 then Re.sub 0 (IX x q)else IX x q).code p d/\(Db x q).len=(if q.jB=2 then Re.sub 0 (IX x q)else IX x q).len:=by
 obtain⟨O,U,Y,Z,a0,a1,a2⟩:=J
 have key:∀p d:Int,(let G:=if 0<q.n\/0<q.m then(if q.n<q.m then Re.cat (kM x q.n.toNat) (fF x (decide (q.jB=1)) (q.m-q.n).toNat)else kM x q.n.toNat)else Re.qb
   if q.m<0 then Re.cat G (.loop (decide (q.jB=1)) x)else G).code p d=(IX x q).code p d:=by
  intro p d;dsimp only;unfold IX;by_cases c:q.m=-1
  ·rw[lG (show q.m<0 by omega),lG c];by_cases a:0<q.n\/0<q.m
   ·rw[lG a,lC (by omega)]
   ·rw[lC a,show q.n.toNat=0 by omega];rfl
  ·rw[lC (show ¬q.m<0 by omega),lC c];by_cases a:0<q.n\/0<q.m
   ·rw[lG a];by_cases e:q.n<q.m
    ·rw[lG e]
    ·rw[lC e,show(q.m-q.n).toNat=0 by omega];simp[fF,Re.code]
   ·rw[lC a,show q.n.toNat=0 by omega,show(q.m-q.n).toNat=0 by omega];rfl
 have I:=key p d;unfold Db;dsimp only at key I |-;generalize (if q.m<0 then(if 0<q.n\/0<q.m then(if q.n<q.m then Re.cat (kM x q.n.toNat) (fF x (decide (q.jB=1)) (q.m-q.n).toNat)else kM x q.n.toNat)else Re.qb).cat (Re.loop (decide (q.jB=1)) x)else(if 0<q.n\/0<q.m then(if q.n<q.m then Re.cat (kM x q.n.toNat) (fF x (decide (q.jB=1)) (q.m-q.n).toNat)else kM x q.n.toNat)else Re.qb))=j at *;have h:j.len=(IX x q).len:=by rw[<-Re.zH j 0 0,<-Re.zH (IX x q) 0 0,key]
 by_cases e:q.jB=2
 ·rw[lG e,lG e];exact⟨by simp only[Re.code];rw[key,h],by simp only[Re.len];rw[h]⟩
 ·rw[lC e,lC e];exact⟨I,h⟩
end Mt
namespace Go.Proofs.YtebpgfodelggoaaGreat
open Go.RowKit _root_.Go.Proofs.Tryz Mt
section
variable {L:Nat} {g:Nat} {b:PB} {so ao:Option Addr} {sc ac:Nat} {d:Int}
theorem Lays.congr{G j X h}(I:Lays L g b so ao sc ac d G j X)(U:X.len=h.len)(O:∀p,X.code p d=h.code p d):Lays L g b so ao sc ac d G j h:=by
 intro w co cc c J Y;have:=I w co cc c J (by omega);rw[O]at this;exact this
theorem ME(A)(x)(q)(c2:q.kind=8)(d6:Hu q)(a1:A.rep=jQ q)(d4:0<=d)(d3:d<=1000)(b1:Lays L g b so ao sc ac d 161 #[.pointer (some ⟨g,0,none⟩),.agg (pU A).toArray] x)(c1:Lays L g b so ao sc ac (d+1) 161 #[.pointer (some ⟨g,0,none⟩),.agg (pU A).toArray] x):
  Lays L g b so ao sc ac d 162 #[.pointer (some ⟨g,0,none⟩),.agg (pU A).toArray] (IX x q):=by
 intro w co cc c b8 I;obtain⟨d7,e2,e3,e4,e5,e6,e7⟩:=d6;have a5:A.rep.least=q.n:=by rw[a1];simp[jQ,c2]
 have a6:A.rep.most=q.m:=by rw[a1];simp[jQ,c2]
 have a7:decide (A.rep.vY=2)=decide (q.jB=1):=by
  have:A.rep.vY=q.jB+1:=by rw[a1];simp[jQ,c2]
  rw[this];congr 1;apply propext;omega
 obtain⟨N,a8⟩:=oQ d7;have a9:q.n.toNat=N:=by omega
 have c3:=hid (Np A x N (by omega) b1);obtain⟨Z,b0,h⟩:=Bx.new b8 A;have b2:∀z:Int,(c++(Mt.kM x N).code z d).length=c.length+(Mt.kM x N).len:=λz=>by rw[lQ,Mt.Re.zH]
 have c4:=Z.cell 13;change _=some (Value.int .i64 A.rep.least)at c4;rw[a5,a8]at c4;have a2:=Z.bk;have G:=hnd h Z;by_cases b3:q.m=-1
 ·have a3:Hid (Lays L g b so ao sc ac d 169 #[.pointer (some ⟨g,0,none⟩),.agg (pU A).toArray] (.loop (decide (q.jB=1)) x)):=by
   show Lays _ _ _ _ _ _ _ _ _ _ _;rw[<-a7];exact QG A x d4 d3 c1
  have U:IX x q=.cat (Mt.kM x N) (.loop (decide (q.jB=1)) x):=by unfold IX;rw[lG b3,a9]
  rw[U]at I |-;have d5:c.length+(Mt.kM x N).len+(Mt.Re.loop (decide (q.jB=1)) x).len<=1000:=by simp only[Mt.Re.len]at I |-;omega
  have b4:=hid (c3.o _ _ _ _ b0 (by omega));have a4:Hid (A.rep.most=-1):=by show _=_;rw[a6,b3]
  have J:Hid (c++(Mt.Re.cat (Mt.kM x N) (.loop (decide (q.jB=1)) x)).code c.length d=c++(Mt.kM x N).code c.length d++(Mt.Re.loop (decide (q.jB=1)) x).code ((c.length+(Mt.kM x N).len:Nat):Int) d):=by
   show _=_;rw[Mt.Re.code,gZ];push_cast;rfl
  rw[J.o];clear Z b0 h b8 b1 c1 I a5 a6 a7 U J a1 a8 a9;generalize b9:Mt.Re.loop (decide (q.jB=1)) x=c9 at *;generalize c0:Mt.kM x N=d0 at *;clear b9 c0;go_enter func162,ntmps162
  go_upto_region 1 with fail
  generalize w.alloc (.cells (pU A).toArray 200)=W at *;go_wp2_with (refine kY 200 20 underlying200 rfl fP (by rfl) (.tmp 3) (by rfl) w.heap.size (by rfl) a2 (by rfl) ?_)
  refine b4.o.mono ?_;rintro e w1 ⟨rfl,d2,d1,Y,h⟩;have j:=a3.o _ _ _ _ Y (by rw[b2];omega);rw[b2]at j;have b5:=hid (j);have B1:=G.o.2.step h;have O:=B1.cell 14;change _=some (Value.int .i64 A.rep.most)at O;rw[a4.o]at O;have b6:=B1.bk;have S1:=hid (G.o.1.trans h);clear Y h B1 j a2 G;go_wp2_with (refine kY 200 20 underlying200 rfl fP (by rfl) (.tmp 3) (by rfl) w.heap.size (by rfl) b6 (by rfl) ?_)
  refine b5.o.mono ?_;rintro e d8 ⟨rfl,a0⟩;have b7:Hid _:=nD S1.o a0;clear a0;go_wp2_with fail
  go_returns;exact⟨rfl,b7.o⟩
 ·obtain⟨M,c6⟩:=oQ (show 0<=q.m by omega);have c7:(q.m-q.n).toNat=M-N:=by omega
  have e1:N<=M:=by omega
  have a3:Hid (Lays L g b so ao sc ac d 170 #[.pointer (some ⟨g,0,none⟩),.agg (pU A).toArray,.int .i64 ((M-N:Nat):Int)] (fF x (decide (q.jB=1)) (M-N))):=by
   show Lays _ _ _ _ _ _ _ _ _ _ _;rw[<-a7];exact IW A x (M-N) (by omega) b1
  have U:IX x q=.cat (Mt.kM x N) (fF x (decide (q.jB=1)) (M-N)):=by unfold IX;rw[lC b3,a9,c7]
  rw[U]at I |-;have d5:c.length+(Mt.kM x N).len+(fF x (decide (q.jB=1)) (M-N)).len<=1000:=by simp only[Mt.Re.len]at I |-;omega
  have b4:=hid (c3.o _ _ _ _ b0 (by omega));have a4:Hid (A.rep.most=(M:Int)/\A.rep.least=(N:Int)):=⟨by rw[a6,c6],by rw[a5,a8]⟩
  have J:Hid (c++(Mt.Re.cat (Mt.kM x N) (fF x (decide (q.jB=1)) (M-N))).code c.length d=c++(Mt.kM x N).code c.length d++(fF x (decide (q.jB=1)) (M-N)).code ((c.length+(Mt.kM x N).len:Nat):Int) d):=by
   show _=_;rw[Mt.Re.code,gZ];push_cast;rfl
  rw[J.o];have e0:M<=20:=by omega
  have d9:((M:Int)==-1)=false:=by simp
  have c8:(M:Int)-(N:Int)=((M-N:Nat):Int):=by omega
  rw[<-c8]at a3;clear Z b0 h b8 b1 c1 I a5 a6 a7 U J a1 a8 a9 c7 b3 c6;generalize b9:fF x (decide (q.jB=1)) (M-N)=c9 at *;generalize c0:Mt.kM x N=d0 at *;clear b9 c0 c8;go_enter func162,ntmps162
  go_upto_region 1 with fail
  generalize w.alloc (.cells (pU A).toArray 200)=W at *;go_wp2_with (refine kY 200 20 underlying200 rfl fP (by rfl) (.tmp 3) (by rfl) w.heap.size (by rfl) a2 (by rfl) ?_)
  refine b4.o.mono ?_;rintro e w1 ⟨rfl,d2,d1,Y,h⟩;have j:=a3.o _ _ _ _ Y (by rw[b2];omega);rw[b2]at j;have b5:=hid (j);have B1:=G.o.2.step h;have O:=B1.cell 14;change _=some (Value.int .i64 A.rep.most)at O;rw[a4.o.1]at O;have c5:=B1.cell 13;change _=some (Value.int .i64 A.rep.least)at c5;rw[a4.o.2]at c5;have b6:=B1.bk;have S1:=hid (G.o.1.trans h);clear Y h B1 j a2 G;go_wp2_with (refine kY 200 20 underlying200 rfl fP (by rfl) (.tmp 3) (by rfl) w.heap.size (by rfl) b6 (by rfl) ?_)
  refine b5.o.mono ?_;rintro e d8 ⟨rfl,a0⟩;have b7:Hid _:=nD S1.o a0;clear a0;go_wp2_with fail
  go_returns;exact⟨rfl,b7.o⟩
end
section
variable {L:Nat} {g:Nat} {b:PB} {so ao:Option Addr} {sc ac:Nat} {d:Int}
theorem TF(A)(x)(Y:A.rep.kind=0)(U:Lays L g b so ao sc ac d 161 #[.pointer (some ⟨g,0,none⟩),.agg (pU A).toArray] x):
  Lays L g b so ao sc ac d 146 #[.pointer (some ⟨g,0,none⟩),.agg (pU A).toArray] x:=by
 intro w co cc c G a3;obtain⟨h,O,J⟩:=Bx.new G A;have a0:=hid (U _ _ _ _ O a3);have j:=h.cell 9;change _=some (Value.int .i64 A.rep.kind)at j;rw[Y]at j;have Z:=h.bk;have a2:=hid J;clear h O J G Y U;go_enter func146,ntmps146
 go_upto_region 1 with fail
 generalize w.alloc (.cells (pU A).toArray 200)=W at *;go_wp2_with (refine kY 200 20 underlying200 rfl fP (by rfl) (.tmp 3) (by rfl) w.heap.size (by rfl) Z (by rfl) ?_)
 refine a0.o.mono ?_;rintro e a4 ⟨rfl,I⟩;have a1:Hid _:=nD a2.o I;clear I;go_wp2_with fail
 go_returns;exact⟨rfl,a1.o⟩
theorem TG(A)(X)(Y:A.rep.kind=4)(a5:(A.rep.vY != 3)=true)(U:Lays L g b so ao sc ac d 162 #[.pointer (some ⟨g,0,none⟩),.agg (pU A).toArray] X):
  Lays L g b so ao sc ac d 146 #[.pointer (some ⟨g,0,none⟩),.agg (pU A).toArray] X:=by
 intro w co cc c G a4;obtain⟨h,O,J⟩:=Bx.new G A;have a0:=hid (U _ _ _ _ O a4);have j:=h.cell 9;change _=some (Value.int .i64 A.rep.kind)at j;rw[Y]at j;have a3:=h.cell 15;change _=some (Value.int .i64 A.rep.vY)at a3;have Z:=h.bk;have a2:=hid J;clear h O J G Y U;go_enter func146,ntmps146
 go_upto_region 1 with fail
 generalize w.alloc (.cells (pU A).toArray 200)=W at *;go_wp2_with (refine kY 200 20 underlying200 rfl fP (by rfl) (.tmp 3) (by rfl) w.heap.size (by rfl) Z (by rfl) ?_)
 refine a0.o.mono ?_;rintro e a6 ⟨rfl,I⟩;have a1:Hid _:=nD a2.o I;clear I;go_wp2_with fail
 go_returns;exact⟨rfl,a1.o⟩
theorem QK(A)(X)(a6:A.rep.kind=4)(a7:A.rep.vY=3)(a5:Lays L g b so ao sc ac d 162 #[.pointer (some ⟨g,0,none⟩),.agg (pU A).toArray] X):
  Lays L g b so ao sc ac d 146 #[.pointer (some ⟨g,0,none⟩),.agg (pU A).toArray] (.sub 0 X):=by
 intro w co cc c a2 a8;have b9:c.length+X.len+2<=1000:=by simp only[Mt.Re.len]at a8;omega
 obtain⟨G,a4,h⟩:=Bx.new a2 A;have Z:=hid (mI (x:=⟨11,0,0,[]⟩) a4 (by omega));have b5:=hid a5
 have b2:Hid (c++(Mt.Re.sub 0 X).code c.length d=(c++[(⟨11,0,0,[]⟩:zT)]++X.code ((c.length+1:Nat):Int) d).set c.length ⟨11,0,(c.length+1+X.len:Nat)+1,[]⟩++[⟨12,0,0,[]⟩]):=by
  show _=_;rw[set_mid];simp[Mt.Re.code];omega
 rw[b2.o];have O:(c++[(⟨11,0,0,[]⟩:zT)]).length=c.length+1:=by simp
 have U:∀z:Int,(c++[(⟨11,0,0,[]⟩:zT)]++X.code z d).length=c.length+1+X.len:=λz=>by rw[lQ,O,Mt.Re.zH]
 have a1:=G.cell 9;change _=some (Value.int .i64 A.rep.kind)at a1;rw[a6]at a1;have a0:=G.cell 15;change _=some (Value.int .i64 A.rep.vY)at a0;rw[a7]at a0;have J:=hnd h G;clear G a4 h a2 a6 a5 a7 a8;unfold qQ at Z;go_enter func146,ntmps146
 go_upto_region 1 with fail
 generalize w.alloc (.cells (pU A).toArray 200)=W at *;go_wp2_with fail
 refine Z.o.mono ?_;rintro e w1 ⟨rfl,c0,b6,j,h⟩;have a9:Hid (CT 162 #[.pointer (some ⟨g,0,none⟩),.agg (pU A).toArray] w1 _):=b5.o w1 _ _ _ j (by rw[O];omega);have b3:=hid (J.o.1.trans h);have Y:=(J.o.2.step h).bk;clear j h J;go_wp2_with (refine kY 200 20 underlying200 rfl fP (by rfl) (.tmp 3) (by rfl) w.heap.size (by rfl) Y (by rfl) ?_)
 refine a9.o.mono ?_;rintro e c1 ⟨rfl,b8,b7,j,h⟩;rw[O]at j;have I:=JI c.length j (by rw[U];omega) (by rw[U];omega);rw[QD,U]at I;have b0:=hid I;have b4:=hid (b3.o.trans h);clear j h I Y;go_wp2_with fail
 refine b0.o.mono ?_;rintro e c2 ⟨rfl,a3⟩;have b1:Hid _:=nD b4.o a3;clear a3;go_wp2_with fail
 go_returns;exact⟨rfl,b1.o⟩
theorem GY(A)(x)(r)(U:A.rep=rp r)(a3:Hr r)(a4:BZ r)(a2:0<=d)(a1:d<=1000)(J:Lays L g b so ao sc ac d 161 #[.pointer (some ⟨g,0,none⟩),.agg (pU A).toArray] x)(a0:Lays L g b so ao sc ac (d+1) 161 #[.pointer (some ⟨g,0,none⟩),.agg (pU A).toArray] x):
  Lays L g b so ao sc ac d 146 #[.pointer (some ⟨g,0,none⟩),.agg (pU A).toArray] (Mt.part r x):=by
 cases r with
 | none=>exact TF A x (by rw[U];rfl) J
 | some q =>
  have j:=a3 q rfl;have O:=a4 q rfl;have G:A.rep=jQ q:=U;have I:=ME A x q j O G a2 a1 J a0;have Y:A.rep.kind=4:=by rw[G,qH,j];rfl
  have Z:A.rep.vY=q.jB+1:=by rw[G];simp[jQ,j]
  show Lays L g b so ao sc ac d _ _ (Db x q);have h:=λp=>Zu x q O p d
  by_cases e:q.jB=2
  ·simp only[lG e]at h;exact(QK A _ Y (by rw[Z,e];rfl) I).congr (h 0).2.symm (λp=>(h p).1.symm)
  ·simp only[lC e]at h;exact(TG A _ Y (by rw[Z];simp;omega) I).congr (h 0).2.symm (λp=>(h p).1.symm)
end
def zDS(L g:Nat)(b:PB)(so ao:Option Addr)(sc ac:Nat)(N:Nat):Prop:=
 ∀(f:Fs),f.wf->f.ok->f.zJ.length<N->∀(s:Nat),s<b.zK.length->yO b 0 0 f (b.xQ s).first (b.xQ s).next->∀d:Int,0<=d->d+f.zJ.length<=1000->
  Lays L g b so ao sc ac d 92 #[.pointer (some ⟨g,0,none⟩),.int .i64 (s:Int)] f.re
theorem zCm{b f a n}(h:yO b 0 0 f a n)(j:f.wf)(Y:f.ok):
  (a=-1/\f.both.1=.qb)\/
  ∃(k:Nat) (s:Fs) (r:Option zU) (x:Mt.Re),a=k/\k<b.zC.length/\(b.qI k).rep=rp r/\Hr r/\BZ r/\f.both.1=.cat (Mt.part r x) s.both.1/\yO b 0 0 s (b.qI k).next n/\s.wf/\s.ok/\s.zJ.length<f.zJ.length/\
   ((∃t,jy t/\(b.qI k).tok=jQ t/\x=fV t)\/∃(t:zU) (i:Fs) (q:Nat),x=iy t i.re/\t.kind=6/\(0<=t.jB/\t.jB<=4)/\i.wf/\i.ok/\i.zJ.length+2<=f.zJ.length/\(b.qI k).tok=jQ t/\(b.qI k).num=(if jD t then t.n else 0)/\(b.qI k).body=q/\q<b.zK.length/\yO b 0 0 i (b.xQ q).first (b.xQ q).next):=by
 cases f with
 | nil=>exact gG ⟨h.1,rfl⟩
 | bar t r=>exact gG ⟨h.1,rfl⟩
 | leaf t r s =>
  obtain⟨k,G,_,I,J,O,Z,U⟩:=h;exact lZ ⟨k,s,r,fV t,G,I,O,j.2.1,Y.1,rfl,U,j.2.2,Y.2,by simp[Fs.zJ];omega,gG ⟨t,j.1,J,rfl⟩⟩
 | Dh t i c r s =>
  obtain⟨k,G,_,I,J,O,Z,⟨q,a0,_,a1,a2⟩,U⟩:=h;obtain⟨w1,b0,a7,a8,a9⟩:=j;obtain⟨a3,a4,a5,a6⟩:=Y;exact lZ ⟨k,s,r,iy t i.re,G,I,O,a8,a3,rfl,U,a9,a6,by simp[Fs.zJ];omega,lZ ⟨t,i,q,rfl,w1,a4,a7,a5,by simp[Fs.zJ],J,Z,a0,a1,a2⟩⟩
section
variable {L:Nat} {g:Nat} {b:PB} {so ao:Option Addr} {sc ac N:Nat}
theorem GZ(Y:zDS L g b so ao sc ac N)(A:PA)(t)(i)(q:Nat)(O:t.kind=6)(a9:0<=t.jB/\t.jB<=4)(a8:i.wf)(a5:i.ok)(a3:i.zJ.length<N)(U:A.tok=jQ t)(a4:A.num=(if jD t then t.n else 0))(I:A.body=q)(a6:q<b.zK.length)(a7:yO b 0 0 i (b.xQ q).first (b.xQ q).next)(d:Int)(a1:0<=d)(a0:d+i.zJ.length<=1000):
  Lays L g b so ao sc ac d 161 #[.pointer (some ⟨g,0,none⟩),.agg (pU A).toArray] (iy t i.re):=by
 have G:=Y i a8 a5 a3 q a6 a7 d a1 a0;have a2:A.tok.kind=2:=by rw[U,qH,O];rfl
 have J:A.tok.group=Ri t.jB:=by rw[U];simp[jQ,O]
 refine TA A _ a2 ?_;unfold iy;by_cases j:t.jB=3
 ·rw[lG j];exact Mx A q _ (by rw[J,j];rfl) I G
 ·rw[lC j];by_cases h:t.jB=4
  ·rw[lG h];have Z:jD t=true:=by simp[jD,O,h]
   exact QF A q t.n _ (by rw[J,h];rfl) I (by rw[a4,lG Z]) G
  ·rw[lC h];exact QE A q t.jB (by omega) _ (by rw[J];unfold Ri;rw[lC h,lC j]) I G
theorem Wd{w}{j}(I:vQ 0 w b so (some ⟨j,0,none⟩) sc ac)(k)(U:k<b.zC.length):w.rangeAt j (k*20) (pU (b.qI k)):=by
 obtain⟨Y,e,_,_,J⟩:=I.CK k U;simp only[oP,uO,wJ,iE]at e;subst e;intro G v h;by_cases O:G<20
 ·rw[J G O];exact h
 ·rw[gQ (by rw[Ez];omega)]at h;simp at h
theorem Kh(h:zDS L g b so ao sc ac N)(i8:b.zC.length<=1000)(i9:b.zK.length<=1000)(f)(e5:f.wf)(d7:f.ok)(i5:f.zJ.length<=N)(s)(g6:s<b.zK.length)(I:yO b 0 0 f (b.xQ s).first (b.xQ s).next)(d:Int)(a7:0<=d)(h8:d+f.zJ.length<=1000):
  Lays L g b so ao sc ac d 121 #[.pointer (some ⟨g,0,none⟩),.int .i64 (s)] f.both.1:=by
 intro w co cc c G d6
 have b2:Hid (∀(k:Nat) (a8:Fs) (r:Option zU) (x:Mt.Re),a8.zJ.length<=f.zJ.length->(b.qI k).rep=rp r->Hr r->BZ r->((∃t,jy t/\(b.qI k).tok=jQ t/\x=fV t)\/∃(t:zU) (i:Fs) (q:Nat),x=iy t i.re/\t.kind=6/\(0<=t.jB/\t.jB<=4)/\i.wf/\i.ok/\i.zJ.length+2<=a8.zJ.length/\(b.qI k).tok=jQ t/\(b.qI k).num=(if jD t then t.n else 0)/\(b.qI k).body=q/\q<b.zK.length/\yO b 0 0 i (b.xQ q).first (b.xQ q).next)->
   Lays L g b so ao sc ac d 146 #[.pointer (some ⟨g,0,none⟩),.agg (pU (b.qI k)).toArray] (Mt.part r x)):=by
  intro k a8 r x h6 c5 c6 c7 f9;rcases f9 with ⟨t,c8,c9,rfl⟩ | ⟨t,i,q,rfl,b4,b6,b7,b8,h4,b9,c0,c1,c2,b5⟩
  ·exact GY _ _ r c5 c6 c7 a7 (by omega) (GX _ t c8 c9) (GX _ t c8 c9)
  ·exact GY _ _ r c5 c6 c7 a7 (by omega) (GZ h _ t i q b4 b6 b7 b8 (by omega) b9 c0 c1 c2 b5 d a7 (by omega)) (GZ h _ t i q b4 b6 b7 b8 (by omega) b9 c0 c1 c2 b5 (d+1) (by omega) (by omega))
 obtain⟨a3,rfl,i2,j1,g9,h0⟩:=G.tree.xq s g6;obtain⟨g8,_,_,_,_⟩:=G.cells;have f2:=hid G;have a2:=hnd I (And.intro e5 d7);have j0:(s:Int)<(b.zK.length:Int):=by omega
 have f4:=hid d6;generalize g5:(b.xQ s).next=n at *
 generalize g4:(b.xQ s).first=f6 at *
 clear G h I e5 d7 g5 g4 d6;go_enter func121,ntmps121
 go_wp2_with fail
 go_loopg [4] f.zJ.length (λc3 at' wr=>∃(G:Fs) (a:Int) (J:Option Addr) (U:Nat) (j:List zT),at'=.int .i64 a/\G.zJ.length=c3/\c3<=f.zJ.length/\yO b 0 0 G a n/\G.wf/\G.ok/\za L wr g b (some ⟨a3,0,none⟩) ao sc ac J U j d/\vL g co J w wr/\j++G.both.1.code j.length d=c++f.both.1.code c.length d/\j.length+G.both.1.len<=1000)
 case atStart=>exact⟨f,f6,co,cc,c,rfl,rfl,lF _,a2.o.1,a2.o.2.1,a2.o.2.2,f2.o,vL.refl _ _ _,rfl,f4.o⟩
 case round =>
  obtain⟨d3,a,J,U,j,rfl,i1,i0,I,d5,d4,h,Z,a0,i7⟩:=hrel;have a6:=zCm I d5 d4;rcases a6 with ⟨a4,c4⟩ | ⟨k,O,r,x,a4,a9,d8,e0,e1,a5,e3,e4,e2,j2,e6⟩
  ·subst a4;have f1:Hid (Da L g b (some ⟨a3,0,none⟩) ao sc ac d co w (c++f.both.1.code c.length d) wr):=⟨J,U,by rw[<-a0,c4];simpa[Mt.Re.code]using h,Z⟩
   clear h Z a0 I c4;go_wp2_with fail
   go_returns;exact⟨rfl,f1.o⟩
  ·subst a4;obtain⟨Y,g2,h9,h7,g3⟩:=h.tree.CK k a9;subst g2;have d9:=Wd h.tree k a9;obtain⟨_,h1,_,_,_⟩:=h.cells;have d0:=b2.o k d3 r x (by omega) d8 e0 e1 e6;have i6:d3.both.1.len=(Mt.part r x).len+O.both.1.len:=by rw[a5];rfl
   have e9:=hid (d0 wr J U j h (by omega));have f5:=hid Z;have a1:=hnd e3 (And.intro e4 e2);have i3:(k:Int)<(b.zC.length:Int):=by omega
   have i4:((k:Int) != -1)=true:=by simp
   have f0:Hid (j++(Mt.part r x).code j.length d++O.both.1.code ((j++(Mt.part r x).code j.length d).length:Int) d=c++f.both.1.code c.length d):=by
    show _=_;rw[<-a0,a5,Mt.Re.code,gZ,lQ,Mt.Re.zH];push_cast;rfl
   have f3:Hid ((j++(Mt.part r x).code j.length d).length+O.both.1.len<=1000):=by
    show _<=_;rw[lQ,Mt.Re.zH];omega
   have b1:Hid (∀(W:World) (b3:Option Addr) (e8:Nat) (e7:List zT),za L W g b (some ⟨a3,0,none⟩) (some ⟨Y,0,none⟩) sc ac b3 e8 e7 d->W.cell? ⟨Y,k*20+19,none⟩=some (.int .i64 (b.qI k).next)/\W.cell? ⟨g,1,none⟩=some (.slice (some ⟨Y,0,none⟩) b.zC.length ac)):=by
    intro W b3 e8 e7 d2;obtain⟨h5,e,_,_,a6⟩:=d2.tree.CK k a9;simp only[oP,uO,wJ,iE]at e;subst e;exact⟨a6 19 (by decide),d2.cells.2.1⟩
   clear h Z a0 I g3 d0 e6 d8 e0 e1 e3 e4 e2 a5 d5 d4 b2;generalize g1:(b.qI k).next=g7 at *
   generalize g0:b.qI k=A at *;clear g1 g0;go_wp2_with (refine wpList_load_mid (by rfl) 200 (.tmp 32) (by rfl) Y (k*20) (by rfl) (pU A) _ d9 underlying200 rfl (by rw[fP];rfl) ?_)
   refine e9.o.mono ?_;rintro e j3 ⟨rfl,f8,f7,h,d1⟩;obtain⟨h3,h2⟩:=b1.o _ _ _ _ h;have b0:=hnd h (f5.o.trans d1);clear h d1 b1 d9;go_wp2_with fail
   go_roundg O.zJ.length
   case measure=>omega
   case rel=>exact⟨O,g7,f8,f7,_,rfl,rfl,by omega,a1.o.1,a1.o.2.1,a1.o.2.2,b0.o.1,b0.o.2,f0.o,f3.o⟩
end
theorem zEW{f:Fs}(j:f.rs=none):f.re=f.both.1:=by
 have h:=f.NA;unfold Fs.re;generalize f.both=G at *;obtain⟨x,y⟩:=G;rw[j]at h;simp at h;subst h;rfl
theorem zDT{f r:Fs}(j:f.rs=some r):f.re=.alt f.both.1 r.re:=by
 have h:=f.NA;unfold Fs.re;generalize f.both=G at *;obtain⟨x,y⟩:=G;rw[j]at h;simp at h;subst h;rfl
theorem TH x y z:(Instr.build 112 #[(0,.int .i64 2),(1,.int .i64 x),(2,.int .i64 y)]).run prog z=.ok (.agg (qQ ⟨2,x,y,[]⟩)) z:=by
 unfold qQ;kernel_rfl
section
variable {L:Nat} {g:Nat} {b:PB} {so ao:Option Addr} {sc ac N:Nat}
theorem EL(f:Fs)(s)(Z:s<b.zK.length)(a4:b.zK.length<=1000)(Y:(b.xQ s).next=-1)(X)(d)(G:Lays L g b so ao sc ac d 121 #[.pointer (some ⟨g,0,none⟩),.int .i64 (s)] X):
  Lays L g b so ao sc ac d 92 #[.pointer (some ⟨g,0,none⟩),.int .i64 (s)] X:=by
 intro w co cc c h U;have I:=hid (G _ _ _ _ h U);obtain⟨a2,rfl,a3,a6,a1,O⟩:=h.tree.xq s Z;rw[Y]at O;obtain⟨a0,_,_,_,_⟩:=h.cells;have a5:(s:Int)<(b.zK.length:Int):=by omega
 clear h G;go_enter func92,ntmps92
 go_wp2_with fail
 refine I.o.mono ?_;rintro e a7 ⟨rfl,j⟩;have J:Hid _:=j;clear j;go_wp2_with fail
 go_returns;exact⟨rfl,J.o⟩
theorem Eb(s k:Nat)(e2:s<b.zK.length)(g3:b.zK.length<=1000)(c4:(b.xQ s).next=k)(X I)(d)(c2:Lays L g b so ao sc ac d 121 #[.pointer (some ⟨g,0,none⟩),.int .i64 (s)] X)(c3:Lays L g b so ao sc ac d 92 #[.pointer (some ⟨g,0,none⟩),.int .i64 (k)] I):
  Lays L g b so ao sc ac d 92 #[.pointer (some ⟨g,0,none⟩),.int .i64 (s)] (.alt X I):=by
 intro w co cc c h c5;have g2:c.length+X.len+I.len+2<=1000:=by simp only[Mt.Re.len]at c5;omega
 have b5:=hid (mI (x:=⟨2,0,0,[]⟩) h (by omega));have b8:=hid c2;have b9:=hid c3;obtain⟨c1,rfl,g0,g8,d6,c0⟩:=h.tree.xq s e2;rw[c4]at c0;obtain⟨d5,_,_,_,_⟩:=h.cells;have g7:(s:Int)<(b.zK.length:Int):=by omega
 have g1:((k:Int)==-1)=false:=by simp
 have a8:(c++[(⟨2,0,0,[]⟩:zT)]).length=c.length+1:=by simp
 have a9:∀z:Int,(c++[(⟨2,0,0,[]⟩:zT)]++X.code z d).length=c.length+1+X.len:=λz=>by rw[lQ,a8,Mt.Re.zH]
 have a0:∀z:Int,(c++[(⟨2,0,0,[]⟩:zT)]++X.code z d++[(⟨3,0,0,[]⟩:zT)]).length=c.length+2+X.len:=λz=>by rw[lQ,a9];simp;omega
 have c8:Hid (∀(z:Int) (v:zT),(c++[(⟨2,0,0,[]⟩:zT)]++X.code z d++[(⟨3,0,0,[]⟩:zT)]).set c.length v=c++v::X.code z d++[(⟨3,0,0,[]⟩:zT)]):=λz v=>by
  rw[show c++[(⟨2,0,0,[]⟩:zT)]++X.code z d++[(⟨3,0,0,[]⟩:zT)]=c++[(⟨2,0,0,[]⟩:zT)]++(X.code z d++[(⟨3,0,0,[]⟩:zT)]) by simp,set_mid];simp
 clear h c2 c3 c5 c4;unfold qQ at b5;go_enter func92,ntmps92
 go_wp2_with fail
 refine b5.o.mono ?_;rintro e w1 ⟨rfl,g9,e6,j,U⟩;have a3:=b8.o w1 _ _ _ j (by rw[a8];omega);rw[a8]at a3;have c9:=hid (a3);have d2:=hid U;clear j U a3 d6 c0 d5;go_wp2_with fail
 refine c9.o.mono ?_;rintro e h0 ⟨rfl,e9,e7,j,U⟩;have a4:=mI (x:=⟨3,0,0,[]⟩) j (by rw[a9];omega);rw[a9]at a4;have b2:=hid (a4);have d3:=hid (d2.o.trans U);clear j U a4;unfold qQ at b2;generalize f3:c.length+1+X.len=Y at *;go_wp2_with fail
 refine b2.o.mono ?_;rintro e e4 ⟨rfl,q,cap,j,U⟩;have G:=j.cells.2.2.1;rw[a0]at G;obtain⟨q',a1,e1,g5,d9⟩:=j.form (by rw[a0];omega);simp only[oP,uO,wJ,iE]at a1;subst a1;rw[a0]at d9;have b7:Hid (e4.there q (c.length*4) 4):=Mw j c.length (by rw[a0];omega);have b3:=hid j;have b6:=hid (d3.o.trans U);have f9:=j.lt.1;clear j U;have f5:c.length+2+X.len<=1000:=by omega
 go_upto_region 6 with fail
 go_cut [] (λc7=>za L c7 g b (some ⟨c1,0,none⟩) ao sc ac (some ⟨q,0,none⟩) cap (c++(⟨2,(c.length:Int)+1,((c.length+2+X.len:Nat):Int),[]⟩:zT)::X.code ((c.length+1:Nat):Int) d++[(⟨3,0,0,[]⟩:zT)]) d/\vL g co (some ⟨q,0,none⟩) w c7)
 case first =>
  generalize f6:c.length+2+X.len=T at *;have J:∀z:World,z.cell? ⟨g,2,none⟩=some (.slice (some ⟨q,0,none⟩) T cap)->z.cell? ⟨g,2,none⟩=some (.slice (some ⟨q,0,none⟩) T cap):=λz hz=>hz
  have f7:(c.length:Int)<(T:Int):=by omega
  refine wp_region_held_drew (S:=λz:World=>z.cell? ⟨g,2,none⟩=some (.slice (some ⟨q,0,none⟩) T cap)) (by kernel_rfl) G (λO=>?_);refine qJ 0 30 (.pointer (some ⟨g,0,none⟩)) rfl (by kernel_rfl) (λ_ _ _ h=>h) (λz hz=>by clear O hz J G;go_simp) (by assumption) ?_;simp only[Act.put,lD,lJ,lI];refine qJ 1 31 (.pointer (some ⟨g,0,none⟩)) rfl (by kernel_rfl) (λ_ _ _ h=>h) (λz hz=>by clear O hz J G;go_simp) (by assumption) ?_;simp only[Act.put,lD,lJ,lI];refine qJ 2 32 (.pointer (some ⟨g,2,none⟩)) rfl (by kernel_rfl) (λ_ _ _ h=>h) (λz hz=>by clear O hz J G;go_simp) (by assumption) ?_;simp only[Act.put,lD,lJ,lI];refine qJ 3 33 (.slice (some ⟨q,0,none⟩) T cap) rfl (by kernel_rfl) (λ_ _ _ h=>h) (λz hz=>by have e3:=J z hz;clear O hz J G;go_simp) (by assumption) ?_;simp only[Act.put,lD,lJ,lI];refine qJ 4 34 (.int .i64 (c.length:Int)) rfl (by kernel_rfl) (λ_ _ _ h=>h) (λz hz=>by clear O hz J G;go_simp) (by assumption) ?_;simp only[Act.put,lD,lJ,lI];refine qJ 5 35 (.int .i64 (c.length:Int)) rfl (by kernel_rfl) (λ_ _ _ h=>h) (λz hz=>by clear O hz J G;go_simp) (by assumption) ?_;simp only[Act.put,lD,lJ,lI];refine qJ 6 36 (.int .i64 ((c.length:Int)+1)) rfl (by kernel_rfl) (λ_ _ _ h=>h) (λz hz=>by clear O hz J G;go_simp;rw[iP];omega) (by assumption) ?_;simp only[Act.put,lD,lJ,lI];refine qJ 7 37 (.pointer (some ⟨g,0,none⟩)) rfl (by kernel_rfl) (λ_ _ _ h=>h) (λz hz=>by clear O hz J G;go_simp) (by assumption) ?_;simp only[Act.put,lD,lJ,lI];refine qJ 8 38 (.pointer (some ⟨g,0,none⟩)) rfl (by kernel_rfl) (λ_ _ _ h=>h) (λz hz=>by clear O hz J G;go_simp) (by assumption) ?_;simp only[Act.put,lD,lJ,lI];refine qJ 9 39 (.pointer (some ⟨g,2,none⟩)) rfl (by kernel_rfl) (λ_ _ _ h=>h) (λz hz=>by clear O hz J G;go_simp) (by assumption) ?_;simp only[Act.put,lD,lJ,lI];refine qJ 10 40 (.slice (some ⟨q,0,none⟩) T cap) rfl (by kernel_rfl) (λ_ _ _ h=>h) (λz hz=>by have e3:=J z hz;clear O hz J G;go_simp) (by assumption) ?_;simp only[Act.put,lD,lJ,lI];refine qJ 11 41 (.int .i64 (T:Int)) rfl (by kernel_rfl) (λ_ _ _ h=>h) (λz hz=>by clear O hz J G;go_simp) (by assumption) ?_;simp only[Act.put,lD,lJ,lI];refine qJ 12 42 (.agg (qQ ⟨2,(c.length:Int)+1,(T:Int),[]⟩)) rfl (by kernel_rfl) (λ_ _ _ h=>h) (λz hz=>by refine DJ (t:=112) (parts:=#[(0,.const (.int .i64 2)),(1,.tmp 36),(2,.tmp 41)]) rfl ?_;simp only[rU,oZ,sO];exact TH _ _ z) (by assumption) ?_;simp only[Act.put,lD,lJ,lI];refine qJ 13 43 (.pointer (some ⟨q,c.length*4,none⟩)) rfl (by kernel_rfl) (λ_ _ _ h=>h) (λz hz=>by clear O hz J G;go_simp) (by assumption) ?_;simp only[Act.put,lD,lJ,lI];refine Bu 14 _ rfl rfl (by kernel_rfl) (by kernel_rfl) _ _ _ rfl q (c.length*4) (qQ ⟨2,(c.length:Int)+1,(T:Int),[]⟩) (by kernel_rfl) (by kernel_rfl) b7.o (by rw[bZ];rfl) (uy _) rfl ?_;refine⟨(gH (a:=⟨g,2,none⟩) (vG q _ _ _ _ (iB e1))).trans G,?_⟩;clear O J G;go_wp2_with fail
  go_meet
  case rel =>
   have M:=b3.o.drew.Kw c.length 0 (qQ ⟨2,(c.length:Int)+1,(T:Int),[]⟩).toList ⟨2,(c.length:Int)+1,(T:Int),[]⟩ (by rw[a0];omega) (by show 0+4<=4;omega) rfl;rw[c8.o]at M;exact⟨M,b6.o.drew.setMany q _ _ (lZ rfl)⟩
 case rest =>
  obtain⟨j,U⟩:=hcut
  have b0:(c++(⟨2,(c.length:Int)+1,((c.length+2+X.len:Nat):Int),[]⟩:zT)::X.code ((c.length+1:Nat):Int) d++[(⟨3,0,0,[]⟩:zT)]).length=c.length+2+X.len:=by
   simp[Mt.Re.zH];omega
  have a5:=b9.o wc _ _ _ j (by rw[b0];omega);rw[b0]at a5;have d0:=hid (a5);have d4:=hid U;clear j U a5 b7 b3 b6 b8 b9 G;go_wp2_with fail
  refine d0.o.mono ?_;rintro e b1 ⟨rfl,f0,e8,j,U⟩
  have Z:(c++(⟨2,(c.length:Int)+1,((c.length+2+X.len:Nat):Int),[]⟩:zT)::X.code ((c.length+1:Nat):Int) d++[(⟨3,0,0,[]⟩:zT)]++I.code ((c.length+2+X.len:Nat):Int) d).length=c.length+2+X.len+I.len:=by
   rw[lQ,b0,Mt.Re.zH]
  have G:=j.cells.2.2.1;rw[Z]at G;obtain⟨a2,a1,g4,g6,e0⟩:=j.form (by rw[Z];omega);subst a1;rw[Z]at e0
  have a6:(c++(⟨2,(c.length:Int)+1,((c.length+2+X.len:Nat):Int),[]⟩:zT)::X.code ((c.length+1:Nat):Int) d).length=Y:=by
   simp[Mt.Re.zH];omega
  have a7:(c++(⟨2,(c.length:Int)+1,((c.length+2+X.len:Nat):Int),[]⟩:zT)::X.code ((c.length+1:Nat):Int) d++[(⟨3,0,0,[]⟩:zT)]++I.code ((c.length+2+X.len:Nat):Int) d).getD Y kC=⟨3,0,0,[]⟩:=by
   rw[<-a6];exact QD _ _ _
  have c6:∀v,(c++(⟨2,(c.length:Int)+1,((c.length+2+X.len:Nat):Int),[]⟩:zT)::X.code ((c.length+1:Nat):Int) d++[(⟨3,0,0,[]⟩:zT)]++I.code ((c.length+2+X.len:Nat):Int) d).set Y v=c++(⟨2,(c.length:Int)+1,((c.length+2+X.len:Nat):Int),[]⟩:zT)::X.code ((c.length+1:Nat):Int) d++v::I.code ((c.length+2+X.len:Nat):Int) d:=λv=>by
   rw[<-a6];exact set_mid _ _ _ _
  have f1:b1.cell? ⟨a2,Y*4+1,none⟩=some (.int .i64 0):=by
   rw[gU j.code _ (by rw[Z];omega),jk _ Y 1 (by rw[Z];omega) (by omega),a7];rfl
  have f2:b1.frozen? ⟨a2,Y*4+1,none⟩=false:=rA j.code _;have M:=j.Kw Y 1 [.int .i64 ((c.length+2+X.len+I.len:Nat):Int)] ⟨3,((c.length+2+X.len+I.len:Nat):Int),0,[]⟩ (by rw[Z];omega) (by simp) (by rw[a7];rfl);rw[c6]at M
  have b4:Hid (c++(Mt.Re.alt X I).code c.length d=c++(⟨2,(c.length:Int)+1,((c.length+2+X.len:Nat):Int),[]⟩:zT)::X.code ((c.length+1:Nat):Int) d++(⟨3,((c.length+2+X.len+I.len:Nat):Int),0,[]⟩:zT)::I.code ((c.length+2+X.len:Nat):Int) d):=by
   show _=_;have d7:((c.length+2+X.len:Nat):Int)=(c.length:Int)+X.len+2:=by push_cast;omega
   have d8:((c.length+2+X.len+I.len:Nat):Int)=(c.length:Int)+X.len+2+I.len:=by push_cast;omega
   rw[d7,d8];simp[Mt.Re.code]
  have d1:Hid (Da L g b (some ⟨c1,0,none⟩) ao sc ac d co w (c++(Mt.Re.alt X I).code c.length d) (b1.setCell ⟨a2,Y*4+1,none⟩ (.int .i64 ((c.length+2+X.len+I.len:Nat):Int))).drew):=by
   show Da _ _ _ _ _ _ _ _ _ _ _ _;rw[b4.o];exact⟨_,_,M.drew,((d4.o.trans U).set (p:=⟨a2,Y*4+1,none⟩) (lZ rfl) _).drew⟩
  have f8:=j.lt.1;have f4:(Y:Int)<((c.length+2+X.len+I.len:Nat):Int):=by omega
  clear j U M c6 a7 a6 Z b4;generalize c.length+2+X.len+I.len=e5 at *;go_wp2_with fail
  go_region
  go_wp2_with fail
  go_returns;exact⟨rfl,d1.o⟩
theorem EM(I:zDS L g b so ao sc ac N)(a5:b.zC.length<=1000)(j:b.zK.length<=1000)(f)(a0:f.wf)(U:f.ok)(a4:f.zJ.length<=N)(s)(G:s<b.zK.length)(Z:yO b 0 0 f (b.xQ s).first (b.xQ s).next)(d:Int)(O:0<=d)(a3:d+f.zJ.length<=1000):
  Lays L g b so ao sc ac d 92 #[.pointer (some ⟨g,0,none⟩),.int .i64 (s)] f.re:=by
 have J:=Kh I a5 j f a0 U a4 s G Z d O a3;rcases Ep f _ _ Z with ⟨e,h⟩ | ⟨r,k,e,h,a1,a2⟩
 ·rw[zEW e];exact EL f s G j h _ d J
 ·have Y:=Km f r e;rw[zDT e];exact Eb s k G j h _ _ d J (I r (Y.2.1 a0) (Y.2.2 U) (by omega) k a1 a2 d O (by omega))
theorem TI(h:b.zC.length<=1000)(j:b.zK.length<=1000):∀N,zDS L g b so ao sc ac N
 | 0=>λf _ _ G=>by omega
 | N+1=>λf Z O G s U Y d J I=>EM (TI h j N) h j f Z O (by omega) s U Y d J I
end
