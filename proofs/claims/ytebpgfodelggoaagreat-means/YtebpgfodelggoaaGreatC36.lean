import Derived.Test.YtebpgfodelggoaaGreatC33
import Derived.Test.YtebpgfodelggoaaGreatC35
set_option linter.all false
set_option maxRecDepth 100000
set_option maxHeartbeats 8000000
namespace Go.Proofs.YtebpgfodelggoaaGreat
open Go.RowKit _root_.Go.Proofs.Tryz Mt
theorem qx{P}{j}{G}{h}{a}{w}{Q}(U:h.guard=none)(t)(parts)(W:h.op=.build t parts)(v)
  (J:(Instr.build t (parts.map λq=>(q.1,a.eval q.2))).run P w=.ok v w) (I:wpList P j Q G (a.put h.dst v) w):wpList P j Q (h::G) a w:=
 iQ U λ_ O=>by
  unfold Oper.wp;rw[DJ W J];exact O _ _ I
theorem zBW l(h:l.length=20)(p:Nat) w:(Instr.build 66 #[(0,.int .i64 (p)),(1,.agg (l.map (Value.int .i64)).toArray)]).run prog w=.ok (.agg (qG (p,l))) w:=by
 obtain⟨j,G,a3,a4,a5,a6,a7,a8,a9,b0,I,J,O,U,W,Y,Z,a0,a1,a2,rfl⟩:=GL h;unfold qG jw;simp only[oZ,sO];kernel_rfl
theorem YX l(h:l.length=20) w:(Instr.build 29 #[(0,.bool true),(1,.agg (l.map (Value.int .i64)).toArray)]).run prog w=.ok (uw ⟨true,l,0⟩) w:=by
 obtain⟨j,G,a3,a4,a5,a6,a7,a8,a9,b0,I,J,O,U,W,Y,Z,a0,a1,a2,rfl⟩:=GL h;unfold uw xZ;simp only[oZ,sO,rR,sN];kernel_rfl
theorem YZ l(h:l.length=20) w:(Instr.build 29 #[(1,.agg (l.map (Value.int .i64)).toArray)]).run prog w=.ok (uw ⟨false,l,0⟩) w:=by
 obtain⟨j,G,a3,a4,a5,a6,a7,a8,a9,b0,I,J,O,U,W,Y,Z,a0,a1,a2,rfl⟩:=GL h;unfold uw xZ;simp only[oZ,sO,rR,sN];kernel_rfl
theorem zEQ l(h:l.length=20) i p:((xZ ⟨true,l,0⟩).setIfInBounds 1 (.int .i64 i)).setIfInBounds 2 (.int .i64 p)=xZ ⟨true,i::p::l.drop 2,0⟩:=by
 obtain⟨j,G,a3,a4,a5,a6,a7,a8,a9,b0,I,J,O,U,W,Y,Z,a0,a1,a2,rfl⟩:=GL h;rfl
theorem zBX{w:World}{g}{x}(h:w.rangeAt g 0 (jw x)):w.rangeAt g 1 (x.2.map (Value.int .i64)):=λG v j=>by
 have:=h (1+G) v (by unfold jw;rw[wD,gI];exact j);rw[rO]at this;exact this
theorem zBY{w h l}(t:BA)(j:nH w h l):jU (w.alloc (.cells #[h,.string t,.int .i64 0] 61)) w.heap.size h l t 0:=
 ⟨jP _ _,vW j ((lK _ _).alloc (lF _) _),λe=>by have:=(vO j e).2;omega⟩
theorem VA(l:List zU)(t:BA){k w:Nat}(h:k<=t.size):nP l t (t.size+1-k) k w=
  if 300000<(mM l t 283 0 0 l.length (k,nowhere) w).2 then((false,List.replicate 20 0),false)
  else match (mM l t 283 0 0 l.length (k,nowhere) w).1 with
   | x::_=>((true,(k:Int)::(x.1:Int)::x.2.drop 2),true)
   | []=>nP l t (t.size+1-(k+1)) (k+1) (mM l t 283 0 0 l.length (k,nowhere) w).2:=by
 rw[show t.size+1-k=(t.size-k)+1 by omega,show t.size+1-(k+1)=t.size-k by omega,nP];generalize mM l t 283 0 0 l.length (k,nowhere) w=R;obtain⟨L,n⟩:=R;cases L <;> rfl
theorem Za l t{k w}(h:t.size<k):nP l t (t.size+1-k) k w=((false,nowhere),true):=by
 rw[show t.size+1-k=0 by omega,nP]
theorem SY(p t:BA)(jK)(w)(k6:p.size<=maxLen)(k7:t.size<=30)(l6:jK<=t.size)(f4:zEK (zP p).1)(g1:IB (zP p).1):
  Calls prog 14 #[.string p,.string t,.int .i64 (jK)] w λe w'=>e=.returned (.tuple #[uw ⟨(nP (zP p).1 t (t.size+1-jK) jK 0).1.1,(nP (zP p).1 t (t.size+1-jK) jK 0).1.2,0⟩,.bool (nP (zP p).1 t (t.size+1-jK) jK 0).2])/\Below w.heap.size w w':=by
 have i0:Hid (∀z:World,CT 23 #[.string p] z λe w'=>∃v,e=.returned (.tuple #[v,.int .i64 (zP p).2.1,.int .i64 (zP p).2.2])/\nH w' v (zP p).1/\Below z.heap.size z w'):=λz=>FM p z k6
 have b9:=bG p;have e3:=Vx (zP p).1 t b9.2 b9.1 f4 g1 k7 283;have m0:=b9.2;generalize (zP p).1=l at *;have h8:Hid (T0 l t 283):=e3.1;generalize f2:nP l t (t.size+1-jK) jK 0=F at *;have g7:Hid (nP l t (t.size+1-jK) jK 0=F):=f2;clear e3 b9 f4 g1 f2
 go_in
 go_upto_region 1 with fail
 have g2:(w.alloc bg).heap[w.heap.size]?=some bg:=gF _ _;have f0:Below w.heap.size w (w.alloc bg):=(lK _ _).alloc (lF _) _;change Code.wp _ _ _ _ (w.alloc bg);have h4:Hid ((w.alloc bg).heap[w.heap.size]?=some bg):=g2;have g4:Hid (Below w.heap.size w (w.alloc bg)):=f0;have a4:Hid (w.heap.size<(w.alloc bg).heap.size):=by show _<_;simp
 clear g2 f0;generalize (w.alloc bg)=l3 at *;go_wp2_with fail
 refine(i0.o _).mono ?_;rintro e w1 ⟨m5,rfl,c8,b5⟩;obtain⟨ao,cap,rfl⟩:=LQ c8;have d8:Hid (jU (w1.alloc (.cells #[.slice ao l.length cap,.string t,.int .i64 0] 61)) w1.heap.size (.slice ao l.length cap) l t 0):=zBY t c8;have s1:=b5.size;have e1:Hid ((w1.alloc (.cells #[.slice ao l.length cap,.string t,.int .i64 0] 61)).heap[w.heap.size]?=some bg):=(kQ _ _ _ (by have:=a4.o;omega)).trans ((b5.block _ a4.o).trans h4.o);have a9:Hid (Below w.heap.size w (w1.alloc (.cells #[.slice ao l.length cap,.string t,.int .i64 0] 61))):=(g4.o.trans (b5.mono (Nat.le_of_lt a4.o))).alloc (by have:=a4.o;omega) _;have Z:Hid (w.heap.size<w1.heap.size):=by have:=a4.o;show _<_;omega
 clear c8 b5 s1;go_upto_region 3 with fail
 generalize (w1.alloc (.cells #[.slice ao l.length cap,.string t,.int .i64 0] 61))=a5 at *;generalize w1.heap.size=j at *;have e0:Hid (j<a5.heap.size):=d8.o.lt;go_wp2_with fail
 go_loopw [12] (λd0 wr=>∃(k m:Nat),jK<=k/\k<=t.size+1/\d0=.int .i64 k/\jU wr j (.slice ao l.length cap) l t m/\m<=300000/\jF (λx=>x=j) a5 wr/\nP l t (t.size+1-k) k m=F) (λd0 _=>t.size+2-(intOf d0).toNat)
 case atStart=>exact⟨jK,0,lF _,by omega,rfl,d8.o,by omega,jF.refl _ _,g7.o⟩
 case round =>
  obtain⟨k,m,l8,l9,rfl,f9,k5,a8,hF⟩:=hrel;have h2:Hid (jU wr j (.slice ao l.length cap) l t m):=f9;have h0:Hid (jF (λx=>x=j) a5 wr):=a8;have e2:Hid (wr.heap[w.heap.size]?=some bg):=(a8.block _ (by have:=e0.o;have:=Z.o;omega) (by have:=Z.o;omega)).trans e1.o;have d6:Hid (Below w.heap.size w wr):=a9.o.trans (a8.toBelow a9.o.size (λx e=>by have:=Z.o;omega));have m2:=a8.size;have m3:decide ((k:Int)>=0)=true:=by simp
  clear f9 a8;by_cases f8:k<=t.size
  ·have l0:(k:Int)<=(t.size:Int):=by omega
   rw[VA l t f8]at hF;have c7:=GJ (t:=t) f8;have f6:=zEz l t 283 0 l.length (k,nowhere) m (by omega) k5;have f5:=Ir l 283 0 0 l.length m c7;have m1:=DL l t 283 0 0 l.length (k,nowhere) m (by omega);have e5:=λ(x:World) (k8:jU x j (.slice ao l.length cap) l t m)=>h8.o 0 l.length 0 l.length (k,nowhere) m j (.slice ao l.length cap) x rfl rfl k8 c7 (by omega) (lF _) (by omega) (by omega) f6
   generalize mM l t 283 0 0 l.length (k,nowhere) m=R at *;have h9:Hid (∀x:World,jU x j (.slice ao l.length cap) l t m->CT 24 #[.pointer (some ⟨j,0,none⟩),.int .i64 0,.int .i64 l.length,.agg (qG (k,nowhere))] x λe w'=>∃v',e=.returned v'/\fT x j (.slice ao l.length cap) l t R v' w'):=e5;have d2:Hid (qM (kV t) R.1):=f5
   have b0:Hid ((if 300000<R.2 then((false,List.replicate 20 0),false)else match R.1 with
    | x::_=>((true,(k:Int)::(x.1:Int)::x.2.drop 2),true)
    | []=>nP l t (t.size+1-(k+1)) (k+1) R.2)=F):=hF
   clear e5 c7 f6 f5 hF;go_wp2_with fail
   refine(FP wr).mono ?_;rintro e a3 ⟨rfl,Y⟩;have d9:Hid (jU a3 j (.slice ao l.length cap) l t m):=h2.o.below Y;have d7:Hid (jF (λx=>x=j) a5 a3):=h0.o.Jy Y;clear Y;go_wp2_with (first|(refine qx (by rfl) 66 #[(0,.tmp 40),(1,.tmp 41)] (by rfl) (.agg (qG (k,nowhere))) (by simp only[rU,oZ,sO];exact zBW _ rfl k _) ?_) | fail)
   refine(h9.o _ d9.o).mono ?_;rintro e h ⟨m6,rfl,a2⟩;obtain⟨e9,f1,rfl⟩:=dU a2.1;have h3:Hid (xX h a3.heap.size (.slice e9 R.1.length f1) R.1):=a2.1;have h1:Hid (jU h j (.slice ao l.length cap) l t R.2):=a2.2.1;have c1:Hid (jF (λx=>x=j) a5 h):=d7.o.trans a2.2.2 (λ_ _ e=>e);have c2:Hid (h.heap[w.heap.size]?=some bg):=(c1.o.block _ (by have:=e0.o;have:=Z.o;omega) (by have:=Z.o;omega)).trans e1.o;have d3:Hid (Below w.heap.size w h):=a9.o.trans (c1.o.toBelow a9.o.size (λx e=>by have:=Z.o;omega));have e4:Hid (w.heap.size<h.heap.size):=(lM.1 c2.o).1;have a1:=Gw a2.2.1;clear a2 d9 d7;by_cases g0:300000<R.2
   ·have a7:decide ((R.2:Int)>300000)=true:=by simp;omega
    rw[a7]at a1;have b2:Hid (CT 26 #[.pointer (some ⟨j,0,none⟩)] h λe w'=>e=.returned (.bool true)/\h=w'):=a1;have O:Hid (F=((false,List.replicate 20 0),false)):=by have:=b0.o;rw[lG g0]at this;exact this.symm
    clear a1 a7 b0;go_wp2_with fail
    refine b2.o.mono ?_;rintro e g3 ⟨rfl,rfl⟩;go_wp2_with (first|(refine qY (by rfl) (.tmp 6) (.tmp 47) (by rfl) w.heap.size (xZ yD) (by rfl) (by rfl) (by exact c2.o) (by rfl) (by rfl) (bU _) ?_;intro G I b7 b8 J) | fail)
    refine lT (CF rfl (by rfl) I (by rfl)) rfl ⟨?_,d3.o.trans (J _ (lF _))⟩;rw[O.o];rfl
   ·have a7:decide ((R.2:Int)>300000)=false:=by simp;omega
    rw[a7]at a1;have b2:Hid (CT 26 #[.pointer (some ⟨j,0,none⟩)] h λe w'=>e=.returned (.bool false)/\h=w'):=a1
    have b1:Hid ((match R.1 with
     | x::_=>((true,(k:Int)::(x.1:Int)::x.2.drop 2),true)
     | []=>nP l t (t.size+1-(k+1)) (k+1) R.2)=F):=by have:=b0.o;rw[lC g0]at this;exact this
    clear a1 a7 b0;by_cases W:0<R.1.length
    ·obtain⟨g,k0,e,l5,l7,f7,b6⟩:=DK h3.o (EI.of d2.o) W;obtain⟨rfl,rfl⟩:e9=some ⟨g,0,none⟩/\f1=k0:=by injection e with k1 l4 k2;exact⟨k1,k2⟩
     have c9:kV t (R.1.getD 0 xI):=d2.o _ (dB W)
     have f3:F=((true,(k:Int)::((R.1.getD 0 xI).1:Int)::(R.1.getD 0 xI).2.drop 2),true):=by
      have:=b1.o;cases a6:R.1 with
      | nil=>rw[a6]at W;simp at W
      | cons x xs=>rw[a6]at this;rw[<-this];rfl
     rw[aT]at b6;generalize R.1.getD 0 xI=x at *;have O:Hid (F=((true,(k:Int)::(x.1:Int)::x.2.drop 2),true)):=f3;have a0:Hid (x.2.length=20):=c9.len;have k9:(x.2.map (Value.int .i64)).length=20:=by rw[uD];exact c9.len
     have h7:Hid (h.rangeAt g 1 (x.2.map (Value.int .i64))):=zBX b6;have g9:Hid (h.cell? ⟨g,0,none⟩=some (.int .i64 (x.1:Int))):=b6 0 _ rfl;have g8:Hid (g<h.heap.size):=f7;have m4:(0:Int)<(R.1.length:Int):=by omega
     have l1:decide ((R.1.length:Int)>0)=true:=by simpa using W
     clear f3 c9 b6 e b1 f7;go_wp2_with fail
     refine b2.o.mono ?_;rintro e g3 ⟨rfl,rfl⟩;go_upto_region 12 with (first|(refine wpList_load_mid (by rfl) 27 (.tmp 53) (by rfl) g 1 (by rfl) (x.2.map (Value.int .i64)) _ h7.o underlying27 rfl (by rw[Cy,k9]) ?_)|(refine qx (by rfl) 29 #[(0,.const (.bool true)),(1,.tmp 54)] (by rfl) (uw ⟨true,x.2,0⟩) (by simp only[rU,oZ,sO];exact YX _ a0.o _) ?_)|(refine qY (by rfl) (.tmp 15) (.tmp 55) (by rfl) h.heap.size (xZ ⟨true,x.2,0⟩) (by rfl) (by rfl) (by exact gF _ _) (by rfl) (kH _ a0.o) (bU _) ?_;intro G I b7 b8 J) | fail)
     have d1:Below h.heap.size h G:=((lK _ _).alloc (lF _) _).trans (J _ (lF _));have b3:Hid (G.heap[h.heap.size]?=some (.cells (xZ ⟨true,x.2,0⟩) 29 (0,0))):=I;have d4:Hid (Below h.heap.size h G):=d1
     have c4:∃v,G.cell? ⟨h.heap.size,1,none⟩=some (.int .i64 v):=by
      obtain⟨e7,e8,j2,j3,j4,j5,j6,j7,j8,j9,i2,i3,i4,i5,i6,i7,i8,i9,j0,j1,c6⟩:=GL a0.o;rw[(zB b3.o).1,c6];exact⟨e7,rfl⟩
     obtain⟨m7,c4⟩:=c4;have k3:G.frozen? ⟨h.heap.size,1,none⟩=false:=(zB b3.o).2 _;clear I b7 b8 J d1;go_upto_region 13 with fail
     have b4:Hid ((G.setCell ⟨h.heap.size,1,none⟩ (.int .i64 (k:Int))).heap[h.heap.size]?=some (.cells ((xZ ⟨true,x.2,0⟩).setIfInBounds 1 (.int .i64 (k:Int))) 29 (0,0))):=lX G h.heap.size 1 _ _ (.int .i64 (k:Int)) b3.o;have c0:Hid (Below h.heap.size h (G.setCell ⟨h.heap.size,1,none⟩ (.int .i64 (k:Int)))):=d4.o.setCell (p:=⟨h.heap.size,1,none⟩) (lF _) _;generalize (G.setCell ⟨h.heap.size,1,none⟩ (.int .i64 (k:Int)))=U at *;clear c4 k3 d4 b3;have l2:U.cell? ⟨g,0,none⟩=some (.int .i64 (x.1:Int)):=(c0.o.cell (p:=⟨g,0,none⟩) g8.o).trans g9.o
     have c5:∃v,U.cell? ⟨h.heap.size,2,none⟩=some (.int .i64 v):=by
      obtain⟨e7,e8,j2,j3,j4,j5,j6,j7,j8,j9,i2,i3,i4,i5,i6,i7,i8,i9,j0,j1,c6⟩:=GL a0.o;rw[(zB b4.o).1,c6];exact⟨e8,rfl⟩
     obtain⟨m8,c5⟩:=c5;have k4:U.frozen? ⟨h.heap.size,2,none⟩=false:=(zB b4.o).2 _;go_upto_region 14 with fail
     have i1:Hid ((U.setCell ⟨h.heap.size,2,none⟩ (.int .i64 (x.1:Int))).heap[h.heap.size]?=some (.cells (xZ ⟨true,(k:Int)::(x.1:Int)::x.2.drop 2,0⟩) 29 (0,0))):=by
      show _=_;rw[<-zEQ x.2 a0.o];exact lX U h.heap.size 2 _ _ (.int .i64 (x.1:Int)) b4.o
     have d5:Hid (Below h.heap.size h (U.setCell ⟨h.heap.size,2,none⟩ (.int .i64 (x.1:Int)))):=c0.o.setCell (p:=⟨h.heap.size,2,none⟩) (lF _) _;generalize (U.setCell ⟨h.heap.size,2,none⟩ (.int .i64 (x.1:Int)))=e6 at *;clear l2 c5 k4 c0 b4;have c3:Hid (((k:Int)::(x.1:Int)::x.2.drop 2).length=20):=by show _=_;simp[a0.o]
     have h6:Hid (e6.heap[w.heap.size]?=some bg):=(d5.o.block _ e4.o).trans c2.o;have g6:Hid (Below w.heap.size w e6):=d3.o.trans (d5.o.mono (Nat.le_of_lt e4.o));go_wp2_with (first|(refine tK (by rfl) (.tmp 15) (by rfl) h.heap.size (by rfl) (by exact i1.o) (kH _ c3.o) ?_)|(refine qY (by rfl) (.tmp 6) (.tmp 65) (by rfl) w.heap.size (xZ ⟨true,(k:Int)::(x.1:Int)::x.2.drop 2,0⟩) (by rfl) (by rfl) (by exact h6.o) (by rfl) (kH _ c3.o) (bU _) ?_;intro m9 I b7 b8 J) | fail)
     refine lT (CF rfl (by rfl) I (kH _ c3.o)) rfl ⟨?_,g6.o.trans (J _ (lF _))⟩;rw[O.o];rfl
    ·have l1:decide ((R.1.length:Int)>0)=false:=eZ (by omega)
     have O:Hid (nP l t (t.size+1-(k+1)) (k+1) R.2=F):=by
      have:=b1.o;cases a6:R.1 with
      | nil=>rw[a6]at this;exact this
      | cons x xs=>rw[a6]at W;simp at W
     clear b1;go_wp2_with fail
     refine b2.o.mono ?_;rintro e g3 ⟨rfl,rfl⟩;go_wp2_with fail
     go_roundw
     case rel=>exact⟨k+1,R.2,by omega,by omega,by go_num,h1.o,by omega,c1.o,O.o⟩
     case measure=>simp[intOf];omega
  ·have l0:¬(k:Int)<=(t.size:Int):=by omega
   rw[Za l t (by omega)]at hF;have O:Hid (F=((false,nowhere),true)):=hF.symm;clear hF;go_wp2_with fail
   refine(FP wr).mono ?_;rintro e a3 ⟨rfl,Y⟩;have h5:Hid (a3.heap[w.heap.size]?=some bg):=(Y.block _ (lM.1 e2.o).1).trans e2.o;have g5:Hid (Below w.heap.size w a3):=d6.o.trans (Y.mono d6.o.size);clear Y;go_wp2_with (first|(refine qx (by rfl) 29 #[(1,.tmp 66)] (by rfl) (uw ⟨false,nowhere,0⟩) (by simp only[rU,oZ,sO];exact YZ _ rfl _) ?_)|(refine qY (by rfl) (.tmp 6) (.tmp 67) (by rfl) w.heap.size (xZ ⟨false,nowhere,0⟩) (by rfl) (by rfl) (by exact h5.o) (by rfl) (by rfl) (bU _) ?_;intro G I b7 b8 J) | fail)
   refine lT (CF rfl (by rfl) I (by rfl)) rfl ⟨?_,g5.o.trans (J _ (lF _))⟩;rw[O.o];rfl
