import Derived.Test.YtebpgfodelggoaaGreatC32
set_option linter.all false
set_option maxRecDepth 100000
set_option maxHeartbeats 32000000
namespace Go.Proofs.YtebpgfodelggoaaGreat
open Go.RowKit _root_.Go.Proofs.Tryz Mt
def zEF(r:zU):Array Value:=#[.int .i64 r.kind,.int .i64 r.jK,.int .i64 r.to,.int .i64 r.n,.int .i64 r.m,.int .i64 r.jB,.string ⟨r.set.toArray⟩]
theorem Vj{F N k h m}(j:k<N):qC F (N-k) h m=qC F (N-(k+1)) (bindM F [] h m).1 (bindM F [] h m).2:=by
 rw[show N-k=(N-(k+1))+1 by omega,qC]
theorem Ic{F N k h m}(j:N<=k):qC F (N-k) h m=(h,m):=by
 rw[show N-k=0 by omega,qC]
theorem zDp{w I J l t n} i G late(j:jU w I J l t n):yL w.heap.size I w.heap.size J l t i G late dF dF dF (([]:List (Oc × Int)).map (·.1)) (([]:List (Oc × Int)).map (·.2)) [] n (w.alloc (.cells (tJ i G late dF dF dF) 167)):=
 ⟨j.below ((lK _ _).alloc (lF _) _),jP _ _,Aq _ _,oC _ _ _ _,Aq _ _,j.lt,lF _,j.t0,λk h=>(by rw[Cr]at h;cases h),λk h=>(by rw[Cr]at h;cases h),λk h=>(by rw[Cr]at h;cases h)⟩
theorem zBv{w w'}{h}{W}{l}{t}{i j}{late}{U O G}{A}{B}{I}{n}(J:yL w.heap.size h w.heap.size W l t i j late U O G A B I n w')(s:vD h w.heap.size dF dF dF U O G (w.alloc (.cells (tJ i j late dF dF dF) 167)) w'):fT w h W l t (I,n) G w':=by
 refine⟨J.ot,J.me,?_⟩;have Y:Below w.heap.size w (w.alloc (.cells (tJ i j late dF dF dF) 167)):=(lK _ _).alloc (lF _) _;refine(jF.below (B:=λk=>k=h) Y).trans s.kp (λk Z e=>?_);rcases e with e | e | e | e | e
 ·exact e
 ·omega
 ·rw[Cr]at e;cases e
 ·rw[Cr]at e;cases e
 ·rw[Cr]at e;cases e
theorem Yz l t(x6:l.length<=64)(f1:bR l)(b9:IB l)(y2:t.size<=30) f(e9:T2 l t f):T3 l t (f+1):=by
 intro a b w4 w6 w7 o n j z3 w q9 r1 r4 d9 f2 q7 q8 r0 l5 x4 x5 e2;subst q9 r1 r4;have x9:=d9.lt;have o4:Hid (kV t o):=f2;have o8:Hid ((qG o).size=21):=dA o f2.len;have j3:Hid (o.2.length=20):=f2.len;have t4:=b9 b l5;have v5:=Bc f1 b;obtain⟨g,cap,rfl,x3,l9,k2,k3,k4,k5,k6,k7,k8⟩:=Qh d9.tk r0;have e6:Below w.heap.size w (w.alloc (.cells (qG o) 66)):=(lK _ _).alloc (lF _) _;have j6:Hid ((w.alloc (.cells (qG o) 66)).heap[w.heap.size]?=some (.cells (qG o) 66 (0,0))):=jP _ _;have k9:∀k,(w.alloc (.cells (qG o) 66)).cell? ⟨g,k,none⟩=w.cell? ⟨g,k,none⟩:=λk=>e6.cell (p:=⟨g,k,none⟩) l9
 rw[<-k9]at k2 k3 k4 k5 k6 k7 k8;have i4:=d9.below e6;have q3:(w.alloc (.cells (qG o) 66)).cell? ⟨j,0,none⟩=some (.slice (some ⟨g,0,none⟩) l.length cap):=i4.cells.1;have e:mM l t (f+1) 3 a b o n=wm (mM l t f 2 a b) (l.getD b zZ) o n:=by rw[mM]
 rw[e]at e2 |-;clear e;have h8:∀x q m,jU x j (.slice (some ⟨g,0,none⟩) l.length cap) l t m->kV t q->(mM l t f 2 a b q m).2<=2 ^ 60->CT 113 #[.pointer (some ⟨j,0,none⟩),.int .i64 a,.int .i64 b,.agg (qG q)] x λe w'=>∃v',e=.returned v'/\fT x j (.slice (some ⟨g,0,none⟩) l.length cap) l t (mM l t f 2 a b q m) v' w':=λx q m J e0 t2=>e9 a b a b q m j (.slice (some ⟨g,0,none⟩) l.length cap) x rfl rfl J e0 q7 q8 (by omega) (by omega) (by omega) t2
 have up:∀o w,w<=(mM l t f 2 a b o w).2:=xY l t f 2 a b;have ok:∀o w,kV t o->iq t o (mM l t f 2 a b o w).1:=λo w a8=>EX l f 2 a b o w a8
 have i3:∀o w,(mM l t f 2 a b o w).1.length<=500000:=λo w=>DL l t f 2 a b o w (by omega)
 have k0:∀h w,(bindM (mM l t f 2 a b) [] h w).1.length<=500000:=λh w=>Om l t (by omega) a b h w
 have e8:∀late k h w,(bindM (bT (mM l t f 2 a b) late k) [] h w).1.length<=500000:=λlate k h w=>UY l t (by omega) a b late k h w
 have k1:∀late k o w,(jL (mM l t f 2 a b) late 32 k o ([],[],w)).1.length<=20000000/\(jL (mM l t f 2 a b) late 32 k o ([],[],w)).2.1.length<=500000:=λlate k o w=>UZ l t (by omega) a b late k o w
 generalize mM l t f 2 a b=F at *;generalize q6:l.getD b zZ=r at *;have p0:Hid (∀late,TL l t j (.slice (some ⟨g,0,none⟩) l.length cap) a b F late 32):=λlate=>Sv up ok i3 h8 late 32
 have h1:Hid (∀o w,w<=(F o w).2):=up;have g3:Hid (∀(o:Oc) w,kV t o->qM (kV t) (F o w).1):=λo w a8 x J=>(ok o w a8 x J).1
 have o3:Hid (∀o w,(F o w).1.length<=500000):=i3;have n4:Hid (∀h w,(bindM F [] h w).1.length<=500000):=k0;have j1:Hid (∀late k h w,(bindM (bT F late k) [] h w).1.length<=500000):=e8;have n5:Hid (∀late k o w,(jL F late 32 k o ([],[],w)).1.length<=20000000/\(jL F late 32 k o ([],[],w)).2.1.length<=500000):=k1;have n9:Hid (zBn l t j (.slice (some ⟨g,0,none⟩) l.length cap) a b F):=h8;obtain⟨v3,y9,z0,i9,z1,z2,v4⟩:=v5;obtain⟨y6,y7,y8⟩:=t4;have m2:wm F r o n=(if r.jB=2 then(bindM (bT F (decide (r.jB=1)) (pW r)) [] (qC F r.n.toNat [o] n).1 (qC F r.n.toNat [o] n).2).1.take 1 else(bindM (bT F (decide (r.jB=1)) (pW r)) [] (qC F r.n.toNat [o] n).1 (qC F r.n.toNat [o] n).2).1,(bindM (bT F (decide (r.jB=1)) (pW r)) [] (qC F r.n.toNat [o] n).1 (qC F r.n.toNat [o] n).2).2):=rfl;rw[m2]at e2 |-;have q4:=dK (uj up (decide (r.jB=1)) (pW r)) (qC F r.n.toNat [o] n).1 [] (qC F r.n.toNat [o] n).2;generalize l8:qC F r.n.toNat [o] n=a7 at *;generalize l7:bindM (bT F (decide (r.jB=1)) (pW r)) [] a7.1 a7.2=Z at *;dsimp only at e2;have j7:Hid (r.jB=2->(if r.jB=2 then Z.1.take 1 else Z.1,Z.2)=(Z.1.take 1,Z.2)):=λa8=>by rw[lG a8]
 have o7:Hid (¬r.jB=2->(if r.jB=2 then Z.1.take 1 else Z.1,Z.2)=Z):=λa8=>by rw[lC a8]
 generalize (if r.jB=2 then Z.1.take 1 else Z.1,Z.2)=w3 at *;have p1:Hid (qC F r.n.toNat [o] n=a7):=l8;have g4:Hid (bindM (bT F (decide (r.jB=1)) (pW r)) [] a7.1 a7.2=Z):=l7;have p6:Hid (Z.2<=2 ^ 60):=e2;have p7:Hid (a7.2<=2 ^ 60):=by show _<=_;omega
 have y0:-1<=pW r/\pW r<=20:=by unfold pW;split <;> omega
 have m1:Hid ((0<=r.m->pW r=r.m-r.n)/\(r.m<0->pW r=-1)):=⟨λa8=>lG a8,λa8=>lC (by omega)⟩
 have x0:((r.n.toNat:Nat):Int)=r.n:=oN v3;clear l8 l7 m2 up ok i3 k0 e8 k1 h8 e9 e2 q4 k9 q6 b9 f1 v4 l5;have y5:(((b:Int)+1)==(b:Int))=false:=by simp;omega
 have v8:Hid (jU w j (.slice (some ⟨g,0,none⟩) l.length cap) l t n):=d9;have j4:Hid (jU (w.alloc (.cells (qG o) 66)) j (.slice (some ⟨g,0,none⟩) l.length cap) l t n):=i4;have e4:Hid (Below w.heap.size w (w.alloc (.cells (qG o) 66))):=e6;have g7:Hid ((w.alloc (.cells (qG o) 66)).heap.size=w.heap.size+1):=by show _=_;simp
 clear d9 i4 e6 f2 l9;go_enter func87,ntmps87
 go_upto_region 1 with fail
 generalize (w.alloc (.cells (qG o) 66))=b4 at *;go_upto_region 4 with fail
 have e7:Below b4.heap.size b4 (b4.alloc (.cells #[.int .i64 r.kind,.int .i64 r.jK,.int .i64 r.to,.int .i64 r.n,.int .i64 r.m,.int .i64 r.jB,.string ⟨r.set.toArray⟩] 97)):=(lK _ _).alloc (lF _) _;have m8:(b4.alloc (.cells #[.int .i64 r.kind,.int .i64 r.jK,.int .i64 r.to,.int .i64 r.n,.int .i64 r.m,.int .i64 r.jB,.string ⟨r.set.toArray⟩] 97)).heap[b4.heap.size]?=some (.cells (zEF r) 97 (0,0)):=jP _ _;have n1:(b4.alloc (.cells #[.int .i64 r.kind,.int .i64 r.jK,.int .i64 r.to,.int .i64 r.n,.int .i64 r.m,.int .i64 r.jB,.string ⟨r.set.toArray⟩] 97)).heap.size=b4.heap.size+1:=by simp
 generalize (b4.alloc (.cells #[.int .i64 r.kind,.int .i64 r.jK,.int .i64 r.to,.int .i64 r.n,.int .i64 r.m,.int .i64 r.jB,.string ⟨r.set.toArray⟩] 97))=O at *;generalize m3:b4.heap.size=e3 at *;have f3:=j4.o.below (by rw[m3];exact e7);have m7:O.heap[w.heap.size]?=some (.cells (qG o) 66 (0,0)):=(e7.block _ (by have:=g7.o;omega)).trans j6.o;have v9:Hid (jU O j (.slice (some ⟨g,0,none⟩) l.length cap) l t n):=f3;have o5:Hid (O.heap[w.heap.size]?=some (.cells (qG o) 66 (0,0))):=m7;have j0:Hid (Below w.heap.size w O):=e4.o.trans (e7.mono (by have:=g7.o;omega))
 have e5:Hid (∀b0,jF (λk=>k=j) O b0->b0.cell? ⟨e3,3,none⟩=some (.int .i64 r.n)/\b0.cell? ⟨e3,4,none⟩=some (.int .i64 r.m)/\b0.cell? ⟨e3,5,none⟩=some (.int .i64 r.jB)):=λb0 hz=>by
  have q:=(hz.block e3 (by omega) (by have:=g7.o;omega)).trans m8;exact⟨(zB q).1 3,(zB q).1 4,(zB q).1 5⟩
 have o9:Hid (Two O j (.slice (some ⟨g,0,none⟩) l.length cap) l t [o] n (.slice (some ⟨O.heap.size,0,none⟩) 1 1) [] (O.alloc (.cells (qG o) 66))):=
  Two.start f3 (jF.below ((lK _ _).alloc (lF _) _)) (f3.below ((lK _ _).alloc (lF _) _)) (PU (lF _) o j3.o)
 have w2:Hid (O.heap.size=e3+1):=n1;clear f3 m7 m8 e7 j4 j6 e4 k2 k3 k4 k5 k6 k7 k8 q3 n1 m3;go_wp2_with (first|(refine bK (by rfl) (.tmp 9) (by rfl) w.heap.size (by rfl) (by exact o5.o) (by exact o8.o) ?_)|(refine bD (by rfl) (.tmp 38) (by rfl) o j3.o (by rfl) ?_) | fail)
 go_loopw [12,13] (λu i wr=>∃(k:Nat) (h:List Oc) (m:Nat),k<=r.n.toNat/\i=.int .i64 k/\Two O j (.slice (some ⟨g,0,none⟩) l.length cap) l t h m u [] wr/\qM (kV t) h/\h.length<=500000/\qC F (r.n.toNat-k) h m=a7) (λ_ i _=>r.n.toNat-(intOf i).toNat)
 case atStart=>exact⟨0,[o],n,gD _,rfl,o9.o,λx J=>by simp at J;subst J;exact o4.o,by simp,p1.o⟩
 case round =>
  obtain⟨k,h,m,f0,rfl,G,i0,x8,b9⟩:=hrel;have n0:=(e5.o wr G.kp).1;obtain⟨c2,a3,rfl⟩:=dU G.own;have d4:Hid (qM (kV t) h):=i0;by_cases t1:k<r.n.toNat
  ·have h0:Hid (Two O j (.slice (some ⟨g,0,none⟩) l.length cap) l t [] m dF [(.slice c2 h.length a3,h)] wr):=G.turn;have m5:(k:Int)<r.n:=by omega
   rw[Vj t1]at b9;have i7:=ji h1.o (r.n.toNat-(k+1)) (bindM F [] h m).1 (bindM F [] h m).2;rw[b9]at i7;have e4:Hid ((bindM F [] h m).2<=2 ^ 60):=gX i7 p7.o;have j9:=n4.o h m;have v7:Hid (qM (kV t) (bindM F [] h m).1):=yw (λq e0 w=>g3.o q w e0) h [] m tH d4.o;generalize l6:bindM F [] h m=H at *;have n8:Hid (bindM F [] h m=H):=l6;have o6:Hid (qC F (r.n.toNat-(k+1)) H.1 H.2=a7):=b9;clear l6 b9 i7 G i0;go_wp2_with fail
   go_loopw [14,15] (λu i b0=>∃(q:Nat) (X:List Oc) (p:Nat),q<=h.length/\i=.int .i64 q/\Two O j (.slice (some ⟨g,0,none⟩) l.length cap) l t X p u [(.slice c2 h.length a3,h)] b0/\qM (kV t) X/\bindM F X (h.drop q) p=H) (λ_ i _=>h.length-(intOf i).toNat)
   case atStart=>exact⟨0,[],m,gD _,rfl,h0.o,tH,n8.o⟩
   case round =>
    obtain⟨q,X,p,e0,rfl,G,a2,U⟩:=hrel;by_cases b7:q<h.length
    ·have a5:=Iw h1.o U b7 e4.o;obtain⟨a1,h4,e,r2,r7,m0,a9⟩:=G.at (q:=(.slice c2 h.length a3,h)) (by simp) (EI.of d4.o) b7;obtain⟨rfl,rfl⟩:c2=some ⟨a1,0,none⟩/\a3=h4:=by injection e with b5 c4 b6;exact⟨b5,b6⟩
     have J:kV t (h.getD q xI):=d4.o _ (dB b7);have c1:=n9.o _ (h.getD q xI) p G.me J a5.1;rw[Cq b7]at U;have c9:Hid (Two O j (.slice (some ⟨g,0,none⟩) l.length cap) l t X p u14 [(.slice (some ⟨a1,0,none⟩) h.length a3,h)] wr):=G;have c0:Hid (qM (kV t) X):=a2;have c3:Hid (wr.rangeAt a1 (q*21) (jw (h.getD q xI))):=a9;have i1:=xK _ J.len;change bindM F (kT X (F (h.getD q xI) p).1 (F (h.getD q xI) p).2).1 (h.drop (q+1)) (kT X (F (h.getD q xI) p).1 (F (h.getD q xI) p).2).2=H at U;change(F (h.getD q xI) p).2<=_/\(kT X (F (h.getD q xI) p).1 (F (h.getD q xI) p).2).2<=_/\(kT X (F (h.getD q xI) p).1 (F (h.getD q xI) p).2).1.length<=_ at a5;have pa:=g3.o (h.getD q xI) p J;have v1:=o3.o (h.getD q xI) p;generalize h.getD q xI=x at *;generalize h7:F x p=P at *;generalize d8:kT X P.1 P.2=a0 at *;have h2:Hid (kT X P.1 P.2=a0):=d8;have f9:Hid (bindM F a0.1 (h.drop (q+1)) a0.2=H):=U;have d7:Hid (a0.2<=2 ^ 60/\a0.1.length<=H.1.length):=a5.2;have d5:Hid (qM (kV t) P.1):=pa;have d1:Hid (CT 113 #[.pointer (some ⟨j,0,none⟩),.int .i64 a,.int .i64 b,.agg (qG x)] wr λe w'=>∃v',e=.returned v'/\fT wr j (.slice (some ⟨g,0,none⟩) l.length cap) l t P v' w'):=c1;have t7:(0:Int)<=(q:Int):=by omega
     have t8:(q:Int)<(h.length:Int):=by omega
     clear c1 a9 J a5 U G a2 e h7 d8 pa n0;go_wp2_with (first|(refine wpList_load_mid (by rfl) 66 (.tmp 57) (by rfl) a1 (q*21) (by rfl) (jw x) _ c3.o underlying66 rfl (by rw[xL];exact rJ some i1.symm) ?_) | fail)
     refine d1.o.mono ?_;rintro e f6 ⟨z4,rfl,c6⟩;obtain⟨a6,a4,rfl⟩:=dU c6.1;have g8:Hid (Two O j (.slice (some ⟨g,0,none⟩) l.length cap) l t X P.2 u14 [(.slice a6 P.1.length a4,P.1),(.slice (some ⟨a1,0,none⟩) h.length a3,h)] f6):=c9.o.call c6;clear c6 c3 d1;go_wp2_with fail
     go_loopw [14,17] (λu i b0=>∃(z:Nat) (I:List Oc) (p:Nat),z<=P.1.length/\i=.int .i64 z/\Two O j (.slice (some ⟨g,0,none⟩) l.length cap) l t I p u [(.slice a6 P.1.length a4,P.1),(.slice (some ⟨a1,0,none⟩) h.length a3,h)] b0/\qM (kV t) I/\kT I (P.1.drop z) p=a0) (λ_ i _=>P.1.length-(intOf i).toNat)
     case atStart=>exact⟨0,X,P.2,gD _,rfl,g8.o,c0.o,h2.o⟩
     case round =>
      obtain⟨z,I,W,hz,rfl,G,a2,U⟩:=hrel;have d6:Hid (Two O j (.slice (some ⟨g,0,none⟩) l.length cap) l t I W u14 [(.slice a6 P.1.length a4,P.1),(.slice (some ⟨a1,0,none⟩) h.length a3,h)] wr):=G;have d2:Hid (qM (kV t) I):=a2;by_cases b8:z<P.1.length
      ·have a5:=DN U b8 d7.o.1;obtain⟨b2,h5,e,r3,r8,r9,a9⟩:=G.at (q:=(.slice a6 P.1.length a4,P.1)) (by simp) (EI.of d5.o) b8;obtain⟨rfl,rfl⟩:a6=some ⟨b2,0,none⟩/\a4=h5:=by injection e with b5 c4 b6;exact⟨b5,b6⟩
       have g0:Hid (kT (yQ I (P.1.getD z xI) W).1 (P.1.drop (z+1)) (yQ I (P.1.getD z xI) W).2=a0):=(jm b8).symm.trans U;have J:kV t (P.1.getD z xI):=d5.o _ (dB b8);have p8:Hid (kV t (P.1.getD z xI)):=J;have c3:Hid (wr.rangeAt b2 (z*21) (jw (P.1.getD z xI))):=a9;have i2:=xK _ J.len;have c1:=Cn (P.1.getD z xI) J.len G.me G.own G.kp.size (EI.of a2) G.hap (by have:=d7.o;omega) a5.1;dsimp only at a9;generalize P.1.getD z xI=y at *;have d1:Hid (CT 54 #[.pointer (some ⟨j,0,none⟩),u14,.agg (qG y)] wr λe w'=>∃v',e=.returned v'/\dz wr j (.slice (some ⟨g,0,none⟩) l.length cap) l t O.heap.size u14 (yQ I y W) v' w'):=c1;have t9:(0:Int)<=(z:Int):=by omega
       have v0:(z:Int)<(P.1.length:Int):=by omega
       clear c1 a9 J a5 U G a2 e;go_wp2_with (first|(refine wpList_load_mid (by rfl) 66 (.tmp 70) (by rfl) b2 (z*21) (by rfl) (jw y) _ c3.o underlying66 rfl (by rw[xL];exact rJ some i2.symm) ?_) | fail)
       refine d1.o.mono ?_;rintro e f7 ⟨f5,rfl,c7⟩;have g9:Hid (Two O j (.slice (some ⟨g,0,none⟩) l.length cap) l t (yQ I y W).1 (yQ I y W).2 f5 [(.slice (some ⟨b2,0,none⟩) P.1.length a4,P.1),(.slice (some ⟨a1,0,none⟩) h.length a3,h)] f7):=d6.o.add c7;have f8:Hid (qM (kV t) (yQ I y W).1):=Ac W d2.o p8.o;clear c7;go_wp2_with fail
       go_roundw
       case rel=>exact⟨z+1,_,_,by omega,by go_num,g9.o,f8.o,g0.o⟩
       case measure=>simp[intOf];omega
      ·have b1:(I,W)=a0:=by rw[<-U,Ae (by omega)]
       have d3:Hid ((I,W)=a0):=b1;clear U G a2 b1;go_wp2_with fail
       go_roundw
       case rel=>exact⟨q+1,I,W,by omega,by go_num,d6.o.sub (by simp),d2.o,by have e:=f9.o;rw[<-d3.o]at e;exact e⟩
       case measure=>simp[intOf];omega
    ·have b1:(X,p)=H:=by rw[<-U,Iu (by omega)]
     have d3:Hid ((X,p)=H):=b1;have d0:Hid (Two O j (.slice (some ⟨g,0,none⟩) l.length cap) l t X p u14 [] wr):=G.sub (by simp);have c0:Hid (qM (kV t) X):=a2;have e8:X.length<=500000:=by rw[<-b1]at j9;exact j9
     clear U G a2 b1;go_wp2_with fail
     go_roundw
     case rel=>exact⟨k+1,X,p,by omega,by go_num,d0.o,c0.o,e8,by have e:=o6.o;rw[<-d3.o]at e;exact e⟩
     case measure=>simp[intOf];omega
  ·have c4:(h,m)=a7:=by rw[<-b9,Ic (by omega)]
   have d3:Hid ((h,m)=a7):=c4;have h0:Hid (Two O j (.slice (some ⟨g,0,none⟩) l.length cap) l t [] m dF [(.slice c2 h.length a3,h)] wr):=G.turn;have m5:¬(k:Int)<r.n:=by omega
   have v2:=(e5.o wr G.kp).2.1;clear b9 G i0 c4
   go_upto_if 76 with fail
   go_cut [18] (λv v6=>v=.int .i64 (pW r)/\wr=v6)
   case first =>
    by_cases t3:0<=r.m
    ·have r5:decide (r.m>=0)=true:=by simp;omega
     go_wp2_with fail
     go_meet
     exact⟨by rw[m1.o.1 t3],rfl⟩
    ·have r5:decide (r.m>=0)=false:=by simp;omega
     go_wp2_with fail
     go_meet
     exact⟨by rw[m1.o.2 (by omega)],rfl⟩
   case rest =>
   obtain⟨rfl,rfl⟩:=hcut;generalize w9:pW r=Y at *;clear n0 v2 m5;go_wp2_with fail
   rename_i z5
   go_loopw [19,20] (λu i b0=>∃(q:Nat) (X:List Oc) (p:Nat),q<=h.length/\i=.int .i64 q/\Two O j (.slice (some ⟨g,0,none⟩) l.length cap) l t X p u [(.slice c2 h.length a3,h)] b0/\qM (kV t) X/\bindM (bT F (decide (r.jB=1)) Y) X (h.drop q) p=Z) (λ_ i _=>h.length-(intOf i).toNat)
   case atStart=>exact⟨0,[],m,gD _,rfl,h0.o,tH,by have e:=g4.o;rw[<-d3.o]at e;exact e⟩
   case round =>
    obtain⟨q,X,p,e0,rfl,G,a2,U⟩:=hrel;by_cases b7:q<h.length
    ·have a5:=Iw (uj h1.o _ _) U b7 p6.o;obtain⟨a1,h4,e,r2,r7,m0,a9⟩:=G.at (q:=(.slice c2 h.length a3,h)) (by simp) (EI.of d4.o) b7;obtain⟨rfl,rfl⟩:c2=some ⟨a1,0,none⟩/\a3=h4:=by injection e with b5 c4 b6;exact⟨b5,b6⟩
     have J:kV t (h.getD q xI):=d4.o _ (dB b7);rw[Cq b7]at U;have m9:=(e5.o wr G.kp).2.2;have c9:Hid (Two O j (.slice (some ⟨g,0,none⟩) l.length cap) l t X p u19 [(.slice (some ⟨a1,0,none⟩) h.length a3,h)] wr):=G;have c0:Hid (qM (kV t) X):=a2;have c3:Hid (wr.rangeAt a1 (q*21) (jw (h.getD q xI))):=a9;have i1:=xK _ J.len;change bindM (bT F (decide (r.jB=1)) Y) (kT X (jL F (decide (r.jB=1)) 32 Y (h.getD q xI) ([],[],p)).2.1 (jL F (decide (r.jB=1)) 32 Y (h.getD q xI) ([],[],p)).2.2).1 (h.drop (q+1)) (kT X (jL F (decide (r.jB=1)) 32 Y (h.getD q xI) ([],[],p)).2.1 (jL F (decide (r.jB=1)) 32 Y (h.getD q xI) ([],[],p)).2.2).2=Z at U;change(jL F (decide (r.jB=1)) 32 Y (h.getD q xI) ([],[],p)).2.2<=_/\(kT X (jL F (decide (r.jB=1)) 32 Y (h.getD q xI) ([],[],p)).2.1 (jL F (decide (r.jB=1)) 32 Y (h.getD q xI) ([],[],p)).2.2).2<=_/\(kT X (jL F (decide (r.jB=1)) 32 Y (h.getD q xI) ([],[],p)).2.1 (jL F (decide (r.jB=1)) 32 Y (h.getD q xI) ([],[],p)).2.2).1.length<=_ at a5;have i8:=n5.o (decide (r.jB=1)) Y (h.getD q xI) p;have n3:=DU (λo f1 w=>g3.o o w f1) (decide (r.jB=1)) 32 Y (h.getD q xI) ([],[],p) J ⟨λx J=>by simp at J,λx J=>by simp at J⟩;have j8:=p0.o (decide (r.jB=1)) wr.heap.size wr.heap.size dF dF dF ([],[],p) Y (h.getD q xI) (wr.alloc (.cells (tJ a b (decide (r.jB=1)) dF dF dF) 167)) (zDp a b _ G.me) ⟨λx J=>by simp at J,λx J=>by simp at J⟩ J (by omega) (by omega) (by have:=J.pos;unfold JW;split <;> omega) ⟨i8.1,by omega,a5.1⟩;have v1:(jL F (decide (r.jB=1)) 32 Y (h.getD q xI) ([],[],p)).2.1.length<=500000:=i8.2;generalize h.getD q xI=x at *;generalize h7:jL F (decide (r.jB=1)) 32 Y x ([],[],p)=P at *;generalize d8:kT X P.2.1 P.2.2=a0 at *;have h2:Hid (kT X P.2.1 P.2.2=a0):=d8;have f9:Hid (bindM (bT F (decide (r.jB=1)) Y) a0.1 (h.drop (q+1)) a0.2=Z):=U;have d7:Hid (a0.2<=2 ^ 60/\a0.1.length<=500000):=⟨a5.2.1,gX a5.2.2 (by have:=j1.o (decide (r.jB=1)) Y a7.1 a7.2;rw[g4.o]at this;exact this)⟩
     have d5:Hid (qM (kV t) P.2.1):=n3.2;have w8:(r.jB==1)=decide (r.jB=1):=rfl;have g5:Hid (∀{n2 m6 i5:Value} {w':World},yL wr.heap.size j wr.heap.size (.slice (some ⟨g,0,none⟩) l.length cap) l t a b (decide (r.jB=1)) n2 m6 i5 (P.1.map (·.1)) (P.1.map (·.2)) P.2.1 P.2.2 w'->vD j wr.heap.size dF dF dF n2 m6 i5 (wr.alloc (.cells (tJ a b (decide (r.jB=1)) dF dF dF) 167)) w'->fT wr j (.slice (some ⟨g,0,none⟩) l.length cap) l t P.2 i5 w'):=λq5 e9=>zBv q5 e9
     generalize decide (r.jB=1)=late at *;have h3:Hid (CT 114 #[.pointer (some ⟨j,0,none⟩),.pointer (some ⟨wr.heap.size,0,none⟩),.int .i64 Y,.agg (qG x)] (wr.alloc (.cells (tJ a b late dF dF dF) 167)) λe w'=>e=.returned (.tuple #[])/\∃c8 c5 i6,yL wr.heap.size j wr.heap.size (.slice (some ⟨g,0,none⟩) l.length cap) l t a b late c8 c5 i6 (P.1.map (·.1)) (P.1.map (·.2)) P.2.1 P.2.2 w'/\vD j wr.heap.size dF dF dF c8 c5 i6 (wr.alloc (.cells (tJ a b late dF dF dF) 167)) w'):=j8;have g6:Hid ((wr.alloc (.cells (tJ a b late dF dF dF) 167)).rangeAt a1 (q*21) (jw x)):=λm4 v t6=>(((lK wr.heap.size wr).alloc (lF _) _).cell (p:=⟨a1,q*21+m4,none⟩) m0).trans (a9 m4 v t6)
     have t7:(0:Int)<=(q:Int):=by omega
     have t8:(q:Int)<(h.length:Int):=by omega
     clear j8 a9 J a5 U G a2 e h7 d8 n3 i8;unfold tJ dF at h3 g6 g5;go_wp2_with (first|(refine wpList_load_mid (by rfl) 66 (.tmp 100) (by rfl) a1 (q*21) (by rfl) (jw x) _ g6.o underlying66 rfl (by rw[xL];exact rJ some i1.symm) ?_) | fail)
     refine h3.o.mono ?_;rintro e f6 ⟨rfl,c8,c5,i6,f4,i9⟩;have c6:=g5.o f4 i9;obtain⟨a6,a4,rfl⟩:=dU c6.1;have y3:=f4.Iy;have g8:Hid (Two O j (.slice (some ⟨g,0,none⟩) l.length cap) l t X P.2.2 u19 [(.slice a6 P.2.1.length a4,P.2.1),(.slice (some ⟨a1,0,none⟩) h.length a3,h)] f6):=c9.o.call c6;have p3:Hid (f6.heap[wr.heap.size]?=some (.cells (tJ a b late c8 c5 (.slice a6 P.2.1.length a4)) 167 (0,0))):=f4.cell;have o0:Hid (∀k,u19.ownBlock=some k->k≠wr.heap.size):=λk f0 e=>by have:=(sj c9.o.own f0).2;omega
     have y4:=c9.o.kp.size;have y1:j<O.heap.size:=c9.o.m0;clear c6 f4 i9 h3 g6 g5 m9;generalize wr.heap.size=b3 at *;go_wp2_with fail
     go_loopw [19,22] (λu i b0=>∃(z:Nat) (I:List Oc) (p:Nat),z<=P.2.1.length/\i=.int .i64 z/\Two O j (.slice (some ⟨g,0,none⟩) l.length cap) l t I p u [(.slice a6 P.2.1.length a4,P.2.1),(.slice (some ⟨a1,0,none⟩) h.length a3,h)] b0/\qM (kV t) I/\kT I (P.2.1.drop z) p=a0/\b0.heap[b3]?=some (.cells (tJ a b late c8 c5 (.slice a6 P.2.1.length a4)) 167 (0,0))/\(∀k,u.ownBlock=some k->k≠b3)) (λ_ i _=>P.2.1.length-(intOf i).toNat)
     case atStart=>exact⟨0,X,P.2.2,gD _,rfl,g8.o,c0.o,h2.o,p3.o,o0.o⟩
     case round =>
      obtain⟨z,I,W,hz,rfl,G,a2,U,e1,h9⟩:=hrel;have d6:Hid (Two O j (.slice (some ⟨g,0,none⟩) l.length cap) l t I W u19 [(.slice a6 P.2.1.length a4,P.2.1),(.slice (some ⟨a1,0,none⟩) h.length a3,h)] wr):=G;have d2:Hid (qM (kV t) I):=a2;have p5:Hid (wr.heap[b3]?=some (.cells (tJ a b late c8 c5 (.slice a6 P.2.1.length a4)) 167 (0,0))):=e1;have j5:Hid (∀k,u19.ownBlock=some k->k≠b3):=h9;have q2:wr.cell? ⟨b3,5,none⟩=some (.slice a6 P.2.1.length a4):=(zB e1).1 5;have t5:b3<wr.heap.size:=(lM.1 e1).1;by_cases b8:z<P.2.1.length
      ·have a5:=DN U b8 d7.o.1;obtain⟨b2,h5,e,r3,r8,r9,a9⟩:=G.at (q:=(.slice a6 P.2.1.length a4,P.2.1)) (by simp) (EI.of d5.o) b8;obtain⟨rfl,rfl⟩:a6=some ⟨b2,0,none⟩/\a4=h5:=by injection e with b5 c4 b6;exact⟨b5,b6⟩
       have g0:Hid (kT (yQ I (P.2.1.getD z xI) W).1 (P.2.1.drop (z+1)) (yQ I (P.2.1.getD z xI) W).2=a0):=(jm b8).symm.trans U;have J:kV t (P.2.1.getD z xI):=d5.o _ (dB b8);have p9:Hid (kV t (P.2.1.getD z xI)):=J;have c3:Hid (wr.rangeAt b2 (z*21) (jw (P.2.1.getD z xI))):=a9;have i2:=xK _ J.len;have c1:=Cn (P.2.1.getD z xI) J.len G.me G.own G.kp.size (EI.of a2) G.hap (by have:=d7.o;omega) a5.1;dsimp only at a9;generalize P.2.1.getD z xI=y at *;have d1:Hid (CT 54 #[.pointer (some ⟨j,0,none⟩),u19,.agg (qG y)] wr λe w'=>∃v',e=.returned v'/\dz wr j (.slice (some ⟨g,0,none⟩) l.length cap) l t O.heap.size u19 (yQ I y W) v' w'):=c1;have t9:(0:Int)<=(z:Int):=by omega
       have v0:(z:Int)<(P.2.1.length:Int):=by omega
       clear c1 a9 J a5 U G a2 e e1 h9;go_wp2_with (first|(refine wpList_load_mid (by rfl) 66 (.tmp 119) (by rfl) b2 (z*21) (by rfl) (jw y) _ c3.o underlying66 rfl (by rw[xL];exact rJ some i2.symm) ?_) | fail)
       refine d1.o.mono ?_;rintro e f7 ⟨f5,rfl,c7⟩;have g9:Hid (Two O j (.slice (some ⟨g,0,none⟩) l.length cap) l t (yQ I y W).1 (yQ I y W).2 f5 [(.slice (some ⟨b2,0,none⟩) P.2.1.length a4,P.2.1),(.slice (some ⟨a1,0,none⟩) h.length a3,h)] f7):=d6.o.add c7;have f8:Hid (qM (kV t) (yQ I y W).1):=Ac W d2.o p9.o
       have p4:Hid (f7.heap[b3]?=some (.cells (tJ a b late c8 c5 (.slice (some ⟨b2,0,none⟩) P.2.1.length a4)) 167 (0,0))):=(c7.2.2.1.block b3 t5 (λe=>by
        rcases e with e | e
        ·omega
        ·exact j5.o b3 e rfl)).trans p5.o
       have o1:Hid (∀k,f5.ownBlock=some k->k≠b3):=λk f0 e=>by
        rcases c7.2.2.2 k f0 with l0 | l0
        ·exact j5.o k l0 e
        ·omega
       clear c7 q2;go_wp2_with fail
       go_roundw
       case rel=>exact⟨z+1,_,_,by omega,by go_num,g9.o,f8.o,g0.o,p4.o,o1.o⟩
       case measure=>simp[intOf];omega
      ·have b1:(I,W)=a0:=by rw[<-U,Ae (by omega)]
       have n7:Hid ((I,W)=a0):=b1;clear U G a2 b1 e1 h9;go_wp2_with fail
       go_roundw
       case rel=>exact⟨q+1,I,W,by omega,by go_num,d6.o.sub (by simp),d2.o,by have e:=f9.o;rw[<-n7.o]at e;exact e⟩
       case measure=>simp[intOf];omega
    ·have b1:(X,p)=Z:=by rw[<-U,Iu (by omega)]
     have m9:=(e5.o wr G.kp).2.2;have d0:Hid (Two O j (.slice (some ⟨g,0,none⟩) l.length cap) l t X p u19 [] wr):=G.sub (by simp);have c0:Hid (qM (kV t) X):=a2;have w5:X.length<=500000:=by have:=j1.o (decide (r.jB=1)) Y a7.1 a7.2;rw[g4.o,<-b1]at this;exact this
     have g1:Hid ((X,p)=Z):=b1;obtain⟨q0,h6,rfl⟩:=dU G.own;have l2:∀{I:List Oc} {u:Value},Two O j (.slice (some ⟨g,0,none⟩) l.length cap) l t I p u [] wr->fT w j (.slice (some ⟨g,0,none⟩) l.length cap) l t (I,p) u wr:=λa8=>⟨qP a8.own j0.o.size,a8.me,(jF.below j0.o).trans a8.kp (λ_ _ e=>e)⟩
     have g2:Hid (∀{I:List Oc} {u:Value},Two O j (.slice (some ⟨g,0,none⟩) l.length cap) l t I p u [] wr->fT w j (.slice (some ⟨g,0,none⟩) l.length cap) l t (I,p) u wr):=l2;clear U G a2 b1 l2;cases l4:(r.jB==2)
     ·have o2:Hid (¬r.jB=2):=by show ¬_;simpa using l4
      go_wp2_with fail
      go_ret;exact⟨_,rfl,by rw[o7.o o2.o,<-g1.o];exact g2.o d0.o⟩
     ·have j2:Hid (r.jB=2):=by show _=_;simpa using l4
      by_cases x7:1<X.length
      ·have r6:(X.length:Int)>1:=by omega
       obtain⟨l3,q1,l1,x2,_,_,_⟩:=DK d0.o.own (EI.of c0.o) (k:=0) (by omega);obtain⟨rfl,rfl⟩:q0=some ⟨l3,0,none⟩/\h6=q1:=by injection l1 with b5 c4 b6;exact⟨b5,b6⟩
       have p2:Hid (Two O j (.slice (some ⟨g,0,none⟩) l.length cap) l t (X.take 1) p (.slice (some ⟨l3,0,none⟩) 1 h6) [] wr):=d0.o.take1 (EI.of c0.o) (by omega);have x1:(1:Int)<=(h6:Int):=by omega
       clear l1;go_wp2_with fail
       go_ret;exact⟨_,rfl,by rw[j7.o j2.o,<-g1.o];exact g2.o p2.o⟩
      ·have r6:¬(X.length:Int)>1:=by omega
       have n6:Hid (X.take 1=X):=oG (by omega);go_wp2_with fail
       go_ret;exact⟨_,rfl,by rw[j7.o j2.o,<-g1.o];show fT w j (.slice (some ⟨g,0,none⟩) l.length cap) l t (X.take 1,p) _ wr;rw[n6.o];exact g2.o d0.o⟩
theorem Two.Vv{w0 j}{h}{G}{l}{t}{X}{n m}{u}(I:jU w0 h G l t n)(J:jF (λk=>k=h) w0 j)(O:jU j h G l t m)(W:xX j w0.heap.size u X):Two w0 h G l t X m u [] j:=
 ⟨O,J,W,λq U=>by simp at U,I.lt,I.t0⟩
theorem qo{w h I J l t m L v w' X u O}(j:Two w I J l t X m u O h)(U:xX w' h.heap.size v L)(G:Below h.heap.size h w'):fT w I J l t (L,m) v w':=
 ⟨qP U j.kp.size,j.me.below G,j.kp.Jy G⟩
theorem zDu t k s(h:k<t.size):nL t k s=hasB ⟨s.toArray⟩ (zI t (k)):=by
 unfold nL;rw[lG (by omega),KC t (k:Int) (by omega) (by omega)];congr 1;unfold Rf;rw[dif_pos h,gW];congr 1;have:k<t.data.toList.length:=by simpa using h
 rw[lH,lN this];rfl
theorem zEJ o x k(j:x.2.length=20)(h:k<10):((qG x).setIfInBounds (1+2*k) (.int .i64 (o.1:Int))).setIfInBounds (1+(2*k+1)) (.int .i64 (x.1:Int))=qG (fZ k o x):=by
 unfold qG jw fZ;rw[lD,lD,wD 1 (2*k),lI,wD 1 (2*k+1),lI,<-uW,<-uW]
theorem zBE(g:Oc->Oc)(L:List Oc) k(h:k<L.length):(L.map g).getD k (0,List.replicate 20 0)=g (L.getD k xI):=by
 rw[lH,gN,lN h,lH,lN h];rfl
def zEK(l:List zU):Prop:=∀i,i<l.length->(l.getD i zZ).set.length<=256/\((l.getD i zZ).kind=2->(l.getD i zZ).n<=9)/\((l.getD i zZ).jB=4->(l.getD i zZ).n<=9)
def OB(t:BA)(r:zU)(o:Oc)(n:Nat)(S:OW):OW:=
 if 300000<n+1 then([],n+1)
 else if r.kind=1 then(if nL t o.1 r.set then[(o.1+1,o.2)]else[],n+1)
 else if r.kind=2 then(jg t r.n.toNat o,n+1)
 else if r.kind=3 then(if o.1=0 then[o]else[],n+1)
 else if r.kind=4 then(if o.1=t.size then[o]else[],n+1)
 else JR r.jB r.n o S
theorem YK(l)(t)(C0:l.length<=64)(C7:t.size<=30)(r)(a b j g cap n)(o)(w)(S a0)(p7:a0=OB t r o n S)(q3:a0.2<=2 ^ 60)(p5:a0.1.length<=500000)(C2:n+1<=2 ^ 60)(k4:iq t o S.1)(A6:S.1.length<=500000)
  (g5:jU w j (.slice (some ⟨g,0,none⟩) l.length cap) l t n) (g6:kV t o) (A7:a<l.length) (A8:a<b) (A9:b<=l.length+1) (x5:dG r) (l7:r.set.length<=256/\(r.kind=2->r.n<=9)/\(r.jB=4->r.n<=9)) (B3:l.length<=cap) (q1:g<w.heap.size)
  (o6:w.cell? ⟨g,a*7,none⟩=some (.int .i64 r.kind)) (o7:w.cell? ⟨g,a*7+1,none⟩=some (.int .i64 r.jK)) (o8:w.cell? ⟨g,a*7+2,none⟩=some (.int .i64 r.to)) (b6:w.cell? ⟨g,a*7+3,none⟩=some (.int .i64 r.n)) (o9:w.cell? ⟨g,a*7+4,none⟩=some (.int .i64 r.m)) (p0:w.cell? ⟨g,a*7+5,none⟩=some (.int .i64 r.jB)) (p1:w.cell? ⟨g,a*7+6,none⟩=some (.string ⟨r.set.toArray⟩))
  (o0:¬300000<n+1->(r.kind=1\/r.kind=2\/r.kind=3\/r.kind=4)\/∀x,jU x j (.slice (some ⟨g,0,none⟩) l.length cap) l t (n+1)->CT 24 #[.pointer (some ⟨j,0,none⟩),.int .i64 ((a)+1),.int .i64 ((b)-1),.agg (qG o)] x λe w'=>∃v',e=.returned v'/\fT x j (.slice (some ⟨g,0,none⟩) l.length cap) l t S v' w'):
  Calls prog 113 #[.pointer (some ⟨j,0,none⟩),.int .i64 a,.int .i64 b,.agg (qG o)] w λe w'=>∃v',e=.returned v'/\fT w j (.slice (some ⟨g,0,none⟩) l.length cap) l t a0 v' w':=by
 have i9:Hid (a0=OB t r o n S):=p7;have t9:Hid (a0.2<=2 ^ 60/\a0.1.length<=500000):=⟨q3,p5⟩
 have t4:Hid (iq t o S.1):=k4;have e4:Hid (qM (kV t) S.1):=λx x7=>(k4 x x7).1
 have m7:Hid (¬300000<n+1->(r.kind=1\/r.kind=2\/r.kind=3\/r.kind=4)\/∀x,jU x j (.slice (some ⟨g,0,none⟩) l.length cap) l t (n+1)->CT 24 #[.pointer (some ⟨j,0,none⟩),.int .i64 ((a:Int)+1),.int .i64 ((b:Int)-1),.agg (qG o)] x λe w'=>∃v',e=.returned v'/\fT x j (.slice (some ⟨g,0,none⟩) l.length cap) l t S v' w'):=o0;have n3:Hid (r.set.length<=256/\(r.kind=2->r.n<=9)/\(r.jB=4->r.n<=9)):=l7;have C5:=l7.1;clear p7 q3 p5 k4 o0 l7;have C1:=g5.lt;have i6:Hid (kV t o):=g6;have d7:Hid ((qG o).size=21):=dA o g6.len;have d6:Hid (o.2.length=20):=g6.len;have C3:=g6.pos;have k0:Below w.heap.size w (w.alloc (.cells (qG o) 66)):=(lK _ _).alloc (lF _) _;have i0:=g5.below k0;have l1:jF (λk=>k=j) w ((w.alloc (.cells (qG o) 66)).setCell ⟨j,2,none⟩ (.int .i64 ((n+1:Nat):Int))):=jF.set (B:=λk=>k=j) (jF.below k0) (p:=⟨j,2,none⟩) (.inl rfl) _;have l3:=i0.set (n+1)
 have g9:((w.alloc (.cells (qG o) 66)).setCell ⟨j,2,none⟩ (.int .i64 ((n+1:Nat):Int))).heap[w.heap.size]?=some (.cells (qG o) 66 (0,0)):=by
  rw[lS _ _ _ _ (by show w.heap.size≠j;omega)];exact jP _ _
 have s1:((w.alloc (.cells (qG o) 66)).setCell ⟨j,2,none⟩ (.int .i64 ((n+1:Nat):Int))).heap.size=w.heap.size+1:=by simp[World.setCell]
 have v9:(w.alloc (.cells (qG o) 66)).cell? ⟨j,2,none⟩=some (.int .i64 (n:Int)):=i0.cells.2.2.1;have h7:(w.alloc (.cells (qG o) 66)).frozen? ⟨j,2,none⟩=false:=i0.cells.2.2.2 2;have i5:Hid (jF (λk=>k=j) w ((w.alloc (.cells (qG o) 66)).setCell ⟨j,2,none⟩ (.int .i64 ((n+1:Nat):Int)))):=l1;have h1:Hid (jU ((w.alloc (.cells (qG o) 66)).setCell ⟨j,2,none⟩ (.int .i64 ((n+1:Nat):Int))) j (.slice (some ⟨g,0,none⟩) l.length cap) l t (n+1)):=l3;have m9:Hid (((w.alloc (.cells (qG o) 66)).setCell ⟨j,2,none⟩ (.int .i64 ((n+1:Nat):Int))).heap[w.heap.size]?=some (.cells (qG o) 66 (0,0))):=g9;have j1:Hid (((w.alloc (.cells (qG o) 66)).setCell ⟨j,2,none⟩ (.int .i64 ((n+1:Nat):Int))).heap.size=w.heap.size+1):=s1;have j7:=Gw l3;obtain⟨k1,k6⟩:∃b:Bool,b=decide (((n+1:Nat):Int)>300000):=⟨_,rfl⟩
 rw[<-k6]at j7;have i3:Hid (k1=decide (((n+1:Nat):Int)>300000)):=k6;have o1:Hid (CT 26 #[.pointer (some ⟨j,0,none⟩)] ((w.alloc (.cells (qG o) 66)).setCell ⟨j,2,none⟩ (.int .i64 ((n+1:Nat):Int))) λe w'=>e=.returned (.bool k1)/\((w.alloc (.cells (qG o) 66)).setCell ⟨j,2,none⟩ (.int .i64 ((n+1:Nat):Int)))=w'):=j7;have m8:Hid (jU w j (.slice (some ⟨g,0,none⟩) l.length cap) l t n):=g5;have c8:Hid (∀k,((w.alloc (.cells (qG o) 66)).setCell ⟨j,2,none⟩ (.int .i64 ((n+1:Nat):Int))).cell? ⟨g,k,none⟩=w.cell? ⟨g,k,none⟩):=λk=>gH (a:=⟨g,k,none⟩) (l1.block g q1 (λe=>g5.ap (by show some g=_;rw[e])))
 have c7:Hid (w.cell? ⟨g,a*7,none⟩=some (.int .i64 r.kind)/\w.cell? ⟨g,a*7+1,none⟩=some (.int .i64 r.jK)/\w.cell? ⟨g,a*7+2,none⟩=some (.int .i64 r.to)/\w.cell? ⟨g,a*7+3,none⟩=some (.int .i64 r.n)/\w.cell? ⟨g,a*7+4,none⟩=some (.int .i64 r.m)/\w.cell? ⟨g,a*7+5,none⟩=some (.int .i64 r.jB)/\w.cell? ⟨g,a*7+6,none⟩=some (.string ⟨r.set.toArray⟩)):=⟨o6,o7,o8,b6,o9,p0,p1⟩
 clear g5 g6 k0 i0 l1 l3 g9 s1 j7 k6 o6 o7 o8 b6 o9 p0 p1 q1;obtain⟨z4,D4,D5,D6,D7,D8,z5⟩:=x5;clear z5
 go_in
 go_upto_region 1 with fail
 generalize (w.alloc (.cells (qG o) 66))=v5 at *;go_upto_region 2 with fail
 have p4:((n:Int)+1)=((n+1:Nat):Int):=by omega
 rw[p4];clear v9 h7 p4;generalize (v5.setCell ⟨j,2,none⟩ (.int .i64 ((n+1:Nat):Int)))=b8 at *;go_wp2_with fail
 refine o1.o.mono ?_;rintro e D3 ⟨rfl,rfl⟩;cases k1
 case true =>
  have W:Hid (a0=([],n+1)):=by
   have h:=i3.o;show _=_;rw[i9.o];unfold OB;rw[lG (by have:=wC h.symm;omega)]
  go_wp2_with fail
  go_ret;exact⟨_,rfl,by rw[W.o];exact(Two.Vv m8.o i5.o h1.o (Aq _ _)).post⟩
 have l0:¬300000<n+1:=by have h:=iD i3.o.symm;omega
 have f2:Hid (a0=if r.kind=1 then(if nL t o.1 r.set then[(o.1+1,o.2)]else[],n+1)else if r.kind=2 then(jg t r.n.toNat o,n+1)else if r.kind=3 then(if o.1=0 then[o]else[],n+1)else if r.kind=4 then(if o.1=t.size then[o]else[],n+1)else JR r.jB r.n o S):=by show _=_;rw[i9.o];unfold OB;rw[lC l0]
 have m6:=m7.o l0;have t2:Hid ((r.kind=1\/r.kind=2\/r.kind=3\/r.kind=4)\/∀x,jU x j (.slice (some ⟨g,0,none⟩) l.length cap) l t (n+1)->CT 24 #[.pointer (some ⟨j,0,none⟩),.int .i64 ((a:Int)+1),.int .i64 ((b:Int)-1),.agg (qG o)] x λe w'=>∃v',e=.returned v'/\fT x j (.slice (some ⟨g,0,none⟩) l.length cap) l t S v' w'):=m6;clear i9 m7 i3 o1 l0 m6;have v8:b8.cell? ⟨j,0,none⟩=some (.slice (some ⟨g,0,none⟩) l.length cap):=h1.o.cells.1;have l8:=(c8.o _).trans c7.o.1;have l9:=(c8.o _).trans c7.o.2.1;have z0:=(c8.o _).trans c7.o.2.2.1;have z1:=(c8.o _).trans c7.o.2.2.2.1;have z2:=(c8.o _).trans c7.o.2.2.2.2.1;have z3:=(c8.o _).trans c7.o.2.2.2.2.2.1;have m0:=(c8.o _).trans c7.o.2.2.2.2.2.2;go_upto_region 6 with fail
 clear v8 l8 l9 z0 z1 z2 z3 m0;have h6:Below b8.heap.size b8 (b8.alloc (.cells #[.int .i64 r.kind,.int .i64 r.jK,.int .i64 r.to,.int .i64 r.n,.int .i64 r.m,.int .i64 r.jB,.string ⟨r.set.toArray⟩] 97)):=(lK _ _).alloc (lF _) _;have l4:(b8.alloc (.cells #[.int .i64 r.kind,.int .i64 r.jK,.int .i64 r.to,.int .i64 r.n,.int .i64 r.m,.int .i64 r.jB,.string ⟨r.set.toArray⟩] 97)).heap[b8.heap.size]?=some (.cells (zEF r) 97 (0,0)):=jP _ _;have r2:(b8.alloc (.cells #[.int .i64 r.kind,.int .i64 r.jK,.int .i64 r.to,.int .i64 r.n,.int .i64 r.m,.int .i64 r.jB,.string ⟨r.set.toArray⟩] 97)).heap.size=b8.heap.size+1:=by simp
 generalize (b8.alloc (.cells #[.int .i64 r.kind,.int .i64 r.jK,.int .i64 r.to,.int .i64 r.n,.int .i64 r.m,.int .i64 r.jB,.string ⟨r.set.toArray⟩] 97))=O at *;have d0:Hid (jU O j (.slice (some ⟨g,0,none⟩) l.length cap) l t (n+1)):=h1.o.below h6;have b1:Hid (O.heap[w.heap.size]?=some (.cells (qG o) 66 (0,0))):=(h6.block _ (by have:=j1.o;omega)).trans m9.o;have c9:Hid (jF (λk=>k=j) w O):=i5.o.Jy h6;generalize w7:b8.heap.size=a1 at *;have e5:Hid (a1=w.heap.size+1/\O.heap.size=a1+1):=⟨j1.o,r2⟩
 have h3:Hid (O.heap[a1]?=some (.cells (zEF r) 97 (0,0))):=l4;have d1:Hid (Two w j (.slice (some ⟨g,0,none⟩) l.length cap) l t [] (n+1) dF [] O):=Two.Vv m8.o c9.o d0.o (Aq _ _);have r3:O.cell? ⟨a1,0,none⟩=some (.int .i64 r.kind):=(zB l4).1 0;have q7:O.cell? ⟨w.heap.size,0,none⟩=some (.int .i64 (o.1:Int)):=(zB b1.o).1 0;have i1:O.cell? ⟨j,1,none⟩=some (.string t):=d0.o.cells.2.1;clear h6 l4 r2 m9 h1 j1 w7 c8 c7 i5;have o4:∀x y:Int,¬x=y->(x==y)=false:=λx y h=>by rw[gP];exact h
 have o5:∀x y:Int,x=y->(x==y)=true:=λx y h=>by rw[oU];exact h
 have a3:Hid (∀x y:Int,¬x=y->(x==y)=false):=o4;have c6:Hid (∀x y:Int,x=y->(x==y)=true):=o5;clear o4 o5;by_cases a5:r.kind=1
 ·have e3:=c6.o _ _ a5;obtain⟨m2,e6⟩:∃b:Bool,nL t o.1 r.set=b:=⟨_,rfl⟩
  have W:Hid (a0=(if nL t o.1 r.set then[(o.1+1,o.2)]else[],n+1)):=by show _=_;rw[f2.o,lG a5]
  rw[e6]at W;have E0:O.cell? ⟨a1,6,none⟩=some (.string ⟨r.set.toArray⟩):=(zB h3.o).1 6;have d8:=Bw (.pointer (some ⟨j,0,none⟩)) m2 (o.1+1) o d6.o O.drew;have p2:(((o.1+1:Nat)):Int)=(o.1:Int)+1:=by omega
  rw[p2]at d8;have b2:=hid d8;have z8:Hid (r.kind=1):=a5;clear d8 p2 a5;by_cases x1:o.1<t.size
  ·rw[zDu t o.1 r.set x1]at e6;have f7:=KC t (o.1:Int) (by omega) (by omega);have o3:0<=zI t (o.1:Int):=by rw[f7];omega
   have v6:=BI t (o.1:Int);have j5:=hid (λz:World=>nC t (o.1:Int) z (by omega));clear f7;generalize zI t (o.1:Int)=c at *;have h4:=hid (λz:World=>Qp ⟨r.set.toArray⟩ c z (by show r.set.toArray.size<=1000;simp;omega) o3 v6);rw[e6]at h4;have B7:decide (c>=0)=true:=by simpa using o3
   clear e6;go_wp2_with fail
   go_region_with (go_at_call 107;refine(j5.o _).mono ?_;rintro e w' ⟨rfl,rfl⟩)
   all_goals go_wp2_with (first|(go_at_call 105;refine(h4.o _).mono ?_;rintro e w' ⟨rfl,rfl⟩)|(refine bK (by rfl) (.tmp 7) (by rfl) w.heap.size (by rfl) (by exact b1.o) (by exact d7.o) ?_) | fail)
   all_goals
    refine b2.o.mono ?_;rintro e a7 ⟨c3,rfl,Z,Y⟩;have a8:=hid (qo (d1.o.below (lK _ _).drew) Z Y);clear Z Y;go_wp2_with fail
    go_ret;exact⟨_,rfl,by rw[W.o];exact a8.o⟩
  ·have w2:m2=false:=by rw[<-e6];unfold nL;rw[lC (by omega)]
   subst w2;have f7:=BJ t (o.1:Int) (by omega);have j6:=λz:World=>nC t (o.1:Int) z (by omega)
   rw[f7]at j6;have j5:=hid j6;have h4:=hid (λz:World=>Qp ⟨r.set.toArray⟩ 255 z (by show r.set.toArray.size<=1000;simp;omega) (by omega) (by omega));generalize hasB ⟨r.set.toArray⟩ 255=a4 at *;clear f7 j6 e6;go_wp2_with fail
   go_region_with (go_at_call 107;refine(j5.o _).mono ?_;rintro e w' ⟨rfl,rfl⟩)
   all_goals go_wp2_with (first|(go_at_call 105;refine(h4.o _).mono ?_;rintro e w' ⟨rfl,rfl⟩)|(refine bK (by rfl) (.tmp 7) (by rfl) w.heap.size (by rfl) (by exact b1.o) (by exact d7.o) ?_) | fail)
   all_goals
    refine b2.o.mono ?_;rintro e a7 ⟨c3,rfl,Z,Y⟩;have a8:=hid (qo (d1.o.below (lK _ _).drew) Z Y);clear Z Y;go_wp2_with fail
    go_ret;exact⟨_,rfl,by rw[W.o];exact a8.o⟩
 by_cases b0:r.kind=2
 ·skip
  have e3:=a3.o _ _ a5;have g7:=c6.o _ _ b0;have W:Hid (a0=(jg t r.n.toNat o,n+1)):=by show _=_;rw[f2.o,lC a5,lG b0]
  have x3:=n3.o.2.1 b0
  have n5:Hid (O.cell? ⟨w.heap.size,1+(2*r.n).toNat,none⟩=some (.int .i64 (o.2.getD (2*r.n.toNat) 0))):=by
   show _=_;rw[(zB b1.o).1,show(2*r.n).toNat=2*r.n.toNat by omega];exact Ip o d6.o _ (by omega)
  have n6:Hid (O.cell? ⟨w.heap.size,1+(2*r.n+1).toNat,none⟩=some (.int .i64 (o.2.getD (2*r.n.toNat+1) 0))):=by
   show _=_;rw[(zB b1.o).1,show(2*r.n+1).toNat=2*r.n.toNat+1 by omega];exact Ip o d6.o _ (by omega)
  have z6:O.cell? ⟨a1,3,none⟩=some (.int .i64 r.n):=(zB h3.o).1 3;have l8:=n5.o;have l9:=n6.o;have p8:=i6.o.at' r.n.toNat (by omega);obtain⟨z7,b3⟩:∃L,jg t r.n.toNat o=L:=⟨_,rfl⟩
  rw[b3]at W;unfold jg at b3;generalize o.2.getD (2*r.n.toNat) 0=A at *;generalize o.2.getD (2*r.n.toNat+1) 0=B at *;clear n5 n6 a5 b0;by_cases h8:A<0
  ·rw[lG h8]at b3;have q9:decide (A<0)=true:=by simpa using h8
   subst b3;clear p8;go_wp2_with fail
   go_region
   go_wp2_with fail
   go_ret;exact⟨_,rfl,by rw[W.o];exact(d1.o.below (lK _ _).drew).post⟩
  ·rw[lC h8]at b3;obtain⟨A,rfl⟩:∃k:Nat,A=(k:Int):=⟨A.toNat,by omega⟩
   obtain⟨B,rfl⟩:∃k:Nat,B=(k:Int):=⟨B.toNat,by omega⟩
   rw[gW,gW]at b3;have q9:decide ((A:Int)<0)=false:=by simp
   have A1:A<=B:=by omega
   have A2:B<=t.size:=by omega
   clear p8 h8;by_cases k8:(t.size:Int)<(o.1:Int)+((B:Int)-(A:Int))
   ·rw[lG k8]at b3;subst b3;have g9:decide ((o.1:Int)+(B:Int)-(A:Int)>(t.size:Int))=true:=by simp;omega
    go_wp2_with fail
    go_region
    go_wp2_with fail
    go_ret;exact⟨_,rfl,by rw[W.o];exact(d1.o.below (lK _ _).drew).post⟩
   ·rw[lC k8]at b3;obtain⟨E,p6⟩:∃E,o.1+B-A=E:=⟨_,rfl⟩
    rw[p6]at b3;have A3:o.1+B=E+A:=by omega
    have A4:E<=t.size:=by omega
    have A5:o.1<=E:=by omega
    obtain⟨a4,b4⟩:∃b:Bool,b=((t.extract A B).toList==(t.extract o.1 E).toList):=⟨_,rfl⟩
    rw[<-b4]at b3;have r6:Hid (a4=((t.extract A B).toList==(t.extract o.1 E).toList)):=b4;subst b3;have g9:decide ((o.1:Int)+(B:Int)-(A:Int)>(t.size:Int))=false:=by simp;omega
    have v2:=hid (λz:World=>Bw (.pointer (some ⟨j,0,none⟩)) a4 E o d6.o z);clear p6 b4 k8;go_wp2_with fail
    go_region
    have l2:Below O.heap.size O O.drew:=(lK _ _).drew;have t8:Hid (Two w j (.slice (some ⟨g,0,none⟩) l.length cap) l t [] (n+1) dF [] O.drew):=d1.o.below l2;have n0:Hid (O.drew.heap[w.heap.size]?=some (.cells (qG o) 66 (0,0))):=b1.o;have t3:Hid (jU O.drew j (.slice (some ⟨g,0,none⟩) l.length cap) l t (n+1)):=d0.o.below l2;have t6:Hid (a1=w.heap.size+1/\O.drew.heap.size=a1+1):=e5.o;have y1:O.drew.cell? ⟨j,1,none⟩=some (.string t):=i1;clear l2 d1 b1 d0 e5 i1 l8 l9 r3 z6 q7 h3 c9 g9 q9;generalize O.drew=d9 at *;have b2:=hid (v2.o d9.drew);have I:∀z:World,(z.heap[w.heap.size]?=some (.cells (qG o) 66 (0,0))/\z.heap[j]?=d9.heap[j]?)->z.rangeAt w.heap.size 0 (qG o).toList:=λz hz=>yE hz.1
    have U:∀z:World,(z.heap[w.heap.size]?=some (.cells (qG o) 66 (0,0))/\z.heap[j]?=d9.heap[j]?)->z.cell? ⟨j,1,none⟩=some (.string t):=λz hz=>(gH (a:=⟨j,1,none⟩) hz.2).trans y1
    have G:∀z:World,(z.heap[w.heap.size]?=some (.cells (qG o) 66 (0,0))/\z.heap[j]?=d9.heap[j]?)->z.cell? ⟨w.heap.size,0,none⟩=some (.int .i64 (o.1:Int)):=λz hz=>(zB hz.1).1 0
    go_wp2_with fail
    refine wp_region_held_drew (S:=λz:World=>z.heap[w.heap.size]?=some (.cells (qG o) 66 (0,0))/\z.heap[j]?=d9.heap[j]?) (by kernel_rfl) ⟨n0.o,rfl⟩ (λJ=>?_);refine qJ 0 94 (.pointer (some ⟨j,0,none⟩)) rfl (by kernel_rfl) (λ_ _ _ h=>h) (λz hz=>by clear hz J I U G;go_simp) (by assumption) ?_;simp only[Act.put,lD,lJ,lI];refine qJ 1 95 (.pointer (some ⟨j,0,none⟩)) rfl (by kernel_rfl) (λ_ _ _ h=>h) (λz hz=>by clear hz J I U G;go_simp) (by assumption) ?_;simp only[Act.put,lD,lJ,lI];refine qJ 2 96 (.pointer (some ⟨j,0,none⟩)) rfl (by kernel_rfl) (λ_ _ _ h=>h) (λz hz=>by clear hz J I U G;go_simp) (by assumption) ?_;simp only[Act.put,lD,lJ,lI];refine qJ 3 97 (.pointer (some ⟨j,1,none⟩)) rfl (by kernel_rfl) (λ_ _ _ h=>h) (λz hz=>by clear hz J I U G;go_simp) (by assumption) ?_;simp only[Act.put,lD,lJ,lI];refine qJ 4 98 (.string t) rfl (by kernel_rfl) (λ_ _ _ h=>h) (λz hz=>by have b6:=U z hz;clear hz J I U G;go_simp) (by assumption) ?_;simp only[Act.put,lD,lJ,lI];refine qJ 5 99 (.int .i64 (A:Int)) rfl (by kernel_rfl) (λ_ _ _ h=>h) (λz hz=>by clear hz J I U G;go_simp) (by assumption) ?_;simp only[Act.put,lD,lJ,lI];refine qJ 6 100 (.int .i64 (B:Int)) rfl (by kernel_rfl) (λ_ _ _ h=>h) (λz hz=>by clear hz J I U G;go_simp) (by assumption) ?_;simp only[Act.put,lD,lJ,lI];refine qJ 7 101 (.string (t.extract A B)) rfl (by kernel_rfl) (λ_ _ _ h=>h) (λz hz=>by clear hz J I U G;go_simp) (by assumption) ?_;simp only[Act.put,lD,lJ,lI];refine qJ 8 102 (.pointer (some ⟨j,0,none⟩)) rfl (by kernel_rfl) (λ_ _ _ h=>h) (λz hz=>by clear hz J I U G;go_simp) (by assumption) ?_;simp only[Act.put,lD,lJ,lI];refine qJ 9 103 (.pointer (some ⟨j,0,none⟩)) rfl (by kernel_rfl) (λ_ _ _ h=>h) (λz hz=>by clear hz J I U G;go_simp) (by assumption) ?_;simp only[Act.put,lD,lJ,lI];refine qJ 10 104 (.pointer (some ⟨j,1,none⟩)) rfl (by kernel_rfl) (λ_ _ _ h=>h) (λz hz=>by clear hz J I U G;go_simp) (by assumption) ?_;simp only[Act.put,lD,lJ,lI];refine qJ 11 105 (.string t) rfl (by kernel_rfl) (λ_ _ _ h=>h) (λz hz=>by have b6:=U z hz;clear hz J I U G;go_simp) (by assumption) ?_;simp only[Act.put,lD,lJ,lI];refine qJ 12 106 (.pointer (some ⟨w.heap.size,0,none⟩)) rfl (by kernel_rfl) (λ_ _ _ h=>h) (λz hz=>by clear hz J I U G;go_simp) (by assumption) ?_;simp only[Act.put,lD,lJ,lI];refine qJ 13 107 (.int .i64 (o.1:Int)) rfl (by kernel_rfl) (λ_ _ _ h=>h) (λz hz=>by have b6:=G z hz;clear hz J I U G;go_simp) (by assumption) ?_;simp only[Act.put,lD,lJ,lI];refine qJ 14 108 (.pointer (some ⟨w.heap.size,0,none⟩)) rfl (by kernel_rfl) (λ_ _ _ h=>h) (λz hz=>by clear hz J I U G;go_simp) (by assumption) ?_;simp only[Act.put,lD,lJ,lI];refine qJ 15 109 (.int .i64 (o.1:Int)) rfl (by kernel_rfl) (λ_ _ _ h=>h) (λz hz=>by have b6:=G z hz;clear hz J I U G;go_simp) (by assumption) ?_;simp only[Act.put,lD,lJ,lI];refine qJ 16 110 (.int .i64 (B:Int)) rfl (by kernel_rfl) (λ_ _ _ h=>h) (λz hz=>by clear hz J I U G;go_simp) (by assumption) ?_;simp only[Act.put,lD,lJ,lI];refine qJ 17 111 (.int .i64 ((o.1:Int)+(B:Int))) rfl (by kernel_rfl) (λ_ _ _ h=>h) (λz hz=>by clear hz J I U G;go_simp;rw[iP];omega) (by assumption) ?_;simp only[Act.put,lD,lJ,lI];refine qJ 18 112 (.int .i64 (A:Int)) rfl (by kernel_rfl) (λ_ _ _ h=>h) (λz hz=>by clear hz J I U G;go_simp) (by assumption) ?_;simp only[Act.put,lD,lJ,lI];refine qJ 19 113 (.int .i64 (E:Int)) rfl (by kernel_rfl) (λ_ _ _ h=>h) (λz hz=>by clear hz J I U G;go_simp;rw[iP];omega) (by assumption) ?_;simp only[Act.put,lD,lJ,lI];refine qJ 20 114 (.string (t.extract o.1 E)) rfl (by kernel_rfl) (λ_ _ _ h=>h) (λz hz=>by clear hz J I U G;go_simp) (by assumption) ?_;simp only[Act.put,lD,lJ,lI];refine qJ 21 115 (.bool a4) rfl (by kernel_rfl) (λ_ _ _ h=>h) (λz hz=>by clear hz J I U G;(try rw[r6.o]);go_simp) (by assumption) ?_;simp only[Act.put,lD,lJ,lI];refine qJ 22 116 (.pointer (some ⟨w.heap.size,0,none⟩)) rfl (by kernel_rfl) (λ_ _ _ h=>h) (λz hz=>by clear hz J I U G;go_simp) (by assumption) ?_;simp only[Act.put,lD,lJ,lI];refine qJ 23 117 (.int .i64 (o.1:Int)) rfl (by kernel_rfl) (λ_ _ _ h=>h) (λz hz=>by have b6:=G z hz;clear hz J I U G;go_simp) (by assumption) ?_;simp only[Act.put,lD,lJ,lI];refine qJ 24 118 (.int .i64 (B:Int)) rfl (by kernel_rfl) (λ_ _ _ h=>h) (λz hz=>by clear hz J I U G;go_simp) (by assumption) ?_;simp only[Act.put,lD,lJ,lI];refine qJ 25 119 (.int .i64 ((o.1:Int)+(B:Int))) rfl (by kernel_rfl) (λ_ _ _ h=>h) (λz hz=>by clear hz J I U G;go_simp;rw[iP];omega) (by assumption) ?_;simp only[Act.put,lD,lJ,lI];refine qJ 26 120 (.int .i64 (A:Int)) rfl (by kernel_rfl) (λ_ _ _ h=>h) (λz hz=>by clear hz J I U G;go_simp) (by assumption) ?_;simp only[Act.put,lD,lJ,lI];refine qJ 27 121 (.int .i64 (E:Int)) rfl (by kernel_rfl) (λ_ _ _ h=>h) (λz hz=>by clear hz J I U G;go_simp;rw[iP];omega) (by assumption) ?_;simp only[Act.put,lD,lJ,lI];refine MN 28 122 (.agg (qG o)) rfl (by kernel_rfl) (λ_ _ _ h=>h) (yieldsIf_load_mid (by rfl) _ _ rfl _ _ rfl _ _ I underlying66 rfl (by rw[xL];exact rJ some d7.o.symm)) (by assumption) ?_;simp only[Act.put,lD,lJ,lI];refine wpAnyH_ready (rs:=[29]) (by kernel_rfl) (by simp) ?_;refine AllReadyH.cons rfl (λK d5=>?_) AllReadyH.nil;clear I U G J
    go_simp
    refine b2.o.mono ?_;rintro e a7 ⟨c3,rfl,Z,Y⟩;have d2:a7.heap[w.heap.size]?=some (.cells (qG o) 66 (0,0))/\a7.heap[j]?=d9.heap[j]?:=⟨(Y.block _ (by have:=t6.o;show _<d9.heap.size;omega)).trans n0.o,Y.block _ t3.o.lt⟩
    have a8:=hid (qo (t8.o.below (lK _ _).drew) Z Y);obtain⟨f6,f8,rfl⟩:=dU Z;clear Z Y;generalize w6:(if a4 then[(E,o.2)]else([]:List Oc)).length=j8 at *
    go_simp
    refine d5.out _ _ d2 (λd4=>?_);clear d5 K d2;refine qJ 30 8 (.slice f6 j8 f8) rfl (by kernel_rfl) (λ_ _ _ h=>h) (λz hz=>by clear hz d4;go_simp) (by assumption) ?_;simp only[Act.put,lD,lJ,lI];refine rP (by kernel_rfl) ?_ _;clear d4;go_wp2_with fail
    go_ret;exact⟨_,rfl,by rw[W.o];exact a8.o⟩
 by_cases c2:r.kind=3
 ·skip
  have e3:=a3.o _ _ a5;have g7:=a3.o _ _ b0;have q6:=c6.o _ _ c2;have W:Hid (a0=(if o.1=0 then[o]else[],n+1)):=by show _=_;rw[f2.o,lC a5,lC b0,lG c2]
  obtain⟨a4,b4⟩:∃b:Bool,((o.1:Int)==0)=b:=⟨_,rfl⟩
  have f1:Hid ((if o.1=0 then[o]else[])=(if a4 then[((0:Nat),o.2)]else[])):=by
   show _=_;by_cases h:o.1=0
   ·rw[<-b4,lG h,lG (by simp[h]),<-h]
   ·rw[<-b4,lC h,lC (by simp;omega)]
  rw[f1.o]at W;have b2:=hid (Bw (.pointer (some ⟨j,0,none⟩)) a4 0 o d6.o O);clear a5 b0 c2;go_wp2_with (first|(refine bK (by rfl) (.tmp 7) (by rfl) w.heap.size (by rfl) (by exact b1.o) (by exact d7.o) ?_) | fail)
  refine b2.o.mono ?_;rintro e a7 ⟨c3,rfl,Z,Y⟩;have a8:=hid (qo d1.o Z Y);clear Z Y;go_wp2_with fail
  go_ret;exact⟨_,rfl,by rw[W.o];exact a8.o⟩
 by_cases e9:r.kind=4
 ·skip
  have e3:=a3.o _ _ a5;have g7:=a3.o _ _ b0;have q6:=a3.o _ _ c2;have h9:=c6.o _ _ e9;have W:Hid (a0=(if o.1=t.size then[o]else[],n+1)):=by show _=_;rw[f2.o,lC a5,lC b0,lC c2,lG e9]
  obtain⟨a4,b4⟩:∃b:Bool,((o.1:Int)==(t.size:Int))=b:=⟨_,rfl⟩
  have f1:Hid ((if o.1=t.size then[o]else[])=(if a4 then[(o.1,o.2)]else[])):=by
   show _=_;by_cases h:o.1=t.size
   ·rw[<-b4,lG h,lG (by simp[h])]
   ·rw[<-b4,lC h,lC (by simp;omega)]
  rw[f1.o]at W;have b2:=hid (Bw (.pointer (some ⟨j,0,none⟩)) a4 o.1 o d6.o O.drew);clear a5 b0 c2 e9;have I:∀z:World,(z.heap[w.heap.size]?=some (.cells (qG o) 66 (0,0))/\z.heap[j]?=O.heap[j]?)->z.rangeAt w.heap.size 0 (qG o).toList:=λz hz=>yE hz.1
  have U:∀z:World,(z.heap[w.heap.size]?=some (.cells (qG o) 66 (0,0))/\z.heap[j]?=O.heap[j]?)->z.cell? ⟨j,1,none⟩=some (.string t):=λz hz=>(gH (a:=⟨j,1,none⟩) hz.2).trans i1
  have G:∀z:World,(z.heap[w.heap.size]?=some (.cells (qG o) 66 (0,0))/\z.heap[j]?=O.heap[j]?)->z.cell? ⟨w.heap.size,0,none⟩=some (.int .i64 (o.1:Int)):=λz hz=>(zB hz.1).1 0
  go_wp2_with fail
  refine wp_region_held_drew (S:=λz:World=>z.heap[w.heap.size]?=some (.cells (qG o) 66 (0,0))/\z.heap[j]?=O.heap[j]?) (by kernel_rfl) ⟨b1.o,rfl⟩ (λJ=>?_);refine qJ 0 134 (.pointer (some ⟨j,0,none⟩)) rfl (by kernel_rfl) (λ_ _ _ h=>h) (λz hz=>by clear hz J I U G;go_simp) (by assumption) ?_;simp only[Act.put,lD,lJ,lI];refine qJ 1 135 (.pointer (some ⟨w.heap.size,0,none⟩)) rfl (by kernel_rfl) (λ_ _ _ h=>h) (λz hz=>by clear hz J I U G;go_simp) (by assumption) ?_;simp only[Act.put,lD,lJ,lI];refine qJ 2 136 (.int .i64 (o.1:Int)) rfl (by kernel_rfl) (λ_ _ _ h=>h) (λz hz=>by have b6:=G z hz;clear hz J I U G;go_simp) (by assumption) ?_;simp only[Act.put,lD,lJ,lI];refine qJ 3 137 (.pointer (some ⟨j,0,none⟩)) rfl (by kernel_rfl) (λ_ _ _ h=>h) (λz hz=>by clear hz J I U G;go_simp) (by assumption) ?_;simp only[Act.put,lD,lJ,lI];refine qJ 4 138 (.pointer (some ⟨j,0,none⟩)) rfl (by kernel_rfl) (λ_ _ _ h=>h) (λz hz=>by clear hz J I U G;go_simp) (by assumption) ?_;simp only[Act.put,lD,lJ,lI];refine qJ 5 139 (.pointer (some ⟨j,1,none⟩)) rfl (by kernel_rfl) (λ_ _ _ h=>h) (λz hz=>by clear hz J I U G;go_simp) (by assumption) ?_;simp only[Act.put,lD,lJ,lI];refine qJ 6 140 (.string t) rfl (by kernel_rfl) (λ_ _ _ h=>h) (λz hz=>by have b6:=U z hz;clear hz J I U G;go_simp) (by assumption) ?_;simp only[Act.put,lD,lJ,lI];refine qJ 7 141 (.int .i64 (t.size:Int)) rfl (by kernel_rfl) (λ_ _ _ h=>h) (λz hz=>by clear hz J I U G;go_simp) (by assumption) ?_;simp only[Act.put,lD,lJ,lI];refine qJ 8 142 (.bool a4) rfl (by kernel_rfl) (λ_ _ _ h=>h) (λz hz=>by clear hz J I U G;go_simp) (by assumption) ?_;simp only[Act.put,lD,lJ,lI];refine qJ 9 143 (.pointer (some ⟨w.heap.size,0,none⟩)) rfl (by kernel_rfl) (λ_ _ _ h=>h) (λz hz=>by clear hz J I U G;go_simp) (by assumption) ?_;simp only[Act.put,lD,lJ,lI];refine qJ 10 144 (.int .i64 (o.1:Int)) rfl (by kernel_rfl) (λ_ _ _ h=>h) (λz hz=>by have b6:=G z hz;clear hz J I U G;go_simp) (by assumption) ?_;simp only[Act.put,lD,lJ,lI];refine MN 11 145 (.agg (qG o)) rfl (by kernel_rfl) (λ_ _ _ h=>h) (yieldsIf_load_mid (by rfl) _ _ rfl _ _ rfl _ _ I underlying66 rfl (by rw[xL];exact rJ some d7.o.symm)) (by assumption) ?_;simp only[Act.put,lD,lJ,lI];refine wpAnyH_ready (rs:=[12]) (by kernel_rfl) (by simp) ?_;refine AllReadyH.cons rfl (λK d5=>?_) AllReadyH.nil;clear I U G J
  go_simp
  refine b2.o.mono ?_;rintro e a7 ⟨c3,rfl,Z,Y⟩;have d2:a7.heap[w.heap.size]?=some (.cells (qG o) 66 (0,0))/\a7.heap[j]?=O.heap[j]?:=⟨(Y.block _ (by have:=e5.o;show _<O.heap.size;omega)).trans b1.o,Y.block _ d0.o.lt⟩
  have a8:=hid (qo (d1.o.below (lK _ _).drew) Z Y);obtain⟨f6,f8,rfl⟩:=dU Z;clear Z Y;generalize w6:(if a4 then[(o.1,o.2)]else([]:List Oc)).length=j8 at *
  go_simp
  refine d5.out _ _ d2 (λd4=>?_);clear d5 K d2;refine qJ 13 8 (.slice f6 j8 f8) rfl (by kernel_rfl) (λ_ _ _ h=>h) (λz hz=>by clear hz d4;go_simp) (by assumption) ?_;simp only[Act.put,lD,lJ,lI];refine rP (by kernel_rfl) ?_ _;clear d4;go_wp2_with fail
  go_ret;exact⟨_,rfl,by rw[W.o];exact a8.o⟩
 have e3:=a3.o _ _ a5;have g7:=a3.o _ _ b0;have q6:=a3.o _ _ c2;have h9:=a3.o _ _ e9;have n9:=t2.o.resolve_left (λh=>by omega);have f3:Hid (a0=JR r.jB r.n o S):=by show _=_;rw[f2.o,lC a5,lC b0,lC c2,lC e9]
 have n4:Hid (Two O j (.slice (some ⟨g,0,none⟩) l.length cap) l t [] (n+1) dF [] O):=Two.Vv d0.o (jF.refl _ _) d0.o (Aq _ _)
 have i7:Hid (∀b9,jF (λk=>k=j) O b9->b9.cell? ⟨a1,5,none⟩=some (.int .i64 r.jB)/\b9.cell? ⟨a1,3,none⟩=some (.int .i64 r.n)/\b9.heap[w.heap.size]?=some (.cells (qG o) 66 (0,0))):=λb9 hz=>by
  have B9:=e5.o;have q:=(hz.block a1 (by omega) (by omega)).trans h3.o;exact⟨(zB q).1 5,(zB q).1 3,(hz.block w.heap.size (by omega) (by omega)).trans b1.o⟩
 have f0:Hid (∀{o2:List Oc} {p:Nat} {u:Value} {b9:World} {v3:List (Value × List Oc)},Two O j (.slice (some ⟨g,0,none⟩) l.length cap) l t o2 p u v3 b9->fT w j (.slice (some ⟨g,0,none⟩) l.length cap) l t (o2,p) u b9):=λh=>⟨qP h.own c9.o.size,h.me,c9.o.trans h.kp (λ_ _ e=>e)⟩
 have n7:Hid (CT 24 #[.pointer (some ⟨j,0,none⟩),.int .i64 ((a:Int)+1),.int .i64 ((b:Int)-1),.agg (qG o)] O λe w'=>∃v',e=.returned v'/\fT O j (.slice (some ⟨g,0,none⟩) l.length cap) l t S v' w'):=n9 O d0.o;clear n9 a5 b0 c2 e9;go_wp2_with (first|(refine bK (by rfl) (.tmp 7) (by rfl) w.heap.size (by rfl) (by exact b1.o) (by exact d7.o) ?_) | fail)
 refine n7.o.mono ?_;rintro e a2 ⟨D1,rfl,g8⟩;obtain⟨c0,a9,rfl⟩:=dU g8.1;have b7:Hid (Two O j (.slice (some ⟨g,0,none⟩) l.length cap) l t S.1 S.2 (.slice c0 S.1.length a9) [] a2):=(n4.o.call g8).pick (q:=(.slice c0 S.1.length a9,S.1)) (by simp);have l6:=i7.o a2 g8.2.2;have D9:a2.cell? ⟨a1,5,none⟩=some (.int .i64 r.jB):=l6.1;have h2:Hid (a2.heap[w.heap.size]?=some (.cells (qG o) 66 (0,0))):=l6.2.2;have C9:a2.cell? ⟨w.heap.size,0,none⟩=some (.int .i64 (o.1:Int)):=(zB h2.o).1 0;have D0:=g8.2.2.size;clear g8 l6 n7 n4 q7 i1 r3;by_cases e0:r.jB=3
 ·have W:Hid (a0=S):=by show _=_;rw[f3.o];unfold JR;rw[lG e0]
  have h9:=a3.o r.jB 4 (by omega);have q5:=a3.o r.jB 0 (by omega);have e3:=a3.o r.jB 1 (by omega);have g7:=a3.o r.jB 2 (by omega);clear e0;go_wp2_with fail
  go_ret;exact⟨_,rfl,by rw[W.o];exact f0.o b7.o⟩
 by_cases c4:r.jB=4
 ·have W:Hid (a0=kT [] (S.1.map (fZ r.n.toNat o)) S.2):=by show _=_;rw[f3.o];unfold JR;rw[lC e0,lG c4]
  have h9:=c6.o _ _ c4;have x3:=n3.o.2.2 c4;have x2:=z4;obtain⟨c5,k3⟩:∃c5,kT [] (S.1.map (fZ r.n.toNat o)) S.2=c5:=⟨_,rfl⟩
  rw[k3]at W;have t1:=hid k3;have m5:Hid (c5.2<=2 ^ 60/\c5.1.length<=500000):=by have h:=t9.o;rw[W.o]at h;exact h
  clear e0 c4 k3;have t7:Hid (Two O j (.slice (some ⟨g,0,none⟩) l.length cap) l t [] S.2 dF [(.slice c0 S.1.length a9,S.1)] a2):=b7.o.turn;have E1:a2.cell? ⟨a1,3,none⟩=some (.int .i64 r.n):=(i7.o a2 b7.o.kp).2.1;have z9:Hid (((r.n.toNat:Nat):Int)=r.n):=oN x2;have A0:Hid (kV t o):=i6.o;go_wp2_with fail
  go_loopw [16,17] (λu i b9=>∃(q:Nat) (X:List Oc) (p:Nat),q<=S.1.length/\i=.int .i64 q/\Two O j (.slice (some ⟨g,0,none⟩) l.length cap) l t X p u [(.slice c0 S.1.length a9,S.1)] b9/\qM (kV t) X/\kT X ((S.1.map (fZ r.n.toNat o)).drop q) p=c5) (λ_ i _=>S.1.length-(intOf i).toNat)
  case atStart=>exact⟨0,[],S.2,gD _,rfl,t7.o,tH,t1.o⟩
  case round =>
   obtain⟨q,X,p,C4,rfl,e8,k5,e7⟩:=hrel;have n2:Hid (Two O j (.slice (some ⟨g,0,none⟩) l.length cap) l t X p u16 [(.slice c0 S.1.length a9,S.1)] wr):=e8;have m3:Hid (qM (kV t) X):=k5;by_cases g4:q<S.1.length
   ·have k9:q<(S.1.map (fZ r.n.toNat o)).length:=by rw[uD];exact g4
    have r1:=DN e7 k9 m5.o.1;obtain⟨g3,v7,e,B4,B5,B8,e2⟩:=e8.at (q:=(.slice c0 S.1.length a9,S.1)) (by simp) (EI.of e4.o) g4;obtain⟨rfl,rfl⟩:c0=some ⟨g3,0,none⟩/\a9=v7:=by injection e with f9 h7 g0;exact⟨f9,g0⟩
    have c1:kV t (S.1.getD q xI):=e4.o _ (dB g4);rw[jm k9,zBE _ _ _ g4]at e7;have p9:=PW (k:=r.n.toNat) i6.o c1 (t4.o _ (dB g4)).2;have q2:=i7.o wr e8.kp;have C6:=e8.kp.size;dsimp only at e2;generalize S.1.getD q xI=x at *;have x8:=xK x c1.len;have j4:Hid (x.2.length=20):=c1.len;have v0:Hid ((qG x).size=21):=dA x c1.len;have r8:Hid (kT (yQ X (fZ r.n.toNat o x) p).1 ((S.1.map (fZ r.n.toNat o)).drop (q+1)) (yQ X (fZ r.n.toNat o x) p).2=c5):=e7;have f3:Hid (wr.rangeAt g3 (q*21) (jw x)):=e2;have w9:(fZ r.n.toNat o x).2.length=20:=by unfold fZ;simp[c1.len]
    have i4:Hid (kV t (fZ r.n.toNat o x)):=p9;have n1:Hid (p+X.length+1<=2 ^ 60/\X.length<=1000000):=⟨r1.1,by have:=m5.o.2;omega⟩
    have C8:(0:Int)<=(q:Int):=by omega
    have y0:(q:Int)<(S.1.length:Int):=by omega
    have i8:Hid (wr.cell? ⟨a1,3,none⟩=some (.int .i64 r.n)/\wr.heap[w.heap.size]?=some (.cells (qG o) 66 (0,0))):=q2.2;have w5:=e5.o;have j2:Hid (a1<wr.heap.size/\w.heap.size<wr.heap.size/\j<wr.heap.size):=⟨by omega,by omega,by omega⟩
    clear r1 e7 e8 k5 e e2 q2 w5 k9;go_upto_region 29 with (first|(refine wpList_load_mid (by rfl) 66 (.tmp 166) (by rfl) g3 (q*21) (by rfl) (jw x) _ f3.o underlying66 rfl (by rw[xL];exact rJ some x8.symm) ?_)|(refine zN 66 21 xL (by rfl) (.tmp 18) (.tmp 167) (by rfl) wr.heap.size (qG x) (by rfl) (by rfl) (by exact jP _ _) (by rfl) (by exact v0.o) (zEy x) ?_;intro b5 l5 y6 y7 r0) | fail)
    have h0:Below wr.heap.size wr b5:=((lK _ _).alloc (lF _) _).trans (r0 _ (lF _));have h5:Hid (b5.heap[wr.heap.size]?=some (.cells (qG x) 66 (0,0))):=l5;have y2:b5.cell? ⟨a1,3,none⟩=some (.int .i64 r.n):=(h0.cell (p:=⟨a1,3,none⟩) j2.o.1).trans i8.o.1;have y4:b5.cell? ⟨w.heap.size,0,none⟩=some (.int .i64 (o.1:Int)):=(h0.cell (p:=⟨w.heap.size,0,none⟩) j2.o.2.1).trans ((zB i8.o.2).1 0)
    have m0:b5.cell? ⟨wr.heap.size,1+(2*r.n).toNat,none⟩=some (.int .i64 (x.2.getD (2*r.n.toNat) 0)):=by
     rw[(zB h5.o).1,show(2*r.n).toNat=2*r.n.toNat by omega];exact Ip x j4.o _ (by omega)
    have w3:b5.frozen? ⟨wr.heap.size,1+(2*r.n).toNat,none⟩=false:=(zB h5.o).2 _;have m4:Hid (Below wr.heap.size wr b5):=h0;have x4:wr.heap.size<b5.heap.size:=(lM.1 l5).1;clear l5 y6 y7 r0 h0;go_upto_region 30 with fail
    have f5:Hid ((b5.setCell ⟨wr.heap.size,1+(2*r.n).toNat,none⟩ (.int .i64 (o.1:Int))).heap[wr.heap.size]?=some (.cells ((qG x).setIfInBounds (1+2*r.n.toNat) (.int .i64 (o.1:Int))) 66 (0,0))):=by
     show _=_;rw[show(2*r.n).toNat=2*r.n.toNat by omega];exact lX b5 wr.heap.size (1+2*r.n.toNat) _ _ (.int .i64 (o.1:Int)) h5.o
    have i2:Hid (Below wr.heap.size wr (b5.setCell ⟨wr.heap.size,1+(2*r.n).toNat,none⟩ (.int .i64 (o.1:Int)))):=m4.o.setCell (p:=⟨wr.heap.size,1+(2*r.n).toNat,none⟩) (lF _) _;generalize (b5.setCell ⟨wr.heap.size,1+(2*r.n).toNat,none⟩ (.int .i64 (o.1:Int)))=d3 at *;clear y2 y4 m0 w3 x4 m4 h5;have y3:d3.cell? ⟨a1,3,none⟩=some (.int .i64 r.n):=(i2.o.cell (p:=⟨a1,3,none⟩) j2.o.1).trans i8.o.1
    have y5:d3.cell? ⟨wr.heap.size,0,none⟩=some (.int .i64 (x.1:Int)):=by
     rw[(zB f5.o).1,eD (by omega)];exact LD x
    have m1:∃v,d3.cell? ⟨wr.heap.size,1+(2*r.n+1).toNat,none⟩=some (.int .i64 v):=by
     refine⟨x.2.getD (2*r.n.toNat+1) 0,?_⟩;rw[(zB f5.o).1,show(2*r.n+1).toNat=2*r.n.toNat+1 by omega,eD (by omega)];exact Ip x j4.o _ (by omega)
    obtain⟨D2,m1⟩:=m1;have w4:d3.frozen? ⟨wr.heap.size,1+(2*r.n+1).toNat,none⟩=false:=(zB f5.o).2 _;go_upto_region 31 with fail
    have v4:Hid ((d3.setCell ⟨wr.heap.size,1+(2*r.n+1).toNat,none⟩ (.int .i64 (x.1:Int))).heap[wr.heap.size]?=some (.cells (qG (fZ r.n.toNat o x)) 66 (0,0))):=by
     show _=_;rw[show(2*r.n+1).toNat=2*r.n.toNat+1 by omega,<-zEJ o x r.n.toNat j4.o (by omega)];exact lX d3 wr.heap.size (1+(2*r.n.toNat+1)) _ _ (.int .i64 (x.1:Int)) f5.o
    have r5:Hid (Below wr.heap.size wr (d3.setCell ⟨wr.heap.size,1+(2*r.n+1).toNat,none⟩ (.int .i64 (x.1:Int)))):=i2.o.setCell (p:=⟨wr.heap.size,1+(2*r.n+1).toNat,none⟩) (lF _) _;generalize (d3.setCell ⟨wr.heap.size,1+(2*r.n+1).toNat,none⟩ (.int .i64 (x.1:Int)))=j9 at *;clear y3 y5 m1 w4 i2 f5;have f4:Hid (Two O j (.slice (some ⟨g,0,none⟩) l.length cap) l t X p u16 [(.slice (some ⟨g3,0,none⟩) S.1.length a9,S.1)] j9):=n2.o.below r5.o;have n8:=Cn (fZ r.n.toNat o x) i4.o.len f4.o.me f4.o.own f4.o.kp.size (EI.of m3.o) f4.o.hap n1.o.2 n1.o.1;have r7:Hid ((qG (fZ r.n.toNat o x)).size=21):=dA _ i4.o.len;generalize fZ r.n.toNat o x=y at *;have v1:Hid (CT 54 #[.pointer (some ⟨j,0,none⟩),u16,.agg (qG y)] j9 λe w'=>∃v',e=.returned v'/\dz j9 j (.slice (some ⟨g,0,none⟩) l.length cap) l t O.heap.size u16 (yQ X y p) v' w'):=n8;clear n8 w9 p9;go_wp2_with (first|(refine bK (by rfl) (.tmp 18) (by rfl) wr.heap.size (by rfl) (by exact v4.o) (by exact r7.o) ?_) | fail)
    refine v1.o.mono ?_;rintro e y9 ⟨y8,rfl,q8⟩;have t5:Hid (Two O j (.slice (some ⟨g,0,none⟩) l.length cap) l t (yQ X y p).1 (yQ X y p).2 y8 [(.slice (some ⟨g3,0,none⟩) S.1.length a9,S.1)] y9):=f4.o.add q8;have r4:Hid (qM (kV t) (yQ X y p).1):=Ac p m3.o i4.o;clear q8;go_wp2_with fail
    go_roundw
    case rel=>exact⟨q+1,_,_,by omega,by go_num,t5.o,r4.o,r8.o⟩
    case measure=>simp[intOf];omega
   ·have q0:(X,p)=c5:=by rw[<-e7,Ae (by rw[uD];omega)]
    have r9:Hid ((X,p)=c5):=q0;clear e7 e8 k5 q0;go_wp2_with fail
    go_ret;exact⟨_,rfl,by rw[W.o,<-r9.o];exact f0.o n2.o⟩
 have j0:Hid (a0=(DF r.jB o S.1,S.2)):=by show _=_;rw[f3.o];unfold JR;rw[lC e0,lC c4]
 have h9:=a3.o _ _ c4;by_cases w0:r.jB=0
 ·have W:Hid (a0=(S.1.take 1,S.2)):=by show _=_;rw[j0.o];unfold DF;rw[lG w0]
  have q5:=c6.o _ _ w0;clear w0 e0 c4;by_cases e1:1<S.1.length
  ·have k7:(S.1.length:Int)>1:=by omega
   obtain⟨a6,k2,g1,w8,_,_,_⟩:=DK b7.o.own (EI.of e4.o) (k:=0) (by omega);obtain⟨rfl,rfl⟩:c0=some ⟨a6,0,none⟩/\a9=k2:=by injection g1 with f9 h7 g0;exact⟨f9,g0⟩
   have j3:=hid (b7.o.take1 (EI.of e4.o) (by omega));have B2:(1:Int)<=(a9:Int):=by omega
   clear g1;go_wp2_with fail
   go_ret;exact⟨_,rfl,by rw[W.o];exact f0.o j3.o⟩
  ·have p3:S.1.take 1=S.1:=oG (by omega);rw[p3]at W;have k7:¬(S.1.length:Int)>1:=by omega
   clear p3;go_wp2_with fail
   go_ret;exact⟨_,rfl,by rw[W.o];exact f0.o b7.o⟩
 have q5:=a3.o _ _ w0;by_cases w1:r.jB=1
 ·have W:Hid (a0=((S.1.take 1).map (λx=>(o.1,x.2)),S.2)):=by show _=_;rw[j0.o];unfold DF;rw[lC w0,lG w1]
  have e3:=c6.o _ _ w1;clear w0 w1 e0 c4;by_cases e1:0<S.1.length
  ·have g2:(S.1.take 1).map (λx=>(o.1,x.2))=[(o.1,(S.1.getD 0 xI).2)]:=by
    cases h:S.1 with
    | nil=>rw[h]at e1;simp at e1
    | cons x xs=>rfl
   rw[g2]at W;clear g2;obtain⟨a6,k2,g1,w8,B6,x0,e2⟩:=DK b7.o.own (EI.of e4.o) (k:=0) e1;obtain⟨rfl,rfl⟩:c0=some ⟨a6,0,none⟩/\a9=k2:=by injection g1 with f9 h7 g0;exact⟨f9,g0⟩
   have c1:kV t (S.1.getD 0 xI):=e4.o _ (dB e1);rw[aT]at e2;generalize S.1.getD 0 xI=y at *;have x9:=xK y c1.len;have d8:=Bw (.pointer (some ⟨j,0,none⟩)) true o.1 y c1.len a2.drew;simp only[wS]at d8;have b2:Hid (CT 130 #[.pointer (some ⟨j,0,none⟩),.bool true,.int .i64 (o.1:Int),.agg (qG y)] a2.drew λe w'=>∃v,e=.returned v/\xX w' a2.drew.heap.size v [(o.1,y.2)]/\Below a2.drew.heap.size a2.drew w'):=d8;have I:∀z:World,(z.heap[w.heap.size]?=some (.cells (qG o) 66 (0,0))/\z.heap[a6]?=a2.heap[a6]?)->z.rangeAt a6 0 (jw y):=λz hz q4 u x6=>(gH (a:=⟨a6,0+q4,none⟩) hz.2).trans (e2 q4 u x6)
   have G:∀z:World,(z.heap[w.heap.size]?=some (.cells (qG o) 66 (0,0))/\z.heap[a6]?=a2.heap[a6]?)->z.cell? ⟨w.heap.size,0,none⟩=some (.int .i64 (o.1:Int)):=λz hz=>(zB hz.1).1 0
   have k7:((S.1.length:Int)==0)=false:=by rw[gP];omega
   have y0:(0:Int)<(S.1.length:Int):=by omega
   clear d8 e2 g1 c1;go_wp2_with fail
   refine wp_region_held_drew (S:=λz:World=>z.heap[w.heap.size]?=some (.cells (qG o) 66 (0,0))/\z.heap[a6]?=a2.heap[a6]?) (by kernel_rfl) ⟨h2.o,rfl⟩ (λJ=>?_);refine qJ 0 200 (.pointer (some ⟨j,0,none⟩)) rfl (by kernel_rfl) (λ_ _ _ h=>h) (λz hz=>by clear hz J I G;go_simp) (by assumption) ?_;simp only[Act.put,lD,lJ,lI];refine qJ 1 201 (.pointer (some ⟨w.heap.size,0,none⟩)) rfl (by kernel_rfl) (λ_ _ _ h=>h) (λz hz=>by clear hz J I G;go_simp) (by assumption) ?_;simp only[Act.put,lD,lJ,lI];refine qJ 2 202 (.int .i64 (o.1:Int)) rfl (by kernel_rfl) (λ_ _ _ h=>h) (λz hz=>by have b6:=G z hz;clear hz J I G;go_simp) (by assumption) ?_;simp only[Act.put,lD,lJ,lI];refine qJ 3 203 (.slice (some ⟨a6,0,none⟩) S.1.length a9) rfl (by kernel_rfl) (λ_ _ _ h=>h) (λz hz=>by clear hz J I G;go_simp) (by assumption) ?_;simp only[Act.put,lD,lJ,lI];refine qJ 4 204 (.pointer (some ⟨a6,0,none⟩)) rfl (by kernel_rfl) (λ_ _ _ h=>h) (λz hz=>by clear hz J I G;go_simp) (by assumption) ?_;simp only[Act.put,lD,lJ,lI];refine MN 5 205 (.agg (qG y)) rfl (by kernel_rfl) (λ_ _ _ h=>h) (yieldsIf_load_mid (by rfl) _ _ rfl _ _ rfl _ _ I underlying66 rfl (by rw[xL];exact rJ some x9.symm)) (by assumption) ?_;simp only[Act.put,lD,lJ,lI];refine wpAnyH_ready (rs:=[6]) (by kernel_rfl) (by simp) ?_;refine AllReadyH.cons rfl (λK d5=>?_) AllReadyH.nil;clear I G J
   go_simp
   refine b2.o.mono ?_;rintro e a7 ⟨c3,rfl,Z,Y⟩;have d2:a7.heap[w.heap.size]?=some (.cells (qG o) 66 (0,0))/\a7.heap[a6]?=a2.heap[a6]?:=⟨(Y.block _ (by have:=e5.o;show _<a2.heap.size;omega)).trans h2.o,Y.block _ x0⟩
   have a8:Hid (fT w j (.slice (some ⟨g,0,none⟩) l.length cap) l t ([(o.1,y.2)],S.2) c3 a7):=by
    have:=qo (b7.o.below (lK _ _).drew) Z Y;exact⟨qP this.1 c9.o.size,this.2.1,c9.o.trans this.2.2 (λ_ _ e=>e)⟩
   obtain⟨f6,f8,rfl⟩:∃ao cap,c3=.slice ao 1 cap:=dU Z;clear Z Y
   go_simp
   refine d5.out _ _ d2 (λd4=>?_);clear d5 K d2;refine qJ 7 8 (.slice f6 1 f8) rfl (by kernel_rfl) (λ_ _ _ h=>h) (λz hz=>by clear hz d4;go_simp) (by assumption) ?_;simp only[Act.put,lD,lJ,lI];refine rP (by kernel_rfl) ?_ _;clear d4;go_wp2_with fail
   go_ret;exact⟨_,rfl,by rw[W.o];exact a8.o⟩
  ·have g2:(S.1.take 1).map (λx=>(o.1,x.2))=[]:=by
    cases h:S.1 with
    | nil=>rfl
    | cons x xs=>rw[h]at e1;simp at e1
   rw[g2]at W;clear g2;have k7:((S.1.length:Int)==0)=true:=by rw[oU];omega
   have j3:=hid b7.o.turn;go_wp2_with fail
   go_ret;exact⟨_,rfl,by rw[W.o];exact f0.o j3.o⟩
 have W:Hid (a0=(if S.1.isEmpty then[o]else[],S.2)):=by show _=_;rw[j0.o];unfold DF;rw[lC w0,lC w1]
 have e3:=a3.o _ _ w1;have g7:=c6.o r.jB 2 (by omega);obtain⟨a4,b4⟩:∃b:Bool,((S.1.length:Int)==0)=b:=⟨_,rfl⟩
 have f1:Hid ((if S.1.isEmpty then[o]else[])=(if a4 then[(o.1,o.2)]else[])):=by
  show _=_;cases h:S.1 with
  | nil=>rw[<-b4,h];rfl
  | cons x xs=>rw[<-b4,h,lC (by simp),lC (by simp;omega)]
 rw[f1.o]at W;have b2:=hid (Bw (.pointer (some ⟨j,0,none⟩)) a4 o.1 o d6.o a2);clear w0 w1 c4;go_wp2_with (first|(refine bK (by rfl) (.tmp 7) (by rfl) w.heap.size (by rfl) (by exact h2.o) (by exact d7.o) ?_) | fail)
 refine b2.o.mono ?_;rintro e a7 ⟨c3,rfl,Z,Y⟩
 have a8:Hid (fT w j (.slice (some ⟨g,0,none⟩) l.length cap) l t (if a4 then[(o.1,o.2)]else[],S.2) c3 a7):=by
  have:=qo b7.o Z Y;exact⟨qP this.1 c9.o.size,this.2.1,c9.o.trans this.2.2 (λ_ _ e=>e)⟩
 clear Z Y;go_wp2_with fail
 go_ret;exact⟨_,rfl,by rw[W.o];exact a8.o⟩
theorem Vw l t(b2:l.length<=64)(b3:bR l)(a4:zEK l)(b5:t.size<=30) f(a3:T0 l t f):T2 l t (f+1):=by
 intro a b b7 b8 o n O c0 w a6 a8 J I G a5 a7 b9 b0 j;subst a6 a8;obtain⟨g,cap,rfl,a9,b1,U,W,Y,Z,a0,a1,a2⟩:=Qh J.tk G;have e:mM l t (f+1) 2 a b o n=OB t (l.getD a zZ) o n (mM l t f 0 (a+1) (b-1) o (n+1)):=by rw[mM];rfl
 have c1:n+1<=(mM l t (f+1) 2 a b o n).2:=by
  rw[mM]
  repeat' split
  all_goals first
   | exact lF _
   | exact gX (xY l t f 0 (a+1) (b-1) o (n+1)) (Ew _ _ _ _)
 refine YK l t b2 b5 (l.getD a zZ) a b O g cap n o w (mM l t f 0 (a+1) (b-1) o (n+1)) _ e j (DL l t (f+1) 2 a b o n b0) (by omega) (EX l f 0 (a+1) (b-1) o (n+1) I) (DL l t f 0 (a+1) (b-1) o (n+1) (by omega)) J I G a5 a7 (Bc b3 a) (a4 a G) a9 b1 U W Y Z a0 a1 a2 (λb4=>?_);by_cases h:(l.getD a zZ).kind=1\/(l.getD a zZ).kind=2\/(l.getD a zZ).kind=3\/(l.getD a zZ).kind=4
 ·exact .inl h
 ·refine .inr (λx b6=>a3 (a+1) (b-1) ((a:Int)+1) ((b:Int)-1) o (n+1) O _ x (by omega) (by omega) b6 I (by omega) (by omega) (by omega) (by omega) ?_);rw[e]at j;unfold OB at j;rw[lC b4,lC (λq=>h (.inl q)),lC (λq=>h (.inr (.inl q))),lC (λq=>h (.inr (.inr (.inl q)))),lC (λq=>h (.inr (.inr (.inr q))))]at j;exact gX (Ew _ _ _ _) j
theorem Vx l t(Z:l.length<=64)(a4:bR l)(a7:zEK l)(a8:IB l)(a5:t.size<=30):∀f,T0 l t f/\T1 l t f/\T2 l t f/\TP l t f/\T3 l t f:=by
 intro f;induction f with
 | zero =>
  refine⟨?_,?_,?_,?_,?_⟩
  ·intro a b h j o n a0 a1 w G I J O U W Y;omega
  ·intro a b h j o n a0 a1 w G I J O U W Y;omega
  ·intro a b h j o n a0 a1 w G I J O U W Y a3;omega
  ·intro a b h j o n a0 a1 w G I J O U W Y a3;omega
  ·intro a b h j b4 o n a0 a1 w G I J O U W Y a3 b6 b5;omega
 | succ f b2 =>
  obtain⟨a6,a9,b0,b3,b1⟩:=b2;have a2:=Vw l t Z a4 a7 a5 f a6;exact⟨Yp l t Z f a6 a9,Yr l t Z f b3 b1,a2,Vi l t (f+1) a2,Yz l t Z a4 a8 a5 f b0⟩
