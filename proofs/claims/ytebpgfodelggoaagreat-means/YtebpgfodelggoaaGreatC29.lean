import Derived.Test.YtebpgfodelggoaaGreatC28
set_option linter.all false
set_option maxRecDepth 100000
set_option maxHeartbeats 32000000
namespace Go.Proofs.YtebpgfodelggoaaGreat
open Go.RowKit _root_.Go.Proofs.Tryz Mt
def JA(S:List (Oc × Int))(o:Oc)(k:Int):List (Oc × Int):=if(o,k)∈S then S else S++[(o,k)]
theorem Sl(S:List (Oc × Int)){q}(h:q<S.length):((S.map (·.1)).getD q xI,(S.map (·.2)).getD q 0)=S[q]:=by
 rw[lH,lH,gN,gN,lN h];rfl
theorem zBf{S:List (Oc × Int)}{o}{k}{q}(h:q<S.length)(G:(S.map (·.1)).getD q xI=o)(I:(S.map (·.2)).getD q 0=k):(o,k)∈S:=by
 rw[<-G,<-I,Sl S h];exact uK h
theorem zDi{S:List (Oc × Int)}{o}{k}(G:∀q,q<S.length->¬((S.map (·.1)).getD q xI=o/\(S.map (·.2)).getD q 0=k)):(o,k)∉S:=λe=>by
 obtain⟨q,h,e⟩:=iJ.1 e;have:=Sl S h;rw[e]at this;exact G q h ⟨rJ Prod.fst this,rJ Prod.snd this⟩
theorem left_at{w base v b}(h:Ct w base v b){k}(G:k<b.length):∃g cap,v=.slice (some ⟨g,0,none⟩) b.length cap/\b.length<=cap/\base<=g/\g<w.heap.size/\w.cell? ⟨g,k,none⟩=some (.int .i64 (b.getD k 0)):=by
 have W:=qP h (gD _);rcases h.2 with ⟨rfl,a2⟩ | ⟨g,cap,Y,rfl,J,U,I,Z,a0,a1⟩
 ·omega
 ·refine⟨g,cap,rfl,I,J,(lM.1 U).1,?_⟩;have O:=gU W k (by omega);rw[O,gN,lN G,lH,lN G];rfl
theorem zBg{w base v l}(h:Ct w base v l):∃ao cap,v=.slice ao l.length cap:=by
 rcases h.2 with ⟨rfl,G⟩ | ⟨g,cap,I,rfl,_⟩
 ·exact⟨none,0,by rw[G]⟩
 ·exact⟨_,_,rfl⟩
theorem Yl{w}{base}{v}{l}{x}(h:w.ownsRow base 3 1 v (l.length+1) (l.map (Value.int .i64)++[.int .i64 x])):Ct w base v (l++[x]):=by
 unfold Ct;rw[lQ,rW];simpa using h
theorem zBh{base mb G}{tv}{l}{t}{i j}{late}{j6 j2 a4}{S}{g0}{n}{w}(o)(k)(e4:o.2.length=20)
  (h:yL base mb G tv l t i j late j6 j2 a4 (S.map (·.1)) (S.map (·.2)) g0 n w) (g9:EI (S.map (·.1))) (o3:S.length<=30000000) (p0:n+S.length+1<=2 ^ 60):
  Calls prog 131 #[.pointer (some ⟨mb,0,none⟩),.pointer (some ⟨G,0,none⟩),.int .i64 k,.agg (qG o)] w λe w'=>e=.returned (.bool (decide ((o,k)∈S)))/\∃ZE ZF,yL base mb G tv l t i j late ZE ZF a4 ((JA S o k).map (·.1)) ((JA S o k).map (·.2)) g0 (n+S.length+1) w'/\vD mb G j6 j2 a4 ZE ZF a4 w w':=by
 obtain⟨b1,h6,i9,j0,j1⟩:=sK PN;obtain⟨c6,h7,i6,i7,i8⟩:=sK Yk;have J:Hid (prog.info? 66=some b1/\b1.zero=some (.agg (qG xI))/\b1.size=21/\b1.bytes=168):=⟨h6,i9,j0,j1⟩
 have c7:Hid (prog.info? 3=some c6/\c6.zero=some (.int .i64 0)/\c6.size=1/\c6.bytes=8):=⟨h7,i6,i7,i8⟩
 have c0:=hid e4;have k7:=hid (dA o e4);have l0:Hid (∀q,q<S.length->(S.map (·.1)).getD q xI=o->(S.map (·.2)).getD q 0=k->(o,k)∈S):=λq a2 m5 m6=>zBf a2 m5 m6
 have k4:Hid ((∀q,q<S.length->¬((S.map (·.1)).getD q xI=o/\(S.map (·.2)).getD q 0=k))->(o,k)∉S):=zDi;have k0:Hid ((o,k)∈S->JA S o k=S):=λe=>lG e
 have f2:Hid ((o,k)∉S->(JA S o k).map (·.1)=S.map (·.1)++[o]/\(JA S o k).map (·.2)=S.map (·.2)++[k]):=λe=>by
  unfold JA;rw[lC e];simp
 have b6:(S.map (·.1)).length=S.length:=uD _;have b7:(S.map (·.2)).length=S.length:=uD _;have d4:Below w.heap.size w (w.alloc (.cells (qG o) 66)):=(lK _ _).alloc (lF _) _;have a2:=h.below d4;have j4:(w.alloc (.cells (qG o) 66)).heap[w.heap.size]?=some (.cells (qG o) 66 (0,0)):=jP _ _;have s0:(w.alloc (.cells (qG o) 66)).heap.size=w.heap.size+1:=by simp
 have p2:=h.Iy;have o5:=h.bs;have o9:mb≠G:=by have:=h.m0;have:=h.u0;omega
 have o8:=h.me.lt;obtain⟨W,U,rfl⟩:=dU h.sn;obtain⟨a1,Y,rfl⟩:=zBg h.lf;have T0:Hid (vD mb G (.slice W (S.map (·.1)).length U) (.slice a1 (S.map (·.2)).length Y) a4 (.slice W (S.map (·.1)).length U) (.slice a1 (S.map (·.2)).length Y) a4 w (w.alloc (.cells (qG o) 66))):=vD.of_below d4;have f8:Hid (∀x,(Value.slice W (S.map (·.1)).length U).ownBlock=some x->w.heap.size≠x):=λx e=>by have:=(vO h.sn e).2;omega
 clear h e4 h6 i9 j0 j1 h7 i6 i7 i8 d4;generalize h0:S.map (·.1)=A at *;generalize h1:S.map (·.2)=B at *;have f3:=hid g9;rw[b6]at T0 f8;rw[b7]at T0;rw[b6,b7]at a2;have j8:=hid h0;have j9:=hid h1;clear h0 h1 g9;rw[b6,b7]
 go_in
 go_upto_region 1 with fail
 generalize (w.alloc (.cells (qG o) 66))=c1 at *;obtain⟨l2,l3,l4,g4,l5,l6,n0⟩:=a2.cells;have m1:=a2.me.cells.2.2.1;have d6:=a2.me.cells.2.2.2 2;have f0:=hid a2;have g2:=hid j4;clear a2 j4 n0 l2 l3 l4 l5 l6
 go_region
 have g7:((n:Int)+(S.length:Int)+1)=((n+S.length+1:Nat):Int):=by omega
 rw[g7];have e8:=f0.o.work (n+S.length+1);have T1:vD mb G (.slice W S.length U) (.slice a1 S.length Y) a4 (.slice W S.length U) (.slice a1 S.length Y) a4 w (c1.setCell ⟨mb,2,none⟩ (.int .i64 ((n+S.length+1:Nat):Int))).drew:=(T0.o.trans e8.2).below (lK _ _).drew;have j3:=e8.1.below (lK _ _).drew
 have j5:(c1.setCell ⟨mb,2,none⟩ (.int .i64 ((n+S.length+1:Nat):Int))).drew.heap[w.heap.size]?=some (.cells (qG o) 66 (0,0)):=by
  show(c1.setCell ⟨mb,2,none⟩ (.int .i64 ((n+S.length+1:Nat):Int))).heap[w.heap.size]?=_;rw[lS _ _ _ _ (by show w.heap.size≠mb;omega)];exact g2.o
 have s1:(c1.setCell ⟨mb,2,none⟩ (.int .i64 ((n+S.length+1:Nat):Int))).drew.heap.size=w.heap.size+1:=by simp[World.setCell,s0]
 generalize (c1.setCell ⟨mb,2,none⟩ (.int .i64 ((n+S.length+1:Nat):Int))).drew=O at *;clear e8 f0 g2 m1 d6 g4 T0 s0 g7;have f9:=hid T1;have a9:=hid j3;have f7:=hid j5;clear T1 j3 j5;generalize h3:n+S.length+1=N at *;go_wp2_with fail
 go_loopw [9] (λe7 wr=>∃q:Nat,q<=S.length/\e7=.int .i64 q/\Below O.heap.size O wr/\(∀p,p<q->¬(A.getD p xI=o/\B.getD p 0=k))) (λe7 _=>S.length-(intOf e7).toNat)
 case atStart=>exact⟨0,gD _,rfl,lK _ _,λp b5=>by omega⟩
 case round =>
  obtain⟨q,p1,rfl,d0,h9⟩:=hrel;have b8:=hid d0;have f6:=hid h9;have n8:=d0.size;have u3:wr.cell? ⟨G,3,none⟩=some (.slice W S.length U):=(d0.cell (p:=⟨G,3,none⟩) (by show G<_;omega)).trans a9.o.cells.2.2.2.1;clear h9 d0;by_cases n3:q<S.length
  ·obtain⟨g,l7,e,m8,o6,n1,i2⟩:=DK a9.o.sn f3.o (k:=q) (by omega);obtain⟨rfl,rfl⟩:W=some ⟨g,0,none⟩/\U=l7:=by injection e with b3 d6 d7;exact⟨b3,d7⟩
   obtain⟨d8,l8,g6,m9,o7,n2,h5⟩:=left_at a9.o.lf (k:=q) (by omega);obtain⟨rfl,rfl⟩:a1=some ⟨d8,0,none⟩/\Y=l8:=by injection g6 with b3 d6 d7;exact⟨b3,d7⟩
   rw[b6]at m8;rw[b7]at m9;have i5:(A.getD q xI).2.length=20:=f3.o _ (dB (by omega));have k9:=hid (l0.o q n3)
   have f4:Hid (¬(A.getD q xI=o/\B.getD q 0=k)->∀p,p<q+1->¬(A.getD p xI=o/\B.getD p 0=k)):=λe p b5=>by
    by_cases m2:p=q
    ·rw[m2];exact e
    ·exact f6.o p (by omega)
   have d3:=λz=>Sg (A.getD q xI) o i5 c0.o z
   generalize A.getD q xI=x at *;generalize B.getD q 0=y at *;have a5:∀z:World,(∀p,p<O.heap.size->z.heap[p]?=O.heap[p]?)->z.rangeAt g (q*21) (jw x):=λz hz j u o0=>(gH (a:=⟨g,q*21+j,none⟩) (hz g n1)).trans (i2 j u o0)
   have a6:∀z:World,(∀p,p<O.heap.size->z.heap[p]?=O.heap[p]?)->z.rangeAt w.heap.size 0 (jw o):=λz hz=>yE (A:=qG o) ((hz w.heap.size (by omega)).trans f7.o)
   have a7:∀z:World,(∀p,p<O.heap.size->z.heap[p]?=O.heap[p]?)->z.cell? ⟨G,3,none⟩=some (.slice (some ⟨g,0,none⟩) S.length U):=λz hz=>(gH (a:=⟨G,3,none⟩) (hz G (by omega))).trans a9.o.cells.2.2.2.1
   have p4:(0:Int)<=(q:Int):=by omega
   have p5:(q:Int)<(S.length:Int):=by omega
   have o1:=xK x i5;have n6:=xK o c0.o;obtain⟨g3,e3⟩:∃b:Bool,b=decide (x=o):=⟨_,rfl⟩
   rw[<-e3]at d3;have l1:=hid d3;have f1:=hid e3;have k1:=hid h5;have k2:=hid n2;clear d3 e3 e g6 h5;go_wp2_with fail
   refine wp_region_held_drew (S:=λz:World=>∀p,p<O.heap.size->z.heap[p]?=O.heap[p]?) (by kernel_rfl) (λp b5=>b8.o.block p b5) (λa3=>?_);refine qJ 0 34 (.pointer (some ⟨G,0,none⟩)) rfl (by kernel_rfl) (λ_ _ _ h=>h) (λz hz=>by clear hz a3 a5 a6 a7;go_simp) (by assumption) ?_;simp only[Act.put,lD,lJ,lI];refine qJ 1 35 (.pointer (some ⟨G,0,none⟩)) rfl (by kernel_rfl) (λ_ _ _ h=>h) (λz hz=>by clear hz a3 a5 a6 a7;go_simp) (by assumption) ?_;simp only[Act.put,lD,lJ,lI];refine qJ 2 36 (.pointer (some ⟨G,3,none⟩)) rfl (by kernel_rfl) (λ_ _ _ h=>h) (λz hz=>by clear hz a3 a5 a6 a7;go_simp) (by assumption) ?_;simp only[Act.put,lD,lJ,lI];refine qJ 3 37 (.slice (some ⟨g,0,none⟩) S.length U) rfl (by kernel_rfl) (λ_ _ _ h=>h) (λz hz=>by have g4:=a7 z hz;clear hz a3 a5 a6 a7;go_simp) (by assumption) ?_;simp only[Act.put,lD,lJ,lI];refine qJ 4 38 (.int .i64 q) rfl (by kernel_rfl) (λ_ _ _ h=>h) (λz hz=>by clear hz a3 a5 a6 a7;go_simp) (by assumption) ?_;simp only[Act.put,lD,lJ,lI];refine qJ 5 39 (.pointer (some ⟨g,q*21,none⟩)) rfl (by kernel_rfl) (λ_ _ _ h=>h) (λz hz=>by clear hz a3 a5 a6 a7;go_simp) (by assumption) ?_;simp only[Act.put,lD,lJ,lI];refine MN 6 40 (.agg (qG x)) rfl (by kernel_rfl) (λ_ _ _ h=>h) (yieldsIf_load_mid (by rfl) _ _ rfl _ _ rfl _ _ a5 underlying66 rfl (by rw[xL];exact rJ some o1.symm)) (by assumption) ?_;simp only[Act.put,lD,lJ,lI];refine MN 7 41 (.agg (qG o)) rfl (by kernel_rfl) (λ_ _ _ h=>h) (yieldsIf_load_mid (by rfl) _ _ rfl _ _ rfl _ _ a6 underlying66 rfl (by rw[xL];exact rJ some n6.symm)) (by assumption) ?_;simp only[Act.put,lD,lJ,lI];refine wpAnyH_ready (rs:=[8]) (by kernel_rfl) (by simp) ?_;refine AllReadyH.cons rfl (λK I=>?_) AllReadyH.nil;clear a5 a6 i2 a7;have k3:=hid a3;clear a3
   go_simp
   refine(l1.o wr.drew).mono ?_;rintro e e9 ⟨rfl,e2⟩;have h4:∀p,p<O.heap.size->e9.heap[p]?=O.heap[p]?:=λp b5=>(e2.block p (by show p<wr.heap.size;omega)).trans (k3.o p b5)
   have a8:Hid (Below O.heap.size O e9):=b8.o.trans (((lK _ _).drew).trans (e2.mono n8));clear e2
   go_simp
   refine I.out _ _ h4 (λh2=>?_);clear I K h4;refine qJ 9 10 (.bool g3) rfl (by kernel_rfl) (λ_ _ _ h=>h) (λz hz=>by clear hz h2;go_simp) (by assumption) ?_;simp only[Act.put,lD,lJ,lI];refine rP (by kernel_rfl) ?_ _;clear h2 u3;have s9:=a8.o.size;have u4:e9.cell? ⟨G,4,none⟩=some (.slice (some ⟨d8,0,none⟩) S.length Y):=(a8.o.cell (p:=⟨G,4,none⟩) (by show G<_;omega)).trans a9.o.cells.2.2.2.2.1;have u5:=(a8.o.cell (p:=⟨d8,q,none⟩) k2.o).trans k1.o;cases g3
   ·have d2:Hid (∀p,p<q+1->¬(A.getD p xI=o/\B.getD p 0=k)):=f4.o (λe=>by have:=f1.o;simp[e.1]at this);clear u4 u5;go_wp2_with fail
    go_roundw
    case rel=>exact⟨q+1,by omega,by go_num,a8.o,d2.o⟩
    case measure=>simp[intOf];omega
   ·have e5:x=o:=by have:=f1.o;simpa using this.symm
    cases e6:(y==k)
    ·have d2:Hid (∀p,p<q+1->¬(A.getD p xI=o/\B.getD p 0=k)):=f4.o (λe=>by simp at e6;exact e6 e.2);clear e5;go_wp2_with fail
     go_roundw
     case rel=>exact⟨q+1,by omega,by go_num,a8.o,d2.o⟩
     case measure=>simp[intOf];omega
    ·have b2:=hid (k9.o e5 (by simpa using e6));clear e5;go_wp2_with fail
     go_ret;refine⟨by rw[decide_eq_true b2.o];rfl,_,_,?_,f9.o.below a8.o⟩;rw[k0.o b2.o,j8.o,j9.o];rw[h3];exact a9.o.below a8.o
  ·have b2:=hid (k4.o (λp b5=>f6.o p (by omega)));have i1:wr.heap[w.heap.size]?=some (.cells (qG o) 66 (0,0)):=(b8.o.block _ (by omega)).trans f7.o;have b9:=hid (a9.o.below b8.o);have k8:=hid (f9.o.below b8.o);have m3:=b9.o.cells.2.2.2.2.2.2 3;have i0:w.heap.size<wr.heap.size:=by omega
   have i4:G<wr.heap.size:=by omega
   have h8:=f8.o;generalize w.heap.size=m at *;have c8:=hid i1;have p3:m≠G:=by omega
   have k6:Hid (wr.ownsRow base 66 21 (.slice W S.length U) S.length (A.flatMap jw)):=by
    have:=b9.o.sn;unfold xX at this;rw[b6]at this;exact this
   have n4:=hid h8;clear i1 h8;go_wp2_with fail
   have b0:∀z:World,z.heap[m]?=some (.cells (qG o) 66 (0,0))->z.rangeAt m 0 (qG o).toList:=λz hz=>yE hz
   refine wp_region_held_drew (S:=λz:World=>z.heap[m]?=some (.cells (qG o) 66 (0,0))) (by kernel_rfl) c8.o (λb4=>?_);refine qJ 0 55 (.pointer (some ⟨G,0,none⟩)) rfl (by kernel_rfl) (λ_ _ _ h=>h) (λz hz=>by clear b4 hz b0;go_simp) (by assumption) ?_;simp only[Act.put,lD,lJ,lI];refine qJ 1 56 (.pointer (some ⟨G,0,none⟩)) rfl (by kernel_rfl) (λ_ _ _ h=>h) (λz hz=>by clear b4 hz b0;go_simp) (by assumption) ?_;simp only[Act.put,lD,lJ,lI];refine qJ 2 57 (.pointer (some ⟨G,0,none⟩)) rfl (by kernel_rfl) (λ_ _ _ h=>h) (λz hz=>by clear b4 hz b0;go_simp) (by assumption) ?_;simp only[Act.put,lD,lJ,lI];refine qJ 3 58 (.pointer (some ⟨G,3,none⟩)) rfl (by kernel_rfl) (λ_ _ _ h=>h) (λz hz=>by clear b4 hz b0;go_simp) (by assumption) ?_;simp only[Act.put,lD,lJ,lI];refine MN 5 60 (.agg (qG o)) rfl (by kernel_rfl) (λ_ _ _ h=>h) (yieldsIf_load_mid (by rfl) _ _ rfl _ _ rfl _ _ b0 underlying66 rfl (by rw[xL];exact rJ some k7.o.symm)) (by assumption) ?_;simp only[Act.put,lD,lJ,lI]
   have S1:(wr.drew.alloc (.cells (qG o) 66)).heap[m]?=some (.cells (qG o) 66 (0,0)):=
    (kQ _ _ _ (by simpa using i0)).trans c8.o
   have n5:(wr.drew.alloc (.cells (qG o) 66)).heap[wr.heap.size]?=some (.cells (qG o) 66 (0,0)):=gF _ _;have n9:wr.drew.heap.size=wr.heap.size:=rfl;refine wpAnyH_ready (rs:=[4,6]) (by kernel_rfl) (by simp) ?_;refine AllReadyH.cons rfl (λK I=>?_) (AllReadyH.cons rfl (λK I=>?_) AllReadyH.nil)
   all_goals
    first
    | (
      refine mK rfl 62 66 (.tmp 60) rfl (qG o) b1 _ (.agg (qG o)) underlying62 J.o.1 J.o.2.1 (by rw[J.o.2.2.1];decide) (by rw[J.o.2.2.1];decide) (by rfl) (PO o c0.o J.o.2.2.1) ?_;refine I.out _ _ S1 (λm7=>?_);clear I K;simp only[Act.put,lD,lJ,lI];refine wpAnyH_ready (rs:=[4]) (by kernel_rfl) (by simp) ?_;refine AllReadyH.cons rfl (λK I=>?_) AllReadyH.nil;try clear b4
      try clear b0
      go_simp
      refine I.out _ _ S1 (λe1=>?_);clear I K
      )
    | (
      try clear b4
      try clear b0
      go_simp
      refine I.out _ _ c8.o (λe1=>?_);clear I K;refine wpAnyH_ready (rs:=[6]) (by kernel_rfl) (by simp) ?_;refine AllReadyH.cons rfl (λK I=>?_) AllReadyH.nil;refine mK rfl 62 66 (.tmp 60) rfl (qG o) b1 _ (.agg (qG o)) underlying62 J.o.1 J.o.2.1 (by rw[J.o.2.2.1];decide) (by rw[J.o.2.2.1];decide) (by rfl) (PO o c0.o J.o.2.2.1) ?_;refine I.out _ _ S1 (λm7=>?_);clear I K;simp only[Act.put,lD,lJ,lI,n9]
      )
   all_goals
    refine wpAnyH_ready (rs:=[7]) (by kernel_rfl) (by simp) ?_;refine AllReadyH.cons rfl (λK I=>?_) AllReadyH.nil;refine step_append_lies _ rfl (.tmp 59) (.tmp 61) 62 rfl base 66 b1 _ 21 168 underlying62 J.o.1 J.o.2.1 J.o.2.2.1 J.o.2.2.2 (dA xI rfl) (by decide) (.slice W S.length U) S.length (A.flatMap jw) (by rfl) (oM (w:=wr.drew) (vW k6.o (lK _ _).drew) _) ⟨wr.heap.size,0,none⟩ 1 1 (jw o) (by rfl) (by rw[xK o c0.o]) (World.news_of_block (cs:=qG o) n5) (Gv o) (by decide) (by unfold maxLen;omega) (by omega) (by simp;omega) (wr.heap.size+1) (by simp) ?_;intro d9 d5 w1 c4 c3 c5 n7;have Z:jF (λx=>(Value.slice W S.length U).ownBlock=some x) wr w1:=(jF.alloc (jF.drew (jF.refl (λx=>(Value.slice W S.length U).ownBlock=some x) wr)) _).grown c3 (λx e=>.inl e)
    have d1:w1.heap[m]?=some (.cells (qG o) 66 (0,0)):=by
     rw[Z.block m i0 (λe=>n4.o m e rfl)];exact c8.o
    have PS:=b9.o.seen (V:=.slice (some ⟨d9,0,none⟩) (S.length+1) d5) (A':=A++[o]) Z (Sd (by rw[b6];exact c4)) (λx e=>by
     simp only[Value.ownBlock,oP]at e;subst e;rcases c5 with e | e
     ·exact .inl e
     ·right;omega)
    have g5:=(gH (a:=⟨G,3,none⟩) (Z.block G i4 (λe=>(b9.o.ds G e).1 rfl))).trans u3;have b3:=(rC (a:=⟨G,3,none⟩) (Z.block G i4 (λe=>(b9.o.ds G e).1 rfl))).trans m3;refine I.out _ _ d1 (λe0=>?_);clear I K;have a0:=hid PS
    have c9:(w1.setCell ⟨G,3,none⟩ (.slice (some ⟨d9,0,none⟩) (S.length+1) d5)).heap[m]?=some (.cells (qG o) 66 (0,0)):=
     (lS _ _ _ _ (by show m≠G;omega)).trans d1
    clear PS Z c3 c4 c5 S1 d1;simp only[Act.put,lD,lJ,lI];refine qJ 8 63 (.pointer (some ⟨G,0,none⟩)) rfl (by kernel_rfl) (λ_ _ _ h=>h) (λz hz=>by clear e0 hz c9;go_simp) (by assumption) ?_;simp only[Act.put,lD,lJ,lI];refine qJ 9 64 (.pointer (some ⟨G,3,none⟩)) rfl (by kernel_rfl) (λ_ _ _ h=>h) (λz hz=>by clear e0 hz c9;go_simp) (by assumption) ?_;simp only[Act.put,lD,lJ,lI];refine wpAnyH_ready (rs:=[10]) (by kernel_rfl) (by simp) ?_;refine AllReadyH.cons rfl (λK I=>?_) AllReadyH.nil
    go_simp
    refine I.out _ _ c9 (λe1=>?_);clear I K;refine rP (by kernel_rfl) ?_ _;generalize (w1.setCell ⟨G,3,none⟩ (.slice (some ⟨d9,0,none⟩) (S.length+1) d5))=c2 at *;clear g5 b3 e0 e1 c9;have j7:=a0.o.1.cells.2.2.2.2.1;have g8:=a0.o.1.cells.2.2.2.2.2.2 4
    have k5:Hid (c2.ownsRow base 3 1 (.slice a1 S.length Y) S.length (B.map (Value.int .i64))):=by
     have:=a0.o.1.lf;unfold Ct at this;rw[b7]at this;exact this
    have o4:=a0.o.1.bs;go_wp2_with (first|(at_builtin;refine wpList_append_lies _ rfl (.tmp 69) (.tmp 71) 41 rfl base 3 c6 _ 1 8 underlying41 c7.o.1 c7.o.2.1 c7.o.2.2.1 c7.o.2.2.2 (by rfl) (by decide) (.slice a1 S.length Y) S.length (B.map (Value.int .i64)) (by rfl) (oM k5.o _) ⟨c2.heap.size,0,none⟩ 1 1 [.int .i64 k] (by rfl) (by rfl) (fJ _ [.int .i64 k] _) (by simp[Value.oneCell']) (by decide) (by unfold maxLen;omega) (by omega) (by simp;omega) (c2.heap.size+1) (by simp) ?_) | fail)
    intro m4 l9 o2 c4 c3 c5 n7;have Z:jF (λx=>(Value.slice a1 S.length Y).ownBlock=some x) c2 o2:=(jF.alloc (jF.refl (λx=>(Value.slice a1 S.length Y).ownBlock=some x) c2) _).grown c3 (λx e=>.inl e)
    have g1:=a0.o.1.left (V:=.slice (some ⟨m4,0,none⟩) (S.length+1) l9) (B':=B++[k]) Z (Yl (by rw[b7];exact c4)) (λx e=>by
     simp only[Value.ownBlock,oP]at e;subst e;rcases c5 with e | e
     ·exact .inl e
     ·right;omega)
    have i3:=a0.o.1.Iy;have g5:=(gH (a:=⟨G,4,none⟩) (Z.block G i3 (λe=>(a0.o.1.dl G e).1 rfl))).trans j7;have b3:=(rC (a:=⟨G,4,none⟩) (Z.block G i3 (λe=>(a0.o.1.dl G e).1 rfl))).trans g8;have f5:=hid g1;clear g1 Z c4 c3 c5 j7 g8;go_wp2_with fail
    go_ret;refine⟨by rw[eZ b2.o];rfl,_,_,?_,(k8.o.trans a0.o.2).trans f5.o.2⟩;rw[(f2.o b2.o).1,(f2.o b2.o).2,h3];exact f5.o.1
def zBn(l:List zU)(t:BA)(mb:Nat)(tv:Value)(i j:Int)(F:Oc->Nat->OW):Prop:=∀(x:World) (o:Oc) (n:Nat),jU x mb tv l t n->kV t o->(F o n).2<=2 ^ 60->
 CT 113 #[.pointer (some ⟨mb,0,none⟩),.int .i64 i,.int .i64 j,.agg (qG o)] x λe w'=>∃v',e=.returned v'/\fT x mb tv l t (F o n) v' w'
def TL(l:List zU)(t:BA)(mb:Nat)(tv:Value)(i j:Int)(F:Oc->Nat->OW)(late:Bool)(N:Nat):Prop:=∀(base ub:Nat) (sv lv ov:Value) (s:Tr) (k:Int) (o:Oc) (w:World),
 yL base mb ub tv l t i j late sv lv ov (s.1.map (·.1)) (s.1.map (·.2)) s.2.1 s.2.2 w->FL t s->kV t o->-1<=k->k<=100->JW t k o<N->WM (jL F late N k o s)->
 CT 114 #[.pointer (some ⟨mb,0,none⟩),.pointer (some ⟨ub,0,none⟩),.int .i64 k,.agg (qG o)] w λe w'=>e=.returned (.tuple #[])/\∃ZE ZF ov',yL base mb ub tv l t i j late ZE ZF ov' ((jL F late N k o s).1.map (·.1)) ((jL F late N k o s).1.map (·.2)) (jL F late N k o s).2.1 (jL F late N k o s).2.2 w'/\vD mb ub sv lv ov ZE ZF ov' w w'
theorem zDm{S o k}(h:(o,k)∈S):JA S o k=S:=lG h
theorem zBo{S o k}(h:(o,k)∉S):JA S o k=S++[(o,k)]:=lC h
section
variable {l:List zU} {t:BA} {mb:Nat} {tv:Value} {i j:Int} {F:Oc->Nat->OW}
theorem Yo(g1:∀o w,w<=(F o w).2)(p2:∀o w,kV t o->iq t o (F o w).1)(t7:∀o w,(F o w).1.length<=500000)(t3:zBn l t mb tv i j F)(late)(N)(p8:TL l t mb tv i j F late N):TL l t mb tv i j F late (N+1):=by
 intro base h b8 b7 a6 s k o w G l4 c6 w3 w4 p1 f9;have t5:=Vb g1 late N k o s;have p6:=WM.up (dL g1 late (N+1) k o s) f9;have j8:Below w.heap.size w (w.alloc (.cells (qG o) 66)):=(lK _ _).alloc (lF _) _;have o4:=G.below j8;have l8:(w.alloc (.cells (qG o) 66)).heap[w.heap.size]?=some (.cells (qG o) 66 (0,0)):=jP _ _;have s0:(w.alloc (.cells (qG o) 66)).heap.size=w.heap.size+1:=by simp
 have h2:Hid ((qG o).size=21):=dA o c6.len;have h3:Hid (∀{O J U:Value} {b6:World},vD mb h b8 b7 a6 O J U (w.alloc (.cells (qG o) 66)) b6->vD mb h b8 b7 a6 O J U w b6):=λe4=>(vD.of_below j8).trans e4
 have h0:Hid (∀{O J U:Value} {b6:World},vD mb h b8 b7 a6 O J U (w.alloc (.cells (qG o) 66)) b6->b6.heap[w.heap.size]?=some (.cells (qG o) 66 (0,0))/\¬MX h O J U w.heap.size/\w.heap.size<b6.heap.size):=λ{O J U b6} e4=>by
  have c8:¬MX h b8 b7 a6 w.heap.size:=λe=>by have:=(G.ge e).2;omega
  refine⟨(e4.kp.block _ (by omega) (λe=>?_)).trans l8,λe=>?_,by have:=e4.kp.size;omega⟩
  ·rcases e with e | e
   ·have:=G.me.lt;omega
   ·exact c8 e
  ·rcases e4.nw _ e with e | e
   ·exact c8 e
   ·omega
 have h5:=zBh o k c6.len o4 (EI.of l4.1) (by have:=p6.1;omega) (by have:=f9.2.2;omega);have t8:mb<w.heap.size:=G.me.lt;have n3:Hid ((w.alloc (.cells (qG o) 66)).heap[w.heap.size]?=some (.cells (qG o) 66 (0,0))):=l8;have q9:Hid (vD mb h b8 b7 a6 b8 b7 a6 (w.alloc (.cells (qG o) 66)) (w.alloc (.cells (qG o) 66))):=vD.refl _ _ _ _ _ _;clear o4 l8 p6;have d8:Hid (kV t o):=c6;have q3:Hid (mb<w.heap.size):=t8;have i2:Hid (∀(o:Oc) w,kV t o->qM (kV t) (F o w).1):=λo w G x d5=>(p2 o w G x d5).1
 have n0:Hid (JW t k o<N+1):=p1;have j3:Hid (FL t s):=l4;obtain⟨n8,k8⟩:∃R,R=jL F late (N+1) k o s:=⟨_,rfl⟩
 rw[<-k8]at f9 |-;have m6:Hid (WM n8):=f9;have i9:Hid (n8=jL F late (N+1) k o s):=k8;obtain⟨o0,l1⟩:∃b:Bool,b=decide ((o,k)∈s.1):=⟨_,rfl⟩
 rw[<-l1]at h5;have m8:Hid (o0=decide ((o,k)∈s.1)):=l1;obtain⟨a0,l3⟩:∃n,s.2.2+s.1.length+1=n:=⟨_,rfl⟩
 rw[l3]at h5;have f2:Hid (s.2.2+s.1.length+1=a0):=l3;have n7:=hid h5;clear h5 j8 G f9 k8 l1 l3 p1 l4 c6 t5;go_enter func114,ntmps114
 go_upto_region 1 with fail
 generalize (w.alloc (.cells (qG o) 66))=f0 at *;go_wp2_with (first|(refine bK (by rfl) (.tmp 7) (by rfl) w.heap.size (by rfl) (by exact n3.o) (by exact h2.o) ?_) | fail)
 refine n7.o.mono ?_;rintro e w1 ⟨rfl,a4,a3,l7,q1⟩;have i4:=hid l7;have e9:=hid q1;have j6:=Gw l7.me;obtain⟨o1,l2⟩:∃b:Bool,b=decide ((a0:Int)>300000):=⟨_,rfl⟩
 rw[<-l2]at j6;have m9:Hid (o1=decide ((a0:Int)>300000)):=l2;have r4:=hid j6;clear j6 l7 q1 l2 n7;go_wp2_with fail
 refine r4.o.mono ?_;rintro e c4 ⟨rfl,rfl⟩;cases o0
 case true =>
  have d3:(o,k)∈s.1:=wC m8.o.symm;have e0:=i9.o;rw[Sn d3,f2.o]at e0;have c0:=i4.o;rw[zDm d3]at c0;have a1:=hid c0;have j4:=hid e0;clear d3 e0 c0;go_wp2_with fail
  go_returns;exact⟨rfl,a4,a3,a6,by rw[j4.o];exact a1.o,h3.o e9.o⟩
 have d3:(o,k)∉s.1:=iD m8.o.symm;have c0:=i4.o;rw[zBo d3]at c0;cases o1
 case true =>
  have e0:=i9.o;rw[Sq d3 (by have G:=wC m9.o.symm;have:=f2.o;omega),f2.o]at e0;have a1:=hid c0;have j4:=hid e0;clear d3 e0 c0;go_wp2_with fail
  go_returns;exact⟨rfl,a4,a3,a6,by rw[j4.o];exact a1.o,h3.o e9.o⟩
 have h8:=i9.o;rw[Sr d3 (by have G:=iD m9.o.symm;have:=f2.o;omega),f2.o]at h8;have a1:Hid (yL base mb h tv l t i j late a4 a3 a6 ((s.1++[(o,k)]).map (·.1)) ((s.1++[(o,k)]).map (·.2)) s.2.1 a0 w1):=c0;have m7:Hid (qM (kV t) ((s.1++[(o,k)]).map (·.1))):=EB j3.o.1 d8.o;have o7:=ql (P:=kV t) late a0 d8.o j3.o.2;have r9:=mY late o s.2.1 a0;have k5:late=true->tailA late o s.2.1 a0=yQ s.2.1 o a0:=λG=>by rw[G];rfl
 have o6:late=false->tailA late o s.2.1 a0=(s.2.1,a0):=λG=>by rw[G];rfl
 generalize tailA late o s.2.1 a0=A at *;generalize d2:dZ F (jL F late N) k o ((s.1++[(o,k)]),A)=I at *;have l0:=m6.o;rw[h8]at l0;have g6:=zBk g1 d2 l0;have i8:Hid (WM I):=g6.1
 have m1:Hid (late=true->s.2.1.length<=1000000/\a0+s.2.1.length+1<=2 ^ 60):=λG=>by
  have e:=k5 G;have d1:=jh s.2.1 o a0;have:=g6.2.2.1;have:=g6.2.2.2;rw[<-e]at d1;dsimp only at *;constructor <;> omega
 have m5:=hid k5;have m2:=hid o6;have m3:=hid o7;have i3:=hid h8;have v4:=hid g6.2;have m4:Hid (qM (kV t) s.2.1):=j3.o.2;have j0:=hid d2;clear d3 c0 h8 o7 r9 k5 o6 d2 l0 g6 i4;have d9:=hid (h0.o e9.o);have q0:w1.cell? ⟨h,2,none⟩=some (.bool late):=a1.o.cells.2.2.1
 go_upto_if 26 with fail
 go_cut [] (λg8=>∃U,yL base mb h tv l t i j late a4 a3 U ((s.1++[(o,k)]).map (·.1)) ((s.1++[(o,k)]).map (·.2)) A.1 A.2 g8/\vD mb h b8 b7 a6 a4 a3 U f0 g8)
 case first =>
  clear q0;cases late
  ·have k3:=m2.o rfl;subst k3;go_wp2_with fail
   go_meet
   exact⟨a6,a1.o,e9.o⟩
  ·have k3:=m5.o rfl;have l9:=m1.o rfl;obtain⟨a8,fZ,rfl⟩:=dU a1.o.ot;subst k3;go_wp2_with fail
   have f6:=Cn o d8.o.len (a1.o.below (lK _ _).drew).me (a1.o.below (lK _ _).drew).ot (a1.o.below (lK _ _).drew).bs (EI.of m4.o) (λx d5=>a1.o.hap (v:=dF) (vO a1.o.ot d5).1) l9.1 l9.2;have j5:Hid (CT 54 #[.pointer (some ⟨mb,0,none⟩),.slice a8 s.2.1.length fZ,.agg (qG o)] w1.drew λe w'=>∃v',e=.returned v'/\dz w1.drew mb tv l t base (.slice a8 s.2.1.length fZ) (yQ s.2.1 o a0) v' w'):=f6;have i1:Hid (yL base mb h tv l t i j true a4 a3 (.slice a8 s.2.1.length fZ) ((s.1++[(o,k)]).map (·.1)) ((s.1++[(o,k)]).map (·.2)) s.2.1 a0 w1.drew):=a1.o.below (lK _ _).drew;have g4:w1.cell? ⟨h,5,none⟩=some (.slice a8 s.2.1.length fZ):=a1.o.cells.2.2.2.2.2.1;have f8:w1.frozen? ⟨h,5,none⟩=false:=a1.o.cells.2.2.2.2.2.2 5;have l5:=a1.o.Iy;clear f6;have a9:∀z:World,z.heap[w.heap.size]?=some (.cells (qG o) 66 (0,0))->z.rangeAt w.heap.size 0 (qG o).toList:=λz hz=>yE hz
   refine wp_region_held_drew (S:=λz:World=>z.heap[w.heap.size]?=some (.cells (qG o) 66 (0,0))) (by kernel_rfl) d9.o.1 (λZ=>?_);refine qJ 0 27 (.pointer (some ⟨h,0,none⟩)) rfl (by kernel_rfl) (λ_ _ _ G=>G) (λz hz=>by clear hz Z a9;go_simp) (by assumption) ?_;simp only[Act.put,lD,lJ,lI];refine qJ 1 28 (.pointer (some ⟨mb,0,none⟩)) rfl (by kernel_rfl) (λ_ _ _ G=>G) (λz hz=>by clear hz Z a9;go_simp) (by assumption) ?_;simp only[Act.put,lD,lJ,lI];refine qJ 2 29 (.pointer (some ⟨h,0,none⟩)) rfl (by kernel_rfl) (λ_ _ _ G=>G) (λz hz=>by clear hz Z a9;go_simp) (by assumption) ?_;simp only[Act.put,lD,lJ,lI];refine qJ 3 30 (.pointer (some ⟨h,0,none⟩)) rfl (by kernel_rfl) (λ_ _ _ G=>G) (λz hz=>by clear hz Z a9;go_simp) (by assumption) ?_;simp only[Act.put,lD,lJ,lI];refine qJ 4 31 (.pointer (some ⟨h,5,none⟩)) rfl (by kernel_rfl) (λ_ _ _ G=>G) (λz hz=>by clear hz Z a9;go_simp) (by assumption) ?_;simp only[Act.put,lD,lJ,lI];refine MN 6 33 (.agg (qG o)) rfl (by kernel_rfl) (λ_ _ _ G=>G) (yieldsIf_load_mid (by rfl) _ _ rfl _ _ rfl _ _ a9 underlying66 rfl (by rw[xL];exact rJ some h2.o.symm)) (by assumption) ?_;simp only[Act.put,lD,lJ,lI];refine wpAnyH_ready (rs:=[5]) (by kernel_rfl) (by simp) ?_;refine AllReadyH.cons rfl (λK a2=>?_) AllReadyH.nil;clear a9 Z
   go_simp
   refine a2.out _ _ d9.o.1 (λk6=>?_);clear a2 K;refine wpAnyH_ready (rs:=[7]) (by kernel_rfl) (by simp) ?_;refine AllReadyH.cons rfl (λK a2=>?_) AllReadyH.nil;clear k6
   go_simp
   refine j5.o.mono ?_;rintro e Y ⟨v2,rfl,d6⟩;obtain⟨b1,b2,rfl⟩:=dU d6.1;have e3:∀x,x<w1.heap.size->x≠mb->(Value.slice a8 s.2.1.length fZ).ownBlock≠some x->Y.heap[x]?=w1.heap[x]?:=λx k0 k1 k2=>d6.2.2.1.block x k0 (λe=>e.elim k1 k2)
   have b9:Y.heap[w.heap.size]?=some (.cells (qG o) 66 (0,0)):=(e3 _ d9.o.2.2 (by omega) (λe=>d9.o.2.1 (.inr (.inr (.inr e))))).trans d9.o.1;have e1:Y.heap[h]?=w1.heap[h]?:=e3 _ l5 (by have:=a1.o.m0;have:=a1.o.u0;omega) (λe=>a1.o.do' h e rfl);have j9:Y.cell? ⟨h,5,none⟩=some (.slice a8 s.2.1.length fZ):=(gH (a:=⟨h,5,none⟩) e1).trans g4;have d1:Y.frozen? ⟨h,5,none⟩=false:=(rC (a:=⟨h,5,none⟩) e1).trans f8;have PA:=i1.o.add d6
   have d0:(Y.setCell ⟨h,5,none⟩ (.slice b1 (yQ s.2.1 o a0).1.length b2)).heap[w.heap.size]?=some (.cells (qG o) 66 (0,0)):=
    (lS _ _ _ _ (by show w.heap.size≠h;exact λe=>d9.o.2.1 (.inl e))).trans b9
   have f4:Hid (yL base mb h tv l t i j true a4 a3 (.slice b1 (yQ s.2.1 o a0).1.length b2) ((s.1++[(o,k)]).map (·.1)) ((s.1++[(o,k)]).map (·.2)) (yQ s.2.1 o a0).1 (yQ s.2.1 o a0).2 (Y.setCell ⟨h,5,none⟩ (.slice b1 (yQ s.2.1 o a0).1.length b2))/\vD mb h a4 a3 (.slice a8 s.2.1.length fZ) a4 a3 (.slice b1 (yQ s.2.1 o a0).1.length b2) w1.drew (Y.setCell ⟨h,5,none⟩ (.slice b1 (yQ s.2.1 o a0).1.length b2))):=PA;clear PA d6 e3 e1 g4 f8
   go_simp
   refine a2.out _ _ b9 (λe2=>?_);clear a2 K;refine qJ 8 35 (.pointer (some ⟨h,0,none⟩)) rfl (by kernel_rfl) (λ_ _ _ G=>G) (λz hz=>by clear hz e2 d0 b9;go_simp) (by assumption) ?_;simp only[Act.put,lD,lJ,lI];refine qJ 9 36 (.pointer (some ⟨h,5,none⟩)) rfl (by kernel_rfl) (λ_ _ _ G=>G) (λz hz=>by clear hz e2 d0 b9;go_simp) (by assumption) ?_;simp only[Act.put,lD,lJ,lI];refine wpAnyH_ready (rs:=[10]) (by kernel_rfl) (by simp) ?_;refine AllReadyH.cons rfl (λK a2=>?_) AllReadyH.nil;clear b9
   go_simp
   refine a2.out _ _ d0 (λk7=>?_);clear a2 K;refine rP (by kernel_rfl) ?_ _;clear j9 d1 e2 k7 d0;generalize (Y.setCell ⟨h,5,none⟩ (.slice b1 (yQ s.2.1 o a0).1.length b2))=a7 at *;go_wp2_with fail
   go_meet
   exact⟨_,f4.o.1,(e9.o.below (lK _ _).drew).trans f4.o.2⟩
 case rest =>
 obtain⟨c9,o5,p0⟩:=hcut;obtain⟨a7,rfl⟩:∃W:World,W=wc:=⟨_,rfl⟩
 have c5:Hid (yL base mb h tv l t i j late a4 a3 c9 ((s.1++[(o,k)]).map (·.1)) ((s.1++[(o,k)]).map (·.2)) A.1 A.2 a7):=o5;have h4:Hid (vD mb h b8 b7 a6 a4 a3 c9 f0 a7):=p0;clear o5 p0 q0 d9 a1 e9 m1 m5 m2 m4 n3 q9
 go_upto_if 38 with fail
 go_cut [] (λg8=>∃O J U,yL base mb h tv l t i j late O J U (I.1.map (·.1)) (I.1.map (·.2)) I.2.1 I.2.2 g8/\vD mb h b8 b7 a6 O J U f0 g8)
 case first =>
  by_cases hz:k=0
  ·have p9:((k:Int) != 0)=false:=by simp[hz]
   have e:=j0.o;rw[zDk hz]at e;subst e;clear hz;go_wp2_with fail
   go_meet
   exact⟨_,_,_,c5.o,h4.o⟩
  ·have p9:((k:Int) != 0)=true:=by simp[hz]
   have r5:Hid (((k:Int) != 0)=true):=p9;have d2:=j0.o;rw[zDl hz]at d2;dsimp only at d2
   have q2:Hid ((F o A.2).2<=2 ^ 60):=by
    have u:=qd (dL g1 late N) k o.1 (F o A.2).1 ((s.1++[(o,k)]),A.1,(F o A.2).2);rw[d2]at u;exact gX u.1 i8.o.2.2
   have i7:=p2 o A.2 d8.o;have v3:=t7 o A.2;generalize o9:F o A.2=P at *;have n1:Hid (F o A.2=P):=o9;have q7:Hid (iq t o P.1):=i7;have n2:Hid (qM (kV t) P.1):=λx d5=>(i7 x d5).1
   have q4:Hid (FL t ((s.1++[(o,k)]),A.1,P.2)):=⟨m7.o,m3.o⟩
   have r0:Hid (pJ (jL F late N) k o.1 (P.1.drop 0) ((s.1++[(o,k)]),A.1,P.2)=I):=by
    show pJ _ _ _ (P.1.drop 0) _=_;rw[List.drop_zero];exact d2
   clear o9 d2 i7 hz;have h1:Hid (a7.heap[w.heap.size]?=some (.cells (qG o) 66 (0,0))/\¬MX h a4 a3 c9 w.heap.size/\w.heap.size<a7.heap.size):=h0.o h4.o;have t9:=c5.o.Iy;have n6:=t3 a7.drew o A.2 ((c5.o.below (lK _ _).drew).me) d8.o (by rw[n1.o];exact q2.o)
   have r3:Hid (CT 113 #[.pointer (some ⟨mb,0,none⟩),.int .i64 i,.int .i64 j,.agg (qG o)] a7.drew λe w'=>∃v',e=.returned v'/\fT a7.drew mb tv l t P v' w'):=by
    show Calls _ _ _ _ _;rw[<-n1.o];exact n6
   clear n6;have c1:∀z:World,(z.heap[w.heap.size]?=some (.cells (qG o) 66 (0,0))/\z.heap[h]?=a7.heap[h]?)->z.rangeAt w.heap.size 0 (qG o).toList:=λz hz=>yE hz.1
   have c2:∀z:World,(z.heap[w.heap.size]?=some (.cells (qG o) 66 (0,0))/\z.heap[h]?=a7.heap[h]?)->z.cell? ⟨h,0,none⟩=some (.int .i64 i):=λz hz=>(gH (a:=⟨h,0,none⟩) hz.2).trans c5.o.cells.1
   have c3:∀z:World,(z.heap[w.heap.size]?=some (.cells (qG o) 66 (0,0))/\z.heap[h]?=a7.heap[h]?)->z.cell? ⟨h,1,none⟩=some (.int .i64 j):=λz hz=>(gH (a:=⟨h,1,none⟩) hz.2).trans c5.o.cells.2.1
   go_wp2_with fail
   refine wp_region_held_drew (S:=λz:World=>z.heap[w.heap.size]?=some (.cells (qG o) 66 (0,0))/\z.heap[h]?=a7.heap[h]?) (by kernel_rfl) ⟨h1.o.1,rfl⟩ (λZ=>?_);refine qJ 0 39 (.pointer (some ⟨mb,0,none⟩)) rfl (by kernel_rfl) (λ_ _ _ G=>G) (λz hz=>by clear hz Z c1 c2 c3;go_simp) (by assumption) ?_;simp only[Act.put,lD,lJ,lI];refine qJ 1 40 (.pointer (some ⟨h,0,none⟩)) rfl (by kernel_rfl) (λ_ _ _ G=>G) (λz hz=>by clear hz Z c1 c2 c3;go_simp) (by assumption) ?_;simp only[Act.put,lD,lJ,lI];refine qJ 2 41 (.pointer (some ⟨h,0,none⟩)) rfl (by kernel_rfl) (λ_ _ _ G=>G) (λz hz=>by clear hz Z c1 c2 c3;go_simp) (by assumption) ?_;simp only[Act.put,lD,lJ,lI];refine qJ 3 42 (.pointer (some ⟨h,0,none⟩)) rfl (by kernel_rfl) (λ_ _ _ G=>G) (λz hz=>by clear hz Z c1 c2 c3;go_simp) (by assumption) ?_;simp only[Act.put,lD,lJ,lI];refine qJ 4 43 (.int .i64 i) rfl (by kernel_rfl) (λ_ _ _ G=>G) (λz hz=>by have r6:=c2 z hz;clear hz Z c1 c2 c3;go_simp) (by assumption) ?_;simp only[Act.put,lD,lJ,lI];refine qJ 5 44 (.pointer (some ⟨h,0,none⟩)) rfl (by kernel_rfl) (λ_ _ _ G=>G) (λz hz=>by clear hz Z c1 c2 c3;go_simp) (by assumption) ?_;simp only[Act.put,lD,lJ,lI];refine qJ 6 45 (.pointer (some ⟨h,0,none⟩)) rfl (by kernel_rfl) (λ_ _ _ G=>G) (λz hz=>by clear hz Z c1 c2 c3;go_simp) (by assumption) ?_;simp only[Act.put,lD,lJ,lI];refine qJ 7 46 (.pointer (some ⟨h,1,none⟩)) rfl (by kernel_rfl) (λ_ _ _ G=>G) (λz hz=>by clear hz Z c1 c2 c3;go_simp) (by assumption) ?_;simp only[Act.put,lD,lJ,lI];refine qJ 8 47 (.int .i64 j) rfl (by kernel_rfl) (λ_ _ _ G=>G) (λz hz=>by have r6:=c3 z hz;clear hz Z c1 c2 c3;go_simp) (by assumption) ?_;simp only[Act.put,lD,lJ,lI];refine MN 9 48 (.agg (qG o)) rfl (by kernel_rfl) (λ_ _ _ G=>G) (yieldsIf_load_mid (by rfl) _ _ rfl _ _ rfl _ _ c1 underlying66 rfl (by rw[xL];exact rJ some h2.o.symm)) (by assumption) ?_;simp only[Act.put,lD,lJ,lI];refine wpAnyH_ready (rs:=[10]) (by kernel_rfl) (by simp) ?_;refine AllReadyH.cons rfl (λK a2=>?_) AllReadyH.nil;clear c1 c2 c3 Z
   go_simp
   refine r3.o.mono ?_;rintro e c4 ⟨w8,rfl,e7⟩;have n9:c4.heap[w.heap.size]?=some (.cells (qG o) 66 (0,0))/\c4.heap[h]?=a7.heap[h]?:=⟨(e7.2.2.block _ h1.o.2.2 (by omega)).trans h1.o.1,e7.2.2.block _ t9 (by have:=c5.o.m0;have:=c5.o.u0;omega)⟩
   obtain⟨h6,h7,rfl⟩:=dU e7.1;have c0:Hid (yL base mb h tv l t i j late a4 a3 c9 ((s.1++[(o,k)]).map (·.1)) ((s.1++[(o,k)]).map (·.2)) A.1 P.2 c4):=(c5.o.below (lK _ _).drew).zE9 e7;have r1:Hid (vD mb h b8 b7 a6 a4 a3 c9 f0 c4):=(h4.o.below (lK _ _).drew).trans (vD.zE8 e7.2.2);have n5:Hid (xX c4 a7.heap.size (.slice h6 P.1.length h7) P.1):=e7.1
   have r2:Hid (∀{O J U:Value} {b6:World},vD mb h a4 a3 c9 O J U c4 b6->xX b6 a7.heap.size (.slice h6 P.1.length h7) P.1):=λe4=>qX n5.o e4.kp (λx d5 e=>by
    have q:=(sj n5.o d5).1;rcases e with e | e
    ·have:=q3.o;have:=h1.o.2.2;omega
    ·have:=(c5.o.ge e).2;omega)
   clear e7
   go_simp
   refine a2.out _ _ n9 (λo8=>?_);clear a2 K n9;refine qJ 11 10 (.slice h6 P.1.length h7) rfl (by kernel_rfl) (λ_ _ _ G=>G) (λz hz=>by clear hz o8;go_simp) (by assumption) ?_;simp only[Act.put,lD,lJ,lI];refine rP (by kernel_rfl) ?_ _;clear o8;go_wp2_with fail
   go_loopw [11] (λl6 b6=>∃(q:Nat) (s':Tr) (O J U:Value),q<=P.1.length/\l6=.int .i64 q/\yL base mb h tv l t i j late O J U (s'.1.map (·.1)) (s'.1.map (·.2)) s'.2.1 s'.2.2 b6/\FL t s'/\vD mb h a4 a3 c9 O J U c4 b6/\pJ (jL F late N) k o.1 (P.1.drop q) s'=I) (λl6 _=>P.1.length-(intOf l6).toNat)
   case atStart=>exact⟨0,((s.1++[(o,k)]),A.1,P.2),_,_,_,gD _,rfl,c0.o,q4.o,vD.refl _ _ _ _ _ _,r0.o⟩
   case round =>
    obtain⟨q,s',O,J,U,p5,rfl,e6,d4,e5,b0⟩:=hrel;have a5:Hid (yL base mb h tv l t i j late O J U (s'.1.map (·.1)) (s'.1.map (·.2)) s'.2.1 s'.2.2 wr):=e6;have j1:Hid (vD mb h a4 a3 c9 O J U c4 wr):=e5;have f5:Hid (vD mb h b8 b7 a6 O J U f0 wr):=r1.o.trans e5;have g2:=r2.o e5;have q8:=h0.o f5.o;have q6:Hid (FL t s'):=d4;by_cases i0:q<P.1.length
    ·obtain⟨g,r7,e,v8,v9,w2,g0⟩:=DK g2 (EI.of n2.o) i0;obtain⟨rfl,rfl⟩:h6=some ⟨g,0,none⟩/\h7=r7:=by injection e with d1 v7 r8;exact⟨d1,r8⟩
     rw[Va i0]at b0;change pJ (jL F late N) k o.1 (P.1.drop (q+1)) (DV (jL F late N) k o.1 (P.1.getD q xI) s')=I at b0;have c7:kV t (P.1.getD q xI):=n2.o _ (dB i0);have v0:o.1<=(P.1.getD q xI).1:=(q7.o _ (dB i0)).2;have p7:=xK _ c7.len;have g7:=qd (dL g1 late N) k o.1 (P.1.drop (q+1)) (DV (jL F late N) k o.1 (P.1.getD q xI) s');rw[b0]at g7;have c8:=WM.up g7 i8.o;generalize P.1.getD q xI=y at *;have n4:Hid (wr.rangeAt g (q*21) (jw y)):=g0;have o2:wr.cell? ⟨g,q*21,none⟩=some (.int .i64 (y.1:Int)):=by have:=g0 0 (.int .i64 (y.1:Int)) rfl;simpa using this
     have o3:wr.cell? ⟨w.heap.size,0,none⟩=some (.int .i64 (o.1:Int)):=(zB q8.1).1 0;have w5:(0:Int)<=(q:Int):=by omega
     have w6:(q:Int)<(P.1.length:Int):=by omega
     have v5:Hid (kV t y):=c7;have v1:=c7.pos;by_cases h9:0<k
     ·have d7:DV (jL F late N) k o.1 y s'=jL F late N (k-1) y s':=lG h9;rw[d7]at b0 c8;have f7:=p8 base h O J U s' (k-1) y wr e6 d4 c7 (by omega) (by omega) (zBl n0.o h9) c8;have f3:=DU (λo c6 w=>i2.o o w c6) late N (k-1) y s' c7 d4;generalize jL F late N (k-1) y s'=s9 at *;have j7:Hid (CT 114 #[.pointer (some ⟨mb,0,none⟩),.pointer (some ⟨h,0,none⟩),.int .i64 (k-1),.agg (qG y)] wr λe w'=>e=.returned (.tuple #[])/\∃b5 b3 b4,yL base mb h tv l t i j late b5 b3 b4 (s9.1.map (·.1)) (s9.1.map (·.2)) s9.2.1 s9.2.2 w'/\vD mb h O J U b5 b3 b4 wr w'):=f7;have f1:Hid (pJ (jL F late N) k o.1 (P.1.drop (q+1)) s9=I):=b0;have i6:Hid (FL t s9):=f3;clear f7 b0 c8 g7 e6 e5 d4 g2 g0 c7 e o2 o3 d7 f3;go_wp2_with (first|(refine wpList_load_mid (by rfl) 66 (.tmp 64) (by rfl) g (q*21) (by rfl) (jw y) _ n4.o underlying66 rfl (by rw[xL];exact rJ some p7.symm) ?_) | fail)
      refine j7.o.mono ?_;rintro e Y ⟨rfl,b5,b3,b4,g3,g5⟩;have i5:Hid (yL base mb h tv l t i j late b5 b3 b4 (s9.1.map (·.1)) (s9.1.map (·.2)) s9.2.1 s9.2.2 Y):=g3;have j2:Hid (vD mb h a4 a3 c9 b5 b3 b4 c4 Y):=j1.o.trans g5;clear g3 g5;go_wp2_with fail
      go_roundw
      case rel=>exact⟨q+1,s9,b5,b3,b4,by omega,by go_num,i5.o,i6.o,j2.o,f1.o⟩
      case measure=>simp[intOf];omega
     ·have t6:k<0:=by have p5:=r5.o;simp at p5;omega
      cases p3:((y.1:Int) != (o.1:Int))
      ·have d7:DV (jL F late N) k o.1 y s'=s':=by
        unfold DV;rw[lC h9,lC (by simp at p3;omega)]
       rw[d7]at b0;have f1:Hid (pJ (jL F late N) k o.1 (P.1.drop (q+1)) s'=I):=b0;clear b0 c8 g7 e6 e5 d4 g2 g0 c7 e d7;go_wp2_with fail
       go_region
       go_wp2_with fail
       go_roundw
       case rel=>exact⟨q+1,s',O,J,U,by omega,by go_num,a5.o.below (lK _ _).drew,q6.o,j1.o.below (lK _ _).drew,f1.o⟩
       case measure=>simp[intOf];omega
      ·have p4:y.1≠o.1:=by simp at p3;omega
       have d7:DV (jL F late N) k o.1 y s'=jL F late N k y s':=by
        unfold DV;rw[lC h9,lG p4]
       rw[d7]at b0 c8;have f7:=p8 base h O J U s' k y wr.drew (e6.below (lK _ _).drew) d4 c7 (by omega) (by omega) (zBm n0.o t6 v0 p4 v1) c8;have f3:=DU (λo c6 w=>i2.o o w c6) late N k y s' c7 d4;generalize jL F late N k y s'=s9 at *;have j7:Hid (CT 114 #[.pointer (some ⟨mb,0,none⟩),.pointer (some ⟨h,0,none⟩),.int .i64 k,.agg (qG y)] wr.drew λe w'=>e=.returned (.tuple #[])/\∃b5 b3 b4,yL base mb h tv l t i j late b5 b3 b4 (s9.1.map (·.1)) (s9.1.map (·.2)) s9.2.1 s9.2.2 w'/\vD mb h O J U b5 b3 b4 wr.drew w'):=f7;have f1:Hid (pJ (jL F late N) k o.1 (P.1.drop (q+1)) s9=I):=b0;have i6:Hid (FL t s9):=f3;clear f7 b0 c8 g7 e6 e5 d4 g2 g0 c7 e d7 f3;go_wp2_with fail
       go_region
       go_wp2_with (first|(refine wpList_load_mid (by rfl) 66 (.tmp 80) (by rfl) g (q*21) (by rfl) (jw y) _ n4.o underlying66 rfl (by rw[xL];exact rJ some p7.symm) ?_) | fail)
       refine j7.o.mono ?_;rintro e Y ⟨rfl,b5,b3,b4,g3,g5⟩;have i5:Hid (yL base mb h tv l t i j late b5 b3 b4 (s9.1.map (·.1)) (s9.1.map (·.2)) s9.2.1 s9.2.2 Y):=g3;have j2:Hid (vD mb h a4 a3 c9 b5 b3 b4 c4 Y):=(j1.o.below (lK _ _).drew).trans g5;clear g3 g5 o2 o3;go_wp2_with fail
       go_roundw
       case rel=>exact⟨q+1,s9,b5,b3,b4,by omega,by go_num,i5.o,i6.o,j2.o,f1.o⟩
       case measure=>simp[intOf];omega
    ·have t4:s'=I:=by rw[<-b0,Yn (by omega)]
     subst t4;clear b0 e6 e5 g2 d4;go_wp2_with fail
     go_meet
     exact⟨_,_,_,a5.o,f5.o⟩
 case rest =>
 obtain⟨O,J,U,k4,k9⟩:=hcut;obtain⟨wr,rfl⟩:∃W:World,W=wc:=⟨_,rfl⟩
 have a5:Hid (yL base mb h tv l t i j late O J U (I.1.map (·.1)) (I.1.map (·.2)) I.2.1 I.2.2 wr):=k4;have f5:Hid (vD mb h b8 b7 a6 O J U f0 wr):=k9;have e8:=hid (h0.o k9);have w7:wr.cell? ⟨h,2,none⟩=some (.bool late):=k4.cells.2.2.1
 have q5:Hid (qM (kV t) I.2.1):=by
  show qM _ _;rw[<-j0.o];exact(Ym (λo c6 w=>i2.o o w c6) late N k o (s.1++[(o,k)]) A d8.o m7.o m3.o).2
 clear k4 k9 c5 h4;have g9:=m6.o;rw[i3.o]at g9;cases late
 ·obtain⟨a8,fZ,rfl⟩:=dU a5.o.ot;have d1:=jh I.2.1 o I.2.2;have t1:I.2.1.length<=1000000:=i8.o.2.1;have t2:I.2.2+I.2.1.length+1<=2 ^ 60:=by have:=g9.2.2;change(yQ I.2.1 o I.2.2).2<=_ at this;omega
  clear g9 d1;go_wp2_with fail
  have f6:=Cn o d8.o.len (a5.o.below (lK _ _).drew).me (a5.o.below (lK _ _).drew).ot (a5.o.below (lK _ _).drew).bs (EI.of q5.o) (λx d5=>a5.o.hap (v:=dF) (vO a5.o.ot d5).1) t1 t2;have j5:Hid (CT 54 #[.pointer (some ⟨mb,0,none⟩),.slice a8 I.2.1.length fZ,.agg (qG o)] wr.drew λe w'=>∃v',e=.returned v'/\dz wr.drew mb tv l t base (.slice a8 I.2.1.length fZ) (yQ I.2.1 o I.2.2) v' w'):=f6;have i1:Hid (yL base mb h tv l t i j false O J (.slice a8 I.2.1.length fZ) (I.1.map (·.1)) (I.1.map (·.2)) I.2.1 I.2.2 wr.drew):=a5.o.below (lK _ _).drew;have g4:wr.cell? ⟨h,5,none⟩=some (.slice a8 I.2.1.length fZ):=a5.o.cells.2.2.2.2.2.1;have f8:wr.frozen? ⟨h,5,none⟩=false:=a5.o.cells.2.2.2.2.2.2 5;have l5:=a5.o.Iy;clear f6;have a9:∀z:World,z.heap[w.heap.size]?=some (.cells (qG o) 66 (0,0))->z.rangeAt w.heap.size 0 (qG o).toList:=λz hz=>yE hz
  refine wp_region_held_drew (S:=λz:World=>z.heap[w.heap.size]?=some (.cells (qG o) 66 (0,0))) (by kernel_rfl) e8.o.1 (λZ=>?_);refine qJ 0 88 (.pointer (some ⟨h,0,none⟩)) rfl (by kernel_rfl) (λ_ _ _ G=>G) (λz hz=>by clear hz Z a9;go_simp) (by assumption) ?_;simp only[Act.put,lD,lJ,lI];refine qJ 1 89 (.pointer (some ⟨mb,0,none⟩)) rfl (by kernel_rfl) (λ_ _ _ G=>G) (λz hz=>by clear hz Z a9;go_simp) (by assumption) ?_;simp only[Act.put,lD,lJ,lI];refine qJ 2 90 (.pointer (some ⟨h,0,none⟩)) rfl (by kernel_rfl) (λ_ _ _ G=>G) (λz hz=>by clear hz Z a9;go_simp) (by assumption) ?_;simp only[Act.put,lD,lJ,lI];refine qJ 3 91 (.pointer (some ⟨h,0,none⟩)) rfl (by kernel_rfl) (λ_ _ _ G=>G) (λz hz=>by clear hz Z a9;go_simp) (by assumption) ?_;simp only[Act.put,lD,lJ,lI];refine qJ 4 92 (.pointer (some ⟨h,5,none⟩)) rfl (by kernel_rfl) (λ_ _ _ G=>G) (λz hz=>by clear hz Z a9;go_simp) (by assumption) ?_;simp only[Act.put,lD,lJ,lI];refine MN 6 94 (.agg (qG o)) rfl (by kernel_rfl) (λ_ _ _ G=>G) (yieldsIf_load_mid (by rfl) _ _ rfl _ _ rfl _ _ a9 underlying66 rfl (by rw[xL];exact rJ some h2.o.symm)) (by assumption) ?_;simp only[Act.put,lD,lJ,lI];refine wpAnyH_ready (rs:=[5]) (by kernel_rfl) (by simp) ?_;refine AllReadyH.cons rfl (λK a2=>?_) AllReadyH.nil;clear a9 Z
  go_simp
  refine a2.out _ _ e8.o.1 (λk6=>?_);clear a2 K;refine wpAnyH_ready (rs:=[7]) (by kernel_rfl) (by simp) ?_;refine AllReadyH.cons rfl (λK a2=>?_) AllReadyH.nil;clear k6
  go_simp
  refine j5.o.mono ?_;rintro e Y ⟨v2,rfl,d6⟩;obtain⟨b1,b2,rfl⟩:=dU d6.1;have e3:∀x,x<wr.heap.size->x≠mb->(Value.slice a8 I.2.1.length fZ).ownBlock≠some x->Y.heap[x]?=wr.heap[x]?:=λx k0 k1 k2=>d6.2.2.1.block x k0 (λe=>e.elim k1 k2)
  have b9:Y.heap[w.heap.size]?=some (.cells (qG o) 66 (0,0)):=(e3 _ e8.o.2.2 (by omega) (λe=>e8.o.2.1 (.inr (.inr (.inr e))))).trans e8.o.1;have e1:Y.heap[h]?=wr.heap[h]?:=e3 _ l5 (by have:=a5.o.m0;have:=a5.o.u0;omega) (λe=>a5.o.do' h e rfl);have j9:Y.cell? ⟨h,5,none⟩=some (.slice a8 I.2.1.length fZ):=(gH (a:=⟨h,5,none⟩) e1).trans g4;have d1:Y.frozen? ⟨h,5,none⟩=false:=(rC (a:=⟨h,5,none⟩) e1).trans f8;have PA:=i1.o.add d6
  have d0:(Y.setCell ⟨h,5,none⟩ (.slice b1 (yQ I.2.1 o I.2.2).1.length b2)).heap[w.heap.size]?=some (.cells (qG o) 66 (0,0)):=
   (lS _ _ _ _ (by show w.heap.size≠h;exact λe=>e8.o.2.1 (.inl e))).trans b9
  have f4:Hid (yL base mb h tv l t i j false O J (.slice b1 (yQ I.2.1 o I.2.2).1.length b2) (I.1.map (·.1)) (I.1.map (·.2)) (yQ I.2.1 o I.2.2).1 (yQ I.2.1 o I.2.2).2 (Y.setCell ⟨h,5,none⟩ (.slice b1 (yQ I.2.1 o I.2.2).1.length b2))/\vD mb h O J (.slice a8 I.2.1.length fZ) O J (.slice b1 (yQ I.2.1 o I.2.2).1.length b2) wr.drew (Y.setCell ⟨h,5,none⟩ (.slice b1 (yQ I.2.1 o I.2.2).1.length b2))):=PA;clear PA d6 e3 e1 g4 f8
  go_simp
  refine a2.out _ _ b9 (λe2=>?_);clear a2 K;refine qJ 8 96 (.pointer (some ⟨h,0,none⟩)) rfl (by kernel_rfl) (λ_ _ _ G=>G) (λz hz=>by clear hz e2 d0 b9;go_simp) (by assumption) ?_;simp only[Act.put,lD,lJ,lI];refine qJ 9 97 (.pointer (some ⟨h,5,none⟩)) rfl (by kernel_rfl) (λ_ _ _ G=>G) (λz hz=>by clear hz e2 d0 b9;go_simp) (by assumption) ?_;simp only[Act.put,lD,lJ,lI];refine wpAnyH_ready (rs:=[10]) (by kernel_rfl) (by simp) ?_;refine AllReadyH.cons rfl (λK a2=>?_) AllReadyH.nil;clear b9
  go_simp
  refine a2.out _ _ d0 (λk7=>?_);clear a2 K;refine rP (by kernel_rfl) ?_ _;clear j9 d1 e2 k7 d0;generalize (Y.setCell ⟨h,5,none⟩ (.slice b1 (yQ I.2.1 o I.2.2).1.length b2))=v6 at *;go_wp2_with fail
  go_returns;exact⟨rfl,_,_,_,by rw[i3.o];exact f4.o.1,h3.o ((f5.o.below (lK _ _).drew).trans f4.o.2)⟩
 ·clear g9;go_wp2_with fail
  go_returns;exact⟨rfl,_,_,_,by rw[i3.o];exact a5.o,h3.o f5.o⟩
theorem Sv(J:∀o w,w<=(F o w).2)(I:∀o w,kV t o->iq t o (F o w).1)(G:∀o w,(F o w).1.length<=500000)(h:zBn l t mb tv i j F)(late):∀N,TL l t mb tv i j F late N
 | 0=>λbase a4 a3 a1 a2 s k o w U a0 Z W Y O=>absurd O (by omega)
 | N+1=>Yo J I G h late N (Sv J I G h late N)
end
