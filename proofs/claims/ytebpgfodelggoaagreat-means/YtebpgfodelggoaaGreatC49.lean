import Derived.Test.YtebpgfodelggoaaGreatC48
set_option linter.all false
set_option maxRecDepth 100000
set_option maxHeartbeats 8000000
namespace Go.Proofs.YtebpgfodelggoaaGreat
open Go.RowKit _root_.Go.Proofs.Tryz Mt
theorem Zz{P}{a4}{o:Oper}{a}{w}{K}{Q}{X}(a0:o.guard=none)(d:Nat)(Z:o.dst=some d)(l c)(t)(a2:o.op=Op.makeSlice t l c)
  (base) (e) (i) (z) (size) (J:P.underlying t=some (.slice e)) (O:P.info? e=some i) (U:i.zero=some z) (W:i.size=size)
  (n:Nat) (a1:a.eval l=.int .i64 (n)) (Y:a.eval c=.int .i64 (n)) (j:i.bytes*n<=281474976710656) (G:n<=maxLen) (I:base<=w.heap.size)
  (h:∀w',w'.ownsRow base e size (.slice (some ⟨w.heap.size,0,none⟩) n n) n (madeCells z.cells (n*size)).toList->w.grownBy w' none->K (a.put (some d) (.slice (some ⟨w.heap.size,0,none⟩) n n)) w'):
  if Region.wanted o (yielded a4 a.tmps)=true then Oper.wp P o a w K Q else X:=by
 obtain⟨w',a3,a5,a6⟩:=run_make_full (P:=P) w base t e i z size J O U W .i64 .i64 n j G I;rw[lG (by simp[Region.wanted,a0])];unfold Oper.wp;rw[<-Z]at h;simp[execOp,a2,a1,Y,a3,Result.andThen];exact h w' a5 a6
structure QU (E:Env):Prop where
 loops:∀k,(E.c.take k).countP xG=(E.c.take k).countP dS+jY E.c k
 len:E.c.length<=300
 vk:∀p,p<E.c.length->E.vk p=jY E.c p
 zDW:∀p,E.vk p<=11
 t60:E.t.size<=60
structure TabIs (E:Env) (n0 gl gs gh:Nat) (w:World):Prop where
 l:qZ w n0 (.slice (some ⟨gl,0,none⟩) E.c.length E.c.length) (nK E.c)
 s:qZ w n0 (.slice (some ⟨gs,0,none⟩) E.c.length E.c.length) (xD E E.c.length)
 h:yN w n0 (.slice (some ⟨gh,0,none⟩) (E.base E.c.length) (E.base E.c.length)) (List.replicate (E.base E.c.length) false)
 ne:gl≠gs/\gl≠gh/\gs≠gh
theorem QV(E)(a7:QU E)(g cap q nq W)(zA)(w)(G:zY w 0 (.slice (some ⟨g,0,none⟩) E.c.length cap) E.c)(a5:qZ w 0 (.slice (some ⟨q,0,none⟩) nq W) (qE E.qU E.c.length))(d6:nq=(qE E.qU E.c.length).length):
  Calls prog 38 #[.agg #[.slice (some ⟨g,0,none⟩) E.c.length cap,.slice (some ⟨q,0,none⟩) nq W,.string E.t,.int .i64 zA]] w λe w'=>∃J h gh,e=.returned (.agg #[.int .i64 ((E.t.size:Int)+1),.slice (some ⟨J,0,none⟩) E.c.length E.c.length,.slice (some ⟨h,0,none⟩) E.c.length E.c.length,.slice (some ⟨gh,0,none⟩) (E.base E.c.length) (E.base E.c.length),.int .i64 zA])/\TabIs E w.heap.size J h gh w'/\Below w.heap.size w w':=by
 obtain⟨i7,d3,i4,i5,i6⟩:=sK QL;obtain⟨i9,b3,i1,i2,i3⟩:=sK MF;obtain⟨I,a8⟩:∃I,I=(w.alloc (.cells #[.slice (some ⟨g,0,none⟩) E.c.length cap,.slice (some ⟨q,0,none⟩) nq W,.string E.t,.int .i64 zA] 43)).alloc (.cells #[.int .i64 0,.slice none 0 0,.slice none 0 0,.slice none 0 0,.int .i64 0] 75):=⟨_,rfl⟩
 have B1:Below w.heap.size w I:=by rw[a8];exact((lK _ _).alloc (lF _) _).alloc (by simp) _
 have T1:I.heap[w.heap.size]?=some (.cells #[.slice (some ⟨g,0,none⟩) E.c.length cap,.slice (some ⟨q,0,none⟩) nq W,.string E.t,.int .i64 zA] 43 (0,0)):=by rw[a8];exact nN _ _ _
 have e8:I.heap[w.heap.size+1]?=some (.cells #[.int .i64 0,.slice none 0 0,.slice none 0 0,.slice none 0 0,.int .i64 0] 75 (0,0)):=by rw[a8];exact nA _ _ _
 have a6:Hid (I.heap.size=w.heap.size+2):=by rw[a8];show _=_;simp
 have e3:=hid (Zw E.c a7.loops a7.len g cap I (G.below B1));have e7:=hid a5;have b9:=hid a7;have b0:=hid d6;have m4:=(lY a5 q rfl).2;have l2:=a7.len;have m2:nq<=300:=by rw[d6];have:=KT E.qU E.c.length;omega
 have m5:=a7.t60;have d1:Hid (∀z:World,z.heap[w.heap.size]?=some (.cells #[.slice (some ⟨g,0,none⟩) E.c.length cap,.slice (some ⟨q,0,none⟩) nq W,.string E.t,.int .i64 zA] 43 (0,0))->z.cell? ⟨w.heap.size,0,none⟩=some (.slice (some ⟨g,0,none⟩) E.c.length cap)/\z.cell? ⟨w.heap.size,1,none⟩=some (.slice (some ⟨q,0,none⟩) nq W)/\z.cell? ⟨w.heap.size,2,none⟩=some (.string E.t)/\z.cell? ⟨w.heap.size,3,none⟩=some (.int .i64 zA)):=λz hz=>⟨(zB hz).1 0,(zB hz).1 1,(zB hz).1 2,(zB hz).1 3⟩
 obtain⟨j0,j1,j2,j3⟩:=d1.o I T1;have e0:=hid B1;have d0:Hid (I.heap[w.heap.size]?=some (.cells #[.slice (some ⟨g,0,none⟩) E.c.length cap,.slice (some ⟨q,0,none⟩) nq W,.string E.t,.int .i64 zA] 43 (0,0))/\I.heap[w.heap.size+1]?=some (.cells #[.int .i64 0,.slice none 0 0,.slice none 0 0,.slice none 0 0,.int .i64 0] 75 (0,0))):=⟨T1,e8⟩
 clear G a5 a7 d6 B1 T1 e8
 go_in
 go_upto_region 1 with fail
 rw[<-a8];clear a8;generalize d5:w.heap.size=n at *;go_wp2_with fail
 refine e3.o.mono ?_;rintro e j ⟨rfl,d4,a4⟩;have i0:=a4.size;have c2:Hid (j.heap[n]?=some (.cells #[.slice (some ⟨g,0,none⟩) E.c.length cap,.slice (some ⟨q,0,none⟩) nq W,.string E.t,.int .i64 zA] 43 (0,0))/\j.heap[n+1]?=some (.cells #[.int .i64 0,.slice none 0 0,.slice none 0 0,.slice none 0 0,.int .i64 0] 75 (0,0))):=⟨(a4.block n (by have:=a6.o;omega)).trans d0.o.1,(a4.block (n+1) (by have:=a6.o;omega)).trans d0.o.2⟩
 have c8:Hid (Below n w j):=e0.o.trans (a4.mono (by have:=a6.o;omega));have e4:Hid (qZ j n (.slice (some ⟨I.heap.size,0,none⟩) E.c.length E.c.length) (nK E.c)):=qP d4 (by have:=a6.o;omega);obtain⟨g2,g3,g4,g5⟩:=d1.o j c2.o.1;have c0:Hid (n+2<=I.heap.size/\I.heap.size<j.heap.size):=⟨by have:=a6.o;omega,(lY d4 I.heap.size rfl).2⟩
 clear d4 a4 e3 d0 e0 j0 j1 j2 j3 i0 a6;generalize I.heap.size=J at *;go_wp2_with (first|(at_make;refine uN _ rfl (.tmp 19) (.tmp 19) 41 rfl n 3 i7 (.int .i64 0) 1 underlying41 d3 i4 i5 .i64 .i64 _ _ E.c.length rfl rfl rfl rfl (by rw[i6];omega) (by unfold maxLen;omega) (by have:=c0.o;omega) ?_;intro d9 b5 b2))
 have f4:Below j.heap.size j d9:=(lK _ _).grown b2 (lF _) (λq a5=>by simp at a5)
 have c1:Hid (∀(wr:World),Below j.heap.size j wr->wr.heap[n]?=some (.cells #[.slice (some ⟨g,0,none⟩) E.c.length cap,.slice (some ⟨q,0,none⟩) nq W,.string E.t,.int .i64 zA] 43 (0,0))/\wr.heap[n+1]?=some (.cells #[.int .i64 0,.slice none 0 0,.slice none 0 0,.slice none 0 0,.int .i64 0] 75 (0,0))/\qZ wr n (.slice (some ⟨J,0,none⟩) E.c.length E.c.length) (nK E.c)/\Below n w wr/\qZ wr 0 (.slice (some ⟨q,0,none⟩) nq W) (qE E.qU E.c.length)):=λwr b1=>by
  have h8:=c0.o;refine⟨(b1.block n (by omega)).trans c2.o.1,(b1.block (n+1) (by omega)).trans c2.o.2,e4.o.below b1,c8.o.trans (b1.mono (by omega)),?_⟩;exact e7.o.below (by rw[d5];exact c8.o.trans (b1.mono (by omega)))
 have e5:Hid (qZ d9 n (.slice (some ⟨j.heap.size,0,none⟩) E.c.length E.c.length) (fill (λ_=>(-1:Int)) 0 0 E.c.length)/\Below j.heap.size j d9):=⟨by rw[EH];exact qZ.made b5,f4⟩
 clear b5 b2 f4 c2 c8 e4 g2 g3 g4 g5 e7;generalize l4:j.heap.size=h at *
 go_loopw [23] (λi wr=>∃k:Nat,k<=E.c.length/\i=.int .i64 k/\qZ wr n (.slice (some ⟨h,0,none⟩) E.c.length E.c.length) (fill (λ_=>(-1:Int)) 0 k E.c.length)/\Below h j wr) (λi _=>E.c.length-(intOf i).toNat)
 case atStart=>exact⟨0,gD _,rfl,e5.o⟩
 case round =>
  obtain⟨k,l8,rfl,U,Z⟩:=hrel;by_cases c3:k<E.c.length
  ·obtain⟨h0,k1⟩:=U.at k (by rw[nJ];exact c3) (by rw[nJ]);have l9:(k:Int)<(E.c.length:Int):=by omega
   have a2:=U.set (by rw[nJ]) k (-1);rw[Hf (λ_=>(-1:Int)) 0 k E.c.length]at a2;have c9:Hid (qZ (wr.setCell ⟨h,k,none⟩ (.int .i64 (-1))) n (.slice (some ⟨h,0,none⟩) E.c.length E.c.length) (fill (λ_=>(-1:Int)) 0 (k+1) E.c.length)/\Below h j (wr.setCell ⟨h,k,none⟩ (.int .i64 (-1)))):=⟨a2,Z.setCell (p:=⟨h,k,none⟩) (lF _) _⟩
   clear U Z a2;generalize (fill (λ_=>(-1:Int)) 0 k E.c.length).getD k 0=k4 at *;go_wp2_with fail
   go_roundw
   case rel=>exact⟨k+1,by omega,by go_num,c9.o⟩
   case measure=>simp[intOf];omega
  ·have h9:k=E.c.length:=by omega
   subst h9
   have h6:fill (λ_=>(-1:Int)) 0 E.c.length E.c.length=xD E 0:=by
    rw[He,QS];apply rY
    ·simp
    ·intro i k5 k6;simp
   rw[h6]at U;have h4:Hid (qZ wr n (.slice (some ⟨h,0,none⟩) E.c.length E.c.length) (xD E 0)/\Below h j wr):=⟨U,Z⟩
   obtain⟨s1,s2,s3,s4,s5⟩:=c1.o wr Z;obtain⟨g2,g3,g4,g5⟩:=d1.o wr s1;clear U Z s1 s2 s3 s4 s5 e5
   rename World=>n0
   go_wp2_with fail
   go_loopw [7,33] (λj4 i wr=>∃a Y:Nat,a<=E.c.length/\Y=(qE E.qU a).length/\i=.int .i64 Y/\j4=.int .i64 (E.base a:Nat)/\qZ wr n (.slice (some ⟨h,0,none⟩) E.c.length E.c.length) (xD E a)/\Below h j wr) (λ_ i _=>nq-(intOf i).toNat)
   case atStart=>exact⟨0,0,gD _,rfl,rfl,rfl,h4.o⟩
   case round =>
    obtain⟨a,Y,k8,b3,rfl,rfl,U,Z⟩:=hrel;obtain⟨s1,s2,s3,s4,s5⟩:=c1.o wr Z;by_cases c3:Y<nq
    ·obtain⟨p,b6,g0,c5,g1⟩:=Zy E Y (by rw[<-b0.o];exact c3)
     have hap:a<=p:=by
      rcases wZ p a with f6 | f6
      ·exfalso
       have key:∀d,(qE E.qU (p+1)).length<=(qE E.qU (p+1+d)).length:=by
        intro d;induction d with
        | zero=>exact lF _
        | succ d i8=>rw[<-uF,bH E.qU (p+1+d),lQ];omega
       have:=key (a-(p+1));rw[show p+1+(a-(p+1))=a by omega,bH,c5,lQ]at this;simp at this;omega
      ·exact f6
     have b4:=FU E a (p-a) (IY E a (p-a) (by rw[show a+(p-a)=p by omega];exact g1.trans b3));rw[show a+(p-a)=p by omega]at b4;obtain⟨u1,u2,u3⟩:=b4;obtain⟨h0,k1⟩:=s5.at Y (by rw[<-b0.o];exact c3) b0.o;rw[g0]at h0;obtain⟨n1,n2⟩:=U.at p (by rw[mP];exact b6) (by rw[mP]);have a2:=U.set (by rw[mP]) p (E.base a:Int);rw[<-u2,<-u1,<-TN E p b6 c5]at a2;have c7:=Z.setCell (p:=⟨h,p,none⟩) (lF _) (.int .i64 (E.base p:Int));obtain⟨j5,j6,g8,j7,j8⟩:=c1.o _ c7;obtain⟨k2,k3⟩:=g8.at p (by rw[nE];exact b6) (by rw[nE]);rw[JK E.c p b6,<-b9.o.vk p b6]at k2;have f5:=E.NP p c5;have h7:=E.Ko b9.o.zDW p;have a4:p*((E.t.size+1)*12)<=300*(61*12):=sZ (by omega) (oO 12 (by omega));have l0:=b9.o.zDW p;have m1:((E.t.size+1)*(E.vk p+1):Nat)<=61*12:=sZ (by omega) (by omega);have c4:(((E.t.size+1)*(E.vk p+1):Nat):Int)=((E.t.size:Int)+1)*((E.vk p:Int)+1):=by push_cast;rfl
     have c9:Hid (qZ (wr.setCell ⟨h,p,none⟩ (.int .i64 (E.base p:Int))) n (.slice (some ⟨h,0,none⟩) E.c.length E.c.length) (xD E (p+1))/\Below h j (wr.setCell ⟨h,p,none⟩ (.int .i64 (E.base p:Int)))):=⟨a2,c7⟩
     have h2:Hid ((qE E.qU (p+1)).length=Y+1):=by show _=_;rw[bH,c5,lQ];simp;omega
     have e1:Hid (((E.base (p+1):Nat):Int)=(E.base p:Int)+((E.t.size:Int)+1)*((E.vk p:Int)+1)):=by show _=_;rw[f5,<-c4];push_cast;rfl
     rw[<-c4]at e1;have f7:(Y:Int)<(nq:Int):=by omega
     have m3:(p:Int)<(E.c.length:Int):=by omega
     rw[<-u2];clear U Z s1 s2 s3 s4 s5 a2 c7 j5 j6 g8 j7 j8 g0 g1 u1 u2 u3 k3 b3;have h1:Hid ((((E.t.size+1)*(E.vk p+1):Nat):Int)=((E.t.size:Int)+1)*((E.vk p:Int)+1)):=c4;generalize (xD E a).getD p 0=k4 at *;generalize l1:E.base p=bp at *;generalize k9:E.vk p=e9 at *;generalize k7:(E.t.size+1)*(e9+1)=h5 at *;clear c4 f5;have m0:((E.t.size:Int)+1)*((e9:Int)+1)=(h5:Int):=h1.o.symm;go_wp2_with fail
     go_roundw
     case rel=>exact⟨p+1,Y+1,by omega,h2.o.symm,by go_num,by rw[e1.o],c9.o⟩
     case measure=>simp[intOf];omega
    ·have f9:∀d,(qE E.qU a).length<=(qE E.qU (a+d)).length:=by
      intro d;induction d with
      | zero=>exact lF _
      | succ d i8=>rw[<-uF,bH E.qU (a+d),lQ];omega
     have f8:=f9 (E.c.length-a);rw[show a+(E.c.length-a)=E.c.length by omega,<-b0.o]at f8;have b4:=FU E a (E.c.length-a) (IY E a (E.c.length-a) (by rw[show a+(E.c.length-a)=E.c.length by omega,<-b0.o];omega));rw[show a+(E.c.length-a)=E.c.length by omega]at b4;obtain⟨u1,u2,u3⟩:=b4;rw[<-u1]at U;rw[<-u2];have h7:=E.Ko b9.o.zDW E.c.length;have a4:E.c.length*((E.t.size+1)*12)<=300*(61*12):=sZ (by omega) (oO 12 (by omega));have e6:Hid (qZ wr n (.slice (some ⟨h,0,none⟩) E.c.length E.c.length) (xD E E.c.length)/\Below h j wr):=⟨U,Z⟩
     have l5:h<wr.heap.size:=(lY U h rfl).2;have l3:=(lY s3 J rfl)
     have f7:¬(Y:Int)<(nq:Int):=by omega
     have l6:decide ((Y:Int)<(nq:Int))=false:=by rw[lW];exact f7
     have l7:decide (Y<nq)=false:=by rw[lW];omega
     clear U Z s3 s4 s5 u1 u2 u3 f8 f9 b3;generalize f0:E.base E.c.length=O at *;go_wp2_with fail
     have a0:∀z:World,z.heap[n]?=some (.cells #[.slice (some ⟨g,0,none⟩) E.c.length cap,.slice (some ⟨q,0,none⟩) nq W,.string E.t,.int .i64 zA] 43 (0,0))->z.cell? ⟨n,3,none⟩=some (.int .i64 zA):=λz hz=>(zB hz).1 3
     refine wp_region_held_drew (S:=λz:World=>z.heap[n]?=some (.cells #[.slice (some ⟨g,0,none⟩) E.c.length cap,.slice (some ⟨q,0,none⟩) nq W,.string E.t,.int .i64 zA] 43 (0,0))) (by kernel_rfl) s1 (λa3=>?_);refine qJ 0 51 (.int .i64 ((E.t.size:Int)+1)) rfl (by kernel_rfl) (λ_ _ _ G=>G) (λz hz=>by clear a3 hz a0 s1 s2;go_simp) (by assumption) ?_;refine qJ 1 52 (.slice (some ⟨J,0,none⟩) E.c.length E.c.length) rfl (by kernel_rfl) (λ_ _ _ G=>G) (λz hz=>by clear a3 hz a0 s1 s2;go_simp) (by assumption) ?_;refine qJ 2 53 (.slice (some ⟨h,0,none⟩) E.c.length E.c.length) rfl (by kernel_rfl) (λ_ _ _ G=>G) (λz hz=>by clear a3 hz a0 s1 s2;go_simp) (by assumption) ?_;refine qJ 3 54 (.int .i64 (O:Int)) rfl (by kernel_rfl) (λ_ _ _ G=>G) (λz hz=>by clear a3 hz a0 s1 s2;go_simp) (by assumption) ?_;refine qJ 5 56 (.pointer (some ⟨n,3,none⟩)) rfl (by kernel_rfl) (λ_ _ _ G=>G) (λz hz=>by clear a3 hz a0 s1 s2;go_simp) (by assumption) ?_;refine qJ 6 57 (.int .i64 zA) rfl (by kernel_rfl) (λ_ _ _ G=>G) (λz hz=>by have m6:=a0 z hz;clear a3 hz a0 s1 s2;go_simp) (by assumption) ?_;simp only[Act.put,lD,lJ,lI];refine wpAnyH_ready (rs:=[4]) (by kernel_rfl) (by simp) ?_;refine AllReadyH.cons rfl (λK f2=>?_) AllReadyH.nil;refine Zz rfl 55 rfl (.tmp 54) (.tmp 54) 53 rfl n 4 i9 (.bool false) 1 underlying53 b3 i1 i2 O (by rfl) (by rfl) (by rw[i3];omega) (by unfold maxLen;omega) (by show n<=wr.heap.size;omega) ?_;intro a1 b5 b2;have a9:Below wr.heap.size wr a1:=((lK _ _).drew).grown b2 (by simp) (λq a5=>by simp at a5);have c6:=(a9.block n (by omega)).trans s1;refine f2.out _ _ c6 (λf1=>?_);clear f2 K a3;simp only[Act.put,lD,lJ,lI];have b8:a1.heap[n+1]?=_:=(a9.block (n+1) (by have:=c0.o;omega)).trans s2;refine qJ 7 58 (.agg #[.int .i64 ((E.t.size:Int)+1),.slice (some ⟨J,0,none⟩) E.c.length E.c.length,.slice (some ⟨h,0,none⟩) E.c.length E.c.length,.slice (some ⟨wr.heap.size,0,none⟩) O O,.int .i64 zA]) rfl (by kernel_rfl) (λ_ _ _ G=>G) (λz hz=>by clear f1 hz a0 s1 s2 c6 b8;go_simp) (by assumption) ?_;simp only[Act.put,lD,lJ,lI];have f3:a1.there (n+1) 0 5:=vC (zB b8).1 (zB b8).2 5 (lF _);refine Bu 8 _ rfl rfl (by kernel_rfl) (by kernel_rfl) _ _ _ rfl (n+1) 0 #[.int .i64 ((E.t.size:Int)+1),.slice (some ⟨J,0,none⟩) E.c.length E.c.length,.slice (some ⟨h,0,none⟩) E.c.length E.c.length,.slice (some ⟨wr.heap.size,0,none⟩) O O,.int .i64 zA] (by kernel_rfl) (by kernel_rfl) f3 (by kernel_rfl) (by simp[Value.oneCell']) rfl ?_;have g6:=Ck b8 #[.int .i64 ((E.t.size:Int)+1),.slice (some ⟨J,0,none⟩) E.c.length E.c.length,.slice (some ⟨h,0,none⟩) E.c.length E.c.length,.slice (some ⟨wr.heap.size,0,none⟩) O O,.int .i64 zA] rfl;have b7:∀i,i≠n+1->(a1.setCells (n+1) 0 (#[.int .i64 ((E.t.size:Int)+1),.slice (some ⟨J,0,none⟩) E.c.length E.c.length,.slice (some ⟨h,0,none⟩) E.c.length E.c.length,.slice (some ⟨wr.heap.size,0,none⟩) O O,.int .i64 zA]:Array Value).toList).heap[i]?=a1.heap[i]?:=λi d3=>vG (n+1) _ 0 a1 i d3
     have g7:=(below_setCells (n+1) (#[.int .i64 ((E.t.size:Int)+1),.slice (some ⟨J,0,none⟩) E.c.length E.c.length,.slice (some ⟨h,0,none⟩) E.c.length E.c.length,.slice (some ⟨wr.heap.size,0,none⟩) O O,.int .i64 zA]:Array Value).toList 0 a1 n (by omega)).1;generalize a1.setCells (n+1) 0 (#[.int .i64 ((E.t.size:Int)+1),.slice (some ⟨J,0,none⟩) E.c.length E.c.length,.slice (some ⟨h,0,none⟩) E.c.length E.c.length,.slice (some ⟨wr.heap.size,0,none⟩) O O,.int .i64 zA]:Array Value).toList=g9 at *;refine⟨(b7 n (by omega)).trans c6,?_⟩
     have e2:Hid (TabIs E w.heap.size J h wr.heap.size g9/\Below w.heap.size w g9):=by
      have h8:=c0.o;obtain⟨m7,m8,j9,k0,m9⟩:=c1.o wr e6.o.2;have d7:=j9.below a9;have d8:=e6.o.1.below a9;have d2:=yN.made b5;rw[d5];refine⟨⟨?_,?_,?_,by omega,by omega,by omega⟩,(k0.trans (a9.mono (by omega))).trans g7⟩
      ·unfold qZ at d7 |-;rw[nE]at d7 |-;exact zR d7 (λz hz=>by cases hz;exact b7 J (by omega))
      ·unfold qZ at d8 |-;rw[mP]at d8 |-;exact zR d8 (λz hz=>by cases hz;exact b7 h (by omega))
      ·rw[f0];unfold yN at d2 |-;rw[sV]at d2 |-;exact zR d2 (λz hz=>by cases hz;exact b7 wr.heap.size (by omega))
     have h3:=hid g6;clear g6 b7 g7 f1 b5 b2 a9 c6 b8 s1 s2 f3 a0;go_wp2_with fail
     refine lT (Gn 75 5 underlying75 rfl (by kernel_rfl) rfl (by kernel_rfl) h3.o rfl) rfl ⟨J,h,wr.heap.size,by first | rfl | rw[f0],by first | exact e2.o|(rw[<-d5];exact e2.o)⟩
